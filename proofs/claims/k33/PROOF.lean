import PyProof.Rows.All
import Wide.All
import OpenK.AllK
import Wide.FinOn
import PySem.Challenge.RW_keptnest_k33_differences_list
import Lean
import PyProof.EqAt
import PyProof.EqKinds
import PyProof.TupleCall
import PyProof.ZipIter
import PyProof.NeKinds
import PyProof.Draws
import KE.KRevIter
import PyProof.AutoSeq1
import KE.KEqDict
import PyProof.SeqI3
import KE.KUnpack
import KE.KTupSum
import PyProof.ConsumeS
import PyProof.AttrMissHeap
import KE.KItemsList
import KE.KDictOf
import PyProof.Rows.SortStr
import PyProof.Rows.SetFrom
import KE.KPairComp
import KE.KSortAsk
import KE.KSortTup
import KE.KNestM
import KE.KLam
import KE.KNest
set_option Elab.async false
set_option linter.all false
set_option maxRecDepth 100000
set_option maxHeartbeats 4000000
open PySem renaming wpAny_bind->WY,wpAny_pure->W2,wpAny_callSpecial?_slot->Xr,wpAny_call_entry->Xw,wpAny_newObj_type->XF,wpAny_field->XS,wpAny_holding->XU,wpAny_Call_Name_kw->XY,builtinLookup_eq_fast->X5,codeAny_builtin->Yh,plainId_quiet->Yp,wpAny_setState_of->Yt,wpAny_ite_split->YG,typeLookup_type->YH,codeAny_mono->YI,wpAny_seqItems->YT,wpAny_truthy_bool->YW,wpAny_isInstance->Y0,wpAny_attempt->Y1,wpAny_mono->Y6,isSubtype_type->Y',wpAny_setField_rec->Ze,wpAny_pyIter_tuple->Zf,wpAny_passesOwn->Zi,sizeLine_eq->Zj,wpAny_pyIter_list->Zm
open PySem.Heap renaming get?_push_of_some->WZ,get?_push_size->W5,lt_size->Xh,size_push->Xx,get?_update_self->Xz,SameBut->YM,size_update->Y7,get?_update_other->Y9,ExtBut->Zb
open List renaming length_map->W0,size_toArray->W4,getElem?_eq_getElem->W6,mem_cons_of_mem->W8,mem_cons_self->W',length_cons->Xd,map_cons->Xe,length_append->Xf,getElem?_map->Xj,map_append->Xn,append_nil->Xo,not_mem_nil->Xq,getD_eq_getElem?_getD->Xs,append_assoc->Xy,getElem?_append_right->XB,mem_cons->XI,mem_of_getElem?->XN,getElem?_append_left->XO,replicate->XZ,lookup_cons->X8,map_nil->Yc,map_map->Yd,length_singleton->Yl,zip_cons_cons->Yq,range->Yw,mem_append_left->Yx,reverse_cons->YA,cons_append->YF,length_range->YN,of_mem_zip->YQ,mem_append->YR,length_zip->YS,concat_eq_append->YX,length->YZ,nodup_cons->Y3,find?_cons->Y4,length_reverse->Y5,eq_nil_or_concat->Za,any_cons->Zh,replicate_succ->Zo
open Nat renaming le_refl->W3,le_trans->W9,lt_of_le_of_lt->Xg,ne_of_lt->Xi,zero_le->Xk,lt_of_lt_of_le->Xl,le_add_right->Xv,lt_trans->XR,succ_le_succ->XT,le_max_right->XW,ne_of_gt->Yg,le_max_left->Ym,lt_succ_of_lt->Yo,lt_irrefl->YD,lt_succ_self->YJ,le_succ->YK,le_of_succ_le_succ->YU,le_of_eq->Zd
open Bool renaming and_eq_true->W7,false_ne_true->XJ,eq_iff_iff->Yv
open PySem.AutoSeq1 renaming wpAny_loadPart'->Xm
open Array renaming length_toList->Xp,getElem?_eq_getElem->XX,getElem?_toList->YE,getD_eq_getD_getElem?->YO
open PySem.Heap.SameBut renaming update->Xu
open PySem.Obj renaming mapSeq->XA,mapFields->YL
open PySem.Value renaming ref->XC,none->Yb,type->Zc
open Option.some renaming inj->XD
open PySem.Builtin.SmallTypes renaming nextOf->XG,ownedTupleIsFree->YC
open Option renaming some_ne_none->XH,some->Yk
open PySem.Around renaming under_plainId->XM
open PySem.Builtin.Tuple renaming tupleExact->X9
open PyProof.Rows renaming callWith_type1->Ye,slot_tuple_getitem->Yj
open Int renaming le_refl->Yi,toNat_natCast->YB
open PySem.Builtin.Slice renaming slicePlaces->Yn,sliceApplied->Y8
open Sum renaming inr->Yr
open Ne renaming symm->Ys
open PySem.Calls renaming spliced_cons->Yu,spliced_nil->Y2
open PySem.Str renaming ofString->Yy
open PySem.Builtin.List renaming listTooLong->Yz
open PySem.NameKind renaming free->YV
open ForInStep renaming yield->YY
open True renaming intro->Zg
open Sum.inr renaming inj->Zk
open Nat.succ renaming inj->Zl
open PySem.MeetsSeq3 renaming plain_eq_loop->Zn
section
namespace Hq
open PySem PySem.W
def vS (s:PySem.Str) (n:Tok):Value:=.str s n
def vI (i:Int) (n:Tok):Value:=.int i n
def vR (a:Addr):Value:=.ref a
def vN:Value:=.none
def sO (s:String):PySem.Str:=PySem.Str.ofString s
def eN (P:Params) (k:PySem.Str) (n:Tok) (v:Value):DictEntry:=⟨PyData.keyHash P k,.str k n,v⟩
def Vw (s:Stmt):Arguments:=match s with
 |.FunctionDef _ a _ _ _ _ _ _ _ _=>a
 |_=>{ posonlyargs:=[],args:=[],vararg:=none,kwonlyargs:=[],kw_defaults:=[],kwarg:=none,defaults:=[] }
def dB (s:Stmt):List Stmt:=match s with
 |.FunctionDef _ _ b _ _ _ _ _ _ _=>b
 |_=>[]
def Vx (s:Stmt):Scope:=match s with
 |.FunctionDef _ _ _ _ _ _ sc _ _ _=>sc
 |_=>{ kind:=.function,names:=[],isGenerator:=false,isCoroutine:=false }
def Uj (s:Stmt):List Stmt:=match s with
 |.ClassDef _ _ _ b _ _ _ _ _ _ _=>b
 |_=>[]
def fO (nm qual:PySem.Str) (st:Stmt) (m cd:Value):Obj:={ cls:=.type "function",data:=.func (PySem.W.fnOf nm qual (Vw st) (dB st) (Vx st) .none .none .none m none cd .none) }
def kF (p q:Program) (loose:List PySem.Str) (Xt:Shared->Bool) {α:Type} (Yf:Shared->α) (Ya:World->α) (N:Nat) (row:String) (b:Bool):Prop:=
 ∀w:World,(fencedOpening treeTable p w N).map (λs₀=>(topFrom treeTable p (w.withFollow row b) N s₀).map λs=>(openSeen q loose (importedModules p.main.body) Xt true s,Yf s))=some (some (openGood q loose,Ya (w.withFollow row b)))
theorem left_two {p q:Program}{loose:List PySem.Str}{Xt:Shared->Bool} {α:Type} {Yf:Shared->α}{Ya:World->α}{N:Nat} (row:String) (h0:kF p q loose Xt Yf Ya N row false) (h1:kF p q loose Xt Yf Ya N row true):LeftO p q loose Xt Yf Ya N:=λw=>by
 obtain⟨s₀,a,b1⟩:=Option.map_eq_some_iff.mp (h0 w);obtain⟨s₁,TF,b2⟩:=Option.map_eq_some_iff.mp (h1 w);rw[a]at TF;cases TF;have e:=World.withFollow_self w row;unfold openEnds;rw[a];cases hb:w.params.followText row <;> rw[hb]at e
 ·rw[e]at b1;exact b1
 ·rw[e]at b2;exact b2
end Hq
end
section
set_option maxHeartbeats 0
namespace K33
open PySem Hq
def zT (i:Nat):Stmt:=PySem.Challenge.pw_keptnest_k33_differences_list.main.body.getD i (.Pass ⟨0,0,0,0⟩)
def zM (i j:Nat):Stmt:=(Uj (zT i)).getD j (.Pass ⟨0,0,0,0⟩)
def zC (a b:PySem.Str) (t:Nat) (l n:Int) (c r:Addr) (x y z:Value) (s:Addr) (e:Nat):Obj:={ cls:=PySem.Value.type "code",data:=PySem.Data.fields #[vS a t,vS b (t+1),vS "/claim/cut.py" (t+2),vI l 0,vI n 0,vI 0 0,vI 0 0,vI 3 0,vR c,PySem.Value.bool Bool.true,vI 181 0,vR r,x,y,z,vR s,vI e 0,vI l 0,vS "/claim/cut.py" (e+1)] }
def zK (P:Params):PySem.W.Frag:=(nat_lit 3,{ cls:=PySem.Value.type "dict",data:=PySem.Data.dict #[eN P "__name__" 165 (vS "law_keptnest_k33_differences_list" 744),eN P "__doc__" 166 (vN),eN P "__package__" 167 (vN),eN P "__loader__" 168 (PySem.Value.builtin "__main__.__loader__#opaque"),eN P "__spec__" 169 (vN),eN P "__annotations__" 170 (vR 6),eN P "__builtins__" 171 (vR 4),eN P "__file__" 173 (vS "/claim/cut.py" 172),eN P "__cached__" 174 (vN),eN P "NestError" 206 (vR 24),eN P "NoDifference" 222 (vR 37),eN P "NoKind" 247 (vR 56),eN P "HAVE_MORE" 259 (vR 59),eN P "under" 265 (vR 64),eN P "with_under" 271 (vR 69),eN P "knots" 281 (vR 76),eN P "tables" 287 (vR 81),eN P "Walk" 352 (vR 124),eN P "folded" 361 (vR 135),eN P "unfold" 371 (vR 142),eN P "fold" 380 (vR 149),eN P "bound" 390 (vR 156),eN P "fields_of" 398 (vR 161),eN P "alike" 406 (vR 168),eN P "fits" 412 (vR 173),eN P "NUMBER" 416 (vR 174),eN P "WORD" 418 (vR 175),eN P "TRUTH" 420 (vR 176),eN P "kind_of" 430 (vR 183),eN P "begin" 444 (vR 308),eN P "begin_kinds" 445 (vR 190),eN P "found_kind" 454 (vR 197),eN P "bind" 467 (vR 204),eN P "finish" 479 (vR 211),eN P "plain_kind" 487 (vR 218),eN P "row_kind" 493 (vR 223),eN P "part_kind" 501 (vR 230),eN P "number_kind" 509 (vR 237),eN P "none_kind" 517 (vR 244),eN P "one_kind" 525 (vR 251),eN P "both_kind" 533 (vR 258),eN P "last_bag_kind" 541 (vR 265),eN P "same_kind" 549 (vR 272),eN P "under_kind" 557 (vR 279),eN P "truth_kind" 565 (vR 286),eN P "FINISHED" 600 (vR 287),eN P "difference" 615 (vR 294),eN P "kind_of_rows" 626 (vR 301),eN P "begin_differences" 637 (vR 308),eN P "names_some" 643 (vR 313),eN P "is_none" 650 (vR 320),eN P "total" 656 (vR 325),eN P "both_differences" 665 (vR 332),eN P "for_differences" 679 (vR 339),eN P "made_for" 688 (vR 346),eN P "SUMS" 693 (vR 347),eN P "wrap" 703 (vR 354),eN P "behind_less_ahead" 711 (vR 361),eN P "behind" 721 (vR 368),eN P "differences" 737 (vR 375),eN P "kinds_of_changes" 743 (vR 380),eN P "_law_cell_at" 753 (vR 387),eN P "_law_seed" 761 (vR 394),eN P "_law_draw" 771 (vR 401),eN P "_law_key" 777 (vR 406),eN P "_law_bag" 783 (vR 411),eN P "_law_add" 794 (vR 418),eN P "_law_truth" 806 (vR 425),eN P "_law_bound" 820 (vR 432),eN P "_law_answer" 826 (vR 437),eN P "_law_value" 832 (vR 442),eN P "_law_kinds" 840 (vR 449),eN P "_law_store" 850 (vR 456),eN P "_law_seen" 860 (vR 463),eN P "_law_held" 866 (vR 468),eN P "_law_small" 872 (vR 473),eN P "_law_claim" 885 (vR 480),eN P "_law_over" 891 (vR 485),eN P "_law_taken" 897 (vR 490),eN P "_law_asked" 903 (vR 495),eN P "_law_free" 909 (vR 502),eN P "_law_values" 919 (vR 509),eN P "_law_change" 931 (vR 516),eN P "_law_with" 942 (vR 523),eN P "_law_under" 953 (vR 530),eN P "_law_stock" 963 (vR 537),eN P "_law_names" 973 (vR 544),eN P "_law_question" 982 (vR 551),eN P "law" 988 (vR 556)] 89 }) ::
 (nat_lit 4,{ cls:=PySem.Value.type "module",data:=PySem.Data.plain,dict:=some 0 }) ::
 (nat_lit 23,{ cls:=PySem.Value.type "dict",data:=PySem.Data.dict #[eN P "__module__" 196 (vS "keptnest.errors" 187),eN P "__firstlineno__" 200 (vI 2 199),eN P "__static_attributes__" 201 (vR 22),eN P "__weakref__" 203 (vR 25),eN P "__doc__" 204 (vN)] 3 }) ::
 (nat_lit 24,{ cls:=PySem.Value.type "type",data:=PySem.Data.cls { name:=sO "NestError",bases:=[PySem.Value.type "ValueError"],mro:=[vR 24,PySem.Value.type "ValueError",PySem.Value.type "Exception",PySem.Value.type "BaseException",PySem.Value.type "object"],ns:=23,qualname:=sO "NestError",subclasses:=[vR 37,vR 56] },slots:=#[Yk (vR 15),Option.none,Yk (vS "NestError" 189),Yk (vS "NestError" 197),Yk (PySem.Value.builtin "ValueError.__new__"),Yk (PySem.Value.bool Bool.true)] }) ::
 (nat_lit 36,{ cls:=PySem.Value.type "dict",data:=PySem.Data.dict #[eN P "__module__" 214 (vS "keptnest.errors" 187),eN P "__firstlineno__" 218 (vI 4 217),eN P "__static_attributes__" 219 (vR 35),eN P "__doc__" 220 (vN)] 2 }) ::
 (nat_lit 37,{ cls:=PySem.Value.type "type",data:=PySem.Data.cls { name:=sO "NoDifference",bases:=[vR 24],mro:=[vR 37,vR 24,PySem.Value.type "ValueError",PySem.Value.type "Exception",PySem.Value.type "BaseException",PySem.Value.type "object"],ns:=36,qualname:=sO "NoDifference" },slots:=#[Yk (vR 28),Option.none,Yk (vS "NoDifference" 207),Yk (vS "NoDifference" 215),Yk (PySem.Value.builtin "ValueError.__new__"),Yk (PySem.Value.bool Bool.true)] }) ::
 (nat_lit 52,zC "__init__" "NoKind.__init__" 235 8 2 47 48 vN (vR 49) (vR 50) 51 240) ::
 (nat_lit 53,fO "__init__" "NoKind.__init__" (zM 3 0) (vS "keptnest.errors" 187) (vR 52)) ::
 (nat_lit 55,{ cls:=PySem.Value.type "dict",data:=PySem.Data.dict #[eN P "__module__" 230 (vS "keptnest.errors" 187),eN P "__firstlineno__" 234 (vI 6 233),eN P "__init__" 242 (vR 53),eN P "__static_attributes__" 244 (vR 54),eN P "__doc__" 245 (vN)] 2 }) ::
 (nat_lit 56,{ cls:=PySem.Value.type "type",data:=PySem.Data.cls { name:=sO "NoKind",bases:=[vR 24],mro:=[vR 56,vR 24,PySem.Value.type "ValueError",PySem.Value.type "Exception",PySem.Value.type "BaseException",PySem.Value.type "object"],ns:=55,qualname:=sO "NoKind" },slots:=#[Yk (vR 40),Option.none,Yk (vS "NoKind" 223),Yk (vS "NoKind" 231),Yk (PySem.Value.builtin "ValueError.__new__"),Yk (PySem.Value.bool Bool.true)] }) ::
 (nat_lit 59,{ cls:=PySem.Value.type "tuple",data:=PySem.Data.seq #[vS "num" 250,vS "word" 251,vS "var" 252,vS "table" 253,vS "none" 254,vS "at" 255,vS "times" 256,vS "for" 257,vS "let" 258] }) ::
 (nat_lit 63,zC "under" "under" 260 13 1 60 61 vN vN vN 62 263) ::
 (nat_lit 64,fO "under" "under" (zT 6) (vS "keptnest.asks.questions" 248) (vR 63)) ::
 (nat_lit 68,zC "with_under" "with_under" 266 17 2 65 66 vN vN vN 67 269) ::
 (nat_lit 69,fO "with_under" "with_under" (zT 7) (vS "keptnest.asks.questions" 248) (vR 68)) ::
 (nat_lit 75,zC "knots" "knots" 272 23 1 70 71 vN (vR 72) (vR 73) 74 279) ::
 (nat_lit 76,fO "knots" "knots" (zT 8) (vS "keptnest.asks.questions" 248) (vR 75)) ::
 (nat_lit 80,zC "tables" "tables" 282 31 1 77 78 vN vN vN 79 285) ::
 (nat_lit 81,fO "tables" "tables" (zT 9) (vS "keptnest.asks.questions" 248) (vR 80)) ::
 (nat_lit 94,zC "__init__" "Walk.__init__" 302 36 1 89 90 vN (vR 91) (vR 92) 93 306) ::
 (nat_lit 95,fO "__init__" "Walk.__init__" (zM 11 0) (vS "keptnest.asks.walks" 288) (vR 94)) ::
 (nat_lit 101,zC "later" "Walk.later" 309 40 4 96 97 vN (vR 98) (vR 99) 100 316) ::
 (nat_lit 102,fO "later" "Walk.later" (zM 11 1) (vS "keptnest.asks.walks" 288) (vR 101)) ::
 (nat_lit 108,zC "tell" "Walk.tell" 319 43 2 103 104 vN (vR 105) (vR 106) 107 324) ::
 (nat_lit 109,fO "tell" "Walk.tell" (zM 11 2) (vS "keptnest.asks.walks" 288) (vR 108)) ::
 (nat_lit 113,zC "take" "Walk.take" 327 46 2 110 111 vN vN vN 112 330) ::
 (nat_lit 114,fO "take" "Walk.take" (zM 11 3) (vS "keptnest.asks.walks" 288) (vR 113)) ::
 (nat_lit 120,zC "run" "Walk.run" 333 50 1 115 116 vN (vR 117) (vR 118) 119 340) ::
 (nat_lit 121,fO "run" "Walk.run" (zM 11 4) (vS "keptnest.asks.walks" 288) (vR 120)) ::
 (nat_lit 123,{ cls:=PySem.Value.type "dict",data:=PySem.Data.dict #[eN P "__module__" 297 (vS "keptnest.asks.walks" 288),eN P "__firstlineno__" 301 (vI 34 300),eN P "__init__" 308 (vR 95),eN P "later" 318 (vR 102),eN P "tell" 326 (vR 109),eN P "take" 332 (vR 114),eN P "run" 342 (vR 121),eN P "__static_attributes__" 345 (vR 122),eN P "__dict__" 347 (vR 125),eN P "__weakref__" 349 (vR 126),eN P "__doc__" 350 (vN)] 4 }) ::
 (nat_lit 124,{ cls:=PySem.Value.type "type",data:=PySem.Data.cls { name:=sO "Walk",bases:=[PySem.Value.type "object"],mro:=[vR 124,PySem.Value.type "object"],ns:=123,qualname:=sO "Walk" },slots:=#[Option.none,Option.none,Yk (vS "Walk" 290),Yk (vS "Walk" 298),Yk (PySem.Value.builtin "object.__new__"),Yk (PySem.Value.bool Bool.true)] }) ::
 (nat_lit 134,zC "folded" "folded" 353 55 2 129 130 vN (vR 131) (vR 132) 133 359) ::
 (nat_lit 135,fO "folded" "folded" (zT 12) (vS "keptnest.asks.walks" 288) (vR 134)) ::
 (nat_lit 141,zC "unfold" "unfold" 362 59 3 136 137 vN (vR 138) (vR 139) 140 369) ::
 (nat_lit 142,fO "unfold" "unfold" (zT 13) (vS "keptnest.asks.walks" 288) (vR 141)) ::
 (nat_lit 148,zC "fold" "fold" 372 63 3 143 144 vN (vR 145) (vR 146) 147 378) ::
 (nat_lit 149,fO "fold" "fold" (zT 14) (vS "keptnest.asks.walks" 288) (vR 148)) ::
 (nat_lit 155,zC "bound" "bound" 381 65 3 150 151 vN (vR 152) (vR 153) 154 388) ::
 (nat_lit 156,fO "bound" "bound" (zT 15) (vS "keptnest.asks.walks" 288) (vR 155)) ::
 (nat_lit 160,zC "fields_of" "fields_of" 393 70 1 157 158 vN vN vN 159 396) ::
 (nat_lit 161,fO "fields_of" "fields_of" (zT 17) (vS "keptnest.data.kinds" 391) (vR 160)) ::
 (nat_lit 167,zC "alike" "alike" 399 72 2 162 163 vN (vR 164) (vR 165) 166 404) ::
 (nat_lit 168,fO "alike" "alike" (zT 18) (vS "keptnest.data.kinds" 391) (vR 167)) ::
 (nat_lit 172,zC "fits" "fits" 407 74 3 169 170 vN vN vN 171 410) ::
 (nat_lit 173,fO "fits" "fits" (zT 19) (vS "keptnest.data.kinds" 391) (vR 172)) ::
 (nat_lit 174,{ cls:=PySem.Value.type "tuple",data:=PySem.Data.seq #[vS "num" 415] }) ::
 (nat_lit 175,{ cls:=PySem.Value.type "tuple",data:=PySem.Data.seq #[vS "word" 417] }) ::
 (nat_lit 176,{ cls:=PySem.Value.type "tuple",data:=PySem.Data.seq #[vS "truth" 419] }) ::
 (nat_lit 182,zC "kind_of" "kind_of" 421 91 3 177 178 vN (vR 179) (vR 180) 181 428) ::
 (nat_lit 183,fO "kind_of" "kind_of" (zT 24) (vS "keptnest.asks.kinds" 413) (vR 182)) ::
 (nat_lit 189,zC "begin" "begin" 431 95 3 184 185 vN (vR 186) (vR 187) 188 442) ::
 (nat_lit 190,fO "begin" "begin" (zT 25) (vS "keptnest.asks.kinds" 413) (vR 189)) ::
 (nat_lit 196,zC "found_kind" "found_kind" 446 109 3 191 192 vN (vR 193) (vR 194) 195 452) ::
 (nat_lit 197,fO "found_kind" "found_kind" (zT 27) (vS "keptnest.asks.kinds" 413) (vR 196)) ::
 (nat_lit 203,zC "bind" "bind" 455 113 3 198 199 vN (vR 200) (vR 201) 202 465) ::
 (nat_lit 204,fO "bind" "bind" (zT 28) (vS "keptnest.asks.kinds" 413) (vR 203)) ::
 (nat_lit 210,zC "finish" "finish" 468 122 3 205 206 vN (vR 207) (vR 208) 209 477) ::
 (nat_lit 211,fO "finish" "finish" (zT 29) (vS "keptnest.asks.kinds" 413) (vR 210)) ::
 (nat_lit 217,zC "plain_kind" "plain_kind" 480 129 2 212 213 vN (vR 214) (vR 215) 216 485) ::
 (nat_lit 218,fO "plain_kind" "plain_kind" (zT 30) (vS "keptnest.asks.kinds" 413) (vR 217)) ::
 (nat_lit 222,zC "row_kind" "row_kind" 488 131 2 219 220 vN vN vN 221 491) ::
 (nat_lit 223,fO "row_kind" "row_kind" (zT 31) (vS "keptnest.asks.kinds" 413) (vR 222)) ::
 (nat_lit 229,zC "part_kind" "part_kind" 494 133 2 224 225 vN (vR 226) (vR 227) 228 499) ::
 (nat_lit 230,fO "part_kind" "part_kind" (zT 32) (vS "keptnest.asks.kinds" 413) (vR 229)) ::
 (nat_lit 236,zC "number_kind" "number_kind" 502 137 2 231 232 vN (vR 233) (vR 234) 235 507) ::
 (nat_lit 237,fO "number_kind" "number_kind" (zT 33) (vS "keptnest.asks.kinds" 413) (vR 236)) ::
 (nat_lit 243,zC "none_kind" "none_kind" 510 139 2 238 239 vN (vR 240) (vR 241) 242 515) ::
 (nat_lit 244,fO "none_kind" "none_kind" (zT 34) (vS "keptnest.asks.kinds" 413) (vR 243)) ::
 (nat_lit 250,zC "one_kind" "one_kind" 518 141 2 245 246 vN (vR 247) (vR 248) 249 523) ::
 (nat_lit 251,fO "one_kind" "one_kind" (zT 35) (vS "keptnest.asks.kinds" 413) (vR 250)) ::
 (nat_lit 257,zC "both_kind" "both_kind" 526 143 2 252 253 vN (vR 254) (vR 255) 256 531) ::
 (nat_lit 258,fO "both_kind" "both_kind" (zT 36) (vS "keptnest.asks.kinds" 413) (vR 257)) ::
 (nat_lit 264,zC "last_bag_kind" "last_bag_kind" 534 145 2 259 260 vN (vR 261) (vR 262) 263 539) ::
 (nat_lit 265,fO "last_bag_kind" "last_bag_kind" (zT 37) (vS "keptnest.asks.kinds" 413) (vR 264)) ::
 (nat_lit 271,zC "same_kind" "same_kind" 542 147 2 266 267 vN (vR 268) (vR 269) 270 547) ::
 (nat_lit 272,fO "same_kind" "same_kind" (zT 38) (vS "keptnest.asks.kinds" 413) (vR 271)) ::
 (nat_lit 278,zC "under_kind" "under_kind" 550 149 2 273 274 vN (vR 275) (vR 276) 277 555) ::
 (nat_lit 279,fO "under_kind" "under_kind" (zT 39) (vS "keptnest.asks.kinds" 413) (vR 278)) ::
 (nat_lit 285,zC "truth_kind" "truth_kind" 558 151 2 280 281 vN (vR 282) (vR 283) 284 563) ::
 (nat_lit 286,fO "truth_kind" "truth_kind" (zT 40) (vS "keptnest.asks.kinds" 413) (vR 285)) ::
 (nat_lit 287,{ cls:=PySem.Value.type "dict",data:=PySem.Data.dict #[eN P "num" 566 (vR 218),eN P "word" 568 (vR 218),eN P "row" 570 (vR 223),eN P "at" 572 (vR 230),eN P "add" 574 (vR 237),eN P "mul" 576 (vR 237),eN P "none" 578 (vR 244),eN P "one" 580 (vR 251),eN P "both" 582 (vR 258),eN P "times" 584 (vR 265),eN P "for" 586 (vR 265),eN P "when" 588 (vR 265),eN P "same" 590 (vR 272),eN P "under" 592 (vR 279),eN P "and" 594 (vR 286),eN P "or" 596 (vR 286),eN P "not" 598 (vR 286)] 17 }) ::
 (nat_lit 293,zC "difference" "difference" 603 155 4 288 289 vN (vR 290) (vR 291) 292 613) ::
 (nat_lit 294,fO "difference" "difference" (zT 43) (vS "keptnest.changes.differences" 601) (vR 293)) ::
 (nat_lit 300,zC "kind_of_rows" "kind_of_rows" 616 161 3 295 296 vN (vR 297) (vR 298) 299 624) ::
 (nat_lit 301,fO "kind_of_rows" "kind_of_rows" (zT 44) (vS "keptnest.changes.differences" 601) (vR 300)) ::
 (nat_lit 307,zC "begin" "begin" 627 169 3 302 303 vN (vR 304) (vR 305) 306 634) ::
 (nat_lit 308,fO "begin" "begin" (zT 45) (vS "keptnest.changes.differences" 601) (vR 307)) ::
 (nat_lit 312,zC "names_some" "names_some" 638 185 2 309 310 vN vN vN 311 641) ::
 (nat_lit 313,fO "names_some" "names_some" (zT 47) (vS "keptnest.changes.differences" 601) (vR 312)) ::
 (nat_lit 319,zC "is_none" "is_none" 644 187 1 314 315 vN (vR 316) (vR 317) 318 648) ::
 (nat_lit 320,fO "is_none" "is_none" (zT 48) (vS "keptnest.changes.differences" 601) (vR 319)) ::
 (nat_lit 324,zC "total" "total" 651 189 1 321 322 vN vN vN 323 654) ::
 (nat_lit 325,fO "total" "total" (zT 49) (vS "keptnest.changes.differences" 601) (vR 324)) ::
 (nat_lit 331,zC "both_differences" "both_differences" 657 194 3 326 327 vN (vR 328) (vR 329) 330 663) ::
 (nat_lit 332,fO "both_differences" "both_differences" (zT 50) (vS "keptnest.changes.differences" 601) (vR 331)) ::
 (nat_lit 338,zC "for_differences" "for_differences" 666 196 3 333 334 vN (vR 335) (vR 336) 337 677) ::
 (nat_lit 339,fO "for_differences" "for_differences" (zT 51) (vS "keptnest.changes.differences" 601) (vR 338)) ::
 (nat_lit 345,zC "made_for" "made_for" 680 200 3 340 341 vN (vR 342) (vR 343) 344 686) ::
 (nat_lit 346,fO "made_for" "made_for" (zT 52) (vS "keptnest.changes.differences" 601) (vR 345)) ::
 (nat_lit 347,{ cls:=PySem.Value.type "dict",data:=PySem.Data.dict #[eN P "both" 689 (vR 332),eN P "for" 690 (vR 339)] 2 }) ::
 (nat_lit 353,zC "wrap" "wrap" 694 203 3 348 349 vN (vR 350) (vR 351) 352 701) ::
 (nat_lit 354,fO "wrap" "wrap" (zT 54) (vS "keptnest.changes.differences" 601) (vR 353)) ::
 (nat_lit 360,zC "behind_less_ahead" "behind_less_ahead" 704 206 2 355 356 vN (vR 357) (vR 358) 359 709) ::
 (nat_lit 361,fO "behind_less_ahead" "behind_less_ahead" (zT 55) (vS "keptnest.changes.differences" 601) (vR 360)) ::
 (nat_lit 367,zC "behind" "behind" 712 208 2 362 363 vN (vR 364) (vR 365) 366 719) ::
 (nat_lit 368,fO "behind" "behind" (zT 56) (vS "keptnest.changes.differences" 601) (vR 367)) ::
 (nat_lit 374,zC "differences" "differences" 724 216 4 369 370 vN (vR 371) (vR 372) 373 735) ::
 (nat_lit 375,fO "differences" "differences" (zT 58) (vS "keptnest.changes.degrees" 722) (vR 374)) ::
 (nat_lit 379,zC "kinds_of_changes" "kinds_of_changes" 738 226 2 376 377 vN vN vN 378 741) ::
 (nat_lit 380,fO "kinds_of_changes" "kinds_of_changes" (zT 59) (vS "keptnest.changes.degrees" 722) (vR 379)) ::
 (nat_lit 393,zC "_law_seed" "_law_seed" 754 233 1 388 389 vN (vR 390) (vR 391) 392 759) ::
 (nat_lit 394,fO "_law_seed" "_law_seed" (zT 62) (vS "law_keptnest_k33_differences_list" 744) (vR 393)) ::
 (nat_lit 400,zC "_law_draw" "_law_draw" 762 236 2 395 396 vN (vR 397) (vR 398) 399 769) ::
 (nat_lit 401,fO "_law_draw" "_law_draw" (zT 63) (vS "law_keptnest_k33_differences_list" 744) (vR 400)) ::
 (nat_lit 405,zC "_law_key" "_law_key" 772 245 1 402 403 vN vN vN 404 775) ::
 (nat_lit 406,fO "_law_key" "_law_key" (zT 64) (vS "law_keptnest_k33_differences_list" 744) (vR 405)) ::
 (nat_lit 410,zC "_law_bag" "_law_bag" 778 251 1 407 408 vN vN vN 409 781) ::
 (nat_lit 411,fO "_law_bag" "_law_bag" (zT 65) (vS "law_keptnest_k33_differences_list" 744) (vR 410)) ::
 (nat_lit 441,zC "_law_value" "_law_value" 827 314 3 438 439 vN vN vN 440 830) ::
 (nat_lit 442,fO "_law_value" "_law_value" (zT 70) (vS "law_keptnest_k33_differences_list" 744) (vR 441)) ::
 (nat_lit 448,zC "_law_kinds" "_law_kinds" 833 327 0 443 444 vN (vR 445) (vR 446) 447 838) ::
 (nat_lit 449,fO "_law_kinds" "_law_kinds" (zT 71) (vS "law_keptnest_k33_differences_list" 744) (vR 448)) ::
 (nat_lit 462,zC "_law_seen" "_law_seen" 851 337 1 457 458 vN (vR 459) (vR 460) 461 858) ::
 (nat_lit 463,fO "_law_seen" "_law_seen" (zT 73) (vS "law_keptnest_k33_differences_list" 744) (vR 462)) ::
 (nat_lit 467,zC "_law_held" "_law_held" 861 343 2 464 465 vN vN vN 466 864) ::
 (nat_lit 468,fO "_law_held" "_law_held" (zT 74) (vS "law_keptnest_k33_differences_list" 744) (vR 467)) ::
 (nat_lit 472,zC "_law_small" "_law_small" 867 351 4 469 470 vN vN vN 471 870) ::
 (nat_lit 473,fO "_law_small" "_law_small" (zT 75) (vS "law_keptnest_k33_differences_list" 744) (vR 472)) ::
 (nat_lit 479,zC "_law_claim" "_law_claim" 873 363 3 474 475 vN (vR 476) (vR 477) 478 883) ::
 (nat_lit 480,fO "_law_claim" "_law_claim" (zT 76) (vS "law_keptnest_k33_differences_list" 744) (vR 479)) ::
 (nat_lit 484,zC "_law_over" "_law_over" 886 376 3 481 482 vN vN vN 483 889) ::
 (nat_lit 485,fO "_law_over" "_law_over" (zT 77) (vS "law_keptnest_k33_differences_list" 744) (vR 484)) ::
 (nat_lit 489,zC "_law_taken" "_law_taken" 892 389 4 486 487 vN vN vN 488 895) ::
 (nat_lit 490,fO "_law_taken" "_law_taken" (zT 78) (vS "law_keptnest_k33_differences_list" 744) (vR 489)) ::
 (nat_lit 494,zC "_law_asked" "_law_asked" 898 395 4 491 492 vN vN vN 493 901) ::
 (nat_lit 495,fO "_law_asked" "_law_asked" (zT 79) (vS "law_keptnest_k33_differences_list" 744) (vR 494)) ::
 (nat_lit 501,zC "_law_free" "_law_free" 904 426 0 496 497 vN (vR 498) (vR 499) 500 907) ::
 (nat_lit 502,fO "_law_free" "_law_free" (zT 80) (vS "law_keptnest_k33_differences_list" 744) (vR 501)) ::
 (nat_lit 536,zC "_law_stock" "_law_stock" 954 455 1 531 532 vN (vR 533) (vR 534) 535 961) ::
 (nat_lit 537,fO "_law_stock" "_law_stock" (zT 85) (vS "law_keptnest_k33_differences_list" 744) (vR 536)) ::
 (nat_lit 543,zC "_law_names" "_law_names" 964 461 2 538 539 vN (vR 540) (vR 541) 542 971) ::
 (nat_lit 544,fO "_law_names" "_law_names" (zT 86) (vS "law_keptnest_k33_differences_list" 744) (vR 543)) ::
 (nat_lit 555,zC "law" "law" 983 471 1 552 553 vN vN vN 554 986) ::
 (nat_lit 556,fO "law" "law" (zT 88) (vS "law_keptnest_k33_differences_list" 744) (vR 555))::[]
def zA:List Addr:=[3,4,23,24,36,37,52,53,55,56,59,63,64,68,69,75,76,80,81,94,95,101,102,108,109,113,114,120,121,123,124,134,135,141,142,148,149,155,156,160,161,167,168,172,173,174,175,176,182,183,189,190,196,197,203,204,210,211,217,218,222,223,229,230,236,237,243,244,250,251,257,258,264,265,271,272,278,279,285,286,287,293,294,300,301,307,308,312,313,319,320,324,325,331,332,338,339,345,346,347,353,354,360,361,367,368,374,375,379,380,393,394,400,401,405,406,410,411,441,442,448,449,462,463,467,468,472,473,479,480,484,485,489,490,494,495,501,502,536,537,543,544,555,556]
def zV:Program:={ PySem.Challenge.pw_keptnest_k33_differences_list with main:={ PySem.Challenge.pw_keptnest_k33_differences_list.main with body:=[1,2,3,5,6,7,8,9,11,12,13,14,15,17,18,19,21,22,23,24,26,27,28,29,30,31,32,33,34,35,36,37,38,39,40,41,43,44,45,46,47,48,49,50,51,52,53,54,55,56,58,59,61,62,63,64,65,66,67,68,69,70,71,72,73,74,75,76,77,78,79,80,81,82,83,84,85,86,87,88].filterMap λi=>PySem.Challenge.pw_keptnest_k33_differences_list.main.body[i]? } }
theorem zE:∀P,zA=(zK P).map (·.1):=λ_=>rfl
def zTs:List Addr:=[163,363]
def zL:List PySem.Str:=["begin_kinds","FINISHED","begin_differences","SUMS"]
end K33
end
section
namespace Hq
open PySem PySem.W
def mT (st:SharedT->Thread->Option (SharedT×Thread)) (ok:Thread->Bool):Nat->SharedT->Thread->Option SharedT
 | 0,_,_=>none
 |n+1,s,t=>match through t with
  |true=>some s
  |false=>match ok t with
   |false=>none
   |true=>match st s t with
    |some (s',t')=>mT st ok n s' t'
    |none=>none
theorem u5 {tb:String->Option Builtin}{p:Program}{w:World}{n₀:Nat}{po:Option Value}:∀{n:Nat}{s s':SharedT}{t:Thread},mT (stepT (denote tb) p w) (stepOk n₀ po) n s t=some s'->topRun tb p w n₀ po n s.abs t=some s'.abs
 | 0,_,_,_,h=>by cases h
 |n+1,s,s',t,h=>by
  unfold mT at h;unfold topRun;cases he:through t with
  |true=>rw[he]at h;cases h;rfl
  |false=>
   rw[he]at h;cases hk:stepOk n₀ po t with
   |false=>rw[hk]at h;cases h
   |true=>
    rw[hk]at h;cases hs:stepT (denote tb) p w s t with
    |none=>rw[hs]at h;cases h
    |some r=>obtain⟨s₂,t₂⟩:=r;rw[hs]at h;rw[stepT_spec hs];exact u5 h
def mU:List Obj->BT->Nat->Option (BT×Nat)
 |[],t,n=>some (t,n)
 |o::l,t,n=>match ((t.ins n o).get n).isSome with
  |true=>mU l (t.ins n o) (n+1)
  |false=>none
theorem vc {life:Life}:∀{l:List Obj}{t t':BT}{n n':Nat},mU l t n=some (t',n')->absHeap t' n' life=⟨(absHeap t n life).objs++l.toArray,life⟩
 |[],t,t',n,n',h=>by cases h;simp;rfl
 |o::l,t,t',n,n',h=>by
  unfold mU at h;cases e:((t.ins n o).get n).isSome with
  |false=>rw[e]at h;cases h
  |true=>
   rw[e]at h;rw[vc h,absHeap_ins e];unfold Heap.push;simp
def vd (s:Shared):Option SharedT:=(mU s.heap.objs.toList .nil 0).map λx=>⟨x.1,x.2,s.heap.life,s.gens,s.drawn,s.toks,s.os⟩
theorem CS {s:Shared}{T:SharedT} (h:vd s=some T):T.abs=s:=by
 obtain⟨x,a,b⟩:=Option.map_eq_some_iff.mp h;obtain⟨t,n⟩:=x;cases b;have:=vc (life:=s.heap.life) a;unfold SharedT.abs;obtain⟨⟨objs,life⟩,gens,drawn,toks,os⟩:=s;simp only at this ⊢;rw[this];simp [absHeap,BT.list]
def pW (st:SharedT->Thread->Option (SharedT×Thread)) (sk:Nat->Option Value->Thread->Bool) (p:Program) (N:Nat) {β:Type} (F:Shared->β) (s₀:Shared):Option β:=
 match s₀.heap.isNs mainGlobals && s₀.gens.size == 0 with
 | true=>(vd s₀).bind λT₀=>(mT st (sk s₀.heap.objs.size (s₀.heap.nsMap mainGlobals "__annotations__")) N T₀ (topStub p)).bind λT₁=>match staticsOk (importedModules p.main.body) s₀.heap T₁.abs.heap && namesBound p T₁.abs.heap && gensDone T₁.abs && laidKept s₀.heap T₁.abs.heap with
   |true=>some (F T₁.abs)
   |false=>none
 |false=>none
theorem CT {tb:String->Option Builtin}{p:Program}{w:World}{N:Nat} {β:Type} {F:Shared->β}{s₀:Shared}{y:β} (h:pW (stepT (denote tb) p w) stepOk p N F s₀=some y):(topFrom tb p w N s₀).map F=some y:=by
 unfold pW at h;unfold topFrom;cases e:(s₀.heap.isNs mainGlobals && s₀.gens.size == 0) with
 |false=>rw[e]at h;cases h
 |true=>
  rw[e]at h;obtain⟨T₀,a,h⟩:=Option.bind_eq_some_iff.mp h;obtain⟨T₁,b,h⟩:=Option.bind_eq_some_iff.mp h;have b':=u5 b;rw[CS a]at b';dsimp only;rw[b'];dsimp only[Option.bind_some];cases q:(staticsOk (importedModules p.main.body) s₀.heap T₁.abs.heap && namesBound p T₁.abs.heap && gensDone T₁.abs && laidKept s₀.heap T₁.abs.heap) with
  |false=>rw[q]at h;cases h
  |true=>rw[q]at h;exact h
def mV (Vy:Program->World->Nat->Shared->Thread->Option Shared) (sr:Program->Shared×Thread) (Vz:Program->Shared->Option Shared) (st:Program->World->SharedT->Thread->Option (SharedT×Thread)) (sk:Nat->Option Value->Thread->Bool) (p:Program) {β:Type} (F:Shared->β) (y:World->β) (N:Nat) (row:String) (b:Bool):Prop:=
 ∀w:World,((Vy (opening p) w N (sr (opening p)).1 (sr (opening p)).2).bind (Vz p)).bind (pW (st p (w.withFollow row b)) sk p N F)=some (y (w.withFollow row b))
theorem mV.to {p:Program} {β:Type} {F:Shared->β}{y:World->β}{N:Nat}{row:String}{b:Bool} (h:mV (importEnds treeTable) start fenceModules? (stepT (denote treeTable)) stepOk p F y N row b) (w:World):(fencedOpening treeTable p w N).map (λs₀=>(topFrom treeTable p (w.withFollow row b) N s₀).map F)=some (some (y (w.withFollow row b))):=by
 obtain⟨s₀,a,e⟩:=Option.bind_eq_some_iff.mp (h w);unfold fencedOpening;rw[a,Option.map_some,CT e]
open Fast in
abbrev fV {β:Type} (p:Program) (F:Shared->β) (y:World->β) (N:Nat) (row:String) (b:Bool):Prop:=mV (tw10274390034422433532 tw14364793385576792824) tw1435165496053646825 tw14289696077712309145 (tw10156331382660048174 (tw11892475500146522536 tw14364793385576792824)) tw6613529449190102663 p F y N row b
open Fast in
theorem fV.to {p:Program} {β:Type} {F:Shared->β}{y:World->β}{N:Nat}{row:String}{b:Bool} (h:fV p F y N row b):mV (importEnds treeTable) start fenceModules? (stepT (denote treeTable)) stepOk p F y N row b:=by
 rw[te10274390034422433532,te14364793385576792824,te1435165496053646825,te14289696077712309145,te10156331382660048174,te11892475500146522536,te6613529449190102663];exact h
open Fast in
theorem fV.eC {p q:Program}{loose:List PySem.Str}{Xt:Shared->Bool} {α:Type} {Yf:Shared->α}{Ya:World->α}{N:Nat}{row:String}{b:Bool} (h:fV p (openSeen q loose (importedModules p.main.body) Xt true) (λ_=>openGood q loose) N row b) (h':fV p Yf Ya N row b):kF p q loose Xt Yf Ya N row b:=λw=>by
 have a:=h.to.to w;have b':=h'.to.to w;obtain⟨s₀,e,a⟩:=Option.map_eq_some_iff.mp a;rw[e,Option.map_some]at b' ⊢;obtain⟨s₁,e',a⟩:=Option.map_eq_some_iff.mp a;rw[e',Option.map_some]at b' ⊢;rw[a,XD (XD b')]
end Hq
end
section
set_option maxHeartbeats 0
namespace K33
open PySem Hq
theorem CU:fV PySem.Challenge.pw_keptnest_k33_differences_list (PySem.W.openSeen zV zL (importedModules PySem.Challenge.pw_keptnest_k33_differences_list.main.body) (λs=>PySem.W.xlAt zV [] s && PySem.W.recOk (PySem.W.RowW.records (PySem.W.OpenRow.toRowW PySem.Challenge.rw_keptnest_k33_differences_list.row)) s) true) (λ_=>PySem.W.openGood zV zL) 7224 "special-get-raises" false:=by
 intro w
 kernel_rfl
theorem CV:fV PySem.Challenge.pw_keptnest_k33_differences_list (PySem.W.Hook.obs (PySem.W.kmHook zK zA zE zTs)) (PySem.W.Hook.val (PySem.W.kmHook zK zA zE zTs)) 7224 "special-get-raises" false:=by
 intro w
 kernel_rfl
theorem zR_false:kF PySem.Challenge.pw_keptnest_k33_differences_list zV zL (λs=>PySem.W.xlAt zV [] s && PySem.W.recOk (PySem.W.RowW.records (PySem.W.OpenRow.toRowW PySem.Challenge.rw_keptnest_k33_differences_list.row)) s) (PySem.W.Hook.obs (PySem.W.kmHook zK zA zE zTs)) (PySem.W.Hook.val (PySem.W.kmHook zK zA zE zTs)) 7224 "special-get-raises" false:=CU.eC CV
theorem CW:fV PySem.Challenge.pw_keptnest_k33_differences_list (PySem.W.openSeen zV zL (importedModules PySem.Challenge.pw_keptnest_k33_differences_list.main.body) (λs=>PySem.W.xlAt zV [] s && PySem.W.recOk (PySem.W.RowW.records (PySem.W.OpenRow.toRowW PySem.Challenge.rw_keptnest_k33_differences_list.row)) s) true) (λ_=>PySem.W.openGood zV zL) 7224 "special-get-raises" true:=by
 intro w
 kernel_rfl
theorem CX:fV PySem.Challenge.pw_keptnest_k33_differences_list (PySem.W.Hook.obs (PySem.W.kmHook zK zA zE zTs)) (PySem.W.Hook.val (PySem.W.kmHook zK zA zE zTs)) 7224 "special-get-raises" true:=by
 intro w
 kernel_rfl
theorem zR_true:kF PySem.Challenge.pw_keptnest_k33_differences_list zV zL (λs=>PySem.W.xlAt zV [] s && PySem.W.recOk (PySem.W.RowW.records (PySem.W.OpenRow.toRowW PySem.Challenge.rw_keptnest_k33_differences_list.row)) s) (PySem.W.Hook.obs (PySem.W.kmHook zK zA zE zTs)) (PySem.W.Hook.val (PySem.W.kmHook zK zA zE zTs)) 7224 "special-get-raises" true:=CW.eC CX
theorem zS:PySem.Challenge.rw_keptnest_k33_differences_list.wellSaid=true:=by kernel_rfl
end K33
end
section
namespace L2
open PySem PySem.Spec PyProof.Rows
abbrev Key:=Sum Int Str
noncomputable def fm:Key->Value->Bool
 |.inl k,v=>Value.isInt k v
 |.inr x,v=>Value.isStrOf x v
noncomputable def CY (w:World):Key->Int
 |.inl k=>hashInt k
 |.inr x=>hashStr w x
theorem d8:∀{k:Key}{v:Value},fm k v=true->(∃i t,k=Sum.inl i/\v=Value.int i t)\/(∃x t,k=Yr x/\v=Value.str x t)
 |.inl i,v,h=>by
  obtain⟨t,e⟩:=Value.isInt_shape (k:=i) (v:=v) h;exact .inl ⟨i,t,rfl,e⟩
 |.inr x,v,h=>by
  obtain⟨t,e⟩:=Value.isStrOf_shape (x:=x) (v:=v) h;exact .inr ⟨x,t,rfl,e⟩
theorem CZ (i:Int) (t:Tok):fm (.inl i) (.int i t)=true:=by simp [fm,Value.isInt]
theorem pX (x:Str) (t:Tok):fm (.inr x) (.str x t)=true:=by simp [fm,Value.isStrOf]
theorem C0 (a b:Int):decide ((Sum.inl a:Key)=Sum.inl b)=(a == b):=by
 by_cases e:a=b
 ·subst e;simp
 ·have h:¬(Sum.inl a:Key)=Sum.inl b:=λq=>e (Sum.inl.inj q);rw[decide_eq_false h];exact (beq_eq_false_iff_ne.mpr e).symm
theorem C1 (a b:Str):decide ((Yr a:Key)=Yr b)=decide (a=b):=by
 by_cases e:a=b
 ·subst e;simp
 ·have h:¬(Yr a:Key)=Yr b:=λq=>e (Zk q);rw[decide_eq_false h,decide_eq_false e]
theorem C2 (a:Int) (b:Str):decide ((Sum.inl a:Key)=Yr b)=false:=decide_eq_false (λq=>nomatch q)
theorem C3 (a:Str) (b:Int):decide ((Yr a:Key)=Sum.inl b)=false:=decide_eq_false (λq=>nomatch q)
noncomputable def bo (prog:Program) (w:World):PySem.KeyKind prog w Key where
 is:=fm
 hash:=CY w
 inj:=λv a b ha hb=>by
  rcases d8 ha with ⟨i,t,rfl,rfl⟩ |⟨x,t,rfl,rfl⟩
  ·rcases d8 hb with ⟨j,u,rfl,e⟩ |⟨y,u,rfl,e⟩
   ·injection e with e1 _;rw[e1]
   ·exact nomatch e
  ·rcases d8 hb with ⟨j,u,rfl,e⟩ |⟨y,u,rfl,e⟩
   ·exact nomatch e
   ·injection e with e1 _;rw[e1]
 byValue:=λk v h=>by
  rcases d8 h with ⟨i,t,rfl,rfl⟩ |⟨x,t,rfl,rfl⟩ <;> rfl
 pyHash:=λhv h=>by
  rcases d8 hv with ⟨i,t,rfl,rfl⟩ |⟨x,t,rfl,rfl⟩
  ·exact wpAny_pyHash_int h
  ·exact wpAny_pyHash_str h
 eqBool:=λhu hv h=>by
  rcases d8 hu with ⟨i,t,rfl,rfl⟩ |⟨x,t,rfl,rfl⟩
  ·rcases d8 hv with ⟨j,u,rfl,rfl⟩ |⟨y,u,rfl,rfl⟩
   ·rw[C0]at h;exact wpAny_eqBool_int h
   ·rw[C2]at h;exact SeqAt.EqAt.int_str i t y u _ _ _ _ h
  ·rcases d8 hv with ⟨j,u,rfl,rfl⟩ |⟨y,u,rfl,rfl⟩
   ·rw[C3]at h;exact SeqAt.EqAt.str_int x t j u _ _ _ _ h
   ·rw[C1]at h;exact wpAny_eqBool_str h
 «strs»:=λk x t v h=>by
  rcases d8 h with ⟨i,u,rfl,e⟩ |⟨y,u,rfl,e⟩
  ·exact nomatch e
  ·injection e with e1 _;subst e1;cases v <;> rfl
end L2
namespace L2
open PySem PySem.Spec PyProof.Rows
def jm (sc:Scope) (x:Str):Prop:=sc.names.lookup x=some .local\/sc.names.lookup x=some .cell\/sc.names.lookup x=some .free
def ib (sc:Scope) (x:Str):Prop:=sc.names.lookup x=some .local\/sc.names.lookup x=some .cell
def jo (env:Env) (h:Heap) (m:Str->Option Value) (x:Str) (u:Value):Prop:=
 (env.kindOf x=some .local/\m x=some u)\/((env.kindOf x=some .cell\/env.kindOf x=some .free)/\∃c,env.cells.lookup x=some c/\h.IsCell c (some u))
section
variable {X:Cx}{aS:List (Addr×Obj)} {σ:List (Option V)} {H Wu:Hp}{s:Shared}{h':Heap}
theorem C4 {N:List Str} (hN:N.Nodup) {i j:Nat}{x:Str} (a:N[i]?=some x) (b:N[j]?=some x):i=j:=by
 obtain⟨h1,e1⟩:=List.getElem?_eq_some_iff.mp a;obtain⟨h2,e2⟩:=List.getElem?_eq_some_iff.mp b;exact (List.getElem_inj hN).mp (e1.trans e2.symm)
end
end L2
namespace L2
open PySem PySem.Spec PyProof.Rows
theorem mW {M:Model}{A:Around}{E:Value->Shared->Prop}{s:Shared}{tg:Expr}{it:Addr}{u:Value}{o:Obj}{n:String}{vs:Array Value}{Q:Unit->Shared->Prop} (ho:s.heap.get? it=some o) (hc:o.cls=.type n) (hd:o.data=.fields vs)
    (hn:["enumerate","zip","dict_itemiterator","dict_reverseitemiterator","odict_iterator","itertools.zip_longest","itertools.pairwise"].contains n=false) (hQ:Q () s):wpAny M A (letOwnedTupleGo tg (.ref it) u) Q E s:=by
  unfold letOwnedTupleGo;cases tg <;> first
    |exact W2 hQ
    | (cases u <;> first
        |exact W2 hQ
        | (refine WY (wpAny_load ho ?_)
           rw[hc,hd];show wpAny M A (if (["enumerate","zip","dict_itemiterator","dict_reverseitemiterator","odict_iterator","itertools.zip_longest","itertools.pairwise"].contains n && vs[0]? == some (rawInt _))=true then _ else _) Q E s
           rw[if_neg (by intro h;rw[hn,Bool.false_and]at h;cases h)];exact W2 hQ))
end L2
namespace L2
open PySem PySem.Spec PyProof.Rows
end L2
namespace L2
open PySem PySem.Spec PyProof.Rows
section
variable {prog:Program}{w:World}{A:Around}{E:Value->Shared->Prop}{s:Shared}
theorem pY {J t:Addr}{i:Nat}{its:Array Value}{x:Value}{Q:Value->Shared->Prop} (hJ:s.heap.IsTupleIter J t i) (ht:s.heap.IsTuple t its) (hx:its[i]?=some x)
  (q:∀h',h'.IsTupleIter J t (i+1)->YM J s.heap h'->Q x { s with heap:=h' }):wpAny (model prog w) A (XG (.ref J)) Q E s:=by
 obtain⟨ob,h1,h2,h3⟩:=id hJ;obtain⟨VA,g1,_,nt,g2⟩:=ht;unfold XG;refine WY (Xr (name:=Yy "__next__") hJ.typeIs F.slot_tuple_iterator_next (Xw F.slot_tuple_iterator_next hJ.typeIs F.entry_tuple_iterator_next ?_ (F.args_tuple_iterator_next_1 _)));show wpAny _ _ (field (.ref J) 0 >>= _) _ _ s;refine WY (XS h1 h3 (x:=.ref t) rfl ?_);show wpAny _ _ (if (XC t == Yb)=true then _ else _) _ _ s
 rw[if_neg (show ¬((XC t == Yb)=true) from λz=>XJ z)];show wpAny _ _ (field (.ref J) 1 >>= _) _ _ s;refine WY (XS h1 h3 (x:=.int i 0) rfl ?_);show wpAny _ _ (seqItems? (.ref t) >>= _) _ _ s;refine WY (YT g1 g2 ?_);simp only[YB,hx];refine WY (wpAny_setField h1 h3 (by simp) (W2 ⟨x,rfl,W2 (q _ ?a (Xu ..))⟩));exact⟨_,Xz _ h1 (Obj.isFreed_of_fields (Obj.data_mapFields h3 _)),Eq.trans (Obj.cls_mapFields ..) h2,by rw[Obj.data_mapFields h3] <;> simp [rawInt]⟩
theorem mX {J t:Addr}{i:Nat}{its:Array Value}{Q:Value->Shared->Prop} (hh:A.handled=none) (hJ:s.heap.IsTupleIter J t i) (ht:s.heap.IsTuple t its) (hx:its[i]?=none)
  (q:∀h' e,Zb J s.heap h'->(∃o,h'.get? e=some o/\o.cls=.type "StopIteration")->E (.ref e) { s with heap:=h' }):wpAny (model prog w) A (XG (.ref J)) Q E s:=by
 obtain⟨ob,h1,h2,h3⟩:=id hJ;obtain⟨VA,g1,_,nt,g2⟩:=ht;unfold XG;refine WY (Xr (name:=Yy "__next__") hJ.typeIs F.slot_tuple_iterator_next (Xw F.slot_tuple_iterator_next hJ.typeIs F.entry_tuple_iterator_next ?_ (F.args_tuple_iterator_next_1 _)));show wpAny _ _ (field (.ref J) 0 >>= _) _ _ s;refine WY (XS h1 h3 (x:=.ref t) rfl ?_);show wpAny _ _ (if (XC t == Yb)=true then _ else _) _ _ s
 rw[if_neg (show ¬((XC t == Yb)=true) from λz=>XJ z)];show wpAny _ _ (field (.ref J) 1 >>= _) _ _ s;refine WY (XS h1 h3 (x:=.int i 0) rfl ?_);show wpAny _ _ (seqItems? (.ref t) >>= _) _ _ s;refine WY (YT g1 g2 ?_);simp only[YB,hx];refine WY (wpAny_rule (WY (wpAny_setField h1 h3 (by simp) ?_)));show wpAny _ _ (newExc (.type "StopIteration") [] >>= _) _ _ _;refine WY ?_;simp only[newExc,newTuple];refine WY (XF ?_ (by size_fits));refine WY (m:=firstArgMember _ _) (wpAny_of_eq (a:=Yb) (by first |rfl |(simp only[firstArgMember] <;> rfl)) ?_)
 refine XF ?_ (by size_fits);simp only[raiseNew];refine WY (wpAny_handled ?_)
 first |rw[show A.in1.handled=none from hh] |rw[hh]
 refine WY (W2 (wpAny_throw (q _ _ ?_ ⟨_,W5 _ rfl,rfl⟩)));exact ((Xu ..).extBut.push _).push _
def cp (q:Bool) (h:Heap) (a:Addr) (xs:Array Value):Prop:=match q with
 |true=>h.IsTuple a xs
 |false=>h.IsList a xs
noncomputable abbrev fW (q:Bool):String:=match q with
 |true=>"tuple_iterator"
 |false=>"list_iterator"
def dP (q:Bool) (h:Heap) (J t:Addr) (i:Nat):Prop:=∃o,h.get? J=some o/\o.cls=.type (fW q)/\o.data=.fields #[.ref t,.int i 0]
theorem dP.extBut {q:Bool}{h h':Heap}{J t c:Addr}{i:Nat} (x:dP q h J t i) (e:Zb c h h') (n:J≠c):dP q h' J t i:=
 let ⟨o,a,b⟩:=x;⟨o,e _ _ n a,b⟩
theorem cp.extBut {q:Bool}{h h':Heap}{t c:Addr}{xs:Array Value} (x:cp q h t xs) (e:Zb c h h') (n:t≠c):cp q h' t xs:=by
 cases q
 ·exact Heap.IsList.extBut x e n
 ·exact Heap.IsTuple.extBut x e n
theorem pZ {q:Bool}{J t:Addr}{i:Nat}{its:Array Value}{x:Value}{Q:Value->Shared->Prop} (hJ:dP q s.heap J t i) (ht:cp q s.heap t its) (hx:its[i]?=some x)
  (h:∀h',dP q h' J t (i+1)->YM J s.heap h'->Q x { s with heap:=h' }):wpAny (model prog w) A (XG (.ref J)) Q E s:=by
 cases q
 ·exact wpAny_nextOf_list_item hJ ht hx h
 ·exact pY hJ ht hx h
theorem ve {q:Bool}{J t:Addr}{i:Nat}{its:Array Value}{Q:Value->Shared->Prop} (hh:A.handled=none) (hJ:dP q s.heap J t i) (ht:cp q s.heap t its) (hx:its[i]?=none)
  (h:∀h' e,Zb J s.heap h'->(∃o,h'.get? e=some o/\o.cls=.type "StopIteration")->E (.ref e) { s with heap:=h' }):wpAny (model prog w) A (XG (.ref J)) Q E s:=by
 cases q
 ·exact wpAny_nextOf_list_end hh hJ ht hx h
 ·exact mX hh hJ ht hx h
theorem cp.lt {q:Bool}{h:Heap}{t:Addr}{xs:Array Value} (x:cp q h t xs):t<h.objs.size:=by
 cases q <;> (obtain⟨_,e,_⟩:=x;exact Xh e)
end
end L2
namespace L2
open PySem PySem.Spec PyProof.Rows
theorem _root_.PySem.Draws.tuple {prog:Program}{w:World}{A:Around} (hh:A.handled=none) (it l:Addr) (cT:l≠it) (items:Array Value) :
  Draws prog w A it [it,l] items.size (λi v=>items[i]?=some v) (λi h=>h.IsTupleIter it l i/\h.IsTuple l items) where
 live:=λ_ _ st=>let ⟨o,ho,_⟩:=st.1;⟨o,ho⟩
 frame:=λ_ _ _ st hk=>⟨st.1.at λo e=>hk it (by simp) o e,st.2.at λo e=>hk l (by simp) o e⟩
 item:=λi s Q E hi st hQ=>by
  refine pY st.1 st.2 (x:=items[i]) (by simp [hi]) λh' p0 dL=>?_;exact hQ _ h' s.toks (by simp [hi]) ⟨p0,st.2.extBut dL.extBut cT⟩ dL
 done:=λs Q E st VB=>mX hh st.1 st.2 (by simp) VB
section
open AutoSeq1 (wpAny_loadPart')
theorem C5 (l:Addr) (items:Array Value) (n:Nat) (ak:Option Addr) (sl:Array (Option Value)) :
  Meets (Builtin.«enumerate.__new__» ⟨[.type "enumerate",.ref l],[]⟩) (λ_ R s=>s.heap.get? l=some { cls:=.type "tuple",dict:=ak,data:=.seq items n,slots:=sl } /\
   R (.ok (.ret (.ref (s.heap.push { cls:=.type "tuple_iterator",data:=.fields #[.ref l,.int 0 0] }).objs.size)))
    { s with heap:=(s.heap.push { cls:=.type "tuple_iterator",data:=.fields #[.ref l,.int 0 0] }).push { cls:=.type "enumerate",data:=.fields #[.none,.bool false,.ref s.heap.objs.size,rawInt 0,.none,.none] } }):=
 .of_wp λprog w A R s h=>by
  obtain⟨hp,g,d,tk,os⟩:=s;obtain⟨hl,h⟩:=h;have hsub:=sub_enumerate;have hL:Heap.IsTuple (Shared.heap ⟨hp,g,d,tk,os⟩) l items:=⟨_,hl,rfl,n,rfl⟩
  wp_walk using Xm hl
  refine wpAny_stack_any λst=>W2 ?_;split
  ·rename_i c _ _ _ _ _;cases (c == Zc "enumerate")
   ·wp_walk using Xm hl,Zf hL
    exact⟨_,rfl,h⟩
   ·wp_walk using Xm hl,Zf hL
    exact⟨_,rfl,h⟩
  ·wp_walk using Xm hl,Zf hL
   exact⟨_,rfl,h⟩
end
section
variable {prog:Program}{w:World}{A:Around}{E:Value->Shared->Prop}{s:Shared}
theorem C6 {l:Addr}{items:Array Value}{Q:Value->Shared->Prop} (hL:IsTup s.heap l items)
  (h:∀h',IsEnum h' (s.heap.objs.size+1) s.heap.objs.size 0 .none->h'.IsTupleIter s.heap.objs.size l 0->h'.objs.size=s.heap.objs.size+2 ->
   (∀b o,s.heap.get? b=some o->h'.get? b=some o)->Q (.ref (s.heap.objs.size+1)) { s with heap:=h' }) :
  wpAny (model prog w) A (call (.type "enumerate") [.ref l]) Q E s:=by
 obtain⟨⟨c,ak,Tx,sl⟩,hl,hc,n,hd⟩:=hL;replace hc:c=.type "tuple":=hc;replace hd:Tx=.seq items n:=hd;subst hc hd;refine callType_new F.called_enumerate (by decide) (F.typeCall_enumerate_1 _) (F.newCall_enumerate_1 _) (λobj=>F.args_object_init_2 obj _) F.entry_enumerate_new
  (C5 l items n ak sl) ⟨hl,?_⟩
 have hz:(s.heap.push { cls:=.type "tuple_iterator",data:=.fields #[.ref l,.int 0 0] }).objs.size=s.heap.objs.size+1:=Xx ..;show _/\_;rw[hz];have he:IsEnum ((s.heap.push { cls:=.type "tuple_iterator",data:=.fields #[.ref l,.int 0 0] }).push
   { cls:=.type "enumerate",data:=.fields #[.none,.bool false,.ref s.heap.objs.size,rawInt 0,.none,.none] }) (s.heap.objs.size+1) s.heap.objs.size 0 .none:=by
  have:=W5 (s.heap.push { cls:=.type "tuple_iterator",data:=.fields #[.ref l,.int 0 0] })
   (o:={ cls:=.type "enumerate",data:=.fields #[.none,.bool false,.ref s.heap.objs.size,rawInt 0,.none,.none] }) rfl
  rw[hz]at this;exact this
 refine⟨⟨_,he,rfl⟩,h _ he ⟨_,WZ _ (W5 _ rfl),rfl,rfl⟩ (by rw[Xx,hz]) λb o x=>WZ _ (WZ _ x)⟩
theorem C7 {e it l:Addr}{i:Nat}{items:Array Value}{c8:Value}{Q:Option Value->Shared->Prop} (hh:A.handled=none)
  (he:IsEnum s.heap e it i c8) (hit:s.heap.IsTupleIter it l i) (hl:s.heap.IsTuple l items) (hx:items[i]?=none)
  (hQ:∀h',Zb it s.heap h'->Q none { s with heap:=h' }):wpAny (model prog w) A (pyNext (.ref e)) Q E s:=by
 have hT:s.TypeIs (.ref e) "enumerate":=⟨_,he,rfl⟩;unfold pyNext;refine WY (Y1 (Xr (name:=Yy "__next__") hT F.slot_enumerate_next
  (Xw F.slot_enumerate_next hT F.entry_enumerate_next ?_ (F.args_enumerate_next_1 _))))
 show wpAny _ _ (field (.ref e) 2 >>= _) _ _ _;refine WY (XS he rfl (x:=.ref it) rfl ?_);refine WY (mX hh hit hl hx λh' x ic cU=>?_);obtain⟨o,ho,hc⟩:=cU;refine WY (Y0 (T:="StopIteration") (b:=true) ⟨o,ho,hc⟩ isSubtype_stop ?_);exact W2 (hQ _ ic)
end
end L2
namespace L2
open PySem PySem.Spec PyProof.Rows PySem.W
theorem vf:Manifest.owners.lookup (String.ofList ['d','e','s','r','e','v','e','r'].reverse)=some Manifest.sig_reversed:=by kernel_rfl
theorem kG:Slot "reversed" "__next__" "reversed.__next__":=
 .of (owner:="reversed") (n:="__next__") (by rw[YH,X5];kernel_rfl) (by decide +kernel) (by decide +kernel) (by decide +kernel)
  (by first |exact .inl (by decide +kernel) |exact .inr (by decide +kernel)) (by rw[Y'];kernel_rfl)
theorem vg:entryFor table "reversed.__next__"=some Builtin.«reversed.__next__»:=entryFor_of_tree (by kernel_rfl)
theorem vh (a:Value):argsOk "reversed.__next__" ⟨[a],[]⟩:=by
 unfold argsOk;rw[signature?_of (id:="reversed.__next__") (n:=['_','_','t','x','e','n','_','_']) (o:=['d','e','s','r','e','v','e','r']) (by kernel_rfl) vf];kernel_rfl
theorem vi:Slot "reversed" "__iter__" "reversed.__iter__":=
 .of (owner:="reversed") (n:="__iter__") (by rw[YH,X5];kernel_rfl) (by decide +kernel) (by decide +kernel) (by decide +kernel)
  (by first |exact .inl (by decide +kernel) |exact .inr (by decide +kernel)) (by rw[Y'];kernel_rfl)
theorem C8 (a:Value):argsOk "reversed.__iter__" ⟨[a],[]⟩:=by
 unfold argsOk;rw[signature?_of (id:="reversed.__iter__") (n:=['_','_','r','e','t','i','_','_']) (o:=['d','e','s','r','e','v','e','r']) (by kernel_rfl) vf];kernel_rfl
theorem C9:entryFor table "reversed.__iter__"=some Builtin.«dict_keyiterator.__iter__»:=
 entryFor_alias (id':="dict_keyiterator.__iter__") (by kernel_rfl) (by first |rfl |decide +kernel |(unfold String.splitOn;simp +decide [String.splitOnAux])) (by decide +kernel) (by kernel_rfl)
theorem Dc:Slot "reversed" "__init__" "object.__init__":=
 .of (owner:="object") (n:="__init__") (by rw[YH,X5];kernel_rfl) (by decide +kernel) (by decide +kernel) (by decide +kernel)
  (by first |exact .inl (by decide +kernel) |exact .inr (by decide +kernel)) (by rw[Y'];kernel_rfl)
theorem Dd:TypeCalled "reversed" "reversed.__new__" "object.__init__":=
 ⟨by decide +kernel,by decide +kernel,⟨_,_,F.mro_reversed⟩,F.made_reversed,by decide +kernel,by rw[Y'];kernel_rfl,Dc⟩
theorem De:typeLookup (.type "tuple") "__reversed__"=pure none:=by rw[YH,X5];kernel_rfl
theorem Df:isSubtype (.type "tuple") (.type "dict")=pure false:=by rw[Y'];kernel_rfl
section
open AutoSeq1 (wpAny_loadPart')
theorem Dg (l:Addr) (items:Array Value) (n:Nat) (ak:Option Addr) (sl:Array (Option Value)) (hz:items.size<=sizeLine) :
  Meets (Builtin.«reversed.__new__» ⟨[.type "reversed",.ref l],[]⟩) (λ_ R s=>s.heap.get? l=some { cls:=.type "tuple",dict:=ak,data:=.seq items n,slots:=sl } /\
   ∀tk,R (.ok (.ret (.ref s.heap.objs.size))) { s with heap:=s.heap.push { cls:=.type "reversed",data:=.fields #[.ref l,rawInt ((items.size:Int)-1)] },toks:=tk }):=
 .of_wp λprog w A R s h=>by
  obtain⟨hp,g,d,tk,os⟩:=s;obtain⟨hl,h⟩:=h;have hsub:=F.sub_reversed_self;have hL:Heap.IsTuple (Shared.heap ⟨hp,g,d,tk,os⟩) l items:=⟨_,hl,rfl,n,rfl⟩;have f1:=De;have f2:=Df;have f3:=F.slot_tuple_getitem.lookup;have p5:(items.size:Int)<2 ^ 63:=by have:items.size<=16777216:=hz;lia
  unfold Builtin.«reversed.__new__»;refine WY (wpAny_of_eq (newClass_reversed _) ?_);refine WY (wpAny_of_eq (a:=()) (by kernel_rfl) (WY (wpAny_of_eq (a:=()) (by kernel_rfl) ?_)));dsimp only;refine WY (wpAny_specialOf hL.typeIs f1 ?_);dsimp only;refine WY (Y6 (Q:=λb s'=>b=true/\s'=(⟨hp,g,d,tk,os⟩:Shared)) ?slot (λb s' hb=>?rest) λ_ _ x=>x)
  case slot=>
   wp_walk using Xm hl
   exact⟨rfl,rfl⟩
  obtain⟨rfl,rfl⟩:=hb;rw[if_neg (by decide)];refine WY (PyProof.Rows.len_tuple hL p5 ?_)
  wp_walk using Xm hl
  exact⟨_,rfl,h _⟩
end
section
variable {prog:Program}{w:World}{A:Around}{E:Value->Shared->Prop}{s:Shared}
def d9 (h:Heap) (a l:Addr) (i:Int):Prop:=∃o,h.get? a=some o/\o.cls=.type "reversed"/\o.data=.fields #[.ref l,rawInt i]
theorem d9.typeIs {a l:Addr}{i:Int} (x:d9 s.heap a l i):s.TypeIs (.ref a) "reversed":=let ⟨o,ho,hc,_⟩:=x;⟨o,ho,hc⟩
theorem d9.at {h h':Heap}{a l:Addr}{i:Int} (x:d9 h a l i) (e:∀o,h.get? a=some o->h'.get? a=some o):d9 h' a l i:=let ⟨o,ho,r⟩:=x;⟨o,e _ ho,r⟩
theorem Dh {l:Addr}{items:Array Value}{Q:Value->Shared->Prop} (hL:IsTup s.heap l items) (hz:items.size<=sizeLine)
  (h:∀h' tk,d9 h' s.heap.objs.size l ((items.size:Int)-1)->h'.objs.size=s.heap.objs.size+1->(∀b o,s.heap.get? b=some o->h'.get? b=some o)->Q (.ref s.heap.objs.size) { s with heap:=h',toks:=tk }) :
  wpAny (model prog w) A (call (.type "reversed") [.ref l]) Q E s:=by
 obtain⟨⟨c,ak,Tx,sl⟩,hl,hc,n,hd⟩:=hL;replace hc:c=.type "tuple":=hc;replace hd:Tx=.seq items n:=hd;subst hc hd;refine callType_new Dd (by decide) (F.typeCall_reversed_1 _) (F.newCall_reversed_1 _) (λobj=>F.args_object_init_2 obj _) F.entry_reversed_new
  (Dg l items n ak sl hz) ⟨hl,λtk=>?_⟩
 have he:(s.heap.push { cls:=.type "reversed",data:=.fields #[.ref l,rawInt ((items.size:Int)-1)] }).get? s.heap.objs.size=some { cls:=.type "reversed",data:=.fields #[.ref l,rawInt ((items.size:Int)-1)] }:=W5 _ rfl;exact⟨⟨_,he,rfl⟩,h _ tk ⟨_,he,rfl,rfl⟩ (Xx ..) λb o x=>WZ _ x⟩
theorem Di {it l:Addr}{i:Nat}{items:Array Value}{x:Value}{Q:Option Value->Shared->Prop} (hit:d9 s.heap it l (i:Int)) (hl:IsTup s.heap l items) (hz:items.size<=sizeLine) (hx:items[i]?=some x)
  (q:∀h' tk,d9 h' it l ((i:Int)-1)->YM it s.heap h'->Q (some x) { s with heap:=h',toks:=tk }):wpAny (model prog w) A (pyNext (.ref it)) Q E s:=by
 have ty:=hit.typeIs;have hi:i<items.size:=(Array.getElem?_eq_some_iff.mp hx).1;have hz':items.size<=16777216:=hz;obtain⟨ob,h1,h2,h3⟩:=hit;have VC:seqIndex? (i:Int) items.size=some i:=by
  unfold seqIndex?;rw[if_neg (show ¬(i:Int)<0 by lia),if_pos (by rw[W7];exact⟨decide_eq_true (by lia),decide_eq_true (by lia)⟩)];rfl
 unfold pyNext;refine WY (Y1 (Xr (name:=Yy "__next__") ty kG (Xw kG ty vg ?_ (vh _))));unfold Builtin.«reversed.__next__»;refine WY (wpAny_of_eq (a:=(XC it,[])) rfl (WY (XS h1 h3 (x:=.ref l) rfl (WY (XS h1 h3 (x:=rawInt (i:Int)) rfl ?_)))));refine (show wpAny _ _ (if (i:Int)<0 then _ else specialOf (.ref l) "__getitem__" >>= _) _ _ s from ?_)
 rw[if_neg (by lia)];refine WY (wpAny_specialOf hl.typeIs F.slot_tuple_getitem.lookup (show wpAny _ _ (mkInt (i:Int) >>= _) _ _ s from WY (wpAny_mkInt (WY (Y1 (getItem_tuple (j:=i) (x:=x) (show IsTup s.heap l items from hl) (by lia) (by lia) VC hx ?_))))));refine (show wpAny _ _ (field (.ref it) 1 >>= _) _ _ _ from WY (XS (show s.heap.get? it=some ob from h1) h3 (x:=rawInt (i:Int)) rfl (show wpAny _ _ (setField (.ref it) 1 (rawInt ((i:Int)-1)) >>= _) _ _ _ from WY (wpAny_setField (show s.heap.get? it=some ob from h1) h3 (by simp) (W2 ⟨x,rfl,W2 (q _ _ ?_ (Xu ..))⟩)))));refine⟨_,Xz _ h1 (Obj.isFreed_of_fields (Obj.data_mapFields h3 _)),Eq.trans (Obj.cls_mapFields ..) h2,?_⟩;rw[Obj.data_mapFields h3] <;> simp
theorem Dj {it l:Addr}{Q:Option Value->Shared->Prop} (hh:A.handled=none) (hit:d9 s.heap it l (-1))
  (q:∀h' tk,Zb it s.heap h'->Q none { s with heap:=h',toks:=tk }):wpAny (model prog w) A (pyNext (.ref it)) Q E s:=by
 have ty:=hit.typeIs;obtain⟨⟨c,dd,data,sl⟩,h1,h2,h3⟩:=hit;simp only at h2 h3;subst h2 h3;unfold pyNext;refine WY (Y1 (Xr (name:=Yy "__next__") ty kG (Xw kG ty vg ?_ (vh _))));obtain⟨hp,g,d,tk,os⟩:=s
 wp_walk using Xm h1
 unfold raiseNew;refine WY (wpAny_handled ?_);rw[show A.in1.handled=none from hh];refine WY (W2 (wpAny_throw ?_));refine WY (Y0 (T:="StopIteration") (b:=true) ⟨_,W5 _ rfl,rfl⟩ isSubtype_stop (W2 (q _ _ ?_)));exact λb u nb e=>WZ _ (WZ _ ((Xu ..).extBut b u nb ((Xu ..).extBut b u nb e)))
theorem vj {it l:Addr}{i:Int}{Q:Value->Shared->Prop} (hit:d9 s.heap it l i) (h:Q (.ref it) s):wpAny (model prog w) A (pyIter (.ref it)) Q E s:=by
 refine wpAny_pyIter_slot hit.typeIs vi (Xw vi hit.typeIs C9 ?_ (C8 _));show wpAny _ _ (ret (.ref it)) _ _ s;exact W2 ⟨_,rfl,"reversed",_,hit.typeIs,kG.lookup,h⟩
end
end L2
end
section
namespace N
open PySem PySem.Spec PyProof.Rows L2
inductive D where
 |aj |bl (b:Bool) |int (i:Int) |str (x:Str) |ref (a:Addr) |ty (n:String)
 |tup (ds:List D) |lst (ds:List D) |ak (ks:List Key) (ds:List D)
inductive Fo where
 |dat (o:Obj) |pin (o:Obj) |jq (o:Obj) |tab (p:Pos) (q:Str)
abbrev Fz:=Addr->Option Fo
structure Gx where
 P:Program
 w:World
 K:PySem.W.Frag
 mg:Str->Option Value
 base:Heap
 ex:Fz
def Le (F F':Fz):Prop:=∀a f,F a=some f->F' a=some f
theorem Le.rfl {F:Fz}:Le F F:=λ_ _ h=>h
theorem Le.tr {F F1 F2:Fz} (a:Le F F1) (b:Le F1 F2):Le F F2:=λc f h=>b c f (a c f h)
structure Bs (G:Gx) (F:Fz):Prop where
 b:∀b o,G.base.get? b=some o->F b=some (.dat o)
 x:Le G.ex F
theorem Bs.up {G:Gx}{F F':Fz} (h:Bs G F) (l:Le F F'):Bs G F':=⟨λb o e=>l b _ (h.b b o e),h.x.tr l⟩
def cb (F F':Fz):Prop:=∀a o,F a=some (.dat o)->F' a=some (.dat o)
theorem Le.d {F F':Fz} (l:Le F F'):cb F F':=λa o=>l a (.dat o)
section
variable {α:Type}
noncomputable def up (F:Addr->Option α) (a:Addr) (o:α):Addr->Option α:=λb=>if b=a then some o else F b
theorem ao {F:Addr->Option α}{a:Addr}{o:α}:up F a o a=some o:=if_pos rfl
theorem ay {F:Addr->Option α}{a b:Addr}{o:α} (h:b≠a):up F a o b=F b:=if_neg h
noncomputable def rm (F:Addr->Option α) (a:Addr):Addr->Option α:=λb=>if b=a then none else F b
theorem mY {F:Addr->Option α}{a:Addr}:rm F a a=none:=if_pos rfl
theorem p6 {F:Addr->Option α}{a b:Addr} (h:b≠a):rm F a b=F b:=if_neg h
theorem cV {F:Addr->Option α}{a b:Addr}{o:α} (h:F a=some o) (h':F b=none):a≠b:=λe=>by rw[e,h']at h;cases h
end
theorem Le.new {F:Fz}{a:Addr}{f:Fo} (h:F a=none):Le F (up F a f):=λb g e=>by rw[ay (cV e h)];exact e
structure kH (o:Obj) (us:List Value):Prop where
 cls:o.cls=.type "tuple"
 dict:o.dict=none
 data:∃n,o.data=.seq us.toArray n
 len:us.length<=sizeLine
noncomputable def bK (us:List Value) (n:Nat):Obj:={ cls:=.type "list",data:=.seq us.toArray n }
structure kI (G:Gx) (o:Obj) (ks:List Key) (us:List Value):Prop where
 ex:o.ExactDict
 bL:∃es ep,o.data=.dict es ep/\KeysOf (bo G.P G.w) es/\Pairs (bo G.P G.w) es.toList (ks.zip us)
 nd:ks.Nodup
 len:us.length=ks.length
 sz:ks.length<=sizeLine
mutual
def ab (G:Gx) (F:Fz):D->Value->Prop
 |.aj,u=>u=.none
 |.bl b,u=>u=.bool b
 |.int i,u=>∃t,u=.int i t
 |.str x,u=>∃t,u=.str x t
 |.ref a,u=>u=.ref a
 |.ty n,u=>u=.type n
 |.tup ds,u=>∃a o us,u=.ref a/\F a=some (.dat o)/\kH o us/\af G F ds us
 |.lst ds,u=>∃a n us,u=.ref a/\F a=some (.dat (bK us n))/\us.length<=sizeLine/\af G F ds us
 |.ak ks ds,u=>∃a o us,u=.ref a/\F a=some (.dat o)/\kI G o ks us/\(a == sysModules)=false/\af G F ds us
def af (G:Gx) (F:Fz):List D->List Value->Prop
 |[],us=>us=[]
 |d::ds,us=>∃u r,us=u::r/\ab G F d u/\af G F ds r
end
section
variable {G:Gx}{F F':Fz}
theorem af.nil:af G F [] []:=by rw[af]
theorem af.cons {d:D}{ds:List D}{u:Value}{us:List Value} (h:ab G F d u) (t:af G F ds us):af G F (d::ds) (u::us):=by rw[af];exact⟨u,us,rfl,h,t⟩
theorem af.p:∀{ds:List D}{us:List Value},af G F ds us->Paired (ab G F) ds us
 |[],us,h=>by rw[af]at h;subst h;exact .nil
 |d::ds,us,h=>by rw[af]at h;obtain⟨y,ys,rfl,h1,h2⟩:=h;exact .cons h1 h2.p
theorem af.len {ds:List D}{us:List Value} (h:af G F ds us):ds.length=us.length:=h.p.length
mutual
theorem ab.up (l:cb F F'):∀{d:D}{u:Value},ab G F d u->ab G F' d u
 |.aj,u,h=>by rw[ab]at h ⊢;exact h
 |.bl _,u,h=>by rw[ab]at h ⊢;exact h
 |.int _,u,h=>by rw[ab]at h ⊢;exact h
 |.str _,u,h=>by rw[ab]at h ⊢;exact h
 |.ref _,u,h=>by rw[ab]at h ⊢;exact h
 |.ty _,u,h=>by rw[ab]at h ⊢;exact h
 |.tup ds,u,h=>by rw[ab]at h ⊢;obtain⟨a,o,us,e,h1,h2,h3⟩:=h;exact⟨a,o,us,e,l a o h1,h2,h3.up l⟩
 |.lst ds,u,h=>by rw[ab]at h ⊢;obtain⟨a,o,us,e,h1,h2,h3⟩:=h;exact⟨a,o,us,e,l a _ h1,h2,h3.up l⟩
 |.ak ks ds,u,h=>by rw[ab]at h ⊢;obtain⟨a,o,us,e,h1,h2,h4,h3⟩:=h;exact⟨a,o,us,e,l a o h1,h2,h4,h3.up l⟩
theorem af.up (l:cb F F'):∀{ds:List D}{us:List Value},af G F ds us->af G F' ds us
 |[],us,h=>by rw[af]at h ⊢;exact h
 |d::ds,us,h=>by rw[af]at h ⊢;obtain⟨u,r,e,h1,h2⟩:=h;exact⟨u,r,e,h1.up l,h2.up l⟩
end
end
def fX (G:Gx) (F:Fz):Option D->Option Value->Prop
 |some d,some u=>ab G F d u
 |none,none=>True
 |_,_=>False
theorem fX.up {G:Gx}{F F':Fz} (l:cb F F') {d:Option D}{u:Option Value} (h:fX G F d u):fX G F' d u:=by
 cases d with
 |none=>cases u with
  |none=>trivial
  |some u=>exact h
 |some d=>cases u with
  |none=>exact h
  |some u=>exact ab.up l h
def KV {κ:Type} (G:Gx) (F:Fz):List (κ×D)->List (κ×Value)->Prop:=Paired λp q=>p.1=q.1/\ab G F p.2 q.2
theorem Paired.im {α β:Type} {P Q:α->β->Prop} (f:∀a b,P a b->Q a b):∀{l:List α}{m:List β},Paired P l m->Paired Q l m
 |_,_,.nil=>.nil
 |_,_,.cons r t=>.cons (f _ _ r) (Paired.im f t)
theorem KV.up {κ:Type} {G:Gx}{F F':Fz} (l:cb F F') {a:List (κ×D)}{b:List (κ×Value)} (h:KV G F a b):KV G F' a b:=Paired.im (λ_ _ r=>⟨r.1,r.2.up l⟩) h
inductive MO where
 |lst (ds:List D) |ak (kvs:List (Key×D)) |ins (C dx:Addr) (fs:List (Str×D)) |own (x:Addr) |kJ (ps:Array Value)
abbrev Mp:=Addr->Option MO
def ec (G:Gx) (F:Fz) (M:Mp) (h:Heap) (a:Addr):MO->Prop
 |.lst ds=>ds.length<=sizeLine/\∃us n,af G F ds us/\h.get? a=some (bK us n)
 |.ak kvs=>kvs.length<=sizeLine/\(a == sysModules)=false/\∃vs,KV G F kvs vs/\h.DictOf (bo G.P G.w) a vs
 |.ins C dx fs=>M dx=some (.own a)/\fs.length<=1000/\dx≠a/\h.get? a=some (PySem.W.instObj C dx)/\∃mA,h.Ns1 dx mA/\(∀f,fX G F (fs.lookup f) (mA f))/\PySem.Within mA (fs.map (·.1))
 |.own _=>∃o,h.get? a=some o
 |.kJ ps=>h.get? a=some { cls:=.none,data:=.fields ps }
def Fo.At (h:Heap) (a:Addr):Fo->Prop
 |.dat o=>h.get? a=some o
 |.pin o=>h.get? a=some o
 |.jq o=>∃sl,h.get? a=some { o with slots:=sl }
 |.tab _ _=>∃ps,h.get? a=some { cls:=.none,data:=.fields ps }
def eD (o:Obj) (q:Str):Prop:=∃vs t,o.data=.fields vs/\vs[1]?=some (.str q t)
def Dk (F:Fz) (h:Heap) (T:Addr) (p:Pos) (q:Str):Prop:=h.get? T=some { cls:=.none,data:=.fields #[] }\/∃c o,h.get? T=some { cls:=.none,data:=.fields #[rawInt p.line,rawInt p.col,.ref c] }/\F c=some (.dat o)/\eD o q
def mZ (F:Fz) (h:Heap):Prop:=∀T p q,F T=some (.tab p q)->Dk F h T p q
structure aG (G:Gx) (F:Fz) (M:Mp) (h:Heap):Prop where
 fz:∀a f,F a=some f->f.At h a
 ob:∀a o,M a=some o->F a=none/\ec G F M h a o
 tb:mZ F h
section
variable {G:Gx}{F F':Fz}{M M':Mp}{h h':Heap}{a:Addr}{o:MO}{f:Fo}
theorem ec.lt (x:ec G F M h a o):a<h.objs.size:=by
 cases o with
 |lst xs=>obtain⟨_,_,_,_,e⟩:=x;exact Xh e
 |ak kvs=>obtain⟨_,_,_,_,o,_,_,e,_⟩:=x;exact Xh e
 |ins C dx fs=>obtain⟨_,_,_,e,_⟩:=x;exact Xh e
 |own y=>obtain⟨_,e⟩:=x;exact Xh e
 |kJ ps=>exact Xh (show h.get? a=some _ from x)
theorem Fo.At.lt (x:f.At h a):a<h.objs.size:=by
 cases f with
 |dat o=>exact Xh (show h.get? a=some o from x)
 |pin o=>exact Xh (show h.get? a=some o from x)
 |jq o=>obtain⟨_,e⟩:=x;exact Xh e
 |tab p q=>obtain⟨_,e⟩:=x;exact Xh e
def bg (h h':Heap) (b:Addr):Prop:=∀o,h.get? b=some o->h'.get? b=some o
theorem Fo.At.go (x:f.At h a) (k:bg h h' a):f.At h' a:=by
 cases f with
 |dat o=>exact k _ x
 |pin o=>exact k _ x
 |jq o=>obtain⟨sl,e⟩:=x;exact⟨sl,k _ e⟩
 |tab p q=>obtain⟨sl,e⟩:=x;exact⟨sl,k _ e⟩
theorem mZ.go (x:mZ F h) (b:∀T p q,F' T=some (.tab p q)->F T=some (.tab p q)) (l:cb F F') (k:∀T p q,F' T=some (.tab p q)->bg h h' T):mZ F' h':=λT p q e=>by
 rcases x T p q (b T p q e) with y |⟨c,o,h1,h2,h3⟩
 ·exact .inl (k T p q e _ y)
 ·exact .inr ⟨c,o,k T p q e _ h1,l c o h2,h3⟩
theorem ec.go (x:ec G F M h a o) (l:cb F F') (k:∀b,b=a\/M b=some (.own a)->bg h h' b) (ho:∀b,M b=some (.own a)->M' b=some (.own a)):ec G F' M' h' a o:=by
 cases o with
 |lst xs=>obtain⟨z,us,n,r,e⟩:=x;exact⟨z,us,n,r.up l,k a (.inl rfl) _ e⟩
 |ak kvs=>obtain⟨z,y,vs,r,ob,es,ep,e,c⟩:=x;exact⟨z,y,vs,r.up l,ob,es,ep,k a (.inl rfl) _ e,c⟩
 |ins C dx fs=>
  obtain⟨d,z,ne,e,mA,⟨od,es,ep,e2,c⟩,r1,r2⟩:=x;exact⟨ho _ d,z,ne,k a (.inl rfl) _ e,mA,⟨od,es,ep,k dx (.inr d) _ e2,c⟩,λf=>(r1 f).up l,r2⟩
 |own y=>obtain⟨ob,e⟩:=x;exact⟨ob,k a (.inl rfl) _ e⟩
 |kJ ps=>exact k a (.inl rfl) _ x
theorem aG.cA (x:aG G F M h) (e:h.objs.size<=a):F a=none:=by
 cases q:F a with
 |none=>rfl
 |some u=>exact absurd (Xl (x.fz a u q).lt e) (YD _)
theorem aG.c9 (x:aG G F M h) (e:h.objs.size<=a):M a=none:=by
 cases q:M a with
 |none=>rfl
 |some u=>exact absurd (Xl (x.ob a u q).2.lt e) (YD _)
theorem aG.keep (x:aG G F M h) (k:∀b,F b≠none\/M b≠none->bg h h' b):aG G F M h':=
 ⟨λb f e=>(x.fz b f e).go (k b (.inl (by rw[e];exact XH f))),λb o e=>⟨(x.ob b o e).1,(x.ob b o e).2.go Le.rfl.d (λc hc=>k c (.inr (by
  rcases hc with rfl |hc
  ·rw[e];exact XH o
  ·rw[hc];exact XH _))) λ_ q=>q⟩,x.tb.go (λ_ _ _ e=>e) Le.rfl.d λT p q e=>k T (.inl (by rw[e];exact XH _))⟩
theorem aG.kK (x:aG G F M h) (k:∀b,bg h h' b) (hp:h.objs.size<=a) (new:ec G F (up M a o) h' a o):aG G F (up M a o) h':=
 ⟨λb f e=>(x.fz b f e).go (k b),λb u e=>by
  by_cases hb:b=a
  ·subst hb;rw[ao]at e;cases e;exact⟨x.cA hp,new⟩
  ·rw[ay hb]at e;exact⟨(x.ob b u e).1,(x.ob b u e).2.go Le.rfl.d (λc _=>k c) λc q=>by rw[ay (cV q (x.c9 hp))];exact q⟩,x.tb.go (λ_ _ _ e=>e) Le.rfl.d λT _ _ _=>k T⟩
theorem aG.kL (x:aG G F M h) (hF:F a=none) (hM:M a=none) (e:f.At h a) (nt:∀p q,f≠.tab p q:=by intro _ _ h;cases h):aG G (up F a f) M h:=by
 refine⟨λb g q=>?_,λb u q=>⟨by rw[ay (cV q hM)];exact (x.ob b u q).1,(x.ob b u q).2.go (Le.new hF).d (λ_ _ _ e=>e) λ_ e=>e⟩,x.tb.go (λT p q e=>?_) (Le.new hF).d λ_ _ _ _ _ e=>e⟩
 case refine_2=>
  by_cases hb:T=a
  ·subst hb;rw[ao]at e;cases e;exact absurd rfl (nt p q)
  ·rw[ay hb]at e;exact e
 by_cases hb:b=a
 ·subst hb;rw[ao]at q;cases q;exact e
 ·rw[ay hb]at q;exact x.fz b g q
theorem aG.jr (x:aG G F M h) (k:∀b,bg h h' b) (hp:h.objs.size<=a) (new:f.At h' a) (nt:∀p q,f≠.tab p q:=by intro _ _ h;cases h):aG G (up F a f) M h':=(x.keep λb _=>k b).kL (x.cA hp) (x.c9 hp) new nt
noncomputable def MO.mut:MO->Bool
 |.own _=>false
 |.kJ _=>false
 |_=>true
theorem aG.put {x e:Addr}{o':MO} (ok:aG G F M h) (hx:M x=some o) (UE:o.mut=true) (he:e=x\/M e=some (.own x)) (k:∀b,b≠e->bg h h' b) (p7:∃u,h'.get? e=some u) (new:ec G F (up M x o') h' x o'):aG G F (up M x o') h':=by
 have u8:∀c y,M c=some (.own y)->c≠x:=λc y r z=>by rw[z,hx]at r;cases r;cases UE
 have hF:F e=none:=by
  rcases he with rfl |he
  ·exact (ok.ob _ _ hx).1
  ·exact (ok.ob _ _ he).1
 refine⟨λb f q=>(ok.fz b f q).go (k b (cV q hF)),λb u q=>?_,ok.tb.go (λ_ _ _ e=>e) Le.rfl.d λT _ _ q=>k T (cV q hF)⟩;by_cases hb:b=x
 ·subst hb;rw[ao]at q;cases q;exact⟨(ok.ob _ _ hx).1,new⟩
 ·rw[ay hb]at q;refine⟨(ok.ob b u q).1,?_⟩;by_cases m6:b=e
  ·have q':M b=some (.own x):=he.elim (λz=>absurd (m6.trans z) hb) λz=>(by rw[m6];exact z);rw[q]at q';cases q';obtain⟨v,hv⟩:=p7;exact⟨v,by rw[m6];exact hv⟩
  ·refine (ok.ob b u q).2.go Le.rfl.d (λc hc=>k c ?_) λc r=>(by rw[ay (u8 c b r)];exact r);rcases hc with rfl |hc
   ·exact m6
   ·rintro rfl;rcases he with z |z
    ·exact u8 c b hc z
    ·rw[hc]at z;cases z;exact hb rfl
end
noncomputable def aT (F P:Fz):Fz:=λb=>match P b with
 |some f=>some f
 |none=>F b
noncomputable def aN (F P:Fz):Fz:=λb=>match P b with
 |some _=>none
 |none=>F b
section
variable {G:Gx}{F F' P:Fz}{M:Mp}{h h':Heap}{b:Addr}{f:Fo}
theorem dt (e:P b=some f):aT F P b=some f:=by unfold aT;rw[e]
theorem fo (e:P b=none):aT F P b=F b:=by unfold aT;rw[e]
theorem fq (e:P b=some f):aN F P b=none:=by unfold aN;rw[e]
theorem ft (e:P b=none):aN F P b=F b:=by unfold aN;rw[e]
theorem Le.pin (d:∀b,P b≠none->F b=none):Le F (aT F P):=λb f e=>by
 cases q:P b with
 |none=>rw[fo q];exact e
 |some g=>rw[d b (by rw[q];exact XH g)]at e;cases e
theorem Le.aN (d:∀b,P b≠none->F b=none) (l:Le (aT F P) F'):Le F (aN F' P):=λb f e=>by
 cases q:P b with
 |none=>rw[ft q];exact l b f (by rw[fo q];exact e)
 |some g=>rw[d b (by rw[q];exact XH g)]at e;cases e
def m7 (P:Fz):Prop:=∀b o,P b≠some (.dat o)
theorem cb.aN (n:m7 P) (l:Le (aT F P) F'):cb F' (aN F' P):=λb o e=>by
 cases q:P b with
 |none=>rw[ft q];exact e
 |some g=>
  have:=l b g (dt q);rw[e]at this;cases this;exact absurd q (n b o)
theorem aG.pin (x:aG G F M h) (p:∀b f,P b=some f->f.At h b/\M b=none) (d:∀b,P b≠none->F b=none) (nt:∀b p q,P b≠some (.tab p q)):aG G (aT F P) M h:=by
 refine⟨λb f e=>?_,λb o e=>⟨?_,(x.ob b o e).2.go (Le.pin d).d (λ_ _ _ q=>q) λ_ q=>q⟩,x.tb.go (λT a b e=>?_) (Le.pin d).d λ_ _ _ _ _ e=>e⟩
 case refine_3=>
  cases q:P T with
  |none=>rw[fo q]at e;exact e
  |some g=>rw[dt q]at e;cases e;exact absurd q (nt _ _ _)
 ·cases q:P b with
  |none=>rw[fo q]at e;exact x.fz b f e
  |some g=>rw[dt q]at e;cases e;exact (p b _ q).1
 ·rw[fo];exact (x.ob b o e).1;cases q:P b with
  |none=>rfl
  |some g=>have:=(p b _ q).2;rw[e]at this;cases this
theorem aG.aN (x:aG G F' M h) (n:m7 P) (l:Le (aT F P) F'):aG G (aN F' P) M h:=by
 refine⟨λb f e=>?_,λb o e=>⟨?_,(x.ob b o e).2.go (cb.aN n l) (λ_ _ _ q=>q) λ_ q=>q⟩,x.tb.go (λT a b e=>?_) (cb.aN n l) λ_ _ _ _ _ e=>e⟩
 case refine_3=>
  cases q:P T with
  |none=>rw[ft q]at e;exact e
  |some g=>rw[fq q]at e;cases e
 ·cases q:P b with
  |none=>rw[ft q]at e;exact x.fz b f e
  |some g=>rw[fq q]at e;cases e
 ·cases q:P b with
  |none=>rw[ft q];exact (x.ob b o e).1
  |some g=>exact fq q
end
abbrev St:=List (Option D)
structure Z where
 F:Fz
 M:Mp
 s:Shared
structure p8 where
 C:Value
 fs:List (Str×D)
structure Mod (G:Gx):Prop where
 fu:G.K.In G.base
 du:G.base.Ns mainGlobals G.mg
 kM:∃b,G.base.Ns builtinsNs b/\∀x:Str,x≠"__name__"->b x=bootBuiltins x
 js:G.base.NoLimit
structure Cx where
 G:Gx
 A:Around
 N:List Str
 os:OsState
 env:Env
 outer:List Env
 stk:List Env
 fn:Str->Bool
 calm:Bool
 x:p8->St->Mp->Prop
structure Cx.Ok (X:Cx):Prop where
 bp:Mod X.G
 kind:X.env.scope.kind=.function
 du:X.env.globals=mainGlobals
 kM:X.env.builtins=builtinsNs
 inj:∀x y c,X.env.cells.lookup x=some c->X.env.cells.lookup y=some c->x=y
 has:∀x,(X.env.kindOf x=some .cell\/X.env.kindOf x=some .free)->∃c,X.env.cells.lookup x=some c
 hd:X.calm=true->X.A.handled=none
 frames:X.A.frames=some X.stk
 stk:X.stk=X.outer\/(X.stk=X.env::X.outer/\X.env.frame=some X.env.locals)
def jt (G:Gx) (F:Fz) (env:Env):Prop:=env.scope.kind≠.module/\∃L o,env.frame=some L/\F L=some (.jq o)/\G.base.get? L=none/\∀vs,o.data≠.fields vs
structure ae (X:Cx) (τ:St) (z:Z):Prop where
 ok:X.Ok
 bs:Bs X.G z.F
 os:z.s.os=X.os
 bare:AllBare z.s.gens
 cc:∀env∈X.outer,jt X.G z.F env
 loc:∃m,z.s.heap.Ns X.env.locals m/\∀(i:Nat) (x:Str) (d:D),X.N[i]?=some x->τ[i]?=some (some d)->jm X.env.scope x->∃u,ab X.G z.F d u/\jo X.env z.s.heap m x u
 cell:∀x c,X.env.cells.lookup x=some c->(∃v,z.s.heap.IsCell c v)/\z.M c=none/\((X.fn x=true/\z.F c=none)\/(X.fn x=false/\∃o,z.F c=some (.pin o)))
 free:z.F X.env.locals=none/\z.M X.env.locals=none
 hok:aG X.G z.F z.M z.s.heap
 len:τ.length=X.N.length
def vk (G:Gx) (z:Z) (x:p8) (e:Value):Prop:=False
def XE (X:Cx) (e:Value) (s:Shared):Prop:=∃x τ z,z.s=s/\ae X τ z/\vk X.G z x e/\X.x x τ z.M
theorem XE.no {X:Cx}{e:Value}{s:Shared} (h:XE X e s):False:=by obtain⟨_,_,_,_,_,h,_⟩:=h;exact h
def cI (X:Cx) (b:Addr):Prop:=b=X.env.locals\/∃x,X.env.cells.lookup x=some b
def vm (h h':Heap) (b:Addr):Prop:=∀o,h.get? b=some o->∃sl,h'.get? b=some { o with slots:=sl }
theorem bg.s {h h':Heap}{b:Addr} (k:bg h h' b):vm h h' b:=λo e=>⟨o.slots,k o e⟩
section
variable {X:Cx} {τ:St} {z z':Z}{h':Heap}{a b:Addr}
theorem ae.bk (I:ae X τ z):∀b o,X.G.base.get? b=some o->z.s.heap.get? b=some o:=λb o e=>I.hok.fz b _ (I.bs.b b o e)
theorem ae.bT (I:ae X τ z):X.G.K.In z.s.heap:=I.ok.bp.fu.keeps I.bk
theorem ae.dc (I:ae X τ z) (h:cI X b):z.M b=none:=by
 rcases h with rfl |⟨x,h⟩
 ·exact I.free.2
 ·exact (I.cell x b h).2.1
theorem ae.vn (I:ae X τ z) (h:cI X b):∃o,z.s.heap.get? b=some o:=by
 rcases h with rfl |⟨x,h⟩
 ·obtain⟨m,⟨o,_,_,e,_⟩,_⟩:=I.loc;exact⟨o,e⟩
 ·obtain⟨⟨v,o,e,_⟩,_⟩:=I.cell x b h;exact⟨o,e⟩
theorem ae.fY (I:ae X τ z) (h:cI X b):b<z.s.heap.objs.size:=let ⟨_,e⟩:=I.vn h;Xh e
theorem ae.ju (I:ae X τ z) {x:Str}{c:Addr} (e:X.env.cells.lookup x=some c):c≠X.env.locals:=λq=>by
 obtain⟨⟨v,o,ho,hd⟩,_⟩:=I.cell x c e;obtain⟨m,⟨o',es,ep,Db,hd',_⟩,_⟩:=I.loc;rw[q,Db]at ho;cases ho;rw[hd']at hd;cases hd
theorem jt.go {G:Gx}{F F':Fz}{env:Env} (l:Le F F') (h:jt G F env):jt G F' env:=by
 obtain⟨h1,L,o,h2,h3,h4⟩:=h;exact⟨h1,L,o,h2,l L _ h3,h4⟩
theorem ae.go (I:ae X τ z) (l:Le z.F z'.F) (ok:aG X.G z'.F z'.M z'.s.heap) (own:∀b,cI X b->vm z.s.heap z'.s.heap b/\z'.M b=none/\z'.F b=z.F b) (os:z'.s.os=z.s.os) (bare:AllBare z'.s.gens):ae X τ z':=by
 have hL:=own X.env.locals (.inl rfl);have vo:∀x c v,X.env.cells.lookup x=some c->z.s.heap.IsCell c v->z'.s.heap.IsCell c v:=λx c v e h=>by
  obtain⟨o,ho,hd⟩:=h;obtain⟨sl,q⟩:=(own c (.inr ⟨x,e⟩)).1 o ho;exact⟨_,q,hd⟩
 refine⟨I.ok,I.bs.up l,os.trans I.os,bare,λenv he=>(I.cc env he).go l,?_,λx c e=>?_,⟨hL.2.2.trans I.free.1,hL.2.1⟩,ok,I.len⟩
 ·obtain⟨m,⟨o,es,ep,ho,r⟩,hl⟩:=I.loc;obtain⟨sl,q⟩:=hL.1 o ho;refine⟨m,⟨_,es,ep,q,r⟩,λi x d e1 e2 e3=>?_⟩;obtain⟨u,r,k⟩:=hl i x d e1 e2 e3;refine⟨u,r.up l.d,?_⟩;rcases k with k |⟨k,c,e,y⟩
  ·exact .inl k
  ·exact .inr ⟨k,c,e,vo x c _ e y⟩
 ·obtain⟨⟨v,h1⟩,_,h3⟩:=I.cell x c e;have h:=own c (.inr ⟨x,e⟩);exact⟨⟨v,vo x c v e h1⟩,h.2.1,by rw[h.2.2];exact h3⟩
theorem ae.bP (I:ae X τ z) {t:Nat} (k:∀b,bg z.s.heap h' b):ae X τ ⟨z.F,z.M,{ z.s with heap:=h',toks:=t }⟩:=
 I.go Le.rfl (I.hok.keep λb _=>k b) (λb hb=>⟨(k b).s,I.dc hb,rfl⟩) rfl I.bare
theorem ae.m8 (I:ae X τ z) (t:Nat):ae X τ ⟨z.F,z.M,{ z.s with toks:=t }⟩:=I.bP (h':=z.s.heap) λ_ _ e=>e
theorem ae.kK (I:ae X τ z) {o:MO}{t:Nat} (k:∀b,bg z.s.heap h' b) (hp:z.s.heap.objs.size<=a) (new:ec X.G z.F (up z.M a o) h' a o):ae X τ ⟨z.F,up z.M a o,{ z.s with heap:=h',toks:=t }⟩:=
 I.go Le.rfl (I.hok.kK k hp new) (λb hb=>⟨(k b).s,(ay (Xi (Xl (I.fY hb) hp))).trans (I.dc hb),rfl⟩) rfl I.bare
theorem ae.jr (I:ae X τ z) {f:Fo}{t:Nat} (k:∀b,bg z.s.heap h' b) (hp:z.s.heap.objs.size<=a) (new:f.At h' a) (nt:∀p q,f≠.tab p q:=by intro _ _ h;cases h):ae X τ ⟨up z.F a f,z.M,{ z.s with heap:=h',toks:=t }⟩:=
 I.go (Le.new (I.hok.cA hp)) (I.hok.jr k hp new nt) (λb hb=>⟨(k b).s,I.dc hb,ay (Xi (Xl (I.fY hb) hp))⟩) rfl I.bare
theorem ae.put (I:ae X τ z) {x e:Addr}{o o':MO}{t:Nat} (hx:z.M x=some o) (UE:o.mut=true) (he:e=x\/z.M e=some (.own x)) (k:∀ b,b≠e->bg z.s.heap h' b) (p7:∃ u,h'.get? e=some u) (new:ec X.G z.F (up z.M x o') h' x o') :
  ae X τ ⟨z.F,up z.M x o',{ z.s with heap:=h',toks:=t }⟩:=by
 have ne:∀b,cI X b->b≠x:=λb hb q=>by have:=I.dc hb;rw[q,hx]at this;cases this
 have Dl:∀b,cI X b->b≠e:=λb hb q=>by
  rcases he with r |r
  ·exact ne b hb (q.trans r)
  ·have:=I.dc hb;rw[q,r]at this;cases this
 exact I.go Le.rfl (I.hok.put hx UE he k p7 new) (λb hb=>⟨(k b (Dl b hb)).s,(ay (ne b hb)).trans (I.dc hb),rfl⟩) rfl I.bare
theorem ae.b0 (I:ae X τ z) {t:Nat} (k:∀b,b≠a->bg z.s.heap h' b) (hF:z.F a=none) (hM:z.M a=none) (VD:¬cI X a):ae X τ ⟨z.F,z.M,{ z.s with heap:=h',toks:=t }⟩:=
 I.go Le.rfl (I.hok.keep λb hb=>k b (by rintro rfl;rcases hb with h |h;exact h hF;exact h hM)) (λb hb=>⟨(k b (by rintro rfl;exact VD hb)).s,I.dc hb,rfl⟩) rfl I.bare
theorem ae.Dm {τ':St} (I:ae X τ z) (hl:τ'.length=τ.length) (w:∀(i:Nat) d,τ'[i]?=some (some d)->τ[i]?=some (some d)):ae X τ' z:=
 ⟨I.ok,I.bs,I.os,I.bare,I.cc,let ⟨m,hn,Dn⟩:=I.loc;⟨m,hn,λi x v e1 e2 e3=>Dn i x v e1 (w i v e2) e3⟩,I.cell,I.free,I.hok,hl.trans I.len⟩
theorem af.get {G:Gx}{F:Fz}:∀{ds:List D}{us:List Value}{i:Nat}{d:D},af G F ds us->ds[i]?=some d->∃u,us[i]?=some u/\ab G F d u
 |[],us,i,d,h,e=>by simp at e
 |d'::ds,us,0,d,h,e=>by rw[af]at h;obtain⟨u,r,rfl,h1,_⟩:=h;cases e;exact⟨u,rfl,h1⟩
 |d'::ds,us,i+1,d,h,e=>by rw[af]at h;obtain⟨u,r,rfl,_,h2⟩:=h;exact af.get (i:=i) h2 e
end
open Classical in
noncomputable def Cx.aS (X:Cx) (h:Heap):Fz:=λb=>if b=X.env.locals then (h.get? b).map Fo.jq else if ∃x,X.fn x=true/\X.env.cells.lookup x=some b then (h.get? b).map Fo.pin else none
structure dQ (G:Gx) (A:Around) (outer:List Env) (z:Z):Prop where
 frames:A.frames=some outer
 bp:Mod G
 bs:Bs G z.F
 cc:∀env∈outer,jt G z.F env
 hok:aG G z.F z.M z.s.heap
 bare:AllBare z.s.gens
section
variable {X:Cx} {τ:St} {z z':Z}{b:Addr}{f:Fo}
theorem Cx.p9 {h:Heap}:m7 (X.aS h):=λb o e=>by
 unfold Cx.aS at e;split at e
 ·cases q:h.get? b <;> rw[q]at e <;> cases e
 ·split at e
  ·cases q:h.get? b <;> rw[q]at e <;> cases e
  ·cases e
theorem Cx.Dp {h:Heap} (b:Addr) (p:Pos) (q:Str):X.aS h b≠some (.tab p q):=λe=>by
 unfold Cx.aS at e;split at e
 ·cases q:h.get? b <;> rw[q]at e <;> cases e
 ·split at e
  ·cases q:h.get? b <;> rw[q]at e <;> cases e
  ·cases e
theorem ae.fZ (I:ae X τ z) {h:Heap} (e:X.aS h b≠none):cI X b/\z.F b=none:=by
 unfold Cx.aS at e;split at e
 ·rename_i q;exact⟨.inl q,q ▸ I.free.1⟩
 ·split at e
  ·rename_i q;obtain⟨x,h1,h2⟩:=q;refine⟨.inr ⟨x,h2⟩,?_⟩;rcases (I.cell x b h2).2.2 with r |r
   ·exact r.2
   ·rw[h1]at r;cases r.1
  ·exact absurd rfl e
theorem vp {h:Heap} (e:X.aS h b=some f):f.At h b:=by
 unfold Cx.aS at e;split at e
 ·cases q:h.get? b with
  |none=>rw[q]at e;cases e
  |some o=>rw[q]at e;cases e;exact⟨o.slots,q⟩
 ·split at e
  ·cases q:h.get? b with
   |none=>rw[q]at e;cases e
   |some o=>rw[q]at e;cases e;exact q
  ·cases e
theorem ae.m9 (I:ae X τ z):aG X.G (aT z.F (X.aS z.s.heap)) z.M z.s.heap:=
 I.hok.pin (λb f e=>⟨vp e,I.dc (I.fZ (h:=z.s.heap) (by rw[e];exact XH f)).1⟩) (λb e=>(I.fZ e).2) X.Dp
theorem ae.cB (I:ae X τ z):Le z.F (aT z.F (X.aS z.s.heap)):=Le.pin λb e=>(I.fZ e).2
theorem ae.vq (I:ae X τ z):∃o es ep,z.s.heap.get? X.env.locals=some o/\o.data=.dict es ep/\X.aS z.s.heap X.env.locals=some (.jq o):=by
 obtain⟨m,⟨o,es,ep,ho,hd,_⟩,_⟩:=I.loc;refine⟨o,es,ep,ho,hd,?_⟩;unfold Cx.aS;rw[if_pos rfl,ho];rfl
theorem ae.qc (I:ae X τ z):dQ X.G X.A X.stk ⟨aT z.F (X.aS z.s.heap),z.M,z.s⟩:=by
 refine⟨I.ok.frames,I.ok.bp,I.bs.up I.cB,λenv he=>?_,I.m9,I.bare⟩;rcases I.ok.stk with e |⟨e,hf⟩
 ·rw[e]at he;exact (I.cc env he).go I.cB
 ·rw[e]at he;rcases List.mem_cons.mp he with rfl |he
  ·obtain⟨o,es,ep,ho,hd,hp⟩:=I.vq;refine⟨by rw[I.ok.kind];decide,_,o,hf,dt hp,?_,λvs q=>by rw[hd]at q;cases q⟩;cases q:X.G.base.get? X.env.locals with
   |none=>rfl
   |some ob=>have:=I.bs.b _ _ q;rw[I.free.1]at this;cases this
  ·exact (I.cc env he).go I.cB
theorem ae.after (I:ae X τ z) (l:Le (aT z.F (X.aS z.s.heap)) z'.F) (ok:aG X.G z'.F z'.M z'.s.heap) (os:z'.s.os=z.s.os) (bare:AllBare z'.s.gens):ae X τ ⟨aN z'.F (X.aS z.s.heap),z'.M,z'.s⟩:=by
 refine I.go (Le.aN (λb e=>(I.fZ e).2) l) (ok.aN X.p9 l) (λb hb=>?_) os bare;cases q:X.aS z.s.heap b with
 |some g=>
  have h1:=l b g (dt q);refine⟨λo e=>?_,?_,?_⟩
  ·have h2:=ok.fz b g h1;have h3:=vp q;unfold Cx.aS at q;rw[e]at q;split at q
   ·cases q;exact h2
   ·split at q
    ·cases q;exact⟨o.slots,h2⟩
    ·cases q
  ·cases r:z'.M b with
   |none=>rfl
   |some o=>have:=(ok.ob b o r).1;rw[h1]at this;cases this
  ·show aN z'.F _ b=_;rw[fq q,(I.fZ (h:=z.s.heap) (by rw[q];exact XH g)).2]
 |none=>
  -- a cell of kt Sm Sn
  rcases hb with rfl |⟨x,hx⟩
  ·obtain⟨o,_,_,_,_,hp⟩:=I.vq;rw[q]at hp;cases hp
  ·rcases (I.cell x b hx).2.2 with ⟨r,_⟩ |⟨r,o,hF⟩
   ·exfalso;obtain⟨o,ho⟩:=I.vn (.inr ⟨x,hx⟩:cI X b);unfold Cx.aS at q;rw[if_neg (I.ju hx),if_pos ⟨x,r,hx⟩,ho]at q;cases q
   ·have h1:=l b _ (by rw[fo q];exact hF);refine⟨λo' e=>?_,?_,?_⟩
    ·have h2:z'.s.heap.get? b=some o:=ok.fz b _ h1;have h3:z.s.heap.get? b=some o:=I.hok.fz b _ hF;rw[e]at h3;cases h3;exact⟨_,h2⟩
    ·cases r':z'.M b with
     |none=>rfl
     |some o'=>have:=(ok.ob b o' r').1;rw[h1]at this;cases this
    ·show aN z'.F _ b=_;rw[ft q,h1,hF]
end
abbrev W (X:Cx) {α:Type} (t:Sem α) (R:α->Shared->Prop) (s:Shared):Prop:=wpAny (model X.G.P X.G.w) X.A t R (XE X) s
abbrev QK:=D->Mp->Prop
abbrev DE:=St->Mp->QK->Prop
abbrev DT:=St->Mp->(Bool->Mp->Prop)->Prop
abbrev DA:=St->Mp->(List D->Mp->Prop)->Prop
abbrev Q1:=D->Mp->QK->Prop
abbrev Q2:=D->D->Mp->QK->Prop
abbrev QN:=List D->Mp->QK->Prop
structure En where
 nx:St->Mp->Prop
 rt:QK
 bk:St->Mp->Prop:=λ_ _=>False
 ct:St->Mp->Prop:=λ_ _=>False
abbrev DS:=En->St->Mp->Prop
abbrev KE (X:Cx) (τ:St) (F:Fz) (Q:QK) (R:Value->Shared->Prop):Prop:=∀d z u,Le F z.F->ae X τ z->ab X.G z.F d u->Q d z.M->R u z.s
abbrev KT (X:Cx) (τ:St) (F:Fz) (Q:Bool->Mp->Prop) (R:Bool->Shared->Prop):Prop:=∀b z,Le F z.F->ae X τ z->Q b z.M->R b z.s
abbrev KA (X:Cx) (τ:St) (F:Fz) (Q:List D->Mp->Prop) (R:List Value->Shared->Prop):Prop:=∀ds z us,Le F z.F->ae X τ z->af X.G z.F ds us->Q ds z.M->R us z.s
structure KS (X:Cx) (F:Fz) (e:En) (R:Flow->Shared->Prop):Prop where
 nx:∀ τ z,Le F z.F->ae X τ z->e.nx τ z.M->R .next z.s
 rt:∀d τ z u,Le F z.F->ae X τ z->ab X.G z.F d u->e.rt d z.M->R (.ret u) z.s
 bk:∀ τ z,Le F z.F->ae X τ z->e.bk τ z.M->R .brk z.s
 ct:∀ τ z,Le F z.F->ae X τ z->e.ct τ z.M->R .cont z.s
theorem KS.up {X:Cx}{F F':Fz}{e:En}{R:Flow->Shared->Prop} (k:KS X F e R) (l:Le F F'):KS X F' e R:=
 ⟨fun τ z l1=>k.nx τ z (l.tr l1),λd τ z u l1=>k.rt d τ z u (l.tr l1),fun τ z l1=>k.bk τ z (l.tr l1),fun τ z l1=>k.ct τ z (l.tr l1)⟩
def PE (X:Cx) (e:Expr) (t:DE):Prop:=∀ τ z Q R,ae X τ z->t τ z.M Q->KE X τ z.F Q R->W X (eval e X.env) R z.s
def PT (X:Cx) (e:Expr) (t:DT):Prop:=∀ τ z Q R,ae X τ z->t τ z.M Q->KT X τ z.F Q R->W X (isTrue e X.env (eval e X.env)) R z.s
def PW (X:Cx) (e:Expr) (t:DT):Prop:=∀(ie:Sem Value) τ z Q R,ae X τ z->t τ z.M Q->KT X τ z.F Q R->W X (isTrue e X.env ie) R z.s
def PA (X:Cx) (es:List Expr) (t:DA):Prop:=∀(pos:Pos) τ z Q R,ae X τ z->t τ z.M Q->KA X τ z.F Q R->W X (spliced (backTo pos (starEach es X.env))) R z.s
def PS (X:Cx) (st:Stmt) (t:DS):Prop:=∀ τ z e R,ae X τ z->t e τ z.M->KS X z.F e R->W X (exec st X.env) R z.s
def ed (X:Cx) (st:List Stmt) (t:DS):Prop:=∀ τ z e R,ae X τ z->t e τ z.M->KS X z.F e R->W X (execs st X.env) R z.s
def O1 (X:Cx) (f:Value->Sem Value) (r:Q1):Prop:=∀ τ z Q R d v,ae X τ z->ab X.G z.F d v->r d z.M Q->KE X τ z.F Q R->W X (f v) R z.s
def O2 (X:Cx) (f:Value->Value->Sem Value) (r:Q2):Prop:=∀ τ z Q R d e v u,ae X τ z->ab X.G z.F d v->ab X.G z.F e u->r d e z.M Q->KE X τ z.F Q R->W X (f v u) R z.s
def ON (X:Cx) (f:List Value->Sem Value) (r:QN):Prop:=∀ τ z Q R ds us,ae X τ z->af X.G z.F ds us->r ds z.M Q->KE X τ z.F Q R->W X (f us) R z.s
def eE (i:Nat):DE:=fun τ M q=>match τ[i]? with
 |some (some d)=>q d M
 |_=>False
def kO (d:D) (k:Bool->Prop):Prop:=match d with
 |.bl b=>k b
 |_=>False
def b3 (d:D) (k:Int->Prop):Prop:=match d with
 |.int i=>k i
 |_=>False
def nc (r:Q2) (ta tb:DE):DE:=fun τ M q=>ta τ M λx M1=>tb τ M1 λy M2=>r x y M2 q
def jv (r:Q1) (ta:DE):DE:=fun τ M q=>ta τ M λx M1=>r x M1 q
def eF:DA:=λ_ M q=>q [] M
def fv (ta:DE) (tr:DA):DA:=fun τ M q=>ta τ M λx M1=>tr τ M1 λxs M2=>q (x::xs) M2
def vr (t:DA):DE:=fun τ M q=>t τ M λds M1=>ds.length<=sizeLine/\q (.tup ds) M1
def bQ (ds:List D) (M:Mp) (q:QK):Prop:=q (.lst ds) M\/∀p,M p=none->q (.ref p) (up M p (.lst ds))
def vt (t:DA):DE:=fun τ M q=>t τ M λds M1=>ds.length<=sizeLine/\bQ ds M1 q
def vv (ta tb:DE):DE:=fun τ M q=>ta τ M λx M1=>kO x λc=>if c=true then tb τ M1 q else q (.bl false) M1
def vw (ta tb:DE):DE:=fun τ M q=>ta τ M λx M1=>kO x λc=>if c=true then q (.bl true) M1 else tb τ M1 q
def vx (ta:DE):DE:=fun τ M q=>ta τ M λx M1=>kO x λc=>q (.bl (!c)) M1
def vy (t u:DT):DT:=fun τ M q=>t τ M λc M1=>if c=true then u τ M1 q else q false M1
def vz (t u:DT):DT:=fun τ M q=>t τ M λc M1=>if c=true then q true M1 else u τ M1 q
def vA (t:DT):DT:=fun τ M q=>t τ M λc M1=>q (!c) M1
def vB (t:DT) (ta tb:DE):DE:=fun τ M q=>t τ M λc M1=>if c=true then ta τ M1 q else tb τ M1 q
def qe (t u:DS):DS:=λe τ M=>t { e with nx:=u e } τ M
def ng (te:DE):DS:=λe τ M=>te τ M λ_ M1=>e.nx τ M1
def vC (te:DE):DS:=λe τ M=>te τ M e.rt
def vD (t:DT) (a b:DS):DS:=λe τ M=>t τ M λc M1=>if c=true then a e τ M1 else b e τ M1
section
variable {X:Cx} {τ:St} {z:Z}
theorem ae.vE {τ':St} {m:Str->Option Value}{e:Addr}{h':Heap}{t:Nat} (I:ae X τ z) (he:e=X.env.locals\/∃ x,X.env.cells.lookup x=some e/\z.F e=none) (hs:YM e z.s.heap h') (hn:h'.Ns X.env.locals m)
  (hl:∀(i:Nat) (x:Str) (d:D),X.N[i]?=some x->τ'[i]?=some (some d)->jm X.env.scope x->∃u,ab X.G z.F d u/\jo X.env h' m x u) (hc:∀x,X.env.cells.lookup x=some e->∃v,h'.IsCell e v) (len:τ'.length=τ.length) :
  ae X τ' ⟨z.F,z.M,{ z.s with heap:=h',toks:=t }⟩:=by
 have hF:z.F e=none/\z.M e=none:=by
  rcases he with rfl |⟨x,h1,h2⟩
  ·exact I.free
  ·exact⟨h2,(I.cell x e h1).2.1⟩
 refine⟨I.ok,I.bs,I.os,I.bare,I.cc,⟨m,hn,hl⟩,λx c q=>⟨?_,(I.cell x c q).2⟩,I.free,I.hok.keep λb hb o q=>(hs.2 b ?_).trans q,len.trans I.len⟩
 ·by_cases h:c=e
  ·rw[h];exact hc x (h ▸ q)
  ·obtain⟨⟨v,k⟩,_⟩:=I.cell x c q;exact⟨v,k.sameBut hs h⟩
 ·rintro rfl;rcases hb with h |h;exact h hF.1;exact h hF.2
theorem nh {M:Model}{A:Around}{E:Value->Shared->Prop}{i:Nat}{x:Str}{d:D}{u:Value}{Q:Unit->Shared->Prop} (I:ae X τ z) (hN:X.N.Nodup) (hi:X.N[i]?=some x) (hx:ib X.env.scope x) (hf:X.fn x=true\/X.env.scope.names.lookup x=some .local) (r:ab X.G z.F d u)
  (h:∀s',ae X (τ.set i (some d)) ⟨z.F,z.M,s'⟩->Q () s'):wpAny M A (storeName X.env x u) Q E z.s:=by
 obtain⟨m,hn,hl⟩:=id I.loc;have Dq:(X.env.scope.kind == .class ||(X.env.scope.kind == .module && X.env.locals != X.env.globals))=false:=by rw[I.ok.kind];rfl
 have hiσ:i < τ.length:=by rw[I.len];exact (List.getElem?_eq_some_iff.mp hi).1
 have loc:∀ {h':Heap}{m':Str->Option Value}{e:Addr},YM e z.s.heap h'->jo X.env h' m' x u->(∀ y w,y≠x->jo X.env z.s.heap m y w->jo X.env h' m' y w) ->
   ∀(j:Nat) (y:Str) (d':D),X.N[j]?=some y->(τ.set i (some d))[j]?=some (some d')->jm X.env.scope y->∃u,ab X.G z.F d' u/\jo X.env h' m' y u:=λhs h1 h2 j y d' e1 e2 e3=>by
  by_cases hj:j=i
  ·subst hj;rw[hi]at e1;cases e1;rw[List.getElem?_set_self hiσ]at e2;cases e2;exact⟨u,r,h1⟩
  ·rw[List.getElem?_set_ne (Ys hj)]at e2;obtain⟨w,r',q⟩:=hl j y d' e1 e2 e3;exact⟨w,r',h2 y w (λe=>hj (C4 hN e1 (e ▸ hi))) q⟩
 rcases hx with hk |hk
 ·refine wpAny_storeName_local hk hn (λh' qf hs=>h _ (I.vE (.inl rfl) hs qf (loc hs (.inl ⟨hk,if_pos rfl⟩) λy w ne q=>?_) (λy hy=>absurd rfl (I.ju hy)) (List.length_set ..))) Dq;rcases q with ⟨k,e⟩ |⟨k,c,e,q⟩
  ·exact .inl ⟨k,(if_neg ne).trans e⟩
  ·exact .inr ⟨k,c,e,q.sameBut hs (I.ju e)⟩
 ·have qg:X.fn x=true:=hf.elim id λe=>by rw[e]at hk;cases hk
  obtain⟨c,hc⟩:=I.ok.has x (.inl hk);obtain⟨⟨Wv,q⟩,_,hF⟩:=I.cell x c hc;refine wpAny_storeName_cell I.ok.kind hk hc q λh' f6 hs=>h _ (I.vE (.inr ⟨x,hc,hF.elim (·.2) λq=>by rw[qg]at q;cases q.1⟩) hs (hn.sameBut hs (Ys (I.ju hc))) (loc hs (.inr ⟨.inl hk,c,hc,f6⟩) λy w ne q=>?_) (λ_ _=>⟨_,f6⟩) (List.length_set ..));rcases q with q |⟨k,c',e,q⟩
  ·exact .inl q
  ·exact .inr ⟨k,c',e,q.sameBut hs λe'=>ne (I.ok.inj _ _ _ (e' ▸ e) hc)⟩
end
section
variable {X:Cx}{a b c:Expr}{ta tb:DE}{tA tB:DT}{pos:Pos}{rest:List Expr}
theorem Dr {i:Nat}{x:Str} (hN:X.N[i]?=some x) (hv:jm X.env.scope x) (hd:(x == ("__debug__" : Str))=false) (dv:(x == ("__classdict__" : Str))=false):PE X (.Name x pos) (eE i):=by
 intro τ z Q R I h k;unfold eE at h;split at h
 ·rename_i d e;obtain⟨m,hn,hl⟩:=I.loc;obtain⟨u,r,l⟩:=hl i x d hN e hv;have fin:=k d z u Le.rfl I r h;rcases l with ⟨hk,hm⟩ |⟨hk,c,hc,ni⟩
  ·exact wpAny_Name (wpAny_loadName_local I.ok.kind hk hn hm fin) hd
  ·rcases hk with hk |hk
   ·exact wpAny_Name (wpAny_loadName_cell I.ok.kind hk hc ni fin) hd
   ·exact wpAny_Name (wpAny_loadName_free I.ok.kind hk hc ni fin dv) hd
 ·exact h.elim
def Tw (d:D):DE:=λ_ M q=>q d M
theorem kP {G:Gx}{F:Fz}{b:Bool}:ab G F (.bl b) (.bool b):=by rw[ab]
theorem b5 {G:Gx}{F:Fz}{i:Int}{t:Tok}:ab G F (.int i) (.int i t):=by rw[ab];exact⟨t,rfl⟩
theorem gD {G:Gx}{F:Fz}{x:Str}{t:Tok}:ab G F (.str x) (.str x t):=by rw[ab];exact⟨t,rfl⟩
theorem qh {G:Gx}{F:Fz}{a:Addr}:ab G F (.ref a) (.ref a):=by rw[ab]
theorem Dt {G:Gx}{F:Fz}:ab G F .aj .none:=by rw[ab]
theorem ae.fin {τ:St} {z:Z}{F:Fz}{Q:QK}{R:Value->Shared->Prop}{d:D}{u:Value} (I:ae X τ z) (k:KE X τ F Q R) (l:Le F z.F) (r:ab X.G z.F d u) (q:Q d z.M) (t:Nat):R u { z.s with toks:=t }:=k d ⟨z.F,z.M,{ z.s with toks:=t }⟩ u l (I.m8 t) r q
theorem vF {i j}:PE X (.Constant (.int i) j pos) (Tw (.int i)):=fun τ z Q R I h k=>wpAny_Constant_int (I.fin k Le.rfl b5 h _)
theorem Du {b j}:PE X (.Constant (.bool b) j pos) (Tw (.bl b)):=fun τ z Q R I h k=>Constant_bool (k (.bl b) z _ Le.rfl I kP h)
theorem Dv {j}:PE X (.Constant .none j pos) (Tw .aj):=fun τ z Q R I h k=>Constant_none (k .aj z _ Le.rfl I Dt h)
theorem Dw {x j}:PE X (.Constant (.str x) j pos) (Tw (.str x)):=fun τ z Q R I h k=>Calls.Constant_str (I.fin k Le.rfl gD h _)
def Gl (X:Cx) (x:Str):Prop:=X.env.kindOf x=some .globalImplicit
theorem ij {E:Value->Shared->Prop} {τ:St} {z:Z}{x:Str}{u:Value}{Q:Value->Shared->Prop} (I:ae X τ z) (hg:Gl X x) (hm:X.G.mg x=some u) (hd:(x == ("__debug__" : Str))=false) (h:Q u z.s):wpAny (model X.G.P X.G.w) X.A (eval (.Name x pos) X.env) Q E z.s:=
 Calls.Name_function_global I.ok.kind hg (Calls.loadGlobal_global (by rw[I.ok.du];exact I.ok.bp.du.keeps I.bk) hm h) hd
theorem eG {E:Value->Shared->Prop} {τ:St} {z:Z}{x:Str}{u:Value}{Q:Value->Shared->Prop} (I:ae X τ z) (hg:Gl X x) (hm:X.G.mg x=none) (hv:bootBuiltins x=some u) (hn:x≠"__name__") (hd:(x == ("__debug__" : Str))=false) (h:Q u z.s):wpAny (model X.G.P X.G.w) X.A (eval (.Name x pos) X.env) Q E z.s:=by
 obtain⟨mb,h1,h2⟩:=I.ok.bp.kM;exact Calls.Name_function_global I.ok.kind hg (Calls.loadGlobal_builtin (by rw[I.ok.du];exact I.ok.bp.du.keeps I.bk) hm (by rw[I.ok.kM];exact h1.keeps I.bk) ((h2 x hn).trans hv) h) hd
theorem Dx {x:Str}{d:D}{u:Value} (hg:Gl X x) (hm:X.G.mg x=some u) (hd:(x == ("__debug__" : Str))=false) (r:∀ τ z,ae X τ z->ab X.G z.F d u):PE X (.Name x pos) (Tw d):=
 fun τ z Q R I h k=>ij I hg hm hd (k d z u Le.rfl I (r τ z I) h)
theorem Dy {o:Operator}{r:Q2} (ho:O2 X (binaryOp o) r) (ha:PE X a ta) (hb:PE X b tb):PE X (.BinOp a o b pos) (nc r ta tb):=fun τ z Q R I h k=>
 wpAny_BinOp (ha τ z _ _ I h λx z1 v l1 I1 r1 q1=>hb τ z1 _ _ I1 q1 λy z2 u l2 I2 r2 q2=>ho τ z2 Q _ x y v u I2 (r1.up l2.d) r2 q2 λd z3 w l3=>k d z3 w (l1.tr (l2.tr l3)))
theorem Dz (ha:PT X a tA):PW X (.BoolOp .And [a] pos) tA:=λwh τ z Q R I h k=>isTrue_and (ha τ z _ _ I h λb z1 l1 I1 q1=>by
 cases b with
 |true=>exact isTrue_and_nil (k true z1 l1 I1 q1)
 |false=>exact k false z1 l1 I1 q1)
theorem DB (ha:PT X a tA):PW X (.BoolOp .Or [a] pos) tA:=λwh τ z Q R I h k=>isTrue_or (ha τ z _ _ I h λb z1 l1 I1 q1=>by
 cases b with
 |true=>exact k true z1 l1 I1 q1
 |false=>exact isTrue_or_nil (k false z1 l1 I1 q1))
theorem DC (ha:PT X a tA) (hb:PW X (.BoolOp .And (b::rest) pos) tB):PW X (.BoolOp .And (a::b::rest) pos) (vy tA tB):=λwh τ z Q R I h k=>isTrue_and (ha τ z _ _ I h λb z1 l1 I1 q1=>by
 cases b with
 |true=>exact hb wh τ z1 Q R I1 q1 λb z2 l2=>k b z2 (l1.tr l2)
 |false=>exact k false z1 l1 I1 q1)
theorem DD (ha:PT X a tA) (hb:PW X (.BoolOp .Or (b::rest) pos) tB):PW X (.BoolOp .Or (a::b::rest) pos) (vz tA tB):=λwh τ z Q R I h k=>isTrue_or (ha τ z _ _ I h λb z1 l1 I1 q1=>by
 cases b with
 |true=>exact k true z1 l1 I1 q1
 |false=>exact hb wh τ z1 Q R I1 q1 λb z2 l2=>k b z2 (l1.tr l2))
theorem DH (ha:PT X a tA):PT X (.UnaryOp .Not a pos) (vA tA):=fun τ z Q R I h k=>isTrue_not (ha τ z _ _ I h λb z1 l1 I1 q1=>k (!b) z1 l1 I1 q1)
theorem vG {op} (h:PE X a ta):PE X (.BoolOp op [a] pos) ta:=fun τ z Q R I q k=>BoolOp_one (h τ z Q R I q k)
theorem qi {d:D}{k:Bool->Prop}{G:Gx}{F:Fz}{u:Value} (h:kO d k) (r:ab G F d u):∃b,u=.bool b/\k b:=by
 unfold kO at h;split at h
 ·rw[ab]at r;exact⟨_,r,h⟩
 ·exact h.elim
theorem DJ (ha:PE X a ta) (hb:PE X (.BoolOp .And (b::rest) pos) tb):PE X (.BoolOp .And (a::b::rest) pos) (vv ta tb):=fun τ z Q R I h k=>BoolOp_and (ha τ z _ _ I h λx z1 v l1 I1 r1 q1=>by
 obtain⟨c,rfl,q1⟩:=qi q1 r1;refine YW ?_;cases c with
 |true=>exact hb τ z1 Q R I1 q1 λd z2 u l2=>k d z2 u (l1.tr l2)
 |false=>exact k (.bl false) z1 _ l1 I1 kP q1)
theorem DL (ha:PE X a ta) (hb:PE X (.BoolOp .Or (b::rest) pos) tb):PE X (.BoolOp .Or (a::b::rest) pos) (vw ta tb):=fun τ z Q R I h k=>BoolOp_or (ha τ z _ _ I h λx z1 v l1 I1 r1 q1=>by
 obtain⟨c,rfl,q1⟩:=qi q1 r1;refine YW ?_;cases c with
 |false=>exact hb τ z1 Q R I1 q1 λd z2 u l2=>k d z2 u (l1.tr l2)
 |true=>exact k (.bl true) z1 _ l1 I1 kP q1)
theorem DM (ha:PE X a ta):PE X (.UnaryOp .Not a pos) (vx ta):=fun τ z Q R I h k=>UnaryOp_ (ha τ z _ _ I h λx z1 v l1 I1 r1 q1=>by
 obtain⟨c,rfl,q1⟩:=qi q1 r1;exact not_of (YW (k (.bl (!c)) z1 _ l1 I1 kP q1)))
theorem DN (hc:PT X c tA) (ha:PE X a ta) (hb:PE X b tb):PE X (.IfExp c a b pos) (vB tA ta tb):=fun τ z Q R I h k=>wpAny_IfExp (hc τ z _ _ I h λd z1 l1 I1 q1=>by
 cases d with
 |true=>exact ha τ z1 Q R I1 q1 λd z2 u l2=>k d z2 u (l1.tr l2)
 |false=>exact hb τ z1 Q R I1 q1 λd z2 u l2=>k d z2 u (l1.tr l2))
theorem qj:PA X [] eF:=λ_ τ z Q R I h k=>Y2 (k [] z [] Le.rfl I .nil h)
theorem qk {es:List Expr}{t:DA} (ha:PE X a ta) (hr:PA X es t) (hs:starEach (a::es) X.env=(false,eval a X.env)::starEach es X.env):PA X (a::es) (fv ta t):=by
 intro pos τ z Q R I h k;rw[hs];show W X (spliced ((false,eval a X.env)::backTo pos (starEach es X.env))) R z.s;exact Yu (ha τ z _ _ I h λx z1 v l1 I1 r1 q1=>hr pos τ z1 _ _ I1 q1 λxs z2 us l2 I2 r2 q2=>k (x::xs) z2 (v::us) (l1.tr l2) I2 (.cons (r1.up l2.d) r2) q2)
theorem nj {G:Gx}{F:Fz}{ds:List D}{us:List Value}{a:Addr}{o:Obj} (h:F a=some (.dat o)) (t:kH o us) (r:af G F ds us):ab G F (.tup ds) (.ref a):=by rw[ab];exact⟨a,o,us,rfl,h,t,r⟩
theorem nk {G:Gx}{F:Fz}{ds:List D}{us:List Value}{a:Addr}{n:Nat} (h:F a=some (.dat (bK us n))) (t:us.length<=sizeLine) (r:af G F ds us):ab G F (.lst ds) (.ref a):=by rw[ab];exact⟨a,n,us,rfl,h,t,r⟩
theorem ae.tup {τ:St} {z:Z}{ds:List D}{us:List Value}{h':Heap}{a:Addr}{o:Obj}{t:Nat}{Q:QK}{R:Value->Shared->Prop}{F:Fz} (I:ae X τ z) (k:KE X τ F Q R) (l:Le F z.F) (r:af X.G z.F ds us) (kp:∀b,bg z.s.heap h' b) (hp:z.s.heap.objs.size<=a) (ho:h'.get? a=some o) (to:kH o us) (q:Q (.tup ds) z.M):R (.ref a) { z.s with heap:=h',toks:=t }:=
 have l1:Le z.F (up z.F a (.dat o)):=Le.new (I.hok.cA hp)
 k (.tup ds) _ _ (l.tr l1) (I.jr (t:=t) (f:=.dat o) kp hp ho) (nj ao to (r.up l1.d)) q
theorem ae.lst {τ:St} {z:Z}{ds:List D}{us:List Value}{h':Heap}{a:Addr}{n t:Nat}{Q:QK}{R:Value->Shared->Prop}{F:Fz} (I:ae X τ z) (k:KE X τ F Q R) (l:Le F z.F) (r:af X.G z.F ds us) (kp:∀b,bg z.s.heap h' b) (hp:z.s.heap.objs.size<=a) (ho:h'.get? a=some (bK us n)) (hz:us.length<=sizeLine) (q:bQ ds z.M Q):R (.ref a) { z.s with heap:=h',toks:=t }:=by
 rcases q with q |q
 ·have l1:Le z.F (up z.F a (.dat (bK us n))):=Le.new (I.hok.cA hp);exact k (.lst ds) _ _ (l.tr l1) (I.jr (t:=t) (f:=.dat (bK us n)) kp hp ho) (nk ao hz (r.up l1.d)) q
 ·exact k (.ref a) ⟨z.F,_,_⟩ _ l (I.kK (t:=t) (o:=.lst ds) kp hp ⟨by rw[r.len];exact hz,us,n,r,ho⟩) qh (q a (I.hok.c9 hp))
theorem DP {es:List Expr}{t:DA} {x1} (h:PA X es t):PE X (.Tuple es x1 pos) (vr t):=fun τ z Q R I hq k=>wpAny_Tuple_spliced (h pos τ z _ _ I hq λds z1 us l1 I1 r1 q1=>by
 have hz:us.length<=sizeLine:=by rw[<- r1.len];exact q1.1
 exact⟨hz,I1.tup (t:=z1.s.toks) k l1 r1 (λb o e=>WZ _ e) (W3 _) (W5 _ rfl) ⟨rfl,rfl,⟨_,rfl⟩,hz⟩ q1.2⟩)
theorem DQ {es:List Expr}{t:DA} (h:PA X es t):PE X (.List es pos) (vt t):=fun τ z Q R I hq k=>wpAny_List_spliced (h pos τ z _ _ I hq λds z1 us l1 I1 r1 q1=>by
 have hz:us.length<=sizeLine:=by rw[<- r1.len];exact q1.1
 exact⟨hz,I1.lst (t:=z1.s.toks) (n:=0) k l1 r1 (λb o e=>WZ _ e) (W3 _) (W5 _ rfl) hz q1.2⟩)
variable {st:Stmt}{vH:List Stmt}{t u:DS}
theorem DR:ed X [] (λe τ M=>e.nx τ M):=fun τ z e R I h k=>wpAny_execs_nil (k.nx τ z Le.rfl I h)
theorem DU (h1:PS X st t) (h2:ed X vH u):ed X (st::vH) (qe t u):=fun τ z e R I h k=>wpAny_execs_cons (h1 τ z { e with nx:=u e } _ I h
 ⟨fun τ1 z1 l1 I1 q=>h2 τ1 z1 e R I1 q (k.up l1),k.rt,k.bk,k.ct⟩)
theorem vJ (h1:PS X st t):ed X [st] t:=fun τ z e R I h k=>wpAny_execs_cons (h1 τ z e _ I h ⟨fun τ1 z1 l1 I1 q=>wpAny_execs_nil (k.nx τ1 z1 l1 I1 q),k.rt,k.bk,k.ct⟩)
theorem DV:PS X (.Pass pos) (λe τ M=>e.nx τ M):=fun τ z e R I h k=>wpAny_Pass (k.nx τ z Le.rfl I h)
theorem DW:PS X (.Break pos) (λe τ M=>e.bk τ M):=fun τ z e R I h k=>wpAny_Break (k.bk τ z Le.rfl I h)
theorem DX:PS X (.Continue pos) (λe τ M=>e.ct τ M):=fun τ z e R I h k=>wpAny_Continue (k.ct τ z Le.rfl I h)
theorem ae.DY {τ:St} {z:Z} (I:ae X τ z):interactive X.env=false:=by simp [interactive,I.ok.kind]
theorem DZ (he:PE X a ta) (hs:swapsWith a none pos.line X.env=pure false):PS X (.Expr a pos) (ng ta):=fun τ z e R I h k=>wpAny_Expr_any (he τ z _ _ I h λd z1 u l1 I1 r1 q1=>k.nx τ z1 l1 I1 q1) I.DY hs
theorem D0 (he:PE X a ta):PS X (.Return (some a) pos) (vC ta):=fun τ z e R I h k=>wpAny_Return_some (he τ z _ _ I h λd z1 u l1 I1 r1 q1=>k.rt d τ z1 u l1 I1 r1 q1)
theorem D1 {xs ys:List Stmt} (hc:PT X c tA) (ha:ed X xs t) (hb:ed X ys u):PS X (.If c xs ys pos) (vD tA t u):=fun τ z e R I h k=>wpAny_If (hc τ z _ _ I h λd z1 l1 I1 q1=>by
 cases d with
 |true=>exact ha τ z1 e R I1 q1 (k.up l1)
 |false=>exact hb τ z1 e R I1 q1 (k.up l1))
theorem dR:PS X st (λ_ _ _=>False):=λ_ _ _ _ _ h _=>h.elim
theorem kQ:PE X a (λ_ _ _=>False):=λ_ _ _ _ _ h _=>h.elim
theorem ql:PT X a (λ_ _ _=>False):=λ_ _ _ _ _ h _=>h.elim
theorem vK:PW X a (λ_ _ _=>False):=λ_ _ _ _ _ _ h _=>h.elim
end
end N
end
section
set_option maxHeartbeats 1000000
namespace N
open PySem PySem.Spec PyProof.Rows L2
def a9 (d:D) (M:Mp) (k:List D->Prop):Prop:=match d with
 |.lst ds=>k ds
 |.ref a=>∃ds,M a=some (.lst ds)/\k ds
 |_=>False
def dw (d:D) (M:Mp) (k:List D->Prop):Prop:=match d with
 |.tup ds=>k ds
 |d=>a9 d M k
structure eH (G:Gx) (F:Fz) (h:Heap) (a:Addr) (ds:List D) (us:List Value) (n:Nat):Prop where
 e:h.get? a=some (bK us n)
 r:af G F ds us
 z:us.length<=sizeLine
structure qm (G:Gx) (F:Fz) (h:Heap) (a:Addr) (ds:List D) (us:List Value) (o:Obj):Prop where
 e:h.get? a=some o
 t:kH o us
 r:af G F ds us
section
variable {X:Cx} {τ:St} {z:Z}{d:D}{u:Value}{a:Addr}
theorem eH.p {G:Gx}{F:Fz}{h:Heap}{ds:List D}{us:List Value}{n:Nat} (l:eH G F h a ds us n):PlainL h a us.toArray:=⟨_,n,l.e,rfl,rfl,rfl⟩
theorem qm.p {G:Gx}{F:Fz}{h:Heap}{ds:List D}{us:List Value}{o:Obj} (l:qm G F h a ds us o):IsTup h a us.toArray:=⟨o,l.e,l.t.cls,l.t.data⟩
theorem ae.eI (I:ae X τ z) {ds:List D} (h:z.M a=some (.lst ds)):∃us n,eH X.G z.F z.s.heap a ds us n:=by
 obtain⟨_,h1,us,n,r,e⟩:=I.hok.ob a _ h;exact⟨us,n,e,r,by rw[<- r.len];exact h1⟩
theorem ae.f7 (I:ae X τ z) {ds:List D} (r:ab X.G z.F (.lst ds) u):∃a us n,u=.ref a/\eH X.G z.F z.s.heap a ds us n:=by
 rw[ab]at r;obtain⟨a,n,us,e,h1,h2,h3⟩:=r;exact⟨a,us,n,e,I.hok.fz a _ h1,h3,h2⟩
theorem ae.cW (I:ae X τ z) {ds:List D} (r:ab X.G z.F (.tup ds) u):∃a us o,u=.ref a/\qm X.G z.F z.s.heap a ds us o:=by
 rw[ab]at r;obtain⟨a,o,us,e,h1,h2,h3⟩:=r;exact⟨a,us,o,e,I.hok.fz a _ h1,h2,h3⟩
theorem ae.a9 {k:List D->Prop} (I:ae X τ z) (r:ab X.G z.F d u) (h:a9 d z.M k):∃a ds us n,u=.ref a/\eH X.G z.F z.s.heap a ds us n/\k ds:=by
 unfold N.a9 at h;split at h
 ·obtain⟨a,us,n,e,l⟩:=I.f7 r;exact⟨a,_,us,n,e,l,h⟩
 ·rw[ab]at r;obtain⟨ds,h1,h2⟩:=h;obtain⟨us,n,l⟩:=I.eI h1;exact⟨_,ds,us,n,r,l,h2⟩
 ·exact h.elim
end
abbrev DG:=D->St->Mp->(St->Mp->Prop)->Prop
def PG (X:Cx) (tg:Expr) (t:DG):Prop:=∀ τ z d u Q R,ae X τ z->ab X.G z.F d u->t d τ z.M Q->(∀ τ' z',Le z.F z'.F->ae X τ' z'->Q τ' z'.M->R () z'.s)->W X (assign tg X.env u) R z.s
inductive G where
 |one (i:Nat)
 |many (is:List Nat)
noncomputable def fx:List Nat->List D->St->St
 |i::is,d::ds,τ=>fx is ds (τ.set i (some d))
 |_,_,τ=>τ
def cq:G->DG
 |.one i=>λd τ M k=>k (τ.set i (some d)) M
 |.many is=>λd τ M k=>dw d M λds=>ds.length=is.length/\k (fx is ds τ) M
structure ik (X:Cx) (is:List Nat) (xs:List Str):Prop where
 nd:X.N.Nodup
 ok:∀i x,(i,x)∈is.zip xs->X.N[i]?=some x/\ib X.env.scope x/\(X.fn x=true\/X.env.scope.names.lookup x=some .local)
section
variable {X:Cx}{pos:Pos}
theorem vL {i:Nat}{x:Str} (h:ik X [i] [x]):PG X (.Name x pos) (cq (.one i)):=fun τ z d u Q R I r q k=>
 have o:=h.ok i x (List.mem_singleton.mpr rfl)
 wpAny_assign_Name (nh I h.nd o.1 o.2.1 o.2.2 r λs' I'=>k _ ⟨z.F,z.M,s'⟩ Le.rfl I' q)
theorem D2 {env:Env}{x:Str}{p:Pos}{es:List Expr}:(assignEach (.Name x p::es) env).map (·.2)=assign (.Name x p) env::(assignEach es env).map (·.2):=rfl
theorem D3:∀ (is:List Nat) (es:List (Str×Pos)) (ds:List D) {τ:St} {z:Z}{us:List Value}{R:Unit->Shared->Prop},ik X is (es.map (·.1))->is.length=es.length->ds.length=is.length->ae X τ z->af X.G z.F ds us->(∀ s',ae X (fx is ds τ) ⟨z.F,z.M,s'⟩->R () s') ->
  W X (assignInOrder ((assignEach (es.map λp=>.Name p.1 p.2) X.env).map (·.2)) us) R z.s:=by
 intro is
 induction is with
 |nil=>
  intro es ds τ z us R h hl hd I r k;cases es with
  |cons _ _=>cases hl
  |nil=>cases ds with
   |cons _ _=>cases hd
   |nil=>rw[af]at r;subst r;exact assignInOrder_nil (k z.s I)
 |cons i is ih=>
  intro es ds τ z us R h hl hd I r k;cases es with
  |nil=>cases hl
  |cons p es=>cases ds with
   |nil=>cases hd
   |cons d ds=>
    rw[af]at r;obtain⟨u,us,rfl,r1,r2⟩:=r;have o:=h.ok i p.1 W';rw[Xe,D2];exact assignInOrder_cons (wpAny_assign_Name (nh I h.nd o.1 o.2.1 o.2.2 r1 λs' I'=>ih es ds (z:=⟨z.F,z.M,s'⟩) ⟨h.nd,λj y hj=>h.ok j y (W8 _ hj)⟩ (Zl hl) (Zl hd) I' r2 k))
theorem vM {env:Env}:∀(es:List (Str×Pos)),(assignEach (es.map λp=>Expr.Name p.1 p.2) env).length=es.length/\(assignEach (es.map λp=>Expr.Name p.1 p.2) env).findIdx? (·.1)=none
 |[]=>⟨rfl,rfl⟩
 |p::es=>by
  obtain⟨h1,h2⟩:=vM (env:=env) es;refine⟨congrArg (·+1) h1,?_⟩;show List.findIdx? _ ((false,_)::assignEach (es.map λp=>Expr.Name p.1 p.2) env)=none;rw[List.findIdx?_cons,h2];rfl
theorem D4 {is:List Nat}{es:List (Str×Pos)}{k:Nat} (hc:X.calm=true) (h:ik X is (es.map (·.1))) (hl:is.length=es.length):PG X (.Tuple (es.map λp=>.Name p.1 p.2) k pos) (cq (.many is)):=by
 intro τ z d u Q R I r q kk;obtain⟨e1,e2⟩:=vM (env:=X.env) es;have fin:∀ (ds:List D) (us:List Value),af X.G z.F ds us->ds.length=is.length->Q (fx is ds τ) z.M->∀ h',(∀ b o,b≠z.s.heap.objs.size->z.s.heap.get? b=some o->h'.get? b=some o) ->
   W X (assignInOrder ((assignEach (es.map λp=>.Name p.1 p.2) X.env).map (·.2)) us) R { z.s with heap:=h' }:=λds us r hd q h' ext=>
  D3 is es ds (z:=⟨z.F,z.M,{ z.s with heap:=h',toks:=z.s.toks }⟩) h hl hd (I.bP λb o e=>ext b o (Xi (Xh e)) e) r λs' I'=>kk _ ⟨z.F,z.M,s'⟩ Le.rfl I' q
 have lst:∀{d:D}{p:List D->Prop},ab X.G z.F d u->a9 d z.M p->(∀ds,p ds->ds.length=is.length/\Q (fx is ds τ) z.M)->W X (assign (.Tuple (es.map λp=>.Name p.1 p.2) k pos) X.env u) R z.s:=λr q hk=>by
  obtain⟨a,ds,us,n,rfl,l,q⟩:=I.a9 r q;obtain⟨hd,q⟩:=hk ds q;have len:us.toArray.size=es.length:=by rw[W4,<- l.r.len,hd,hl]
  rw[assign_Tuple];refine WY (wpAny_standAt ?_);unfold unpack;rw[e1,e2,<- len];exact WY (XU (PySem.W.kun_itemsOf (I.ok.hd hc) l.p.isList λh' ext=>fin ds us l.r hd q h' ext))
 unfold cq dw at q;cases d with
 |tup ds=>
  obtain⟨a,us,o,rfl,l⟩:=I.cW r;exact assign_Tuple_tuple (I.ok.hd hc) l.p (by rw[e1,W4,<- l.r.len,q.1,hl]) e2 λh' hx=>fin ds us l.r q.1 q.2 h' hx
 |lst ds=>exact lst r q λ_ h=>h
 |ref a=>exact lst r q λ_ h=>h
 |_=>exact q.elim
abbrev QS:=D->D->D->Mp->(Mp->Prop)->Prop
def OS (X:Cx) (r:QS):Prop:=∀ τ z o i d ov iv u Q R,ae X τ z->ab X.G z.F o ov->ab X.G z.F i iv->ab X.G z.F d u->r o i d z.M Q->(∀z',Le z.F z'.F->ae X τ z'->Q z'.M->R () z'.s)->W X (setItem ov iv u) R z.s
def qn (r:QS) (to ti:DE):DG:=λd τ M Q=>to τ M λo M1=>ti τ M1 λi M2=>r o i d M2 λM3=>Q τ M3
theorem D5 {o i : Expr} {to ti : DE} {r : QS} (ho : PE X o to) (hi : PE X i ti) (hs : OS X r) (ha : ∀ v, assign (.Subscript o i pos) X.env v = (do
      let ov <- holding [v] (eval o X.env)
      let iv <- holding [v,ov] (eval i X.env)
      standAt pos
      holding [v,ov,iv] (setItem ov iv v)
      release [v,ov,iv] [])):PG X (.Subscript o i pos) (qn r to ti):=by
  intro τ z d u Q R I rd q k;rw[ha];exact WY (XU (ho τ z _ _ I q λx z1 v l1 I1 r1 q1=>WY (XU (hi τ z1 _ _ I1 q1 λy z2 w l2 I2 r2 q2=>WY (wpAny_standAt (WY (XU
    (hs τ z2 x y d v w u _ _ I2 (r1.up l2.d) r2 (rd.up (l1.tr l2).d) q2 λz3 l3 I3 q3=>wpAny_release (k τ z3 (l1.tr (l2.tr l3)) I3 q3)))))))))
def kR (te:DE) (g:DG):DS:=λe τ M=>te τ M λd M1=>g d τ M1 e.nx
theorem vO {tg e:Expr}{te:DE}{g:DG} (he:PE X e te) (hg:PG X tg g) (hs:swapsWithSole [tg] e pos.line X.env=pure false) (hw:swappedStores [tg] e X.env=pure none) (h1:(assignEach [tg] X.env).map (·.2)=[assign tg X.env]):PS X (.Assign [tg] e pos) (kR te g):=fun τ z e R I h k=>
 wpAny_Assign_stores (he τ z _ _ I h λd z1 u l1 I1 r1 q1=>by
  rw[h1];exact hg τ z1 d u _ _ I1 r1 q1 fun τ' z' l2 I2 q2=>k.nx τ' z' (l1.tr l2) I2 q2) hs hw
theorem vP {i:Nat}{x:Str}{e:Expr}{te:DE}{p:Pos} (h:ik X [i] [x]) (he:PE X e te) (hs:swapsWith e (some (.Name x p)) pos.line X.env=pure false):PS X (.Assign [.Name x p] e pos) (kR te (cq (.one i))):=fun τ z e R I q k=>
 have o:=h.ok i x (List.mem_singleton.mpr rfl)
 wpAny_Assign_Name (he τ z _ _ I q λd z1 u l1 I1 r1 q1=>nh I1 h.nd o.1 o.2.1 o.2.2 r1 λs' I'=>k.nx _ ⟨z1.F,z1.M,s'⟩ l1 I' q1) hs
def il (t:DT) (tb:DS) (e:En):Nat->St->Mp->Prop
 | 0,_,_=>False
 |n+1,τ,M=>t τ M λc M1=>if c=true then tb { e with nx:=il t tb e n,ct:=il t tb e n,bk:=e.nx } τ M1 else e.nx τ M1
def vQ (t:DT) (tb:DS):DS:=λe τ M=>∃n,il t tb e n τ M
theorem ip:PassesOwn (model X.G.P X.G.w) X.A X.env (XE X):=by
 have:XE X=λ_ _=>False:=funext λe=>funext λs=>propext ⟨XE.no,False.elim⟩;rw[this];exact PassesOwn.never
theorem D6 {c:Expr}{body:List Stmt}{tc:DT}{tb:DS} (hc:PT X c tc) (hb:ed X body tb):PS X (.While c body [] pos) (vQ tc tb):=by
 intro τ z e R I h k;obtain⟨n,h⟩:=h;refine wpAny_While (codeAny_whileLoop (λn s'=>∃ τ' z',Le z.F z'.F/\ae X τ' z'/\il tc tb e n τ' z'.M/\z'.s=s') ?_ n ⟨τ,z,Le.rfl,I,h,rfl⟩);rintro n s1 ⟨τ1,z1,l1,I1,w1,rfl⟩;cases n with
 |zero=>exact w1.elim
 |succ n=>
  refine Zi ip (hc τ1 z1 _ _ I1 w1 λb z2 l2 I2 q2=>?_);cases b with
  |true=>
   rw[if_pos rfl];exact Zi ip (hb τ1 z2 _ _ I2 q2 ⟨fun τ3 z3 l3 I3 q3=>⟨n,YJ n,τ3,z3,l1.tr (l2.tr l3),I3,q3,rfl⟩,λd τ3 z3 u l3=>k.rt d τ3 z3 u (l1.tr (l2.tr l3)),fun τ3 z3 l3=>k.nx τ3 z3 (l1.tr (l2.tr l3)),fun τ3 z3 l3 I3 q3=>⟨n,YJ n,τ3,z3,l1.tr (l2.tr l3),I3,q3,rfl⟩⟩)
  |false=>
   rw[if_neg XJ];exact wpAny_execs_nil (k.nx τ1 z2 (l1.tr l2) I2 q2)
end
end N
end
section
set_option maxHeartbeats 1000000
namespace N
open PySem PySem.Spec PyProof.Rows L2
structure Fp (X:Cx) (z:Z) (b:Addr):Prop where
 f:z.F b=none
 m:z.M b=none
 o:¬cI X b
inductive nu (X:Cx) (τ:St) (z:Z) (d:D) (u:Value) (fp:List Addr) (tn:Nat->Heap->Prop) (i:Nat) (s:Shared):Prop
 |mk {F:Fz} (l:Le z.F F) (I:ae X τ ⟨F,z.M,s⟩) (r:ab X.G F d u) (t:tn i s.heap) (n:∀b∈fp,F b=none)
structure f9 (G:Gx) (tg:Expr) (xs:List D) (ok:Mp->Prop) (F0:Fz) (fp:List Addr) (it:Addr) (tn:Nat->Heap->Prop):Prop where
 obj:∀i h,tn i h->∀b∈fp,∃o,h.get? b=some o
 keep:∀i h h',tn i h->(∀b∈fp,bg h h' b)->tn i h'
 item:∀(X:Cx),X.G=G->X.calm=true->∀i τ z d E,ae X τ z->Le F0 z.F->(∀b∈fp,Fp X z b)->tn i z.s.heap->ok z.M->xs[i]?=some d ->
  wpAny (model G.P G.w) X.A (pyNext (.ref it)) (λr s1=>∃u,r=some u/\wpAny (model G.P G.w) X.A (letOwnedTupleGo tg (.ref it) u) (λ_ s2=>nu X τ z d u fp tn (i+1) s2) E s1) E z.s
 done:∀(X:Cx),X.G=G->X.calm=true->∀i τ z E,ae X τ z->Le F0 z.F->(∀b∈fp,Fp X z b)->tn i z.s.heap->ok z.M->xs.length<=i->wpAny (model G.P G.w) X.A (pyNext (.ref it)) (λr s1=>r=none/\ae X τ ⟨z.F,z.M,s1⟩) E z.s
 self:∀(A:Around) i (s:Shared) (Q E:Value->Shared->Prop),tn i s.heap->Q (.ref it) s->wpAny (model G.P G.w) A (pyIter (.ref it)) Q E s
inductive qo (X:Cx) (tg:Expr) (xs:List D) (ok:Mp->Prop) (z:Z) (it:Addr):Prop
 |mk {fp:List Addr}{tn:Nat->Heap->Prop} (T:f9 X.G tg xs ok z.F fp it tn) (t:tn 0 z.s.heap) (f:∀b∈fp,Fp X z b)
abbrev DI:=St->Mp->(List D->(Mp->Prop)->Mp->Prop)->Prop
abbrev KI (X:Cx) (τ:St) (tg:Expr) (F:Fz) (k:List D->(Mp->Prop)->Mp->Prop) (R:Value->Shared->Prop):Prop:=∀xs ok z it,Le F z.F->ae X τ z->qo X tg xs ok z it->k xs ok z.M->R (.ref it) z.s
def PI (X:Cx) (tg iter:Expr) (t:DI):Prop:=∀ τ z k R,ae X τ z->t τ z.M k->KI X τ tg z.F k R->W X (eval iter X.env) (λv s1=>W X (pyIter v) R s1) z.s
open Classical in
noncomputable def aQ (fp:List Addr) (h:Heap):Fz:=λb=>if b∈fp then (h.get? b).map Fo.pin else none
section
variable {X:Cx} {τ τ':St} {z z':Z}{fp:List Addr}{h h':Heap}{b a:Addr}
theorem jw:m7 (aQ fp h):=λb o e=>by
 unfold aQ at e;split at e
 ·cases q:h.get? b <;> rw[q]at e <;> cases e
 ·cases e
theorem ny {f:Fo} (e:aQ fp h b=some f):b∈fp/\∃o,h.get? b=some o/\f=.pin o:=by
 unfold aQ at e;split at e
 ·rename_i hb;cases q:h.get? b with
  |none=>rw[q]at e;cases e
  |some o=>rw[q]at e;cases e;exact⟨hb,o,rfl,rfl⟩
 ·cases e
theorem gE {o:Obj} (hb:b∈fp) (e:h.get? b=some o):aQ fp h b=some (.pin o):=by unfold aQ;rw[if_pos hb,e];rfl
theorem kT (hb:b ∉ fp):aQ fp h b=none:=if_neg hb
theorem ae.kU (I:ae X τ z) (hf:∀b∈fp,Fp X z b):Le z.F (aT z.F (aQ fp z.s.heap))/\ae X τ ⟨aT z.F (aQ fp z.s.heap),z.M,z.s⟩:=by
 have Tz:∀b,aQ fp z.s.heap b≠none->z.F b=none:=λb e=>by
  cases q:aQ fp z.s.heap b with
  |none=>exact absurd q e
  |some f=>exact (hf b (ny q).1).f
 refine⟨Le.pin Tz,I.go (Le.pin Tz) (I.hok.pin (λb f e=>?_) Tz λb p q e=>by obtain⟨_,_,_,z⟩:=ny e;cases z) (λb hb=>⟨bg.s λ_ e=>e,I.dc hb,fo (kT λm=>(hf b m).o hb)⟩) rfl I.bare⟩;obtain⟨hb,o,h1,rfl⟩:=ny e;exact⟨h1,(hf b hb).m⟩
theorem ae.jx (I:ae X τ' z') {F:Fz} (hf:∀ b∈fp,F b=none/\¬cI X b) (l:Le (aT F (aQ fp h)) z'.F) (bs:Bs X.G F) (of:∀ env∈X.outer,jt X.G F env) :
  Le F (aN z'.F (aQ fp h))/\ae X τ' ⟨aN z'.F (aQ fp h),z'.M,z'.s⟩:=by
 have Tz:∀b,aQ fp h b≠none->F b=none:=λb e=>by
  cases q:aQ fp h b with
  |none=>exact absurd q e
  |some f=>exact (hf b (ny q).1).1
 have UG:=Le.aN Tz l;have ld:=cb.aN (jw (fp:=fp) (h:=h)) l;have own:∀b,cI X b->aN z'.F (aQ fp h) b=z'.F b:=λb hb=>ft (kT λm=>(hf b m).2 hb);refine⟨UG,⟨I.ok,bs.up UG,I.os,I.bare,λenv he=>(of env he).go UG,?_,λx c e=>?_,⟨(own _ (.inl rfl)).trans I.free.1,I.free.2⟩,I.hok.aN jw l,I.len⟩⟩
 ·obtain⟨m,h1,h2⟩:=I.loc;exact⟨m,h1,λi x d e1 e2 e3=>let ⟨u,r,k⟩:=h2 i x d e1 e2 e3;⟨u,r.up ld,k⟩⟩
 ·obtain⟨h1,h2,h3⟩:=I.cell x c e;exact⟨h1,h2,by show (_/\aN _ _ c=none)\/_/\∃o,aN _ _ c=_;rw[own c (.inr ⟨x,e⟩)];exact h3⟩
theorem ae.jy (I:ae X τ z) (hb:z.s.heap.objs.size<=b) {s':Shared}:Fp X ⟨z.F,z.M,s'⟩ b:=⟨I.hok.cA hb,I.hok.c9 hb,λo=>absurd (Xl (I.fY o) hb) (YD _)⟩
def gF (ok:Mp->Prop) (g:DG) (tb:DS) (e:En):List D->St->Mp->Prop
 |[],τ,M=>ok M/\e.nx τ M
 |x::xs,τ,M=>ok M/\g x τ M fun τ1 M1=>tb { e with nx:=gF ok g tb e xs,ct:=gF ok g tb e xs,bk:=e.nx } τ1 M1
def qp (ti:DI) (g:DG) (tb:DS):DS:=λe τ M=>ti τ M λxs ok M1=>gF ok g tb e xs τ M1
theorem D7 {tg iter:Expr}{body:List Stmt}{ti:DI}{g:DG}{tb:DS}{pos:Pos} (hc:X.calm=true) (hi:PI X tg iter ti) (hg:PG X tg g) (hb:ed X body tb) (hs:∀x,foldedSetIterable iter X.env x=pure x):PS X (.For tg iter body [] pos) (qp ti g tb):=by
 intro τ z e R I h k;refine wpAny_For (hi τ z _ _ I h λxs ok z1 it l1 I1 hit h1=>?_) hs;obtain⟨T,t0,f0⟩:=hit;rename_i fp tn;refine codeAny_forLoop_any (λn s'=>∃i τ' z',Le z1.F z'.F/\ae X τ' z'/\tn i z'.s.heap/\(∀b∈fp,Fp X z' b)/\gF ok g tb e (xs.drop i) τ' z'.M/\n+i=xs.length/\z'.s=s') ?_ xs.length ⟨0,τ,z1,Le.rfl,I1,t0,f0,h1,rfl,rfl⟩;rintro n s3 ⟨i,τ3,z3,l3,I3,t3,f3,w3,hn,rfl⟩;cases hx:xs[i]? with
 |none=>
  have hl:xs.length<=i:=List.getElem?_eq_none_iff.mp hx;rw[List.drop_of_length_le hl]at w3;refine Zi ip (Y6 (T.done X rfl hc i τ3 z3 (XE X) I3 l3 f3 t3 w3.1 hl) (λr s4 h4=>?_) λ_ _ q=>q);obtain⟨rfl,I4⟩:=h4;exact wpAny_execs_nil (k.nx τ3 ⟨z3.F,z3.M,s4⟩ (l1.tr l3) I4 w3.2)
 |some d=>
  obtain⟨be,hd⟩:=List.getElem?_eq_some_iff.mp hx;rw[List.drop_eq_getElem_cons be,hd]at w3;refine Zi ip (Y6 (T.item X rfl hc i τ3 z3 d (XE X) I3 l3 f3 t3 w3.1 hx) (λr s4 h4=>?_) λ_ _ q=>q);obtain⟨u,rfl,h4⟩:=h4;refine Zi ip (Y6 h4 (λ_ s5 h5=>?_) λ_ _ q=>q);obtain⟨l5,I5,r5,t5,n5⟩:=h5;rename_i F5;have f5:∀b∈fp,Fp X ⟨F5,z3.M,s5⟩ b:=λb hb=>⟨n5 b hb,(f3 b hb).m,(f3 b hb).o⟩;obtain⟨lp,Ip⟩:=I5.kU f5;refine Zi ip (hg τ3 _ d u _ _ Ip (r5.up lp.d) w3.2 fun τ6 z6 l6 I6 q6=>Zi ip (hb τ6 z6 _ _ I6 q6 ?_));have ii:∀{τ7:St} {z7:Z},Le z6.F z7.F->ae X τ7 z7->Le z.F (aN z7.F (aQ fp s5.heap))/\ae X τ7 ⟨aN z7.F (aQ fp s5.heap),z7.M,z7.s⟩/\(Le z1.F (aN z7.F (aQ fp s5.heap))/\tn (i+1) z7.s.heap/\∀b∈fp,Fp X ⟨aN z7.F (aQ fp s5.heap),z7.M,z7.s⟩ b):=λ{τ7 z7} l7 I7=>by
   have l8:=l6.tr l7;obtain⟨u1,u2⟩:=I7.jx (fp:=fp) (h:=s5.heap) (F:=F5) (λb hb=>⟨n5 b hb,(f3 b hb).o⟩) l8 I5.bs I5.cc;have bL:∀b∈fp,∃o,s5.heap.get? b=some o/\z7.F b=some (.pin o):=λb hb=>by
    obtain⟨o,ho⟩:=T.obj _ _ t5 b hb;exact⟨o,ho,l8 b _ (dt (gE hb ho))⟩
   refine⟨l1.tr (l3.tr (l5.tr u1)),u2,l3.tr (l5.tr u1),T.keep _ _ _ t5 λb hb o ho=>?_,λb hb=>?_⟩
   ·obtain⟨o',h1,h2⟩:=bL b hb;rw[ho]at h1;cases h1;exact I7.hok.fz b _ h2
   ·obtain⟨o',h1,h2⟩:=bL b hb;refine⟨fq (gE hb h1),?_,(f3 b hb).o⟩;cases q:z7.M b with
    |none=>rfl
    |some m=>have:=(I7.hok.ob b m q).1;rw[h2]at this;cases this
  have again:∀ τ7 z7,Le z6.F z7.F->ae X τ7 z7->gF ok g tb e (xs.drop (i+1)) τ7 z7.M->∃m,m<n/\∃i τ' z',Le z1.F z'.F/\ae X τ' z'/\tn i z'.s.heap/\(∀b∈fp,Fp X z' b)/\gF ok g tb e (xs.drop i) τ' z'.M/\m+i=xs.length/\z'.s=z7.s:=fun τ7 z7 l7 I7 q7=>by
   obtain⟨_,u2,u3,u4,VE⟩:=ii l7 I7;exact⟨n-1,by lia,i+1,τ7,_,u3,u2,u4,VE,q7,by lia,rfl⟩
  exact⟨again,λVF τ7 z7 u7 l7 I7 r7 q7=>by
    obtain⟨u1,u2,_⟩:=ii l7 I7;exact k.rt VF τ7 ⟨aN z7.F (aQ fp s5.heap),z7.M,z7.s⟩ u7 u1 u2 (r7.up (cb.aN (F:=F5) jw (l6.tr l7))) q7,
   fun τ7 z7 l7 I7 q7=>by
    obtain⟨u1,u2,_⟩:=ii l7 I7;exact k.nx τ7 ⟨aN z7.F (aQ fp s5.heap),z7.M,z7.s⟩ u1 u2 q7,again⟩
end
end N
end
section
set_option maxHeartbeats 1000000
namespace N
open PySem PySem.Spec PyProof.Rows L2
section
variable {X:Cx} {τ:St} {z:Z}{fp:List Addr}{h':Heap}{a:Addr}{t:Nat}
theorem ae.dz (I:ae X τ z) (hf:∀b∈fp,Fp X z b) (k:∀b,b ∉ fp->bg z.s.heap h' b):ae X τ ⟨z.F,z.M,{ z.s with heap:=h',toks:=t }⟩:=
 I.go Le.rfl (I.hok.keep λb hb=>k b λm=>hb.elim (λh=>h (hf b m).f) λh=>h (hf b m).m) (λb hb=>⟨(k b λm=>(hf b m).o hb).s,I.dc hb,rfl⟩) rfl I.bare
theorem ae.kL (I:ae X τ z) {f:Fo} (hf:Fp X z a) (e:f.At z.s.heap a) (nt:∀p q,f≠.tab p q:=by intro _ _ h;cases h):Le z.F (up z.F a f)/\ae X τ ⟨up z.F a f,z.M,z.s⟩:=
 have l:Le z.F (up z.F a f):=Le.new hf.f
 ⟨l,I.go l (I.hok.kL hf.f hf.m e nt) (λb hb=>⟨bg.s λ_ e=>e,I.dc hb,ay λq=>hf.o (q ▸ hb)⟩) rfl I.bare⟩
end
def kW (G:Gx) (F0:Fz) (q:Bool) (a:Addr) (xs:List D) (ok:Mp->Prop):Prop:=∀(X:Cx) τ z,X.G=G->ae X τ z->Le F0 z.F->ok z.M->∃us,af G z.F xs us/\us.length<=sizeLine/\cp q z.s.heap a us.toArray
def iq (d:D) (M:Mp) (k:List D->(Mp->Prop)->Prop):Prop:=match d with
 |.tup ds=>k ds λ_=>True
 |.lst ds=>k ds λ_=>True
 |.ref a=>∃ds,M a=some (.lst ds)/\k ds λM'=>M' a=some (.lst ds)
 |_=>False
theorem ae.ir {X:Cx} {τ:St} {z:Z}{d:D}{u:Value}{k:List D->(Mp->Prop)->Prop} (I:ae X τ z) (r:ab X.G z.F d u) (h:iq d z.M k):∃q a xs ok,u=.ref a/\kW X.G z.F q a xs ok/\ok z.M/\k xs ok:=by
 unfold iq at h;split at h
 ·rw[ab]at r;obtain⟨a,o,us,e,h1,h2,h3⟩:=r;exact⟨true,a,_,_,e,λX' τ' z' g I' l _=>⟨us,g ▸ h3.up l.d,h2.len,o,I'.hok.fz a _ (l a _ h1),h2.cls,h2.data⟩,trivial,h⟩
 ·rw[ab]at r;obtain⟨a,n,us,e,h1,h2,h3⟩:=r;exact⟨false,a,_,_,e,λX' τ' z' g I' l _=>⟨us,g ▸ h3.up l.d,h2,_,I'.hok.fz a _ (l a _ h1),rfl,n,rfl⟩,trivial,h⟩
 ·rw[ab]at r;obtain⟨ds,h1,h2⟩:=h;refine⟨false,_,ds,_,r,λX' τ' z' g I' l q=>?_,h1,h2⟩;obtain⟨us,n,e1,e2,e3⟩:=I'.eI q;exact⟨us,g ▸ e2,e3,_,e1,rfl,n,rfl⟩
 ·exact h.elim
section
variable {X:Cx}{tg:Expr}{G:Gx}{F0:Fz}{xs:List D}{ok:Mp->Prop}{a:Addr}
theorem ee {G:Gx}{F:Fz}{ds:List D}{us:List Value}{i:Nat}{d:D} (r:af G F ds us) (h:ds[i]?=some d):∃u,us.toArray[i]?=some u/\ab G F d u:=by
 obtain⟨u,h1,h2⟩:=r.get h;exact⟨u,by simpa using h1,h2⟩
theorem nz {G:Gx}{F:Fz}{ds:List D}{us:List Value}{i:Nat} (r:af G F ds us) (h:ds.length<=i):us.toArray[i]?=none:=by
 rw[r.len]at h;simpa using h
theorem kX {it b:Addr} (hb:b∈[it]):b=it:=by simpa using hb
theorem D8 {q:Bool}{it:Addr} (S:kW G F0 q a xs ok):f9 G tg xs ok F0 [it] it (λi h=>dP q h it a i) where
 obj:=λi h st b hb=>by obtain⟨o,e,_⟩:=st;exact⟨o,by rw[kX hb];exact e⟩
 keep:=λi h h' st k=>by obtain⟨o,e,c⟩:=st;exact⟨o,k it (List.mem_singleton.mpr rfl) _ e,c⟩
 item:=by
  intro X hG hc i τ z d E I l hf st hok hd;subst hG;obtain⟨us,r,hz,hq⟩:=S X τ z rfl I l hok;obtain⟨u,hu,ru⟩:=ee r hd;have fin:∀h',dP q h' it a (i+1)->YM it z.s.heap h'->∃u',(some u:Option Value)=some u'/\wpAny (model X.G.P X.G.w) X.A (letOwnedTupleGo tg (.ref it) u') (λ_ s2=>nu X τ z d u' [it] (λi h=>dP q h it a i) (i+1) s2) E { z.s with heap:=h' }:=λh' bm sb=>by
   obtain⟨o,e,c,Tx⟩:=id bm;refine⟨u,rfl,mW (s:={ z.s with heap:=h' }) e c Tx (by cases q <;> decide) ⟨Le.rfl,I.dz (t:=z.s.toks) hf (λb hb o' e'=>(sb.2 b λq=>hb (List.mem_singleton.mpr q)).trans e'),ru,bm,λb hb=>(hf b hb).f⟩⟩
  cases q with
  |true=>exact wpAny_pyNext_tuple_item st hq hu fin
  |false=>exact wpAny_pyNext_list_item st hq hu fin
 done:=by
  intro X hG hc i τ z E I l hf st hok hd;subst hG;obtain⟨us,r,hz,hq⟩:=S X τ z rfl I l hok;have fin:∀h',Zb it z.s.heap h'->(none:Option Value)=none/\ae X τ ⟨z.F,z.M,{ z.s with heap:=h' }⟩:=λh' eb=>⟨rfl,I.dz (t:=z.s.toks) hf λb hb o e=>eb b o (λq=>hb (List.mem_singleton.mpr q)) e⟩;cases q with
  |true=>exact wpAny_pyNext_tuple_end (I.ok.hd hc) st hq (nz r hd) fin
  |false=>exact wpAny_pyNext_list_end (I.ok.hd hc) st hq (nz r hd) fin
 self:=λ_ _ _ _ _ st h=>by
  cases q with
  |true=>exact wpAny_pyIter_tupleiter st h
  |false=>exact wpAny_pyIter_listiter st h
noncomputable def nA (x:Str):List D:=x.cps.toList.map λc=>.str ⟨#[c]⟩
theorem D9 {it:Addr}{x:Str}{t:Tok}:f9 G tg (nA x) ok F0 [it] it (λi h=>h.IsStrIter it "str_ascii_iterator" x t i) where
 obj:=λi h st b hb=>by obtain⟨o,e,_⟩:=st;exact⟨o,by rw[kX hb];exact e⟩
 keep:=λi h h' st k=>by obtain⟨o,e,c⟩:=st;exact⟨o,k it (List.mem_singleton.mpr rfl) _ e,c⟩
 item:=by
  intro X hG hc i τ z d E I l hf st hok hd;subst hG;unfold nA at hd;rw[Xj]at hd;obtain⟨c,hx,rfl⟩:=Option.map_eq_some_iff.mp hd;refine wpAny_pyNext_ascii_item st (by simpa using hx) λh' bm sb=>?_;obtain⟨o,e,c',Tx⟩:=id bm;exact⟨_,rfl,mW (s:={ z.s with heap:=h',toks:=z.s.toks+1 }) e c' Tx (by decide) ⟨Le.rfl,I.dz hf (λb hb o' e'=>(sb.2 b λq=>hb (List.mem_singleton.mpr q)).trans e'),gD,bm,λb hb=>(hf b hb).f⟩⟩
 done:=by
  intro X hG hc i τ z E I l hf st hok hd;subst hG;unfold nA at hd;rw[W0]at hd;exact wpAny_pyNext_ascii_end (I.ok.hd hc) st (by simpa using hd) λh' eb=>⟨rfl,I.dz (t:=z.s.toks) hf λb hb o e=>eb b o (λq=>hb (List.mem_singleton.mpr q)) e⟩
 self:=λ_ _ _ _ _ st h=>wpAny_pyIter_striter_ascii st h
noncomputable def fy (lo:Int) (n:Nat):List D:=(Yw n).map λi:Nat=>.int (lo+(i:Int))
theorem Ea {it:Addr}{lo:Int}{n:Nat}:f9 G tg (fy lo n) ok F0 [it] it (λi h=>IsRangeIter h it (lo+(i:Nat) * 1) ((n:Int)-(i:Nat)) 1) where
 obj:=λi h st b hb=>by rw[kX hb];exact⟨_,st⟩
 keep:=λi h h' st k=>k it (List.mem_singleton.mpr rfl) _ st
 item:=by
  intro X hG hc i τ z d E I l hf st hok hd;subst hG;unfold fy at hd;rw[Xj]at hd;obtain⟨j,hj,rfl⟩:=Option.map_eq_some_iff.mp hd;obtain⟨hi,e⟩:=List.getElem?_eq_some_iff.mp hj;rw[YN]at hi;rw[List.getElem_range]at e;subst e;refine (Walks.range (prog:=X.G.P) (w:=X.G.w) (I.ok.hd hc) it lo 1 n).item i z.s _ _ hi st λv h' tk hv bm kk=>?_;obtain⟨t,rfl⟩:=hv;refine⟨_,rfl,mW (s:={ z.s with heap:=h',toks:=tk }) (n:="range_iterator") bm rfl rfl (by decide) ⟨Le.rfl,I.dz hf λb hb o e=>kk b o hb e,?_,bm,λb hb=>(hf b hb).f⟩⟩;rw[Int.mul_one];exact b5
 done:=by
  intro X hG hc i τ z E I l hf st hok hd;subst hG;unfold fy at hd;rw[W0,YN]at hd;exact wpAny_pyNext_range_end (I.ok.hd hc) st (by lia) λh' eb=>⟨rfl,I.dz (t:=z.s.toks) hf λb hb o e=>eb b o (λq=>hb (List.mem_singleton.mpr q)) e⟩
 self:=λ_ _ _ _ _ st h=>wpAny_pyIter_rangeiter st h
variable {e:Expr}{te:DE}
theorem jz {τ:St} {z:Z}{s':Shared}{it:Addr}{tn:Nat->Heap->Prop} (I:ae X τ z) (h:z.s.heap.objs.size<=it) (T:f9 X.G tg xs ok z.F [it] it tn) (t:tn 0 s'.heap):qo X tg xs ok ⟨z.F,z.M,s'⟩ it:=.mk T t λb hb=>by rw[kX hb];exact I.jy h
def vT (t:DE):DI:=fun τ M k=>t τ M λd M1=>b3 d λn=>-(2 ^ 62)<=n/\n<2 ^ 62/\k (fy 0 n.toNat) (λ_=>True) M1
theorem cX {d:D}{k:Int->Prop}{G:Gx}{F:Fz}{u:Value} (h:b3 d k) (r:ab G F d u):∃i t,u=.int i t/\k i:=by
 unfold b3 at h;split at h
 ·rw[ab]at r;obtain⟨t,e⟩:=r;exact⟨_,t,e,h⟩
 ·exact h.elim
theorem Eb {τ:St} {z:Z}{F:Fz}{R:Value->Shared->Prop}{k:List D->(Mp->Prop)->Mp->Prop}{lo hi:Int}{t u v:Tok}{tk:Nat} (I:ae X τ z) (K:KI X τ tg F k R) (l:Le F z.F) (h:-(2 ^ 62)<=lo/\lo<2 ^ 62/\-(2 ^ 62)<=hi/\hi<2 ^ 62) (q:k (fy lo (hi-lo).toNat) (λ_=>True) z.M) :
  W X (pyIter (.ref z.s.heap.objs.size)) R { z.s with heap:=z.s.heap.push { cls:=.type "range",data:=.fields #[.int lo t,.int hi u,.int 1 v] },toks:=tk }:=by
 refine wpAny_pyIter_range (IsRange.new ..) (small_one h.1 h.2.1 h.2.2.1 h.2.2.2) ?_;have I1:ae X τ ⟨z.F,z.M,{ z.s with heap:=z.s.heap.push { cls:=.type "range",data:=.fields #[.int lo t,.int hi u,.int 1 v] },toks:=tk }⟩:=I.bP λb o e=>WZ _ e;refine K _ _ ⟨z.F,z.M,_⟩ _ l (I1.bP (t:=tk) λb o e=>WZ _ e) (jz I (by rw[Xx];exact YK _) (Ea (n:=(hi-lo).toNat) (lo:=lo)) ?_) q;have e1:lo+((0:Nat):Int) * 1=lo:=by simp
 have e2:(((hi-lo).toNat:Nat):Int)-((0:Nat):Int)=Builtin.Range.rangeSize lo hi 1:=by rw[rangeSize_one];split <;> lia
 show IsRangeIter _ _ (lo+((0:Nat):Int) * 1) ((((hi-lo).toNat:Nat):Int)-((0:Nat):Int)) 1;rw[e1,e2];exact W5 _ rfl
variable {a b:Expr}{ta tb:DE}{p pos:Pos}
theorem vU (ha:PE X a ta) (hs:starEach [a] X.env=[(false,eval a X.env)]) (pos:Pos) {τ:St} {z:Z}{Q:QK}{R:List Value->Shared->Prop} (I:ae X τ z) (h:ta τ z.M Q) (k:∀d z' u,Le z.F z'.F->ae X τ z'->ab X.G z'.F d u->Q d z'.M->R [u] z'.s):W X (spliced (backTo pos (starEach [a] X.env))) R z.s:=by
 rw[hs];exact Yu (ha τ z _ _ I h λd z1 u l1 I1 r1 q1=>Y2 (k d z1 u l1 I1 r1 q1))
theorem Ec (ha:PE X a ta) (hb:PE X b tb) (hs:starEach [a,b] X.env=[(false,eval a X.env),(false,eval b X.env)]) (pos:Pos) {τ:St} {z:Z}{Q:D->D->Mp->Prop}{R:List Value->Shared->Prop} (I:ae X τ z) (h:ta τ z.M λx M=>tb τ M λy M=>Q x y M) (k:∀d e z' u v,Le z.F z'.F->ae X τ z'->ab X.G z'.F d u->ab X.G z'.F e v->Q d e z'.M->R [u,v] z'.s):W X (spliced (backTo pos (starEach [a,b] X.env))) R z.s:=by
 rw[hs];exact Yu (ha τ z _ _ I h λd z1 u l1 I1 r1 q1=>Yu (hb τ z1 _ _ I1 q1 λe z2 v l2 I2 r2 q2=>Y2 (k d e z2 u v (l1.tr l2) I2 (r1.up l2.d) r2 q2)))
theorem gc {G:Gx}{F:Fz}{d:D}{us:List Value} (h:af G F [d] us):∃u,us=[u]/\ab G F d u:=by
 rw[af]at h;obtain⟨u,r,rfl,h1,h2⟩:=h;rw[af]at h2;subst h2;exact⟨u,rfl,h1⟩
theorem gG {G:Gx}{F:Fz}{d e:D}{us:List Value} (h:af G F [d,e] us):∃u v,us=[u,v]/\ab G F d u/\ab G F e v:=by
 rw[af]at h;obtain⟨u,r,rfl,h1,h2⟩:=h;obtain⟨v,rfl,h3⟩:=gc h2;exact⟨u,v,rfl,h1,h3⟩
theorem Ed (hg:Gl X "range") (hm:X.G.mg "range"=none) (ha:PE X a ta) (hs:starEach [a] X.env=[(false,eval a X.env)]):PI X tg (.Call (.Name "range" p) [a] [] pos) (vT ta):=fun τ z k R I h K=>
 Call_ (eG I hg hm boot_range (by decide) (by decide) (Ye (vU ha hs pos I h λd z1 u l1 I1 r1 q1=>by
  obtain⟨i,t,rfl,h1,h2,q⟩:=cX q1 r1;exact call_range_1 (Eb I1 K l1 ⟨by decide,by decide,h1,h2⟩ (by simpa using q))) hs rfl))
theorem vV {τ:St} {z:Z}{s':Shared}{x y:D}{u v:Value}{T:Addr}{o:Obj}{fp:List Addr}{tn:Nat->Heap->Prop}{i:Nat} (I:ae X τ ⟨z.F,z.M,s'⟩) (hT:Fp X ⟨z.F,z.M,s'⟩ T) (ho:s'.heap.get? T=some o) (to:kH o [u,v]) (r1:ab X.G z.F x u) (r2:ab X.G z.F y v) (t:tn i s'.heap) (n:∀ b∈fp,z.F b=none/\b≠T) :
  nu X τ z (.tup [x,y]) (.ref T) fp tn i s':=
 have h:=I.kL (f:=.dat o) hT ho
 ⟨h.1,h.2,nj ao to (.cons (r1.up h.1.d) (.cons (r2.up h.1.d) .nil)),t,λb hb=>(ay (n b hb).2).trans (n b hb).1⟩
end
section
variable {prog:Program}{w:World}{A:Around}{E:Value->Shared->Prop}{s:Shared}
structure kY (p q:Bool) (h:Heap) (z TI TO i1 i2 t1 t2:Addr) (k:Nat) (f:Value):Prop where
 z:IsZip h z TI TO f
 ti:IsPair h TI (.ref i1) (.ref i2)
 to:∃a b,IsPair h TO a b
 j1:dP p h i1 t1 k
 j2:dP q h i2 t2 k
structure qq (z TI TO i1 i2 t1 t2:Addr):Prop where
 Ti:TI≠z
 a2:TO≠z
 To:i1≠z
 Tp:i2≠z
 TH:TI≠TO
 Uk:TI≠i1
 UH:TI≠i2
 Ul:TO≠i1
 Um:TO≠i2
 b1:i1≠i2
 c1:t1≠z/\t1≠TO/\t1≠i1/\t1≠i2
 c2:t2≠z/\t2≠TO/\t2≠i1/\t2≠i2
theorem Ee {p q:Bool}{z TI TO i1 i2 t1 t2:Addr}{k:Nat}{xs ys:Array Value}{x y:Value}{Q:Option Value->Shared->Prop} (D:qq z TI TO i1 i2 t1 t2) (Z:kY p q s.heap z TI TO i1 i2 t1 t2 k .none)
  (nn:cp p s.heap t1 xs) (qr:cp q s.heap t2 ys) (hx:xs[k]?=some x) (hy:ys[k]?=some y)
  (hQ:∀h',kY p q h' z TI TO i1 i2 t1 t2 (k+1) (rawInt s.heap.objs.size)->IsPair h' s.heap.objs.size x y->h'.objs.size=s.heap.objs.size+1 ->
   (∀c o,c≠z->c≠TO->c≠i1->c≠i2->s.heap.get? c=some o->h'.get? c=some o)->Q (some (.ref s.heap.objs.size)) { s with heap:=h' }) :
  wpAny (model prog w) A (pyNext (.ref z)) Q E s:=by
 have hT:s.TypeIs (.ref z) "zip":=⟨_,Z.z,rfl⟩;obtain⟨u0,v0,qt⟩:=Z.to;unfold pyNext;refine WY (Y1 (Xr (name:=Yy "__next__") hT F.slot_zip_next (Xw F.slot_zip_next hT F.entry_zip_next ?_ (F.args_zip_next_1 _))));show wpAny _ _ (field (.ref z) 2 >>= _) _ _ _;refine WY (XS Z.z rfl (x:=.bool false) rfl ?_);show wpAny _ _ (field (.ref z) 3 >>= _) _ _ _;refine WY (XS Z.z rfl (x:=.ref TI) rfl ?_);refine WY (YT Z.ti rfl ?_);show wpAny _ _ (YC (.ref z) >>= _) _ _ _;refine WY ?_;unfold YC;refine WY (XS Z.z rfl (x:=.none) rfl (W2 ?_));simp only[if_true];refine WY (wpAny_rule (WY (XS Z.z rfl (x:=.ref TO) rfl ?_)));refine WY (Ze Z.z (by simp) λg1 z1 s1=>?_);have z1:IsZip g1 z TI TO .ellipsis:=z1;refine WY ?_;simp only[List.zipIdx_cons,List.zipIdx_nil,List.forIn_cons,List.forIn_nil];refine WY (WY (wpAny_onRaise ?_));show wpAny _ _ (XG (.ref i1) >>= _) _ _ _;refine WY (pZ (Z.j1.extBut s1.extBut D.To) (nn.extBut s1.extBut D.c1.1) hx λg2 vW s2=>W2 ?_);have o2:IsPair g2 TO u0 v0:=s2.extBut _ _ D.Ul (s1.extBut _ _ D.a2 qt);refine WY (YT o2 rfl ?_);refine WY (wpAny_updateSeq_pair o2 λg3 o3 s3=>?_);have o3:IsPair g3 TO x v0:=o3;refine WY (wpAny_letGo (W2 ?_));refine WY (WY (wpAny_onRaise ?_));show wpAny _ _ (XG (.ref i2) >>= _) _ _ _;refine WY (pZ (((Z.j2.extBut s1.extBut D.Tp).extBut s2.extBut D.b1.symm).extBut s3.extBut D.Um.symm) (((qr.extBut s1.extBut D.c2.1).extBut s2.extBut D.c2.2.2.1).extBut s3.extBut D.c2.2.1) hy λg4 Ef s4=>W2 ?_);have o4:IsPair g4 TO x v0:=s4.extBut _ _ D.Um o3;refine WY (YT o4 rfl ?_);refine WY (wpAny_updateSeq_pair o4 λg5 o5 s5=>?_);have o5:IsPair g5 TO x y:=o5;refine WY (wpAny_letGo (W2 (W2 ?_)));refine WY (YT o5 rfl ?_);refine WY (wpAny_newTuple ?_);have sz:g5.objs.size=s.heap.objs.size:=by rw[s5.1,s4.1,s3.1,s2.1,s1.1]
 have z5:IsZip g5 z TI TO .ellipsis:=s5.extBut _ _ D.a2.symm (s4.extBut _ _ D.Tp.symm (s3.extBut _ _ D.a2.symm (s2.extBut _ _ D.To.symm z1)));have Un:∀c o,c≠z->c≠TO->c≠i1->c≠i2->s.heap.get? c=some o->g5.get? c=some o:=λc o e1 e2 e3 e4 q=>s5.extBut _ _ e2 (s4.extBut _ _ e4 (s3.extBut _ _ e2 (s2.extBut _ _ e3 (s1.extBut _ _ e1 q))));have Eg:dP p g5 i1 t1 (k+1):=((vW.extBut s3.extBut D.Ul.symm).extBut s4.extBut D.b1).extBut s5.extBut D.Ul.symm;have Eh:dP q g5 i2 t2 (k+1):=Ef.extBut s5.extBut D.Um.symm;have vX:z<g5.objs.size:=Xh z5;show wpAny _ _ (Builtin.SmallTypes.ownedTupleHandOut (.ref z) (.ref g5.objs.size) >>= _) _ _ _;refine WY ?_;unfold Builtin.SmallTypes.ownedTupleHandOut;have z6:IsZip (g5.push { cls:=.type "tuple",data:=.seq #[x,y] }) z TI TO .ellipsis:=WZ _ z5;refine WY (Ze z6 (by simp) λVG z7 s7=>?_);have z7:IsZip VG z TI TO (rawInt g5.objs.size):=z7;refine Ze z7 (by simp) λT1 z8 s8=>?_;have z8:IsZip T1 z TI TO (rawInt g5.objs.size):=z8;have up:∀c o,c≠z->g5.get? c=some o->T1.get? c=some o:=λc o e q=>s8.extBut _ _ e (s7.extBut _ _ e (WZ _ q));have T8:IsPair T1 g5.objs.size x y:=s8.extBut _ _ (Yg vX) (s7.extBut _ _ (Yg vX) (W5 _ rfl));have U5:T1.objs.size=g5.objs.size+1:=by rw[s8.1,s7.1,Xx]
 rw[sz]at z8 T8 U5;refine W2 ⟨_,rfl,W2 ?_⟩;show Q (some (.ref g5.objs.size)) _;rw[sz];refine hQ T1 ⟨z8,up _ _ D.Ti (Un _ _ D.Ti D.TH D.Uk D.UH Z.ti),⟨_,_,up _ _ D.a2 o5⟩,?_,?_⟩ T8 U5 λc o e1 e2 e3 e4 q=>up c o e1 (Un c o e1 e2 e3 e4 q)
 ·obtain⟨ob,q1,q2⟩:=Eg;exact⟨ob,up _ _ D.To q1,q2⟩
 ·obtain⟨ob,q1,q2⟩:=Eh;exact⟨ob,up _ _ D.Tp q1,q2⟩
theorem Ei {p q:Bool}{z TI TO i1 i2 t1 t2:Addr}{k:Nat}{xs ys:Array Value}{Q:Option Value->Shared->Prop} (hh:A.handled=none) (D:qq z TI TO i1 i2 t1 t2) (Z:kY p q s.heap z TI TO i1 i2 t1 t2 k .none)
  (nn:cp p s.heap t1 xs) (qr:cp q s.heap t2 ys) (Ej:xs[k]?=none\/ys[k]?=none)
  (hQ:∀h',(∀c o,c≠z->c≠TO->c≠i1->c≠i2->s.heap.get? c=some o->h'.get? c=some o)->Q none { s with heap:=h' }) :
  wpAny (model prog w) A (pyNext (.ref z)) Q E s:=by
 have hT:s.TypeIs (.ref z) "zip":=⟨_,Z.z,rfl⟩;obtain⟨u0,v0,qt⟩:=Z.to;unfold pyNext;refine WY (Y1 (Xr (name:=Yy "__next__") hT F.slot_zip_next (Xw F.slot_zip_next hT F.entry_zip_next ?_ (F.args_zip_next_1 _))));show wpAny _ _ (field (.ref z) 2 >>= _) _ _ _;refine WY (XS Z.z rfl (x:=.bool false) rfl ?_);show wpAny _ _ (field (.ref z) 3 >>= _) _ _ _;refine WY (XS Z.z rfl (x:=.ref TI) rfl ?_);refine WY (YT Z.ti rfl ?_);show wpAny _ _ (YC (.ref z) >>= _) _ _ _;refine WY ?_;unfold YC;refine WY (XS Z.z rfl (x:=.none) rfl (W2 ?_));simp only[if_true];refine WY (wpAny_rule (WY (XS Z.z rfl (x:=.ref TO) rfl ?_)));refine WY (Ze Z.z (by simp) λg1 z1 s1=>?_);have z1:IsZip g1 z TI TO .ellipsis:=z1;refine WY ?_;simp only[List.zipIdx_cons,List.zipIdx_nil,List.forIn_cons,List.forIn_nil];refine WY (WY (wpAny_onRaise ?_));show wpAny _ _ (XG (.ref i1) >>= _) _ _ _;cases hx:xs[k]? with
 |none=>
  refine WY (ve hh (Z.j1.extBut s1.extBut D.To) (nn.extBut s1.extBut D.c1.1) hx λg2 e s2 he=>?_);obtain⟨UI,q1,q2⟩:=he;have z2:IsZip g2 z TI TO .ellipsis:=s2 _ _ D.To.symm z1;have ne:e≠z:=λx=>by subst x;rw[z2]at q1;cases q1;simp at q2
  exact Ze z2 (by simp) λg3 _ s3=>WY (Y0 (T:="StopIteration") (b:=true) ⟨UI,s3.extBut _ _ ne q1,q2⟩ isSubtype_stop (W2 (hQ _ λc o c1 _ c3 _ x=>s3.extBut _ _ c1 (s2 _ _ c3 (s1.extBut _ _ c1 x)))))
 |some x=>
  have hy:ys[k]?=none:=by
   rcases Ej with q |q
   ·rw[hx]at q;cases q
   ·exact q
  refine WY (pZ (Z.j1.extBut s1.extBut D.To) (nn.extBut s1.extBut D.c1.1) hx λg2 vW s2=>W2 ?_);have o2:IsPair g2 TO u0 v0:=s2.extBut _ _ D.Ul (s1.extBut _ _ D.a2 qt);refine WY (YT o2 rfl ?_);refine WY (wpAny_updateSeq_pair o2 λg3 o3 s3=>?_);refine WY (wpAny_letGo (W2 ?_));refine WY (WY (wpAny_onRaise ?_));show wpAny _ _ (XG (.ref i2) >>= _) _ _ _;refine WY (ve hh (((Z.j2.extBut s1.extBut D.Tp).extBut s2.extBut D.b1.symm).extBut s3.extBut D.Um.symm) (((qr.extBut s1.extBut D.c2.1).extBut s2.extBut D.c2.2.2.1).extBut s3.extBut D.c2.2.1) hy λg4 e s4 he=>?_);obtain⟨UI,q1,q2⟩:=he;have z4:IsZip g4 z TI TO .ellipsis:=s4 _ _ D.Tp.symm (s3.extBut _ _ D.a2.symm (s2.extBut _ _ D.To.symm z1));have ne:e≠z:=λx=>by subst x;rw[z4]at q1;cases q1;simp at q2
  exact Ze z4 (by simp) λg5 _ s5=>WY (Y0 (T:="StopIteration") (b:=true) ⟨UI,s5.extBut _ _ ne q1,q2⟩ isSubtype_stop (W2 (hQ _ λc o c1 c2 c3 c4 x=>s5.extBut _ _ c1 (s4 _ _ c4 (s3.extBut _ _ c2 (s2.extBut _ _ c3 (s1.extBut _ _ c1 x)))))))
noncomputable abbrev nC (p:Bool) (h:Heap) (a:Addr):Heap:=h.push { cls:=.type (fW p),data:=.fields #[.ref a,.int 0 0] }
noncomputable abbrev nD (p q:Bool) (h:Heap) (a b:Addr):Heap:=(nC p h a).push { cls:=.type (fW q),data:=.fields #[.ref b,.int 0 0] }
noncomputable abbrev nE (p q:Bool) (h:Heap) (a b:Addr):Heap:=(nD p q h a b).push { cls:=.type "tuple",data:=.seq #[.ref h.objs.size,.ref (nC p h a).objs.size] }
noncomputable abbrev nF (p q:Bool) (h:Heap) (a b:Addr):Heap:=(nE p q h a b).push { cls:=.type "tuple",data:=.seq #[.none,.none] }
noncomputable abbrev iu (p q:Bool) (h:Heap) (a b:Addr):Heap:=(nF p q h a b).push { cls:=.type "zip",data:=.fields #[.none,.bool false,.bool false,.ref (nD p q h a b).objs.size,.ref (nE p q h a b).objs.size] }
end
theorem vY {prog:Program}{w:World}{A:Around}{E:Value->Shared->Prop}{s:Shared}{q:Bool}{a:Addr}{xs:Array Value}{Q:Value->Shared->Prop} (h:cp q s.heap a xs) (k:Q (.ref s.heap.objs.size) { s with heap:=s.heap.push { cls:=.type (fW q),data:=.fields #[.ref a,.int 0 0] } }):wpAny (model prog w) A (pyIter (.ref a)) Q E s:=by
 cases q with
 |true=>exact Zf h k
 |false=>exact Zm h k
theorem Ek (p q:Bool) (a b:Addr) (xs ys:Array Value) :
  Meets (Builtin.«zip.__new__» ⟨[.type "zip",.ref a,.ref b],[]⟩) (λ_ R s=>cp p s.heap a xs/\cp q s.heap b ys/\R (.ok (.ret (.ref (nF p q s.heap a b).objs.size))) { s with heap:=iu p q s.heap a b }):=
 .of_wp λprog w A R s h=>by
  obtain⟨hp,g,d,tk,os⟩:=s;obtain⟨q1,q2,h⟩:=h;have sub:=sub_zip;have e1:cp p (Shared.heap ⟨hp,g,d,tk,os⟩) a xs:=q1;have e2:cp q (Shared.heap ⟨hp.push { cls:=.type (fW p),data:=.fields #[.ref a,.int 0 0] },g,d,tk,os⟩) b ys:=by
   cases q
   ·exact Heap.IsList.push q2 _
   ·exact Heap.IsTuple.push q2 _
  wp_walk using vY e1,vY e2
  exact⟨_,rfl,h⟩
section
variable {prog:Program}{w:World}{A:Around}{E:Value->Shared->Prop}{s:Shared}
theorem El {p q:Bool}{a b:Addr}{xs ys:Array Value}{Q:Value->Shared->Prop} (h1:cp p s.heap a xs) (h2:cp q s.heap b ys)
  (h:∀h',kY p q h' (s.heap.objs.size+4) (s.heap.objs.size+2) (s.heap.objs.size+3) s.heap.objs.size (s.heap.objs.size+1) a b 0 .none->h'.objs.size=s.heap.objs.size+5 ->
   (∀c o,s.heap.get? c=some o->h'.get? c=some o)->Q (.ref (s.heap.objs.size+4)) { s with heap:=h' }):wpAny (model prog w) A (call (.type "zip") [.ref a,.ref b]) Q E s:=by
 refine callType_new F.called_zip (by decide) (F.typeCall_zip_2 _ _) (F.newCall_zip_2 _ _) (λobj=>F.args_object_init_3 obj _ _) F.entry_zip_new (Ek p q a b xs ys) ⟨h1,h2,?_⟩;have n1:(nC p s.heap a).objs.size=s.heap.objs.size+1:=Xx ..;have n2:(nD p q s.heap a b).objs.size=s.heap.objs.size+2:=by rw[Xx,n1]
 have n3:(nE p q s.heap a b).objs.size=s.heap.objs.size+3:=by rw[Xx,n2]
 have UJ:(nF p q s.heap a b).objs.size=s.heap.objs.size+4:=by rw[Xx,n3]
 have n5:(iu p q s.heap a b).objs.size=s.heap.objs.size+5:=by rw[Xx,UJ]
 have UK:(iu p q s.heap a b).get? (nF p q s.heap a b).objs.size=some _:=W5 _ rfl;have p4:(iu p q s.heap a b).get? (nE p q s.heap a b).objs.size=some _:=WZ _ (W5 _ rfl);have p3:(iu p q s.heap a b).get? (nD p q s.heap a b).objs.size=some _:=WZ _ (WZ _ (W5 _ rfl));have p2:(iu p q s.heap a b).get? (nC p s.heap a).objs.size=some _:=WZ _ (WZ _ (WZ _ (W5 _ rfl)));have p1:(iu p q s.heap a b).get? s.heap.objs.size=some _:=WZ _ (WZ _ (WZ _ (WZ _ (W5 _ rfl))));show _/\_;rw[n2,n3,UJ]at UK;rw[n1,n2]at p3;rw[n3]at p4;rw[n1]at p2;rw[UJ];exact⟨⟨_,UK,rfl⟩,h _ ⟨UK,p3,⟨_,_,p4⟩,⟨_,p1,rfl,rfl⟩,⟨_,p2,rfl,rfl⟩⟩ n5 λc o x=>
  WZ _ (WZ _ (WZ _ (WZ _ (WZ _ x))))⟩
end
end N
end
section
set_option maxHeartbeats 1000000
namespace N
open PySem PySem.Spec PyProof.Rows L2
section
variable {X:Cx}{G:Gx}{F0:Fz}{xs ys:List D}{ok kZ:Mp->Prop}{a b:Addr}{p q:Bool}{jp:List Expr}{kk:Nat}{tp:Pos}
theorem Em {z TI TO i1 i2:Addr} (D':qq z TI TO i1 i2 a b) (S:kW G F0 p a xs ok) (S':kW G F0 q b ys kZ) :
  f9 G (.Tuple jp kk tp) (List.zipWith (λx y=>.tup [x,y]) xs ys) (λM=>ok M/\kZ M) F0 [z,TI,TO,i1,i2] z (λi h=>kY p q h z TI TO i1 i2 a b i .none) where
 obj:=λi h st c hc=>by
  obtain⟨q1,q2,⟨u,v,q3⟩,⟨o4,q4,_⟩,⟨o5,q5,_⟩⟩:=st;simp only[XI,Xq,or_false]at hc;rcases hc with rfl |rfl |rfl |rfl |rfl
  ·exact⟨_,q1⟩
  ·exact⟨_,q2⟩
  ·exact⟨_,q3⟩
  ·exact⟨_,q4⟩
  ·exact⟨_,q5⟩
 keep:=λi h h' st k=>by
  obtain⟨q1,q2,⟨u,v,q3⟩,⟨o4,q4,r4⟩,⟨o5,q5,r5⟩⟩:=st;exact⟨k z (by simp) _ q1,k TI (by simp) _ q2,⟨u,v,k TO (by simp) _ q3⟩,⟨o4,k i1 (by simp) _ q4,r4⟩,⟨o5,k i2 (by simp) _ q5,r5⟩⟩
 item:=by
  intro X hG hc i τ z' d E I l hf st hok hd;subst hG;rw[List.getElem?_zipWith]at hd;obtain⟨us,r1,_,h1⟩:=S X τ z' rfl I l hok.1;obtain⟨vs,r2,_,h2⟩:=S' X τ z' rfl I l hok.2;cases hx:xs[i]? with
  |none=>rw[hx]at hd;cases hd
  |some x=>cases hy:ys[i]? with
   |none=>rw[hx,hy]at hd;cases hd
   |some y=>
    rw[hx,hy]at hd;cases hd;obtain⟨u,hu,ru⟩:=ee r1 hx;obtain⟨v,hv,rv⟩:=ee r2 hy;refine Ee D' st h1 h2 hu hv λh' Z' T' n' keep=>⟨_,rfl,wpAny_letOwnedTupleGo_zip Z'.z λf8 qu sb=>?_⟩;have Eo:z<z'.s.heap.objs.size:=Xh st.z;have I':ae X τ ⟨z'.F,z'.M,{ z'.s with heap:=f8,toks:=z'.s.toks }⟩:=I.dz hf λc hc o e=>by
     simp only[XI,Xq,or_false,not_or]at hc;exact sb.extBut _ _ hc.1 (keep c o hc.1 hc.2.2.1 hc.2.2.2.1 hc.2.2.2.2 e)
    refine vV I' (I.jy (W3 _)) (sb.extBut _ _ (Yg Eo) T') ⟨rfl,rfl,⟨0,rfl⟩,by show 2<=sizeLine;decide⟩ ru rv ?_ λc hc=>⟨(hf c hc).f,?_⟩
    ·obtain⟨_,q2,⟨e1,e2,q3⟩,⟨o4,q4,r4⟩,⟨o5,q5,r5⟩⟩:=Z';exact⟨qu,sb.extBut _ _ D'.Ti q2,⟨e1,e2,sb.extBut _ _ D'.a2 q3⟩,⟨o4,sb.extBut _ _ D'.To q4,r4⟩,⟨o5,sb.extBut _ _ D'.Tp q5,r5⟩⟩
    ·obtain⟨q1,q2,⟨e1,e2,q3⟩,⟨o4,q4,r4⟩,⟨o5,q5,r5⟩⟩:=st;simp only[XI,Xq,or_false]at hc;rcases hc with rfl |rfl |rfl |rfl |rfl
     ·exact Xi (Xh q1)
     ·exact Xi (Xh q2)
     ·exact Xi (Xh q3)
     ·exact Xi (Xh q4)
     ·exact Xi (Xh q5)
 done:=by
  intro X hG hc i τ z' E I l hf st hok hd;subst hG;obtain⟨us,r1,_,h1⟩:=S X τ z' rfl I l hok.1;obtain⟨vs,r2,_,h2⟩:=S' X τ z' rfl I l hok.2;rw[List.length_zipWith]at hd;refine Ei (I.ok.hd hc) D' st h1 h2 (by
   by_cases h:xs.length<=i
   ·exact .inl (nz r1 h)
   ·exact .inr (nz r2 (by lia))) λh' keep=>⟨rfl,I.dz (t:=z'.s.toks) hf λc hc o e=>?_⟩
  simp only[XI,Xq,or_false,not_or]at hc;exact keep c o hc.1 hc.2.2.1 hc.2.2.2.1 hc.2.2.2.2 e
 self:=λ_ _ _ _ _ st h=>wpAny_pyIter_zip st.z h
variable {ea eb:Expr}{ta tb:DE}{pn pos:Pos}{tg:Expr}
def vZ (t u:DE):DI:=fun τ M k=>t τ M λd M1=>u τ M1 λe M2=>iq d M2 λxs ok=>iq e M2 λys kZ=>k (List.zipWith (λx y=>.tup [x,y]) xs ys) (λM=>ok M/\kZ M) M2
theorem Ep (hg:Gl X "zip") (hm:X.G.mg "zip"=none) (ha:PE X ea ta) (hb:PE X eb tb) (hs:starEach [ea,eb] X.env=[(false,eval ea X.env),(false,eval eb X.env)]) (hs2:starEach [eb] X.env=[(false,eval eb X.env)]):PI X (.Tuple jp kk tp) (.Call (.Name "zip" pn) [ea,eb] [] pos) (vZ ta tb):=fun τ z k R I h K=>
 Call_ (eG I hg hm boot_zip (by decide) (by decide) (Ye (Ec ha hb hs pos I h λd e z1 u v l1 I1 r1 r2 q1=>by
  obtain⟨p,x,xs,ok,rfl,S,hok,q1⟩:=I1.ir r1 q1;obtain⟨q,y,ys,kZ,rfl,S',Er,q1⟩:=I1.ir r2 q1;obtain⟨us,_,_,h1⟩:=S X τ z1 rfl I1 Le.rfl hok;obtain⟨vs,_,_,h2⟩:=S' X τ z1 rfl I1 Le.rfl Er;have f:∀c:Addr,c<z1.s.heap.objs.size->∀k:Nat,c≠z1.s.heap.objs.size+k:=λc hc k=>Xi (Xl hc (Xv _ _));have n:∀{i j:Nat},i≠j->z1.s.heap.objs.size+i≠z1.s.heap.objs.size+j:=λh e=>h (Nat.add_left_cancel e);refine El h1 h2 λh' Z n5 keep=>wpAny_pyIter_zip Z.z (K _ _ ⟨z1.F,z1.M,_⟩ _ l1 (I1.bP (t:=z1.s.toks) λb o e=>keep b o e) (.mk (Em ⟨n (by decide),n (by decide),n (i:=0) (by decide),n (by decide),n (by decide),n (j:=0) (by decide),n (by decide),n (j:=0) (by decide),n (by decide),n (i:=0) (by decide),⟨f _ h1.lt 4,f _ h1.lt 3,Xi h1.lt,f _ h1.lt 1⟩,⟨f _ h2.lt 4,f _ h2.lt 3,Xi h2.lt,f _ h2.lt 1⟩⟩ S S') Z λc hc=>I1.jy ?_) q1);simp only[XI,Xq,or_false]at hc;rcases hc with rfl |rfl |rfl |rfl |rfl
  ·exact Xv _ _
  ·exact Xv _ _
  ·exact Xv _ _
  ·exact W3 _
  ·exact Xv _ _) (by rw[hs,hs2]) (by rw[hs2];rfl)))
noncomputable def gH (ds:List D):List D:=ds.mapIdx λi d=>.tup [.int i,d]
def gg (q:Bool) (h:Heap) (it a:Addr) (i:Int):Prop:=match q with
 |true=>d9 h it a i
 |false=>h.IsRevIter it a i
theorem gg.o {h:Heap}{it:Addr}{i:Int} (x:gg q h it a i):∃o n vs,h.get? it=some o/\o.cls=.type n/\o.data=.fields vs/\["enumerate","zip","dict_itemiterator","dict_reverseitemiterator","odict_iterator","itertools.zip_longest","itertools.pairwise"].contains n=false:=by
 cases q with
 |true=>obtain⟨o,e,c,d⟩:=x;exact⟨o,_,_,e,c,d,by decide⟩
 |false=>obtain⟨o,e,c,d⟩:=x;exact⟨o,_,_,e,c,d,by decide⟩
theorem gg.at {h h':Heap}{it:Addr}{i:Int} (x:gg q h it a i) (k:bg h h' it):gg q h' it a i:=by
 cases q with
 |true=>exact d9.at x k
 |false=>exact Heap.IsRevIter.at x k
theorem Es {it:Addr}{n:Nat} (hn:n=xs.length) (S:kW G F0 q a xs ok):f9 G tg xs.reverse ok F0 [it] it (λi h=>i<=n/\gg q h it a ((n:Int)-1-(i:Int))) where
 obj:=λi h st b hb=>by rw[kX hb];obtain⟨o,_,_,e,_⟩:=st.2.o;exact⟨o,e⟩
 keep:=λi h h' st k=>⟨st.1,st.2.at (k it (List.mem_singleton.mpr rfl))⟩
 item:=by
  intro X hG hc i τ z d E I l hf st hok hd;subst hG;have hi:i<n:=by have:=(List.getElem?_eq_some_iff.mp hd).1;rw[Y5]at this;lia
  rw[List.getElem?_reverse (by lia),<- hn]at hd;obtain⟨us,r1,hz,h1⟩:=S X τ z rfl I l hok;obtain⟨u,hu,ru⟩:=ee r1 hd;have st2:=st.2;rw[show (n:Int)-1-(i:Int)=((n-1-i:Nat):Int) by lia]at st2;have fin:∀h' tk,gg q h' it a (((n-1-i:Nat):Int)-1)->YM it z.s.heap h'->∃u',(some u:Option Value)=some u'/\wpAny (model X.G.P X.G.w) X.A (letOwnedTupleGo tg (.ref it) u') (λ_ s2=>nu X τ z d u' [it] (λi h=>i<=n/\gg q h it a ((n:Int)-1-(i:Int))) (i+1) s2) E { z.s with heap:=h',toks:=tk }:=λh' tk bm sb=>by
   obtain⟨o,_,_,e,c,Tx,qf⟩:=bm.o;refine⟨u,rfl,mW (s:={ z.s with heap:=h',toks:=tk }) e c Tx qf ⟨Le.rfl,I.dz (t:=tk) hf (λb hb o' e'=>(sb.2 b λq=>hb (List.mem_singleton.mpr q)).trans e'),ru,⟨hi,?_⟩,λb hb=>(hf b hb).f⟩⟩;rw[show (n:Int)-1-((i+1:Nat):Int)=((n-1-i:Nat):Int)-1 by lia];exact bm
  cases q with
  |true=>exact Di st2 h1 (by rw[W4];exact hz) hu fin
  |false=>exact wpAny_pyNext_rev_item st2 h1 hu λh'=>fin h' z.s.toks
 done:=by
  intro X hG hc i τ z E I l hf st hok hd;subst hG;rw[Y5]at hd;have st2:=st.2;rw[show (n:Int)-1-(i:Int)=-1 by have:=st.1;lia]at st2
  have fin:∀h' tk,Zb it z.s.heap h'->(none:Option Value)=none/\ae X τ ⟨z.F,z.M,{ z.s with heap:=h',toks:=tk }⟩:=λh' tk eb=>⟨rfl,I.dz hf λb hb o e=>eb b o (λq=>hb (List.mem_singleton.mpr q)) e⟩;cases q with
  |true=>exact Dj (I.ok.hd hc) st2 fin
  |false=>exact wpAny_pyNext_rev_end (I.ok.hd hc) st2 λh'=>fin h' z.s.toks
 self:=λ_ _ _ _ _ st h=>by
  cases q with
  |true=>exact vj st.2 h
  |false=>exact wpAny_pyIter_revIter st.2 h
def wb (t:DE):DI:=fun τ M k=>t τ M λd M1=>iq d M1 λxs ok=>k xs.reverse ok M1
theorem Et (hg:Gl X "reversed") (hm:X.G.mg "reversed"=none) (ha:PE X ea ta) (hs:starEach [ea] X.env=[(false,eval ea X.env)]):PI X tg (.Call (.Name "reversed" pn) [ea] [] pos) (wb ta):=fun τ z k R I h K=>
 Call_ (eG I hg hm boot_reversed (by decide) (by decide) (Ye (vU ha hs pos I h λd z1 u l1 I1 r1 q1=>by
  obtain⟨q,x,xs,ok,rfl,S,hok,q1⟩:=I1.ir r1 q1;obtain⟨us,rr,hz,h1⟩:=S X τ z1 rfl I1 Le.rfl hok;have e0:((us.toArray.size:Nat):Int)-1=(xs.length:Int)-1-((0:Nat):Int):=by rw[W4,<- rr.len];simp
  have fin:∀h' tk,gg q h' z1.s.heap.objs.size x ((us.toArray.size:Int)-1)->(∀b o,z1.s.heap.get? b=some o->h'.get? b=some o)->R (.ref z1.s.heap.objs.size) { z1.s with heap:=h',toks:=tk }:=λh' tk Z keep=>
   K _ _ ⟨z1.F,z1.M,_⟩ _ l1 (I1.bP λb o e=>keep b o e) (jz I1 (W3 _) (Es rfl S) ⟨Xk _,by rw[<- e0];exact Z⟩) q1
  cases q with
  |true=>exact Dh h1 (by rw[W4];exact hz) λh' tk Z n2 keep=>vj Z (fin h' tk Z keep)
  |false=>exact call_reversed_list h1 (wpAny_pyIter_revIter (l:=x) (i:=(us.toArray.size:Int)-1) ⟨_,W5 _ rfl,rfl,rfl⟩ (fin _ z1.s.toks ⟨_,W5 _ rfl,rfl,rfl⟩ λb o e=>WZ _ e))) hs rfl))
end
end N
end
section
set_option maxHeartbeats 1000000
namespace N
open PySem PySem.Spec PyProof.Rows L2
noncomputable def qv:D->Option (List D)
 |.tup ds=>some ds
 |_=>none
noncomputable def qw:D->Option (List D)
 |.lst ds=>some ds
 |_=>none
noncomputable def oI:D->Option Int
 |.int i=>some i
 |.bl b=>some (if b then 1 else 0)
 |_=>none
noncomputable def k4:D->Option Str
 |.str x=>some x
 |_=>none
noncomputable def nG:D->Bool
 |.aj=>true
 |_=>false
mutual
noncomputable def aE:D->D->Bool
 |.aj=>nG
 |.bl a=>λe=>oI e == some (if a then 1 else 0)
 |.int a=>λe=>oI e == some a
 |.str a=>λe=>k4 e == some a
 |.tup a=>λe=>(qv e).any (bB a)
 |.lst a=>λe=>(qw e).any (bB a)
 |.ref _=>λ_=>false
 |.ty _=>λ_=>false
 |.ak _ _=>λ_=>false
noncomputable def bB:List D->List D->Bool
 |[]=>List.isEmpty
 |d::ds=>λes=>match es with
  |e::es=>aE d e && bB ds es
  |[]=>false
end
mutual
noncomputable def aw:D->Bool
 |.aj=>true
 |.bl _=>true
 |.int _=>true
 |.str _=>true
 |.tup ds=>aH ds
 |.lst ds=>aH ds
 |.ref _=>false
 |.ty _=>false
 |.ak _ _=>false
noncomputable def aH:List D->Bool
 |[]=>true
 |d::ds=>aw d && aH ds
end
mutual
noncomputable def aO:D->Nat
 |.tup ds=>aU ds+1
 |.lst ds=>aU ds+1
 |.aj=>0
 |.bl _=>0
 |.int _=>0
 |.str _=>0
 |.ref _=>0
 |.ty _=>0
 |.ak _ _=>0
noncomputable def aU:List D->Nat
 |[]=>0
 |d::ds=>max (aO d) (aU ds)
end
inductive Sh (G:Gx) (F:Fz) (s:Shared):D->Value->Prop
 |aj:Sh G F s .aj .none
 |bl {b}:Sh G F s (.bl b) (.bool b)
 |int {i t}:Sh G F s (.int i) (.int i t)
 |str {x t}:Sh G F s (.str x) (.str x t)
 |tup {ds us a} (h:s.heap.IsTuple a us.toArray) (r:af G F ds us) (k:aH ds=true):Sh G F s (.tup ds) (.ref a)
 |lst {ds us a} (h:s.heap.IsList a us.toArray) (r:af G F ds us) (k:aH ds=true):Sh G F s (.lst ds) (.ref a)
section
variable {G:Gx}{F:Fz}{M:Mp}{s:Shared}{A:Around}
theorem eJ (ok:aG G F M s.heap) {d:D}{u:Value} (r:ab G F d u) (h:aw d=true):Sh G F s d u:=by
 cases d with
 |aj=>rw[ab]at r;subst r;exact .aj
 |bl b=>rw[ab]at r;subst r;exact .bl
 |int i=>rw[ab]at r;obtain⟨t,rfl⟩:=r;exact .int
 |str i=>rw[ab]at r;obtain⟨t,rfl⟩:=r;exact .str
 |tup ds=>rw[ab]at r;obtain⟨a,o,us,rfl,h1,h2,h3⟩:=r;rw[aw]at h;exact .tup ⟨o,ok.fz a _ h1,h2.cls,h2.data⟩ h3 h
 |lst ds=>rw[ab]at r;obtain⟨a,n,us,rfl,h1,h2,h3⟩:=r;rw[aw]at h;exact .lst ⟨_,ok.fz a _ h1,rfl,n,rfl⟩ h3 h
 |ref a=>rw[aw]at h;cases h
 |ty n=>rw[aw]at h;cases h
 |ak ks ds=>rw[aw]at h;cases h
theorem jA:∀{ds:List D}{i:Nat}{d:D},aH ds=true->ds[i]?=some d->aw d=true/\aO d<=aU ds
 |[],i,d,_,h=>by simp at h
 |c::ds,0,d,k,h=>by rw[aH,W7]at k;cases h;exact⟨k.1,by rw[aU];exact Ym _ _⟩
 |c::ds,i+1,d,k,h=>by
  rw[aH,W7]at k;obtain⟨h1,h2⟩:=jA (i:=i) (d:=d) k.2 h;exact⟨h1,by rw[aU];exact W9 h2 (XW _ _)⟩
theorem iw:∀(ds es:List D),bB ds es=((Yw (min ds.length es.length)).all (λj=>((ds[j]?).bind λd=>(es[j]?).map (aE d)).getD false) && (ds.length == es.length))
 |[],[]=>rfl
 |[],e::es=>by rw[bB];rfl
 |d::ds,[]=>by rw[bB];rfl
 |d::ds,e::es=>by
  rw[bB];show (aE d e && bB ds es)=_;rw[iw ds es,Xd,Xd,Nat.succ_min_succ,List.range_succ_eq_map,List.all_cons,List.all_map];simp only[List.getElem?_cons_zero,Option.bind_some,Option.map_some,Option.getD_some,Bool.and_assoc]
  congr 1
  congr 1
  rw[Yv];simp
mutual
theorem we:∀(d:D) {e:D}{u:Value},ab G F d u->ab G F e u->aw d=true->aw e=true->d=e
 |.aj,e,u,r,r',k,k'=>by
  rw[ab]at r;subst r;cases e <;> first |rfl |(rw[ab]at r';first |(obtain⟨_,_,_,q,_⟩:=r';cases q;done) |(obtain⟨_,q⟩:=r';cases q;done) |(cases r';done))
 |.bl b,e,u,r,r',k,k'=>by
  rw[ab]at r;subst r;cases e <;> (rw[ab]at r';first |(obtain⟨_,_,_,q,_⟩:=r';cases q;done) |(obtain⟨_,q⟩:=r';cases q;done) |(cases r';done) |(cases r';rfl))
 |.int b,e,u,r,r',k,k'=>by
  rw[ab]at r;obtain⟨t,rfl⟩:=r;cases e <;> (rw[ab]at r';first |(obtain⟨_,_,_,q,_⟩:=r';cases q;done) |(obtain⟨_,q⟩:=r';cases q;done) |(cases r';done) |(obtain⟨_,q⟩:=r';cases q;rfl))
 |.str b,e,u,r,r',k,k'=>by
  rw[ab]at r;obtain⟨t,rfl⟩:=r;cases e <;> (rw[ab]at r';first |(obtain⟨_,_,_,q,_⟩:=r';cases q;done) |(obtain⟨_,q⟩:=r';cases q;done) |(cases r';done) |(obtain⟨_,q⟩:=r';cases q;rfl))
 |.tup ds,e,u,r,r',k,k'=>by
  rw[ab]at r;obtain⟨a,o,us,rfl,h1,h2,h3⟩:=r;cases e with
  |tup es=>
   rw[ab]at r';obtain⟨b,o',vs,q,g1,g2,g3⟩:=r';cases q;rw[h1]at g1;cases g1;obtain⟨n,e1⟩:=h2.data;obtain⟨n',e2⟩:=g2.data;rw[e1]at e2;injection e2 with e3 _;cases (show us=vs by simpa using congrArg Array.toList e3);rw[aw]at k k';rw[nH ds h3 g3 k k']
  |lst es=>
   rw[ab]at r';obtain⟨b,o',vs,q,g1,g2,g3⟩:=r';cases q;rw[h1]at g1;cases g1;have:=h2.cls;injection this with this;exact absurd this (by decide)
  |ref b=>rw[aw]at k';cases k'
  |ak _ _=>rw[aw]at k';cases k'
  |ty _=>rw[aw]at k';cases k'
  |aj=>rw[ab]at r';cases r'
  |bl _=>rw[ab]at r';cases r'
  |int _=>rw[ab]at r';obtain⟨_,q⟩:=r';cases q
  |str _=>rw[ab]at r';obtain⟨_,q⟩:=r';cases q
 |.lst ds,e,u,r,r',k,k'=>by
  rw[ab]at r;obtain⟨a,n,us,rfl,h1,h2,h3⟩:=r;cases e with
  |lst es=>
   rw[ab]at r';obtain⟨b,n',vs,q,g1,g2,g3⟩:=r';cases q;rw[h1]at g1;have e3:bK us n=bK vs n':=Fo.dat.inj (XD g1);unfold bK at e3;injection e3 with _ _ e3 _;injection e3 with e3 _;cases (show us=vs by simpa using congrArg Array.toList e3);rw[aw]at k k';rw[nH ds h3 g3 k k']
  |tup es=>
   rw[ab]at r';obtain⟨b,o',vs,q,g1,g2,g3⟩:=r';cases q;rw[h1]at g1;cases g1;have:=g2.cls;injection this with this;exact absurd this (by decide)
  |ref b=>rw[aw]at k';cases k'
  |ak _ _=>rw[aw]at k';cases k'
  |ty _=>rw[aw]at k';cases k'
  |aj=>rw[ab]at r';cases r'
  |bl _=>rw[ab]at r';cases r'
  |int _=>rw[ab]at r';obtain⟨_,q⟩:=r';cases q
  |str _=>rw[ab]at r';obtain⟨_,q⟩:=r';cases q
 |.ref _,_,_,_,_,k,_=>by rw[aw]at k;cases k
 |.ty _,_,_,_,_,k,_=>by rw[aw]at k;cases k
 |.ak _ _,_,_,_,_,k,_=>by rw[aw]at k;cases k
theorem nH:∀(ds:List D) {es:List D}{us:List Value},af G F ds us->af G F es us->aH ds=true->aH es=true->ds=es
 |[],es,us,r,r',_,_=>by
  rw[af]at r;subst r;cases es with
  |nil=>rfl
  |cons e es=>rw[af]at r';obtain⟨_,_,q,_⟩:=r';cases q
 |d::ds,es,us,r,r',k,k'=>by
  rw[af]at r;obtain⟨u,us,rfl,r1,r2⟩:=r;cases es with
  |nil=>rw[af]at r';cases r'
  |cons e es=>
   rw[af]at r';obtain⟨_,_,q,g1,g2⟩:=r';cases q;rw[aH,W7]at k k';rw[we d r1 g1 k.1 k'.1,nH ds r2 g2 k.2 k'.2]
end
mutual
theorem gh:∀(d:D),aw d=true->aE d d=true
 |.aj,_=>by rw[aE];rfl
 |.bl b,_=>by rw[aE];simp [oI]
 |.int b,_=>by rw[aE];simp [oI]
 |.str b,_=>by rw[aE];simp [k4]
 |.tup ds,k=>by rw[aw]at k;rw[aE];exact nI ds k
 |.lst ds,k=>by rw[aw]at k;rw[aE];exact nI ds k
 |.ref _,k=>by rw[aw]at k;cases k
 |.ty _,k=>by rw[aw]at k;cases k
 |.ak _ _,k=>by rw[aw]at k;cases k
theorem nI:∀(ds:List D),aH ds=true->bB ds ds=true
 |[],_=>rfl
 |d::ds,k=>by rw[aH,W7]at k;rw[bB,W7];exact⟨gh d k.1,nI ds k.2⟩
end
theorem wg (ds:List D) {es:List D}{us:List Value} (r:af G F ds us) (r':af G F es us) (k:aH ds=true) (k':aH es=true):bB ds es=true:=by
 cases nH ds r r' k k';exact nI ds k
end
end N
end
section
set_option maxHeartbeats 1000000
namespace N
open PySem PySem.Spec PyProof.Rows L2
noncomputable abbrev k5 (ds es:List D) (j:Nat):Bool:=((ds[j]?).bind λd=>(es[j]?).map (aE d)).getD false
section
variable {G:Gx}{F:Fz}{M:Mp}{s:Shared}{A:Around}
theorem wj.inj {h:Heap}{a:Addr}{us vs:List Value} (x:h.IsList a us.toArray\/h.IsTuple a us.toArray) (y:h.IsList a vs.toArray\/h.IsTuple a vs.toArray):us=vs:=by
 have g:∀{ws:List Value},(h.IsList a ws.toArray\/h.IsTuple a ws.toArray)->∃o n,h.get? a=some o/\o.data=.seq ws.toArray n:=λq=>by
  rcases q with ⟨o,e,_,n,d⟩ |⟨o,e,_,n,d⟩ <;> exact⟨o,n,e,d⟩
 obtain⟨o,n,e,d⟩:=g x;obtain⟨o',n',e',d'⟩:=g y;rw[e]at e';cases e';rw[d]at d';injection d' with d' _;simpa using congrArg Array.toList d'
theorem k6:∀(n:Nat) {A:Around}{d e:D}{u v:Value},aG G F M s.heap->Sh G F s d u->Sh G F s e v->aO d<=n->A.units+n<cLine->SeqAt.EqAt A s u v (aE d e):=by
 intro n
 induction n with
 |zero=>
  intro A d e u v ok hd he hn hu;have ac:A.units<cLine:=hu;cases hd with
  |tup h r k=>rw[aO]at hn;cases hn
  |lst h r k=>rw[aO]at hn;cases hn
  |aj=>cases he with
   |aj=>exact SeqAt.EqAt.same _
   |bl=>exact SeqAt.EqAt.none_bool _
   |int=>exact SeqAt.EqAt.none_int _ _
   |str=>exact SeqAt.EqAt.none_str _ _
   |tup h r k=>exact SeqAt.EqAt.none_tuple h ac
   |lst h r k=>exact SeqAt.EqAt.none_list h ac
  |@bl a=>cases he with
   |aj=>exact SeqAt.EqAt.bool_none _
   |@bl b=>rw[show aE (.bl a) (.bl b)=(a == b) by rw[aE];cases a <;> cases b <;> rfl];exact SeqAt.EqAt.bool_bool _ _
   |@int b t=>rw[show aE (.bl a) (.int b)=((if a then 1 else 0) == b) by rw[aE,Yv];simp [oI];exact eq_comm];exact SeqAt.EqAt.bool_int _ _ _
   |str=>exact SeqAt.EqAt.bool_str _ _ _
   |tup h r k=>exact SeqAt.EqAt.bool_tuple _ h ac
   |lst h r k=>exact SeqAt.EqAt.bool_list _ h ac
  |@int a t=>cases he with
   |aj=>exact SeqAt.EqAt.int_none _ _
   |@bl b=>rw[show aE (.int a) (.bl b)=(a == (if b then 1 else 0)) by rw[aE,Yv];simp [oI];exact eq_comm];exact SeqAt.EqAt.int_bool _ _ _
   |@int b t'=>rw[show aE (.int a) (.int b)=(a == b) by rw[aE,Yv];simp [oI];exact eq_comm];exact SeqAt.EqAt.int_int _ _ _ _
   |str=>exact SeqAt.EqAt.int_str _ _ _ _
   |tup h r k=>exact SeqAt.EqAt.int_tuple _ _ h ac
   |lst h r k=>exact SeqAt.EqAt.int_list _ _ h ac
  |@str a t=>cases he with
   |aj=>exact SeqAt.EqAt.str_none _ _
   |bl=>exact SeqAt.EqAt.str_bool _ _ _
   |int=>exact SeqAt.EqAt.str_int _ _ _ _
   |@str b t'=>rw[show aE (.str a) (.str b)=(a == b) by rw[aE,Yv];simp [k4];exact eq_comm];exact SeqAt.EqAt.str_str _ _ _ _
   |tup h r k=>exact SeqAt.EqAt.str_tuple _ _ h ac
   |lst h r k=>exact SeqAt.EqAt.str_list _ _ h ac
 |succ n ih=>
  intro A d e u v ok hd he hn hu;have io:aO d<=n->SeqAt.EqAt A s u v (aE d e):=λh=>ih ok hd he h (Nat.lt_of_succ_lt hu);have ac:A.units<cLine:=Xg (Xv _ _) hu;have items:∀{ds es:List D}{us vs:List Value},af G F ds us->af G F es vs->aH ds=true->aH es=true->aU ds<=n->∀j (h1:j<us.toArray.size) (h2:j<vs.toArray.size),SeqAt.EqAt A.in1 s us.toArray[j] vs.toArray[j] (k5 ds es j):=λ{ds es us vs} r1 r2 k1 k2 hd j h1 h2=>by
   have g1:j<ds.length:=(by rw[r1.len];simpa using h1);have g2:j<es.length:=(by rw[r2.len];simpa using h2);obtain⟨u,e1,q1⟩:=ee r1 (W6 g1);obtain⟨v,e2,q2⟩:=ee r2 (W6 g2);have m1:=jA k1 (W6 g1);have m2:=jA k2 (W6 g2);rw[(Array.getElem?_eq_some_iff.mp e1).2,(Array.getElem?_eq_some_iff.mp e2).2];unfold k5;rw[W6 g1,W6 g2];exact ih ok (eJ ok q1 m1.1) (eJ ok q2 m2.1) (W9 m1.2 hd) (by show A.units+1+n<cLine;lia)
  cases hd with
  |aj=>exact io (Xk _)
  |bl=>exact io (Xk _)
  |int=>exact io (Xk _)
  |str=>exact io (Xk _)
  |@tup ds us a h r k=>
   rw[aO]at hn;cases he with
   |aj=>exact SeqAt.EqAt.tuple_none h ac
   |bl=>exact SeqAt.EqAt.tuple_bool _ h ac
   |int=>exact SeqAt.EqAt.tuple_int _ _ h ac
   |str=>exact SeqAt.EqAt.tuple_str _ _ h ac
   |lst h' r' k'=>exact SeqAt.EqAt.tuple_list h h' ac
   |@tup es vs b h' r' k'=>
    have e:aE (.tup ds) (.tup es)=bB ds es:=(by rw[aE];rfl);rw[e];by_cases iy:a=b
    ·subst iy;cases wj.inj (.inr h) (.inr h');rw[wg ds r r' k k'];exact SeqAt.EqAt.same _
    ·have q:=SeqAt.RcAt.tuples (A:=A) h h' ac (items r r' k k' (YU hn));rw[W4,W4,<- r.len,<- r'.len,<- iw]at q;exact SeqAt.EqAt.of_refs iy q
  |@lst ds us a h r k=>
   rw[aO]at hn;cases he with
   |aj=>exact SeqAt.EqAt.list_none h ac
   |bl=>exact SeqAt.EqAt.list_bool _ h ac
   |int=>exact SeqAt.EqAt.list_int _ _ h ac
   |str=>exact SeqAt.EqAt.list_str _ _ h ac
   |tup h' r' k'=>exact SeqAt.EqAt.list_tuple h h' ac
   |@lst es vs b h' r' k'=>
    have e:aE (.lst ds) (.lst es)=bB ds es:=(by rw[aE];rfl);rw[e];by_cases iy:a=b
    ·subst iy;cases wj.inj (.inl h) (.inl h');rw[wg ds r r' k k'];exact SeqAt.EqAt.same _
    ·refine SeqAt.EqAt.of_refs iy ?_;have l1:=r.len;have l2:=r'.len;by_cases hl:ds.length=es.length
     ·have q:=SeqAt.RcAt.lists (A:=A) h h' (by rw[W4,W4,<- l1,<- l2,hl]) ac (items r r' k k' (YU hn));rw[W4,<- l1]at q;rw[iw,<- hl,Nat.min_self,beq_self_eq_true,Bool.and_true];exact q
     ·rw[iw,beq_false_of_ne hl,Bool.and_false];exact SeqAt.RcAt.lists_lengths h h' (by rw[W4,W4,<- l1,<- l2];simpa using hl) ac
theorem Eu {ds es:List D}{us vs:List Value}{n:Nat} (ok:aG G F M s.heap) (r1:af G F ds us) (r2:af G F es vs) (k1:aH ds=true) (k2:aH es=true) (hd:aU ds<=n) (hu:A.units+n<cLine) (j:Nat) (h1:j<us.toArray.size) (h2:j<vs.toArray.size):SeqAt.EqAt A s us.toArray[j] vs.toArray[j] (k5 ds es j):=by
 have g1:j<ds.length:=by rw[r1.len];simpa using h1
 have g2:j<es.length:=by rw[r2.len];simpa using h2
 obtain⟨u,e1,q1⟩:=ee r1 (W6 g1);obtain⟨v,e2,q2⟩:=ee r2 (W6 g2);have m1:=jA k1 (W6 g1);have m2:=jA k2 (W6 g2);rw[(Array.getElem?_eq_some_iff.mp e1).2,(Array.getElem?_eq_some_iff.mp e2).2];unfold k5;rw[W6 g1,W6 g2];exact k6 n ok (eJ ok q1 m1.1) (eJ ok q2 m2.1) (W9 m1.2 hd) hu
theorem Ew {n:Nat}{d e:D}{u v:Value} (ok:aG G F M s.heap) (hd:Sh G F s d u) (he:Sh G F s e v) (hn:aO d<=n+1) (hu:A.units+1+n<cLine):SeqAt.RcAt A s u v (aE d e)/\SeqAt.RcNeAt A s u v (!aE d e):=by
  have ac:A.units<cLine:=by lia
  have items:∀{ds es:List D}{us vs:List Value},af G F ds us->af G F es vs->aH ds=true->aH es=true->aU ds<=n->∀j (h1:j<us.toArray.size) (h2:j<vs.toArray.size),SeqAt.EqAt A.in1 s us.toArray[j] vs.toArray[j] (k5 ds es j):=λr1 r2 k1 k2 hd=>Eu ok r1 r2 k1 k2 hd hu;cases hd with
  |aj=>cases he with
   |aj=>exact⟨SeqAt.RcAt.none_none,SeqAt.RcNeAt.none_none⟩
   |bl=>exact⟨SeqAt.RcAt.none_bool _,SeqAt.RcNeAt.none_bool _⟩
   |int=>exact⟨SeqAt.RcAt.none_int _ _,SeqAt.RcNeAt.none_int _ _⟩
   |str=>exact⟨SeqAt.RcAt.none_str _ _,SeqAt.RcNeAt.none_str _ _⟩
   |tup h r k=>exact⟨SeqAt.RcAt.none_tuple h ac,SeqAt.RcNeAt.none_tuple h ac⟩
   |lst h r k=>exact⟨SeqAt.RcAt.none_list h ac,SeqAt.RcNeAt.none_list h ac⟩
  |@bl a=>cases he with
   |aj=>exact⟨SeqAt.RcAt.bool_none _,SeqAt.RcNeAt.bool_none _⟩
   |@bl b=>rw[show aE (.bl a) (.bl b)=(a == b) by rw[aE];cases a <;> cases b <;> rfl];exact⟨SeqAt.RcAt.bool_bool _ _,SeqAt.RcNeAt.bool_bool _ _⟩
   |@int b t'=>rw[show aE (.bl a) (.int b)=((if a then 1 else 0) == b) by rw[aE,Yv];simp [oI];exact eq_comm];exact⟨SeqAt.RcAt.bool_int _ _ _,SeqAt.RcNeAt.bool_int _ _ _⟩
   |str=>exact⟨SeqAt.RcAt.bool_str _ _ _,SeqAt.RcNeAt.bool_str _ _ _⟩
   |tup h r k=>exact⟨SeqAt.RcAt.bool_tuple _ h ac,SeqAt.RcNeAt.bool_tuple _ h ac⟩
   |lst h r k=>exact⟨SeqAt.RcAt.bool_list _ h ac,SeqAt.RcNeAt.bool_list _ h ac⟩
  |@int a t=>cases he with
   |aj=>exact⟨SeqAt.RcAt.int_none _ _,SeqAt.RcNeAt.int_none _ _⟩
   |@bl b=>rw[show aE (.int a) (.bl b)=(a == (if b then 1 else 0)) by rw[aE,Yv];simp [oI];exact eq_comm];exact⟨SeqAt.RcAt.int_bool _ _ _,SeqAt.RcNeAt.int_bool _ _ _⟩
   |@int b t'=>rw[show aE (.int a) (.int b)=(a == b) by rw[aE,Yv];simp [oI];exact eq_comm];exact⟨SeqAt.RcAt.int_int _ _ _ _,SeqAt.RcNeAt.int_int _ _ _ _⟩
   |str=>exact⟨SeqAt.RcAt.int_str _ _ _ _,SeqAt.RcNeAt.int_str _ _ _ _⟩
   |tup h r k=>exact⟨SeqAt.RcAt.int_tuple _ _ h ac,SeqAt.RcNeAt.int_tuple _ _ h ac⟩
   |lst h r k=>exact⟨SeqAt.RcAt.int_list _ _ h ac,SeqAt.RcNeAt.int_list _ _ h ac⟩
  |@str a t=>cases he with
   |aj=>exact⟨SeqAt.RcAt.str_none _ _,SeqAt.RcNeAt.str_none _ _⟩
   |bl=>exact⟨SeqAt.RcAt.str_bool _ _ _,SeqAt.RcNeAt.str_bool _ _ _⟩
   |int=>exact⟨SeqAt.RcAt.str_int _ _ _ _,SeqAt.RcNeAt.str_int _ _ _ _⟩
   |@str b t'=>rw[show aE (.str a) (.str b)=(a == b) by rw[aE,Yv];simp [k4];exact eq_comm];exact⟨SeqAt.RcAt.str_str _ _ _ _,SeqAt.RcNeAt.str_str _ _ _ _⟩
   |tup h r k=>exact⟨SeqAt.RcAt.str_tuple _ _ h ac,SeqAt.RcNeAt.str_tuple _ _ h ac⟩
   |lst h r k=>exact⟨SeqAt.RcAt.str_list _ _ h ac,SeqAt.RcNeAt.str_list _ _ h ac⟩
  |@tup ds us a h r k=>
   rw[aO]at hn;cases he with
   |aj=>exact⟨SeqAt.RcAt.tuple_none h ac,SeqAt.RcNeAt.tuple_none h ac⟩
   |bl=>exact⟨SeqAt.RcAt.tuple_bool _ h ac,SeqAt.RcNeAt.tuple_bool _ h ac⟩
   |int=>exact⟨SeqAt.RcAt.tuple_int _ _ h ac,SeqAt.RcNeAt.tuple_int _ _ h ac⟩
   |str=>exact⟨SeqAt.RcAt.tuple_str _ _ h ac,SeqAt.RcNeAt.tuple_str _ _ h ac⟩
   |lst h' r' k'=>exact⟨SeqAt.RcAt.tuple_list h h' ac,SeqAt.RcNeAt.tuple_list h h' ac⟩
   |@tup es vs b h' r' k'=>
    have q1:=SeqAt.RcAt.tuples (A:=A) h h' ac (items r r' k k' (YU hn));have q2:=SeqAt.RcNeAt.tuples (A:=A) h h' ac (items r r' k k' (YU hn));rw[W4,W4,<- r.len,<- r'.len,<- iw]at q1 q2;rw[show aE (.tup ds) (.tup es)=bB ds es by rw[aE];rfl];exact⟨q1,q2⟩
  |@lst ds us a h r k=>
   rw[aO]at hn;cases he with
   |aj=>exact⟨SeqAt.RcAt.list_none h ac,SeqAt.RcNeAt.list_none h ac⟩
   |bl=>exact⟨SeqAt.RcAt.list_bool _ h ac,SeqAt.RcNeAt.list_bool _ h ac⟩
   |int=>exact⟨SeqAt.RcAt.list_int _ _ h ac,SeqAt.RcNeAt.list_int _ _ h ac⟩
   |str=>exact⟨SeqAt.RcAt.list_str _ _ h ac,SeqAt.RcNeAt.list_str _ _ h ac⟩
   |tup h' r' k'=>exact⟨SeqAt.RcAt.list_tuple h h' ac,SeqAt.RcNeAt.list_tuple h h' ac⟩
   |@lst es vs b h' r' k'=>
    have l1:=r.len;have l2:=r'.len;rw[show aE (.lst ds) (.lst es)=bB ds es by rw[aE];rfl];by_cases hl:ds.length=es.length
    ·have hz:us.toArray.size=vs.toArray.size:=(by rw[W4,W4,<- l1,<- l2,hl]);have q1:=SeqAt.RcAt.lists (A:=A) h h' hz ac (items r r' k k' (YU hn));have q2:=SeqAt.RcNeAt.lists (A:=A) h h' hz ac (items r r' k k' (YU hn));rw[W4,<- l1]at q1 q2;rw[iw,<- hl,Nat.min_self,beq_self_eq_true,Bool.and_true];exact⟨q1,q2⟩
    ·have hz:(us.toArray.size != vs.toArray.size)=true:=(by rw[W4,W4,<- l1,<- l2];simpa using hl);rw[iw,beq_false_of_ne hl,Bool.and_false];exact⟨SeqAt.RcAt.lists_lengths h h' hz ac,SeqAt.RcNeAt.lists_lengths h h' hz ac⟩
end
end N
end
section
namespace L2
open PySem PySem.Spec PyProof.Rows
theorem wo (prog:Program) (w:World) (i:Int) (t:Tok):(bo prog w).is (.inl i) (.int i t)=true:=CZ i t
theorem wt (prog:Program) (w:World) (x:Str) (t:Tok):(bo prog w).is (.inr x) (.str x t)=true:=pX x t
end L2
namespace L2
open PySem PySem.Spec PyProof.Rows
section
variable {X:Cx}{a b c:Expr}{ta tb tc:TE}{pos:Pos}
def wu (i j:Int):Prop:=0<=j/\j<=1000000/\i.natAbs<2 ^ 64
def qx (i j:Int):Prop:=(-(2 ^ 64)<i/\i<2 ^ 64)\/(-(2 ^ 64)<j/\j<2 ^ 64)
theorem qx.ok {i j:Int} (h:qx i j):IntMulOk i j:=by
 rcases h with ⟨h1,h2⟩ |⟨h1,h2⟩
 ·exact .of_left (intBits_le_64 h1 h2)
 ·exact .of_right (intBits_le_64 h1 h2)
theorem Ex (k:Nat):(0:Int)<=2 ^ k:=by
 rw[two_pow_cast];exact Int.natCast_nonneg _
end
section
variable {X:Cx}{a b c:Expr}{ta tb tc:TE}{pos:Pos}
theorem nJ:(sizeLine:Nat)<2 ^ 63:=by rw[Zj];decide
end
end L2
namespace HT
open PySem PyProof.Rows
section
variable {prog:Program}{w:World}{A:Around}{E:Value->Shared->Prop}{s:Shared}
theorem Ey {t b:Addr}{vs ws:List Value}{Q:Value->Shared->Prop} (ht:IsTup s.heap t vs.toArray) (hb:IsTup s.heap b ws.toArray) (hv:vs≠[])
  (h1:ws=[]->Q (.ref t) s) (h2:ws≠[]->Q (.ref s.heap.objs.size) { s with heap:=s.heap.push { cls:=.type "tuple",data:=.seq (vs++ws).toArray } })
  (hsz:vs.length+ws.length<=sizeLine):wpAny (model prog w) A (binaryOp .Add (.ref t) (.ref b)) Q E s:=by
 obtain⟨⟨cls,dd,data,sl⟩,ho,hc,n,hd⟩:=id ht;obtain⟨⟨wn,iz,wv,k7⟩,ho2,fA,n2,gI⟩:=id hb;simp only at hc hd fA gI;subst hc hd fA gI;have e:vs.toArray++ws.toArray=(vs++ws).toArray:=by simp
 by_cases hw:ws=[]
 ·exact concat_meets ⟨_,ho,rfl⟩ ⟨_,ho2,rfl⟩ noFill_tuple_add seq_tuple_add PySem.F.slot_tuple_add PySem.F.entry_tuple_add (PySem.F.args_tuple_add_2 _ _)
   (tuple_addW1 t b vs.toArray ws.toArray n n2 dd iz sl k7 (by simpa using hv) (by simp [hw])) ⟨ho,ho2,h1 hw⟩
 ·refine concat_meets ⟨_,ho,rfl⟩ ⟨_,ho2,rfl⟩ noFill_tuple_add seq_tuple_add PySem.F.slot_tuple_add PySem.F.entry_tuple_add (PySem.F.args_tuple_add_2 _ _)
   (tuple_addW2 t b vs.toArray ws.toArray n n2 dd iz sl k7 (by simpa using hv) (by simpa using hw) (by rw[W4,W4];exact hsz)) ⟨ho,ho2,?_⟩
  rw[e];exact h2 hw
end
end HT
namespace L2
open PySem PySem.Spec PyProof.Rows
noncomputable def eK (n:Nat) (i:Int):Option Nat:=if 0<=i then (if i<n then some i.toNat else none) else if -(n:Int)<=i then some (i+n).toNat else none
noncomputable def cf {α:Type} (xs:List α) (i:Int):Option α:=(eK xs.length i).bind λj=>xs[j]?
theorem wx {n:Nat}{i:Int}{j:Nat} (h:eK n i=some j):seqIndex? i n=some j/\j<n/\-(n:Int)<=i/\i<n:=by
 unfold eK at h;by_cases h0:0<=i
 ·rw[if_pos h0]at h;by_cases h1:i<n
  ·rw[if_pos h1]at h;have e:i.toNat=j:=XD h;exact⟨by rw[seqIndex_of h0 h1,e],by lia,by lia,h1⟩
  ·rw[if_neg h1]at h;cases h
 ·rw[if_neg h0]at h;by_cases h1:-(n:Int)<=i
  ·rw[if_pos h1]at h;have e:(i+n).toNat=j:=XD h;exact⟨by rw[seqIndex_neg (by lia) h1,e],by lia,h1,by lia⟩
  ·rw[if_neg h1]at h;cases h
theorem qy {α:Type} {xs:List α}{i:Int}{v:α} (h:cf xs i=some v):∃j,seqIndex? i xs.length=some j/\xs[j]?=some v/\j<xs.length/\-(xs.length:Int)<=i/\i<xs.length:=by
 unfold cf at h;cases e:eK xs.length i with
 |none=>rw[e]at h;cases h
 |some j=>
  rw[e]at h;obtain⟨h1,h2,h3,h4⟩:=wx e;exact⟨j,h1,h,h2,h3,h4⟩
section
variable {X:Cx}{a b:Expr}{ta tb:TE}{pos:Pos}
theorem wy (its:List Value) (n j:Nat) (u:Value):XA (·.setIfInBounds j u) { cls:=.type "list",data:=.seq its.toArray n }={ cls:=.type "list",data:=.seq (its.set j u).toArray n }:=by
 simp [XA]
variable {o e:Expr}{es:List Expr}{to:TE}{t:TA}{name:Str}{cC cpos:Pos}{T id:String}{r:V->List V->Hp->VK->Prop}
end
end L2
namespace L2
open PySem PySem.Spec PyProof.Rows
end L2
namespace L2
open PySem PySem.Spec PyProof.Rows
def Ez (i j:Int):Prop:=i.natAbs<2 ^ 600/\j.natAbs<2 ^ 600
theorem wz {a:Int} (h:a.natAbs<2 ^ 600):Builtin.Int.intBits a<=2 ^ 20:=by
 unfold Builtin.Int.intBits;split
 ·exact Xk _
 ·rename_i z;have hz:a.natAbs≠0:=by first |exact λe=>z (by simpa using e) |(intro e;apply z;lia)
  have:=(Nat.log2_lt hz).mpr h;lia
end L2
namespace L2
open PySem PySem.Spec PyProof.Rows
theorem wA (its:List Value):∀ (k:Nat) (al:List Value),
  List.foldl (λx1 x2=>x1++x2) al.toArray (XZ k its.toArray)=(al++(XZ k its).flatten).toArray
 | 0,al=>by simp
 |k+1,al=>by
  have e:al.toArray++its.toArray=(al++its).toArray:=by simp
  have e2:(al++its)++(XZ k its).flatten=al++(XZ (k+1) its).flatten:=by
   rw[Zo,List.flatten_cons,Xy]
  rw[<- e2,<- wA its k (al++its),<- e,Zo,List.foldl_cons]
section
variable {X:Cx}{aS:List (Addr×Obj)} {σ:St} {H:Hp}{s:Shared}{l b:Addr}{xs ys zs:List V}
theorem qz {n:Nat} (h:n<=sizeLine):Yz n=false:=by
 unfold Yz;exact decide_eq_false (by lia)
end
section
variable {X:Cx}
theorem EA {α:Type} (xs:List α) (k:Nat):(XZ k xs).flatten.length=k * xs.length:=by
 induction k with
 |zero=>simp
 |succ k ih=>rw[Zo,List.flatten_cons,Xf,ih,Nat.succ_mul,Nat.add_comm]
end
end L2
namespace L2
open PySem PySem.Spec PyProof.Rows
end L2
namespace HT
open PySem PyProof.Rows
section
variable {prog:Program}{w:World}{A:Around}{E:Value->Shared->Prop}{s:Shared}
noncomputable def aB (n d:Nat):Option Int->Nat
 |none=>d
 |some v=>if v<0 then (v+(n:Int)).toNat else min v.toNat n
theorem EB (n d:Nat):aB n d none=d:=rfl
theorem EC (n d k:Nat):aB n d (some (k:Int))=min k n:=by
 show (if (k:Int)<0 then ((k:Int)+(n:Int)).toNat else min (k:Int).toNat n)=min k n
 rw[if_neg (by lia),YB]
theorem ED (n d:Nat) (hd:d<=n) (o:Option Int):aB n d o<=n:=by
 cases o with
 |none=>exact hd
 |some v=>
  show (if v<0 then (v+(n:Int)).toNat else min v.toNat n)<=n
  by_cases hv:v<0
  ·rw[if_pos hv];lia
  ·rw[if_neg hv];exact Nat.min_le_right _ _
theorem wB (v:Int) (n d:Nat):(if v<0 then max (v+(n:Int)) 0 else min v (n:Int))=((aB n d (some v):Nat):Int):=by
 show (if v<0 then max (v+(n:Int)) 0 else min v (n:Int))=(((if v<0 then (v+(n:Int)).toNat else min v.toNat n):Nat):Int)
 by_cases hv:v<0
 ·simp only[if_pos hv];lia
 ·simp only[if_neg hv];lia
theorem EE (lo hi:Option Int) (n:Nat):Builtin.Slice.sliceAdjust lo hi 1 (n:Int)=(((aB n 0 lo:Nat):Int),((aB n n hi:Nat):Int)):=by
 have h1:¬((1:Int)<0):=by lia
 unfold Builtin.Slice.sliceAdjust;simp only[h1,if_false];refine Prod.ext ?_ ?_
 ·cases lo with
  |none=>rfl
  |some v=>exact wB v n 0
 ·cases hi with
  |none=>rfl
  |some v=>exact wB v n n
theorem EF (i j:Nat):Yn (i:Int) (j:Int) 1=j-i:=by
 unfold Yn;have h1:(1:Int) > 0:=by lia
 simp only[h1,if_true,Int.ediv_one];split <;> lia
theorem wC {v:Value}{o:Option Int}{Q:Option Int->Shared->Prop} (p:IsPart v o) (h:Q o s):wpAny (model prog w) A (Builtin.Slice.slicePartIndex v) Q E s:=by
 cases p with
 |none=>exact slicePart_none h
 |int i t=>exact slicePart_int h
theorem wD {sl:Addr}{vl vu:Value}{lo hi:Option Int}{n:Nat}{Q:Int×Int×Nat->Shared->Prop} (hs:s.heap.IsSliceOf sl vl vu .none) (pl:IsPart vl lo) (pu:IsPart vu hi)
  (h:Q (((aB n 0 lo:Nat):Int),1,aB n n hi-aB n 0 lo) s):wpAny (model prog w) A (Y8 (.ref sl) (pure (n:Int))) Q E s:=by
 obtain⟨os,cY,gJ,eL⟩:=id hs;unfold Y8 Builtin.Slice.sliceFields;refine WY (WY (XS cY eL (x:=vl) rfl (WY (XS cY eL (x:=vu) rfl (WY (XS cY eL (x:=.none) rfl (W2 ?_)))))));refine WY (slicePart_none ?_);show wpAny _ _ (if ((1:Int) == 0)=true then _ else _) _ _ s
 rw[if_neg (by decide)];refine WY (wC pl (WY (wC pu (WY (W2 ?_)))));show wpAny _ _ (match Builtin.Slice.sliceAdjust lo hi 1 (n:Int) with |(lo,hi)=>pure (lo,(1:Int),Yn lo hi 1)) _ _ s
 rw[EE lo hi n];show wpAny _ _ (pure (((aB n 0 lo:Nat):Int),(1:Int),Yn ((aB n 0 lo:Nat):Int) ((aB n n hi:Nat):Int) 1)) _ _ s;rw[EF];exact W2 h
theorem EG (xs:Array Value) (i k:Nat):((Yw k).filterMap λ(m:Nat)=>xs[((i:Int)+(m:Int) * 1).toNat]?).toArray=((xs.toList.drop i).take k).toArray:=by
 have e:(λ(m:Nat)=>xs[((i:Int)+(m:Int) * 1).toNat]?)=λm=>xs[i+m]?:=by
  funext m;have:((i:Int)+(m:Int) * 1).toNat=i+m:=by lia
  rw[this]
 rw[e];have:=pick_run xs i k;rw[List.filterMap_map]at this;have e2:((λx=>xs[x]?) ∘ λx=>i+x)=λm=>xs[i+m]?:=rfl;rw[e2]at this;rw[this]
theorem EH {t sl:Addr}{items:Array Value}{vl vu:Value}{lo hi:Option Int}{Q:Value->Shared->Prop} (ht:IsTup s.heap t items) (hs:s.heap.IsSliceOf sl vl vu .none) (pl:IsPart vl lo) (pu:IsPart vu hi)
  (hw:¬(aB items.size 0 lo=0/\aB items.size items.size hi=items.size))
  (h:Q (.ref s.heap.objs.size) { s with heap:=s.heap.push { cls:=.type "tuple",data:=.seq ((items.toList.drop (aB items.size 0 lo)).take (aB items.size items.size hi-aB items.size 0 lo)).toArray } })
  (hsz:items.size<=sizeLine):wpAny (model prog w) A (getItem (.ref t) (.ref sl)) Q E s:=by
 have ge:sizeOk (.seq ((items.toList.drop (aB items.size 0 lo)).take (aB items.size items.size hi-aB items.size 0 lo)).toArray):=by
  show ((items.toList.drop (aB items.size 0 lo)).take (aB items.size items.size hi-aB items.size 0 lo)).toArray.size<=sizeLine;rw[W4,List.length_take,List.length_drop,Xp];lia
 have hj:aB items.size items.size hi<=items.size:=ED _ _ (W3 _) hi;obtain⟨os,cY,gJ,eL⟩:=id hs;have k8:s.TypeIs (.ref sl) "slice":=⟨os,cY,gJ⟩;unfold getItem
 try with_reducible refine XU ?_
 first |refine WY (W2 ?_) |skip
 refine WY (wpAny_sequenceKey ht.typeIs (by decide) ?_);refine WY (Xr (name:=Yy "__getitem__") ht.typeIs Yj
  (Xw Yj ht.typeIs entry_tuple_getitem ?_ (args_tuple_getitem _ _)))
 show wpAny _ _ (Builtin.Tuple.tupleItemsOf (.ref t) >>= _) _ _ s;refine WY (tupleItemsOf_ ht ?_);refine WY (wpAny_typeOf k8 ?_);rw[if_pos (by decide)];refine WY (wD hs pl pu ?_);have Ev:¬((((aB items.size 0 lo:Nat):Int) == 0 && (1:Int) == 1 && (aB items.size items.size hi-aB items.size 0 lo) == items.size)=true):=by
  intro q;rw[W7,W7]at q;have q1:((aB items.size 0 lo:Nat):Int)=0:=eq_of_beq q.1.1;have q2:aB items.size items.size hi-aB items.size 0 lo=items.size:=eq_of_beq q.2;exact hw ⟨by lia,by lia⟩
 show wpAny _ _ (if (((aB items.size 0 lo:Nat):Int) == 0 && (1:Int) == 1 && (aB items.size items.size hi-aB items.size 0 lo) == items.size)=true then _ else _) _ _ s
 rw[if_neg Ev,EG]
 first
  |exact WY (m:=X9 _) (XF (W2 ⟨_,rfl,W2 h⟩) ge)
  |exact WY (m:=X9 _) (XF (WY (W2 (W2 ⟨_,rfl,W2 h⟩))) ge)
  |exact WY (WY (m:=X9 _) (XF (W2 (W2 ⟨_,rfl,W2 h⟩)) ge))
  |exact WY (WY (m:=X9 _) (XF (W2 ⟨_,rfl,W2 h⟩) ge))
end
end HT
namespace L2
open PySem PySem.Spec PyProof.Rows
section
variable {X:Cx}{a b:Expr}{ta tb:TE}{pos:Pos}
theorem EI (lo hi:Option Int) (n:Nat):(sliceBounds lo hi none n).1=((HT.aB n 0 lo:Nat):Int)/\(sliceBounds lo hi none n).2.1=((HT.aB n n hi:Nat):Int)/\(sliceBounds lo hi none n).2.2=1:=by
 refine⟨?_,?_,rfl⟩
 ·cases lo with
  |none=>simp [sliceBounds,HT.aB]
  |some i=>
   simp only[sliceBounds,HT.aB,Option.getD_none,show (1:Int) > 0 by decide,if_true];by_cases h:i<0
   ·simp only[h,if_true] <;> lia
   ·simp only[h,if_false] <;> lia
 ·cases hi with
  |none=>simp [sliceBounds,HT.aB]
  |some i=>
   simp only[sliceBounds,HT.aB,Option.getD_none,show (1:Int) > 0 by decide,if_true];by_cases h:i<0
   ·simp only[h,if_true] <;> lia
   ·simp only[h,if_false] <;> lia
theorem EJ (its:List Value) (lo hi:Option Int):slicePick its.toArray lo hi none=((its.drop (HT.aB its.length 0 lo)).take (HT.aB its.length its.length hi-HT.aB its.length 0 lo)).toArray:=by
 obtain⟨h1,h2,h3⟩:=EI lo hi its.toArray.size;unfold slicePick;rw[h1,h2,h3];simp only[sliceRange_one,pick_run,W4] <;> rfl
variable {o e:Expr}{es:List Expr}{to:TE}{t:TA}{name:Str}{cC cpos:Pos}{T id:String}{r:V->List V->Hp->VK->Prop}
end
end L2
namespace L2
open PySem PySem.Spec PyProof.Rows
end L2
namespace L2
open PySem PySem.Spec PyProof.Rows
theorem eM {α:Type} {t:Sem α}{Q Q':α->Shared->Prop}{M:Model}{A:Around}{E:Value->Shared->Prop}{s:Shared} (h:wpAny M A t Q E s) (hQ:∀a s,Q a s->Q' a s):wpAny M A t Q' E s:=Y6 h hQ λ_ _ x=>x
end L2
namespace L2
open PySem PySem.Spec PyProof.Rows
end L2
namespace L2
open PySem PySem.Spec PyProof.Rows
section
variable {prog:Program}{w:World}{A:Around}{E:Value->Shared->Prop}{s:Shared}
theorem EK {t sl:Addr}{items:Array Value}{vl vu:Value}{lo hi:Option Int}{Q:Value->Shared->Prop} (ht:IsTup s.heap t items) (hs:s.heap.IsSliceOf sl vl vu .none) (pl:IsPart vl lo) (pu:IsPart vu hi)
  (hw:HT.aB items.size 0 lo=0/\HT.aB items.size items.size hi=items.size) (h:Q (.ref t) s):wpAny (model prog w) A (getItem (.ref t) (.ref sl)) Q E s:=by
 obtain⟨os,cY,gJ,eL⟩:=id hs;have k8:s.TypeIs (.ref sl) "slice":=⟨os,cY,gJ⟩;unfold getItem
 try with_reducible refine XU ?_
 first |refine WY (W2 ?_) |skip
 refine WY (wpAny_sequenceKey ht.typeIs (by decide) ?_);refine WY (Xr (name:=Yy "__getitem__") ht.typeIs Yj
  (Xw Yj ht.typeIs entry_tuple_getitem ?_ (args_tuple_getitem _ _)))
 show wpAny _ _ (Builtin.Tuple.tupleItemsOf (.ref t) >>= _) _ _ s;refine WY (tupleItemsOf_ ht ?_);refine WY (wpAny_typeOf k8 ?_);rw[if_pos (by decide)];refine WY (HT.wD hs pl pu ?_);have EL:(((HT.aB items.size 0 lo:Nat):Int) == 0 && (1:Int) == 1 && (HT.aB items.size items.size hi-HT.aB items.size 0 lo) == items.size)=true:=by
  rw[hw.1,hw.2];simp
 show wpAny _ _ (if (((HT.aB items.size 0 lo:Nat):Int) == 0 && (1:Int) == 1 && (HT.aB items.size items.size hi-HT.aB items.size 0 lo) == items.size)=true then _ else _) _ _ s
 rw[if_pos EL];obtain⟨o,ho,hc,n,hd⟩:=id ht;have ex:wpAny (model prog w) A.in1 (Builtin.Tuple.tupleIsExact (.ref t)) (λb s'=>b=true/\s'=s) E s:=by
  unfold Builtin.Tuple.tupleIsExact
  first
   |exact WY (wpAny_typeOf ⟨o,ho,hc⟩ (W2 ⟨by rfl,rfl⟩))
   |exact WY (wpAny_load ho (W2 ⟨by rw[hc];rfl,rfl⟩))
 refine WY (eM ex λb s' hb=>?_);obtain⟨rfl,rfl⟩:=hb;rw[if_pos rfl];exact WY (wpAny_rule (W2 ⟨_,rfl,W2 h⟩))
end
end L2
namespace L2
open PySem
end L2
namespace L2
open PySem PySem.Spec PyProof.Rows
structure bx (k:Nat) (A:Around):Prop where
 hd:A.handled=none
 Ts:A.depth+3 * k+5<recursionLimit
 un:A.units+16 * k+200<cLine
theorem bx.mono {j k:Nat}{A:Around} (r:bx k A) (h:j<=k):bx j A:=⟨r.hd,by have:=r.Ts;lia,by have:=r.un;lia⟩
theorem bx.deeper {k:Nat}{A:Around} (r:bx (k+1) A) (env:Env):bx k (A.deeper env):=
 ⟨r.hd,by have:=r.Ts;show A.depth+1+3 * k+5<_;lia,by have:=r.un;show A.units+3+16 * k+200<_;lia⟩
theorem EM {A:Around}{C:Addr}{us:List Value}{kw:List (Str×Value)}:(A.under (.builtin "type.__call__" ⟨.ref C::us,kw⟩)).depth=A.depth+1:=by
 first |rfl |simp [Around.under,Code.weight,Code.isCreation,Code.isGuard,Code.isCaller,Code.frames,Code.isFrame,So]
theorem EN {A:Around}{C:Addr}{us:List Value}{kw:List (Str×Value)}:(A.under (.builtin "type.__call__" ⟨.ref C::us,kw⟩)).units=A.units+1:=by
 first |rfl |simp [Around.under,Code.cUnits,Code.frames,Code.isFrame]
theorem bx.qA {k:Nat}{A:Around} (r:bx (k+1) A) (C:Addr) (us:List Value) (kw:List (Str×Value)):bx k (A.under (.builtin "type.__call__" ⟨.ref C::us,kw⟩)):=
 ⟨r.hd,by have:=r.Ts;rw[EM];lia,by have:=r.un;rw[EN];lia⟩
theorem bx.depth {k:Nat}{A:Around} (r:bx k A):A.depth<recursionLimit:=by have:=r.Ts;lia
def bM (K:PySem.W.Frag) (fd:FuncData) (ps:List Str) (ds:List Value):Prop:=
 ∀(s:Shared) (us:List Value),K.In s.heap->(us++ds).length=ps.length->BindsTo s fd ⟨us,[]⟩ (ps.zip (us++ds))
theorem bM.all {K:PySem.W.Frag}{fd:FuncData}{ps:List Str} (h:∀us:List Value,us.length=ps.length->bindArgs fd ⟨us,[]⟩=pure (ps.zip us)):bM K fd ps []:=λs us _ hl=>by
 rw[Xo]at hl ⊢;exact .of_eq (h us hl)
structure aC (N P:List Str) (sc:Scope):Prop where
 kind:sc.kind=.function
 Uo:sc.isCoroutine=false
 jB:sc.isGenerator=false
 nd:N.Nodup
 pre:N.take P.length=P
 wF:∀x∈P,sc.names.lookup x=some .local\/sc.names.lookup x=some .cell
 EO:∀y∈sc.names,y.2≠.free
theorem wG {kindOf:Str->Option NameKind}{x:Str}:∀{iA:List (Str×Value)}{m:Str->Option Value},(∀v,(x,v) ∉ iA)->bindL kindOf iA m x=m x
 |[],_,_=>rfl
 |(n,v)::r,m,h=>by
  unfold bindL;rw[wG λw hw=>h w (W8 _ hw)];split
  ·have:x≠n:=(by rintro rfl;exact h v W');simp [this]
  ·rfl
theorem wH {kindOf:Str->Option NameKind}{x:Str}:∀{iA:List (Str×Value)}{m:Str->Option Value},(∀v,(x,v) ∉ iA)->bindC kindOf iA m x=m x
 |[],_,_=>rfl
 |(n,v)::r,m,h=>by
  unfold bindC;rw[wH λw hw=>h w (W8 _ hw)];split
  ·rfl
  ·have:x≠n:=(by rintro rfl;exact h v W');simp [this]
theorem wI {kindOf:Str->Option NameKind}{x:Str}{v:Value}:∀ {P:List Str}{vs:List Value}{i:Nat}{m:Str->Option Value},P.Nodup->P[i]?=some x->vs[i]?=some v->kindOf x=some .local ->
  bindL kindOf (P.zip vs) m x=some v
 |[],_,_,_,_,h,_,_=>by simp at h
 |_::_,[],_,_,_,_,h,_=>by simp at h
 |p::P,w::vs,0,m,nd,h1,h2,hk=>by
  simp at h1 h2;subst h1;subst h2;show bindL kindOf ((p,w)::P.zip vs) m p=_;unfold bindL;rw[wG λv hv=>(List.nodup_cons.mp nd).1 (YQ hv).1,if_pos hk];simp
 |p::P,w::vs,i+1,m,nd,h1,h2,hk=>by
  show bindL kindOf ((p,w)::P.zip vs) m x=_;unfold bindL;exact wI (i:=i) (List.nodup_cons.mp nd).2 (by simpa using h1) (by simpa using h2) hk
theorem wJ {kindOf:Str->Option NameKind}{x:Str}{v:Value}:∀ {P:List Str}{vs:List Value}{i:Nat}{m:Str->Option Value},P.Nodup->P[i]?=some x->vs[i]?=some v->kindOf x≠some .local ->
  bindC kindOf (P.zip vs) m x=some v
 |[],_,_,_,_,h,_,_=>by simp at h
 |_::_,[],_,_,_,_,h,_=>by simp at h
 |p::P,w::vs,0,m,nd,h1,h2,hk=>by
  simp at h1 h2;subst h1;subst h2;show bindC kindOf ((p,w)::P.zip vs) m p=_;unfold bindC;rw[wH λv hv=>(List.nodup_cons.mp nd).1 (YQ hv).1,if_neg hk];simp
 |p::P,w::vs,i+1,m,nd,h1,h2,hk=>by
  show bindC kindOf ((p,w)::P.zip vs) m x=_;unfold bindC;exact wJ (i:=i) (List.nodup_cons.mp nd).2 (by simpa using h1) (by simpa using h2) hk
theorem wK {sc:Scope}{n:Nat}{x:Str} (h:sc.names.lookup x=some .cell):∃c,(cellsFrom n sc.names []).lookup x=some c:=by
 have q:=PySem.W.cellsFrom_some sc.names n [] (.inl h);exact Option.isSome_iff_exists.mp q
end L2
namespace L2
open PySem PySem.Spec PyProof.Rows
end L2
namespace L2
open PySem PySem.Spec PyProof.Rows
structure iB (h:Heap) (x dx C:Addr) (mA:Str->Option Value):Prop where
 obj:h.get? x=some (PySem.W.instObj C dx)
 ns:h.Ns1 dx mA
 ne:dx≠x
theorem EP {h:Heap}{dx:Addr}{mA:Str->Option Value} (n:h.Ns1 dx mA):∃od,h.get? dx=some od/\∀name,PySem.W.lookIn name od=some (mA name):=by
 obtain⟨o,es,ep,ho,hd,hk,_,hm⟩:=n;refine⟨o,ho,λname=>?_⟩;have e:=hm name;unfold nsFind findBy at e;rw[<- Array.find?_toList]at e;unfold PySem.W.lookIn;rw[hd];dsimp only;split
 ·rename_i y q;rw[q]at e;exact congrArg some e
 ·rename_i q;rw[q]at e;have a:es.toList.any (·.refKey)=false:=by
   rw[List.any_eq_false];intro y hy;obtain⟨z,t,nw⟩:=hk y (Array.mem_toList_iff.mp hy);simp [DictEntry.refKey,nw]
  have TF:¬es.toList.any (·.refKey)=true:=by rw[a];exact XJ
  rw[if_neg TF];exact congrArg some e
theorem iB.qB {h:Heap}{x dx C:Addr}{mA:Str->Option Value} (I:iB h x dx C mA):∃od,PySem.W.InstAt h x (PySem.W.instObj C dx) C (some od)/\∀name,PySem.W.lookIn name od=some (mA name):=
 let ⟨od,ho,hl⟩:=EP I.ns
 ⟨od,⟨I.obj,rfl,rfl,ho⟩,hl⟩
section
variable {prog:Program}{w:World}{A:Around}{E:Value->Shared->Prop}{s:Shared}{K:PySem.W.Frag}{x dx C f:Addr}{mA:Str->Option Value}{name:Str}{v:Value}
theorem ER {EQ:Bool}{Q:Value->Shared->Prop} (X:K.In s.heap) (I:iB s.heap x dx C mA) (hg:PySem.W.plainGet K C name=true) (hh:PySem.W.hasDictIn K C=true)
  (ha:PySem.W.findIn K (.ref C) name=some none) (hv:mA name=some v) (iC:PySem.W.handedIn v=true) (h:Q v { s with toks:=s.toks+1 }) :
  wpAny (model prog w) A (getAttr (.ref x) name EQ) Q E s:=by
 obtain⟨od,J,hl⟩:=I.qB;exact PySem.W.get_value X J (PySem.W.plainGet_of hg).1 (PySem.W.findObj_own hh ha rfl (by rw[hl,hv])) iC h
theorem ES {pl:Sem Bool}{Q:Value×List Value->Shared->Prop} (X:K.In s.heap) (I:iB s.heap x dx C mA) (hg:PySem.W.plainGet K C name=true)
  (hf:PySem.W.findIn K (.ref C) name=some (some (.ref f))) (ht:PySem.W.isFn K (.ref f)=true) (hv:mA name=none) (h:Q (.ref f,[.ref x]) s) :
  wpAny (model prog w) A (getMethod (.ref x) name pl) Q E s:=by
 obtain⟨od,J,hl⟩:=I.qB;exact PySem.W.method_fn X J (PySem.W.plainGet_of hg).1 (PySem.W.plainGet_of hg).2 hf (beq_iff_eq.mp ht) (by show (PySem.W.lookIn name od).map (·.isSome)=some false;rw[hl,hv];rfl) h
theorem ET {ns:List Str}{Q:Unit->Shared->Prop} (X:K.In s.heap) (I:iB s.heap x dx C mA)
  (hs:PySem.W.findIn K (.ref C) "__setattr__"=some (some (.builtin "object.__setattr__"))) (hp:PySem.W.plainOver K C=true) (ht:PySem.W.takerIn K C name=some none) (hh:PySem.W.hasDictIn K C=true)
  (hw:PySem.Within mA ns) (hsz:ns.length<=sizeLine)
  (h:∀h',iB h' x dx C (λy=>if y=name then some v else mA y)->YM dx s.heap h'->Q () { s with heap:=h',toks:=s.toks+2 }) :
  wpAny (model prog w) A (setAttr (.ref x) name v) Q E s:=by
 obtain⟨od,J,hl⟩:=I.qB;refine PySem.W.set_plain X J hs (PySem.W.osa_open (s:={ s with toks:=s.toks+1 }) (r:=none) X J hp ht λb=>?_);obtain⟨cd,hc,hd'⟩:=PySem.W.any_some hh;have hx:s.heap.get? x=some ⟨.ref C,some dx,.plain,#[]⟩:=I.obj;refine WY (W2 (WY (WY (wpAny_loadPart hx (WY (PySem.W.Looks.here (s:={ s with toks:=s.toks+1 }) (PySem.W.looks_clsIn X hc) ?_))))));rw[hd'];refine W2 (a:=some dx) (WY (W2 (WY ?_)));refine wpAny_nsSet1 (s:={ s with toks:=s.toks+1 }) I.ns λh' nK hs2=>?_;obtain⟨oD,Sq,Ss,EU,EV,EW⟩:=nK.count (PySem.Within.cons name v hw);refine WY (wpAny_lookBehind EU (by rw[EV];exact pastItsLine_dict (W9 EW (by rw[Xd];lia))) ?_);exact W2 (h _ ⟨(hs2.2 _ (Ys I.ne)).trans I.obj,nK,I.ne⟩ hs2)
theorem EX {R:Result->Shared->Prop}{vs:List Value}{kw:List (Str×Value)} (X:K.In s.heap) (hm:PySem.W.makesIn K C=true)
  (hi:PySem.W.findIn K (.ref C) "__init__"=some (some (.ref f))) (hf:PySem.W.typeIn K (.ref f)=some (.type "function"))
  (h:codeAny (model prog w) (A.under (.builtin "type.__call__" ⟨.ref C::vs,kw⟩)) (.call (.ref f) ⟨.ref (s.heap.objs.size+1)::vs,kw⟩) (PySem.W.InitBack (s.heap.objs.size+1) R)
   { s with heap:=(s.heap.push PySem.W.emptyDict).push (PySem.W.instObj C s.heap.objs.size) }) :
  codeAny (model prog w) A (.call (.ref C) ⟨vs,kw⟩) R s:=by
 obtain⟨hh,g,d,t,os⟩:=s;exact PySem.W.make_core (PySem.W.makes_of X hm) (PySem.W.looks_findIn X hi) (λself=>PySem.W.bind_fn X self hf) (.inl rfl) h
end
structure cZ (K:PySem.W.Frag) (C:Addr):Prop where
 UL:PySem.W.plainGet K C Str.empty=true
 hd:PySem.W.hasDictIn K C=true
 VH:PySem.W.plainOver K C=true
 sa:PySem.W.findIn K (.ref C) "__setattr__"=some (some (.builtin "object.__setattr__"))
theorem cZ.get {K:PySem.W.Frag}{C:Addr} (c:cZ K C) (f:Str):PySem.W.plainGet K C f=true:=c.UL
def ef (K:PySem.W.Frag) (C:Addr) (f:Str):Prop:=PySem.W.findIn K (.ref C) f=some none
theorem ef.EY {K:PySem.W.Frag}{C:Addr}{f:Str} (n:ef K C f):PySem.W.takerIn K C f=some none:=by
 unfold PySem.W.takerIn;rw[show PySem.W.findIn K (.ref C) f=some none from n];rfl
structure jC (K:PySem.W.Frag) (C:Addr) (m:Str) (f:Addr):Prop where
 bL:PySem.W.findIn K (.ref C) m=some (some (.ref f))
 fn:PySem.W.isFn K (.ref f)=true
 kp:PySem.W.keepIn K (.ref f)=true
section
variable {X:Cx}{aS:List (Addr×Obj)} {σ:St} {H:Hp}{s:Shared}{a C dx:Addr}{fs:List (Str×V)}{f:Str}{v:V}{A:Around}{E:Value->Shared->Prop}
theorem EZ {prog:Program}{w:World}{env:Env}{e:Expr}{f:Str}{pos:Pos}{s:Shared}{Q:Value->Shared->Prop} (hb:attributeBase e f env (eval e env)=eval e env)
  (h:wpAny (model prog w) A (eval e env) (λo s₁=>wpAny (model prog w) A (getAttr o f true) Q E s₁) E s):wpAny (model prog w) A (eval (.Attribute e f pos) env) Q E s:=
 Attribute_any_ h (by rw[arm_eval_Attribute,hb])
end
end L2
namespace L2
open PySem PySem.Spec PyProof.Rows
section
variable {X:Cx}{Ww:Su}{k:Nat}{f C:Addr}{fd:FuncData}{ps:List Str}{sp:Sp}{bc:List V}{ds:List Value}{E:XK}{x m:Str}{p pos cC:Pos}{e o:Expr}{es:List Expr}{ta:TE}{t:TA}
structure Mk (K:PySem.W.Frag) (C f:Addr):Prop where
 E0:PySem.W.makesIn K C=true
 init:PySem.W.findIn K (.ref C) "__init__"=some (some (.ref f))
 fn:PySem.W.isFn K (.ref f)=true
 kp:PySem.W.keepIn K (.ref C)=true
end
end L2
namespace L2
open PySem PySem.Spec PyProof.Rows
end L2
namespace L2
open PySem PySem.Spec PyProof.Rows PySem.W
theorem E1 (xs:Array Value):((Yw xs.size).filterMap λ(k:Nat)=>xs[(((xs.size:Int)-1)+(k:Int) * (-1)).toNat]?).toArray=xs.toList.reverse.toArray:=by
 congr 1
 have jB:∀(l:List Nat),(∀k∈l,k<xs.size)->l.filterMap (λ(k:Nat)=>xs[(((xs.size:Int)-1)+(k:Int) * (-1)).toNat]?)=l.map λk=>xs.toList.getD (xs.size-1-k) Yb:=by
  intro l
  induction l with
  |nil=>intro _;rfl
  |cons k l ih=>
   intro h;have ww:k<xs.size:=h k W';have e1:(((xs.size:Int)-1)+(k:Int) * (-1)).toNat=xs.size-1-k:=(by lia);have e2:xs[(((xs.size:Int)-1)+(k:Int) * (-1)).toNat]?=some (xs.toList.getD (xs.size-1-k) Yb):=by
    rw[e1,Xs,<- YE,W6 (by rw[Xp];lia)];rfl
   rw[List.filterMap_cons,e2,Xe,ih λz hz=>h z (W8 _ hz)]
 rw[jB _ λk hk=>List.mem_range.mp hk];apply List.ext_getElem?;intro i;by_cases hi:i<xs.size
 ·rw[Xj,List.getElem?_range hi,List.getElem?_reverse (by rw[Xp];exact hi),Xp];show some (xs.toList.getD (xs.size-1-i) Yb)=_;rw[Xs,W6 (by rw[Xp];lia)];rfl
 ·rw[List.getElem?_eq_none (by simpa using hi),List.getElem?_eq_none (by simpa using hi)]
section
variable {prog:Program}{w:World}{A:Around}{E:Value->Shared->Prop}{s:Shared}
theorem E2 {t sl:Addr}{items:Array Value}{tk:Tok}{Q:Value->Shared->Prop} (ht:IsTup s.heap t items) (hs:s.heap.IsSliceOf sl .none .none (.int (-1) tk))
  (h:Q (.ref s.heap.objs.size) { s with heap:=s.heap.push { cls:=.type "tuple",data:=.seq items.toList.reverse.toArray } })
  (hsz:items.size<=sizeLine):wpAny (model prog w) A (getItem (.ref t) (.ref sl)) Q E s:=by
 have ge:sizeOk (.seq items.toList.reverse.toArray):=by
  show items.toList.reverse.toArray.size<=sizeLine;rw[W4,Y5,Xp];exact hsz
 obtain⟨os,cY,gJ,eL⟩:=id hs;have k8:s.TypeIs (.ref sl) "slice":=⟨os,cY,gJ⟩;unfold getItem
 try with_reducible refine XU ?_
 first |refine WY (W2 ?_) |skip
 refine WY (wpAny_sequenceKey ht.typeIs (by decide) ?_);refine WY (Xr (name:=Yy "__getitem__") ht.typeIs Yj
  (Xw Yj ht.typeIs entry_tuple_getitem ?_ (args_tuple_getitem _ _)))
 show wpAny _ _ (Builtin.Tuple.tupleItemsOf (.ref t) >>= _) _ _ s;refine WY (tupleItemsOf_ ht ?_);refine WY (wpAny_typeOf k8 ?_);rw[if_pos (by decide)];have VI:∀{Q:Int×Int×Nat->Shared->Prop}{E:Value->Shared->Prop}{A:Around},Q ((items.size:Int)-1,-1,items.size) s->wpAny (model prog w) A (Y8 (.ref sl) (pure (items.size:Int))) Q E s:=by
  intro Q E A q;unfold Y8 Builtin.Slice.sliceFields;refine WY (WY (XS cY eL (x:=.none) rfl (WY (XS cY eL (x:=.none) rfl (WY (XS cY eL (x:=.int (-1) tk) rfl (W2 ?_)))))));refine WY (slicePart_int ?_);show wpAny _ _ (if ((-1:Int) == 0)=true then _ else _) _ _ s
  rw[if_neg (by decide)];refine WY (slicePart_none (WY (slicePart_none (WY (W2 ?_)))));refine W2 ?_;have e:Yn ((items.size:Int)-1) (-1) (-1)=items.size:=by
   unfold Yn;rw[if_neg (by decide)];split
   ·have:((items.size:Int)-1 - -1-1) / (- -1)=(items.size:Int)-1:=(by rw[show (- -1:Int)=1 from rfl,Int.ediv_one];lia);lia
   ·lia
  show Q ((items.size:Int)-1,-1,Yn ((items.size:Int)-1) (-1) (-1)) s;rw[e];exact q
 refine WY (VI ?_);show wpAny _ _ (if (((items.size:Int)-1 == 0) && (-1:Int) == 1 && (items.size == items.size))=true then _ else _) _ _ s
 rw[if_neg (by simp),E1]
 first
  |exact WY (m:=X9 _) (XF (W2 ⟨_,rfl,W2 h⟩) ge)
  |exact WY (m:=X9 _) (XF (WY (W2 (W2 ⟨_,rfl,W2 h⟩))) ge)
  |exact WY (WY (m:=X9 _) (XF (W2 (W2 ⟨_,rfl,W2 h⟩)) ge))
  |exact WY (WY (m:=X9 _) (XF (W2 ⟨_,rfl,W2 h⟩) ge))
end
end L2
namespace L2
open PySem PySem.Spec PyProof.Rows
theorem E3 {α:Type} (l:List α):l.eraseIdx (l.length-1)=l.dropLast:=by
 induction l with
 |nil=>rfl
 |cons a r ih=>
  cases r with
  |nil=>rfl
  |cons b r=>
   have e:(a::b::r).length-1=((b::r).length-1)+1:=by
    have h1:(a::b::r).length=r.length+2:=rfl;have h2:(b::r).length=r.length+1:=rfl;lia
   rw[e,List.eraseIdx_cons_succ,ih]
   all_goals rfl
end L2
namespace L2
open PySem PySem.Spec PyProof.Rows
end L2
end
section
set_option maxHeartbeats 1000000
namespace N
open PySem PySem.Spec PyProof.Rows L2
def cu (d:D) (M:Mp) (k:List (Key×D)->Prop):Prop:=match d with
 |.ak ks ds=>k (ks.zip ds)
 |.ref a=>∃kvs,M a=some (.ak kvs)/\k kvs
 |_=>False
structure jD (G:Gx) (F:Fz) (h:Heap) (a:Addr) (kvs:List (Key×D)) (vs:List (Key×Value)):Prop where
 r:KV G F kvs vs
 d:h.DictOf (bo G.P G.w) a vs
 z:kvs.length<=sizeLine
 n:(a == sysModules)=false
theorem KV.zip {G:Gx}{F:Fz}:∀{ks:List Key}{ds:List D}{us:List Value},af G F ds us->KV G F (ks.zip ds) (ks.zip us)
 |[],ds,us,_=>by rw[List.zip_nil_left,List.zip_nil_left];exact .nil
 |k::ks,[],us,r=>by rw[af]at r;subst r;exact .nil
 |k::ks,d::ds,us,r=>by rw[af]at r;obtain⟨u,us,rfl,r1,r2⟩:=r;exact .cons ⟨rfl,r1⟩ (KV.zip r2)
section
variable {X:Cx} {τ:St} {z:Z}{d:D}{u:Value}{a:Addr}
theorem ae.iE (I:ae X τ z) {kvs:List (Key×D)} (h:z.M a=some (.ak kvs)):∃vs,jD X.G z.F z.s.heap a kvs vs:=by
 obtain⟨_,h1,h2,vs,r,dd⟩:=I.hok.ob a _ h;exact⟨vs,r,dd,h1,h2⟩
theorem ae.cu {k:List (Key×D)->Prop} (I:ae X τ z) (r:ab X.G z.F d u) (h:cu d z.M k):∃a kvs vs,u=.ref a/\jD X.G z.F z.s.heap a kvs vs/\k kvs:=by
 unfold N.cu at h;split at h
 ·rw[ab]at r;obtain⟨a,o,us,e,h1,h2,h4,h3⟩:=r;obtain⟨es,ep,g1,g2,g3⟩:=h2.bL;refine⟨a,_,_,e,⟨KV.zip h3,⟨o,es,ep,I.hok.fz a _ h1,h2.ex,g1,g2,g3,?_⟩,?_,h4⟩,h⟩
  ·rw[List.map_fst_zip (Zd h2.len.symm)];exact h2.nd
  ·rw[YS];exact W9 (Nat.min_le_left _ _) h2.sz
 ·rw[ab]at r;obtain⟨kvs,h1,h2⟩:=h;obtain⟨vs,l⟩:=I.iE h1;exact⟨_,kvs,vs,r,l,h2⟩
 ·exact h.elim
end
def dS (d:D) (k:Key->Prop):Prop:=match d with
 |.int i=>k (.inl i)
 |.str x=>k (.inr x)
 |_=>False
noncomputable def aK (kvs:List (Key×D)) (k:Key):Option D:=(kvs.find? λkv=>decide (kv.1=k)).map (·.2)
noncomputable def aY (kvs:List (Key×D)) (k:Key) (v:D):List (Key×D):=
 if (kvs.any λkv=>decide (kv.1=k))=true then kvs.map (λkv=>if kv.1=k then (kv.1,v) else kv) else kvs++[(k,v)]
theorem qC (kvs:List (Key×D)) (k:Key) (v:D):(aY kvs k v).length<=kvs.length+1:=by
 unfold aY;split
 ·rw[W0];exact YK _
 ·rw[Xf];exact W3 _
theorem jE {G:Gx}{F:Fz}{P:Program}{w:World}{d:D}{k:Key->Prop}{u:Value} (h:dS d k) (r:ab G F d u):∃x,(bo P w).is x u=true/\k x:=by
 unfold dS at h;split at h
 ·rw[ab]at r;obtain⟨t,rfl⟩:=r;exact⟨_,wo P w _ t,h⟩
 ·rw[ab]at r;obtain⟨t,rfl⟩:=r;exact⟨_,wt P w _ t,h⟩
 ·exact h.elim
theorem KV.val {G:Gx}{F:Fz}{kvs:List (Key×D)}{vs:List (Key×Value)} (r:KV G F kvs vs) (k:Key):fX G F (aK kvs k) (valueAt vs k):=by
 unfold KV at r
 induction r with
 |nil=>exact Zg
 |@cons p q ps qs h t ih=>
  by_cases e:p.1=k
  ·have e':q.1=k:=h.1.symm.trans e;rw[show valueAt (q::qs) k=some q.2 by simp [valueAt,Y4,e'],show aK (p::ps) k=some p.2 by simp [aK,Y4,e]];exact h.2
  ·have e':¬q.1=k:=λz=>e (h.1.trans z);rw[show valueAt (q::qs) k=valueAt qs k by simp [valueAt,Y4,e'],show aK (p::ps) k=aK ps k by simp [aK,Y4,e]];exact ih
theorem fX.so {G:Gx}{F:Fz}{o:Option D}{u:Option Value} (r:fX G F o u):o.isSome=u.isSome:=by
 cases o <;> cases u <;> first |rfl |exact r.elim
theorem KV.put {G:Gx}{F:Fz}{kvs:List (Key×D)}{vs:List (Key×Value)} (r:KV G F kvs vs) (k:Key) {y:D}{u:Value} (U6:ab G F y u):KV G F (aY kvs k y) (stored vs k u):=by
 have any:(kvs.any λkv=>decide (kv.1=k))=vs.any λkv=>decide (kv.1=k):=by
  unfold KV at r
  induction r with
  |nil=>rfl
  |cons h t ih=>rw[Zh,Zh,h.1,ih]
 unfold aY stored;rw[any];by_cases e:(vs.any λkv=>decide (kv.1=k))=true
 ·rw[if_pos e,if_pos e];clear e any;unfold KV at r ⊢
  induction r with
  |nil=>exact .nil
  |@cons p q ps qs h t ih=>
   refine .cons ?_ ih;dsimp only;by_cases e:p.1=k
   ·rw[if_pos e,if_pos (h.1.symm.trans e)];exact⟨h.1,U6⟩
   ·rw[if_neg e,if_neg λz=>e (h.1.trans z)];exact h
 ·rw[if_neg e,if_neg e];exact Paired.snoc r ⟨rfl,U6⟩
def sI (C:Int->Int->Prop) (f:Int->Int->Int):Q2:=λx y M Q=>b3 x λi=>b3 y λj=>C i j/\Q (.int (f i j)) M
def qE (f:Int->Int->Int):Q2:=λx y M Q=>b3 x λi=>b3 y λj=>Q (.int (f i j)) M
def CM (i j:Int):Prop:=qx i j\/Ez i j
noncomputable def jF (a:Addr):Option MO->D
 |some (.lst ds)=>.lst ds
 |_=>.ref a
noncomputable def bZ (d:D) (M:Mp):D:=match d with
 |.ref a=>jF a (M a)
 |d=>d
def qF:Q2:=λx y M Q=>match x,y with
 |.int i,.int j=>Q (.int (i+j)) M
 |.str a,.str b=>a.length+b.length<=sizeLine/\Q (.str (a++b)) M
 |.tup a,.tup b=>a.length+b.length<=sizeLine/\Q (.tup (a++b)) M
 |x,y=>a9 x M λa=>a9 y M λb=>a.length+b.length<=sizeLine/\bQ (a++b) M Q
def qG:Q2:=λx y M Q=>match x with
 |.int i=>b3 y λj=>CM i j/\Q (.int (i * j)) M
 |x=>a9 x M λds=>b3 y λk=>-(2 ^ 63)<=k/\k<2 ^ 63/\ds.length * k.toNat<=sizeLine/\bQ (XZ k.toNat ds).flatten M Q
def wL:Operator->Q2
 |.Add=>qF
 |.Sub=>qE λi j=>i-j
 |.Mult=>qG
 |.FloorDiv=>sI (λ_ j=>0<j/\j<2 ^ 200) λi j=>i / j
 |.Mod=>sI (λ_ j=>0<j) λi j=>i % j
 |.Pow=>sI wu λi j=>i ^ j.toNat
 |.LShift=>sI wu λi j=>i * 2 ^ j.toNat
 |.RShift=>sI (λ_ j=>0<=j) λi j=>i / 2 ^ j.toNat
 |.BitAnd=>qE λi j=>Builtin.bitAnd i j
 |_=>λ_ _ _ _=>False
section
variable {X:Cx}
theorem k9 {f:Value->Value->Sem Value}{C:Int->Int->Prop}{g:Int->Int->Int} (rule:∀(i j:Int) (t u:Tok) (s:Shared) (Q E:Value->Shared->Prop),C i j->Q (.int (g i j) s.toks) { s with toks:=s.toks+1 }->wpAny (model X.G.P X.G.w) X.A (f (.int i t) (.int j u)) Q E s):O2 X f (sI C g):=fun τ z Q R d e v u I r1 r2 q k=>by
 obtain⟨i,t,rfl,q⟩:=cX q r1;obtain⟨j,t',rfl,hc,q⟩:=cX q r2;exact rule i j t t' z.s _ _ hc (I.fin k Le.rfl b5 q _)
theorem wM {f:Value->Value->Sem Value}{g:Int->Int->Int} (rule:∀(i j:Int) (t u:Tok) (s:Shared) (Q E:Value->Shared->Prop),Q (.int (g i j) s.toks) { s with toks:=s.toks+1 }->wpAny (model X.G.P X.G.w) X.A (f (.int i t) (.int j u)) Q E s):O2 X f (qE g):=fun τ z Q R d e v u I r1 r2 q k=>by
 obtain⟨i,t,rfl,q⟩:=cX q r1;obtain⟨j,t',rfl,q⟩:=cX q r2;exact rule i j t t' z.s _ _ (I.fin k Le.rfl b5 q _)
theorem af.app {G:Gx}{F:Fz}:∀{ds es:List D}{us vs:List Value},af G F ds us->af G F es vs->af G F (ds++es) (us++vs)
 |[],es,us,vs,r,r'=>by rw[af]at r;subst r;exact r'
 |d::ds,es,us,vs,r,r'=>by rw[af]at r;obtain⟨u,us,rfl,r1,r2⟩:=r;exact .cons r1 (af.app r2 r')
theorem af.nl {G:Gx}{F:Fz}{ds:List D}{us:List Value} (r:af G F ds us):us=[] ↔ ds=[]:=by
 rw[<- List.length_eq_zero_iff,<- List.length_eq_zero_iff,r.len]
theorem E4:O2 X (binaryOp .Add) qF:=fun τ z Q R d e v u I r1 r2 q k=>by
 have lst:∀{d e:D},ab X.G z.F d v->ab X.G z.F e u->(a9 d z.M λa=>a9 e z.M λb=>a.length+b.length<=sizeLine/\bQ (a++b) z.M Q)->W X (binaryOp .Add v u) R z.s:=λr1 r2 q=>by
  obtain⟨a,ds,us,n,rfl,l,q⟩:=I.a9 r1 q;obtain⟨b,es,vs,n',rfl,l',hz,q⟩:=I.a9 r2 q;have hz':us.length+vs.length<=sizeLine:=by rw[<- l.r.len,<- l'.r.len];exact hz
  refine PySem.P.add_list l.e l'.e ?_ (by rw[W4,W4];exact hz');rw[show us.toArray++vs.toArray=(us++vs).toArray by simp];exact I.lst (t:=z.s.toks) (n:=0) k Le.rfl (l.r.app l'.r) (λb o e=>WZ _ e) (W3 _) (W5 _ rfl) (by rw[Xf];exact hz') q
 unfold qF at q;split at q
 ·rw[ab]at r1 r2;obtain⟨t,rfl⟩:=r1;obtain⟨t',rfl⟩:=r2;exact add_int (I.fin k Le.rfl b5 q _)
 ·rw[ab]at r1 r2;obtain⟨t,rfl⟩:=r1;obtain⟨t',rfl⟩:=r2;exact add_str (λt' tk=>I.fin k Le.rfl gD q.2 _) q.1
 ·obtain⟨a,us,o,rfl,l⟩:=I.cW r1;obtain⟨b,vs,o',rfl,l'⟩:=I.cW r2;rename_i ds es;have hz:us.length+vs.length<=sizeLine:=by rw[<- l.r.len,<- l'.r.len];exact q.1
  by_cases hx:us=[]
  ·cases l.r.nl.mp hx;subst hx;obtain⟨⟨cls,dd,data,sl⟩,ho,hc,n,hd⟩:=id l.p;obtain⟨⟨wn,iz,wv,k7⟩,ho2,fA,n2,gI⟩:=id l'.p;simp only at hc hd fA gI;subst hc hd fA gI;exact concat_meets ⟨_,ho,rfl⟩ ⟨_,ho2,rfl⟩ noFill_tuple_add seq_tuple_add PySem.F.slot_tuple_add PySem.F.entry_tuple_add (PySem.F.args_tuple_add_2 _ _)
    (tuple_addW0 a b _ vs.toArray n n2 dd iz sl k7 (by simp)) ⟨ho,ho2,k (.tup es) z _ Le.rfl I r2 q.2⟩
  ·refine HT.Ey l.p l'.p hx (λe=>?_) (λe=>?_) hz
   ·rw[l'.r.nl.mp e,Xo]at q;exact k (.tup ds) z _ Le.rfl I r1 q.2
   ·exact I.tup (t:=z.s.toks) k Le.rfl (l.r.app l'.r) (λb o e=>WZ _ e) (W3 _) (W5 _ rfl) ⟨rfl,rfl,⟨_,rfl⟩,by rw[Xf];exact hz⟩ q.2
 ·exact lst r1 r2 q
end
end N
end
section
namespace L2
open PySem PySem.Spec PyProof.Rows PySem.W
section
variable {X:Cx}
section
open PySem.AutoSeq1 (wpAny_loadPart')
open PySem.MeetsSeq PySem.MeetsSeq2 PySem.MeetsSeq3 PySem.SeqAt
theorem E5 (l b:Addr) (xs ys:Array Value) (n m:Nat) (dd:Option Addr) (sl:Array (Option Value)) (Wx:¬(!xs.isEmpty && Yz (xs.size+ys.size))=true) (c1:xs.size<=sizeLine) (c2:xs.size+ys.size<=sizeLine+1) :
  Meets (Builtin.«list.extend» ⟨[.ref l,.ref b],[]⟩) (λ_ R s=>s.heap.get? l=some (seqObj "list" xs n)/\s.heap.get? b=some { cls:=.type "tuple",dict:=dd,data:=.seq ys m,slots:=sl }/\R (.ok (.ret .none)) { s with heap:=s.heap.update l (XA (·++ys)),toks:=s.toks }):=
 .of_wp λprog w A R s ⟨h1,h2,h3⟩=>by
  obtain⟨hp,g,d,tk,os⟩:=s;have f1:=AutoSeq1.idx_int;have f2:=AutoSeq1.sub_tuple_tuple;have f3:=AutoSeq1.sub_list_list;have f4:=AutoSeq1.sub_tuple_list;have f5:=AutoSeq1.sub_list_tuple;have c3:(xs++ys).size<=sizeLine+1:=by rw[Array.size_append];exact c2
  wp_walk using (wpAny_updateSeq h1 rfl (hz:=c1) (_hz':=c3)),Xm h1,Xm h2
  exact⟨_,rfl,h3⟩
end
end
end L2
namespace L2
open PySem PySem.Spec PyProof.Rows
theorem qH {env:Env}:∀ (names:List (Str×NameKind)) (al:List (Str×Addr)),(∀ y∈names,y.2=.free->∃ c,env.cells.lookup y.1=some c) ->
  (∀x c,al.lookup x=some c->env.cells.lookup x=some c) ->
  ∃cl,(forIn names al (λy cs=>if (y.2 == YV)=true then (cellOf env y.1 >>= λc=>pure (YY ((y.1,c)::cs))) else pure (YY cs)):Sem (List (Str×Addr)))=pure cl /\
   (∀x c,cl.lookup x=some c->env.cells.lookup x=some c)/\(∀y∈names,y.2=.free->∃c,cl.lookup y.1=some c)/\∀x c,al.lookup x=some c->∃c',cl.lookup x=some c'
 |[],al,_,ha=>⟨al,rfl,ha,λy hy=>(nomatch hy),λx c h=>⟨c,h⟩⟩
 |(n,k)::r,al,h,ha=>by
  by_cases hk:k=.free
  ·subst hk;obtain⟨c,hc⟩:=h (n,.free) W' rfl;have E6:∀ x c',((n,c)::al).lookup x=some c'->env.cells.lookup x=some c':=λx c' q=>by
    rw[X8]at q;cases e:x == n with
    |true=>
     rw[e]at q;cases q;rw[eq_of_beq e];exact hc
    |false=>
     rw[e]at q;exact ha x c' q
   obtain⟨cl,e1,e2,e3,e4⟩:=qH r ((n,c)::al) (λy hy=>h y (W8 _ hy)) E6;refine⟨cl,?_,e2,λy hy hf=>?_,λx c' q=>?_⟩
   ·rw[List.forIn_cons];have TJ:cellOf env n=pure c:=(by unfold cellOf;rw[hc]);simp only[beq_self_eq_true,if_true,TJ,pure_bind];exact e1
   ·rcases List.mem_cons.mp hy with rfl |hy
    ·exact e4 n c (by simp)
    ·exact e3 y hy hf
   ·cases e:x == n with
    |true=>exact e4 x c (by rw[X8,e])
    |false=>exact e4 x c' (by rw[X8,e];exact q)
  ·obtain⟨cl,e1,e2,e3,e4⟩:=qH r al (λy hy=>h y (W8 _ hy)) ha;refine⟨cl,?_,e2,λy hy hf=>?_,e4⟩
   ·rw[List.forIn_cons];have hb:(k == YV)=false:=(by simpa using hk);simp only[hb,Bool.false_eq_true,if_false,pure_bind];exact e1
   ·rcases List.mem_cons.mp hy with rfl |hy
    ·exact absurd hf hk
    ·exact e3 y hy hf
theorem wN {scope:Scope}{env:Env} (h:∀ y∈scope.names,y.2=.free->∃ c,env.cells.lookup y.1=some c) :
  ∃cl,closureFor scope env=pure cl/\(∀x c,cl.lookup x=some c->env.cells.lookup x=some c)/\∀y∈scope.names,y.2=.free->∃c,cl.lookup y.1=some c:=by
 obtain⟨cl,e1,e2,e3,_⟩:=qH (env:=env) scope.names [] h (λx c q=>by simp at q);refine⟨cl,?_,e2,e3⟩;unfold closureFor
 first
  |exact e1
  |(simp only[bind_pure_comp,map_pure,bind_pure]at e1 ⊢;exact e1)
  |(rw[show (forIn scope.names [] _:Sem (List (Str×Addr)))=pure cl from e1];rfl)
theorem wQ {env:Env}:∀ {names:List (Str×NameKind)}{x:Str},names.lookup x=some .free ->
  let l:=(names.map λ(n,k)=>if (k == YV && env.scope.kind == .function && env.kindOf n == some .cell) then (n,NameKind.cell) else (n,k)).lookup x
  l=some .cell\/l=some .free
 |[],_,h=>by simp at h
 |(n,k)::r,x,h=>by
  have ih:=@wQ env r x;simp only at ih ⊢;rw[Xe];cases hx:x == n with
  |true=>
   rw[X8,hx]at h;cases h;by_cases hc:(YV == YV && env.scope.kind == .function && env.kindOf n == some .cell)=true
   ·left;simp only[hc,if_true,X8,hx]
   ·right;simp only[if_neg hc,X8,hx]
  |false=>
   rw[X8,hx]at h;by_cases hc:(k == YV && env.scope.kind == .function && env.kindOf n == some .cell)=true
   ·simp only[if_pos hc,X8,hx];exact ih h
   ·simp only[if_neg hc,X8,hx];exact ih h
theorem qI {env:Env}:∀ {names:List (Str×NameKind)}{x:Str}{k':NameKind},(∀ y∈names,y.2≠.cell)->(k'=.cell\/k'=.free) ->
  (names.map λ(n,k)=>if (k == YV && env.scope.kind == .function && env.kindOf n == some .cell) then (n,NameKind.cell) else (n,k)).lookup x=some k'->(x,YV)∈names
 |[],_,_,_,_,h=>by simp at h
 |(n,k)::r,x,k',hn,hk,h=>by
  rw[Xe]at h;cases hx:x == n with
  |true=>
   have e:x=n:=eq_of_beq hx;subst e;by_cases hc:(k == YV && env.scope.kind == .function && env.kindOf x == some .cell)=true
   ·have hf:k=.free:=by
     simp only[W7,beq_iff_eq]at hc;exact hc.1.1
    subst hf;exact W'
   ·simp only[if_neg hc,X8,hx]at h;have e2:k=k':=XD h;subst e2;rcases hk with rfl |rfl
    ·exact absurd rfl (hn _ W')
    ·exact W'
  |false=>
   have ih:=@qI env r x k' (λy hy=>hn y (W8 _ hy)) hk;by_cases hc:(k == YV && env.scope.kind == .function && env.kindOf n == some .cell)=true
   ·simp only[if_pos hc,X8,hx]at h;exact W8 _ (ih h)
   ·simp only[if_neg hc,X8,hx]at h;exact W8 _ (ih h)
theorem E7 {prog:Program}{w:World}{A:Around}{s:Shared}{ap tg iter:Expr}{bd:List Expr}{scope:Scope}{pos:Pos}{it al:Value}{env:Env}{P:Shared->Prop}{R:Result->Shared->Prop}
  (T2:∀s',P s'->R (.ok .next) s') (J:Nat->Shared->Prop)
  (b0:∀n s,J n s->wpAny (model prog w) A (pyNext it) (λr s1=>match r with
   |none=>P s1
   | some v=>wpAny (model prog w) A (letOwnedTupleGo tg it v) (λ_ s2=>wpAny (model prog w) A (assign tg env v) (λ_ s3=>
     wpAny (model prog w) A (forIn bd true λc r=>if r=true then do let ok <- isTrue c env (eval c env);pure (YY ok) else pure (YY r)) (λok s4=>
      if ok=true then wpAny (model prog w) A (eval ap env) (λx s5=>
       wpAny (model prog w) A (call (.builtin "list.append") [al,x]) (λ_ U7=>∃m,m<n/\J m U7) (λ_ _=>False) s5) (λ_ _=>False) s4
      else ∃m,m<n/\J m s4) (λ_ _=>False) s3) (λ_ _=>False) s2) (λ_ _=>False) s1) (λ_ _=>False) s)
  (n:Nat) (h:J n s):codeAny (model prog w) A (.compLoop (.ListComp ap [⟨tg,iter,bd,0⟩] scope pos) 0 it al env) R s:=by
 refine codeAny_loop rfl J (λn s hJ=>?_) n h;show wpAny _ A ((compTurn (.ListComp ap [⟨tg,iter,bd,0⟩] scope pos) 0 it al env).onRaise (λx=>do noteFrame x env;theTreesLotGoes x)) _ _ s
 refine wpAny_noted (Y6 (E:=λ_ _=>False) ?_ (λ_ _ q=>q) λ_ _ q=>q.elim);rw[compTurn_list];refine WY (wpAny_standAt (WY (eM (b0 n s hJ) λr s1 h1=>?_)));cases r with
 |none=>exact W2 (T2 _ h1)
 |some v=>
  refine WY (eM h1 λ_ s2 h2=>WY (eM h2 λ_ s3 h3=>WY (eM h3 λok s4 h4=>?_)));cases ok with
  |false=>exact W2 ⟨rfl,h4⟩
  |true=>exact WY (WY (eM h4 λx s5 h5=>WY (eM h5 λ_ U7 h6=>W2 (W2 ⟨rfl,h6⟩))))
end L2
namespace L2
open PySem PySem.Spec PyProof.Rows PySem.W
def wR (t T:String) (b:Bool):Prop:=∀K:PySem.W.Frag,PySem.W.kitOne K (.type t) (.type T)=some b
theorem qJ (t:String):wR t t true:=λK=>by unfold PySem.W.kitOne;rw[if_pos (by simp)]
theorem E8:wR "int" "str" false:=λK=>by kernel_rfl
end L2
namespace L2
open PySem PySem.Spec PyProof.Rows
noncomputable def bU:Expr->Bool
 |.Starred _ _=>false
 |_=>true
noncomputable def a7:List Expr->Bool
 |[]=>true
 |e::es=>bU e && a7 es
theorem bC {env:Env}{e:Expr}{es:List Expr} (h:bU e=true):starEach (e::es) env=(false,eval e env)::starEach es env:=by
 cases e <;> first |rfl |exact absurd h XJ
theorem eh {env:Env}{pos:Pos}:∀{es:List Expr},a7 es=true->(backTo pos (starEach es env)).any (·.1)=false
 |[],_=>rfl
 |e::es,h=>by
  have h':(bU e && a7 es)=true:=h;rw[W7]at h';rw[bC h'.1];show (false ||(backTo pos (starEach es env)).any (·.1))=false;rw[eh h'.2];rfl
end L2
namespace L2
open PySem PySem.Spec PyProof.Rows
section
variable {X:Cx}{pos:Pos}{a b c e o:Expr}{es:List Expr}{ta tb tc te to:TE}{t u:TS}{Wz WA:TT}{tA:TA}{st:Stmt}{rest:List Stmt}
theorem wU {env:Env}{cpos:Pos}{es:List Expr} (h:a7 es=true) (hl:es.length<29) :
  ((backTo cpos (starEach es env)).all (λx=>!x.1) && (backToKw cpos (keywordEach [] env)).all (λx=>x.1.isSome)
   && decide (es.length+([]:List Keyword).length+(if ([]:List Keyword).isEmpty then 0 else 1)<30))=true:=by
 have h1:(backTo cpos (starEach es env)).all (λx=>!x.1)=true:=by
  have:=eh (env:=env) (pos:=cpos) h;rw[List.all_eq_not_any_not];simpa using this
 have h2:(backToKw cpos (keywordEach [] env)).all (λx=>x.1.isSome)=true:=rfl;rw[h1,h2];simp;lia
variable {tg iter:Expr}{wi:TI}{g:TG}
variable {bd:List Expr}{scope:Scope}{Nt:List Str}{fr:List (Str×Nat)}{WB:ZC->TG}{WC:ZC->TT}{TN:ZC->TE}
end
end L2
namespace PL
open PySem L2
noncomputable def fB:Expr->Bool
 |.Call (.Name x _) [] [] _=>x == "super"
 |_=>false
theorem jG {o:Expr}{f:Str}{env:Env}{s:Sem Value} (h:fB o=false):attributeBase o f env s=s:=by
 unfold attributeBase;split
 ·rename_i id _ _;have h:(id == ("super" : Str))=false:=h;have h':(id != ("super" : Str))=true:=by rw[bne,h];rfl
  rw[h',Bool.true_or,Bool.true_or,Bool.true_or];rfl
 ·rfl
end PL
namespace L2
open PySem
noncomputable def nL (sc:Scope) (N:List Str) (scope:Scope) (fr:List (Str×Nat)):Bool:=
 (scope.kind == .function) && scope.names.all (λy=>decide (y.2≠.cell)) && scope.names.all (λy=>decide (y.2=.local->scope.names.lookup y.1=some .local)) &&
  scope.names.all (λy=>decide (y.2=.free->sc.names.lookup y.1=some .cell)) && fr.all (λp=>decide (N[p.2]?=some p.1) && decide (scope.names.lookup p.1=some .free))
end L2
namespace L2
open PySem PySem.Spec PyProof.Rows
noncomputable def ei (s:Stmt):Arguments:=match s with
 |.FunctionDef _ a _ _ _ _ _ _ _ _=>a
 |_=>{ posonlyargs:=[],args:=[],vararg:=none,kwonlyargs:=[],kw_defaults:=[],kwarg:=none,defaults:=[] }
noncomputable def av (s:Stmt):List Stmt:=match s with
 |.FunctionDef _ _ b _ _ _ _ _ _ _=>b
 |_=>[]
noncomputable def ag (s:Stmt):Scope:=match s with
 |.FunctionDef _ _ _ _ _ _ sc _ _ _=>sc
 |_=>{ kind:=.function,names:=[],isGenerator:=false,isCoroutine:=false }
structure dA (K:PySem.W.Frag) (x qual:Str) (st:Stmt) (f:Addr) (fd:FuncData):Prop where
 ex:∃(oc:Value) (od:Option Addr) (kV doc pm:Value) (Tg:Option Addr) (an ct:Value) (co:Array (Option Value)),
  fd=PySem.W.fnOf x qual (ei st) (av st) (ag st) .none kV doc pm Tg an ct/\K.lookup f=some ⟨oc,od,.func fd,co⟩/\PySem.W.codeIn K an qual=true
 kp:PySem.W.keepIn K (.ref f)=true
section
variable {P:Program}{w:World}{K:PySem.W.Frag}{mg:Str->Option Value}{base:Heap}
theorem dA.iA {x qual:Str}{st:Stmt}{f:Addr}{fd:FuncData}{ps:List Str} (F:dA K x qual st f fd)
  (h:∀(kV doc pm:Value) (Tg:Option Addr) (an ct:Value) (us:List Value),us.length=ps.length->bindArgs (PySem.W.fnOf x qual (ei st) (av st) (ag st) .none kV doc pm Tg an ct) ⟨us,[]⟩=pure (ps.zip us)):bM K fd ps []:=by
 obtain⟨oc,od,kV,doc,pm,Tg,an,ct,co,rfl,lk,dv⟩:=F.ex;exact .all (h kV doc pm Tg an ct)
theorem qK {x qual:Str}{st:Stmt}{f:Addr}{oc:Value}{od Tg:Option Addr}{co:Array (Option Value)}{kV doc pm an ct:Value} (l:K.lookup f=some ⟨oc,od,.func (PySem.W.fnOf x qual (ei st) (av st) (ag st) .none kV doc pm Tg an ct),co⟩)
  (c:PySem.W.codeIn K an qual=true) (k:PySem.W.keepIn K (.ref f)=true):dA K x qual st f (PySem.W.fnOf x qual (ei st) (av st) (ag st) .none kV doc pm Tg an ct):=⟨⟨oc,od,kV,doc,pm,Tg,an,ct,co,rfl,l,c⟩,k⟩
end
end L2
namespace L2
open PySem PySem.Spec PyProof.Rows
def nM (P:Program) (w:World) (A:Around) (s:Shared) (x y:Value):Prop:=∀(E:Value->Shared->Prop) (Q:Bool->Shared->Prop),Q true s->wpAny (model P w) A (eqBool x y) Q E s
section
open PySem.AutoSeq1 (wpAny_loadPart')
open PySem.MeetsSeq PySem.MeetsSeq2 PySem.MeetsSeq3 PySem.SeqAt
variable {P:Program}{w:World}{a b:Addr}{xs ys:Array Value}{ea eb:Nat}{da db:Option Addr}{sa sb:Array (Option Value)}
def wV (P:Program) (w:World) (a b:Addr) (xs ys:Array Value) (ea eb:Nat) (da db:Option Addr) (sa sb:Array (Option Value)):PySem.Spec:=λA R s=>
 s.heap.get? a=some { cls:=.type "list",dict:=da,data:=.seq xs ea,slots:=sa }/\s.heap.get? b=some { cls:=.type "list",dict:=db,data:=.seq ys eb,slots:=sb }/\(∀j (h1:j<xs.size) (h2:j<ys.size),nM P w A.in1 s xs[j] ys[j])/\R (.ok (.ret (.bool false))) s
theorem E9 (hz:xs.size=ys.size):∀(k i:Nat),xs.size-i=k->MeetsIn P w (Builtin.«list.__eq__.loop» ⟨[.ref a,.ref b,rawInt i,rawInt 3],[]⟩) (wV P w a b xs ys ea eb da db sa sb):=by
 intro k
 induction k with
 |zero=>
  intro i hk A R s ⟨h1,h2,h3,h4⟩;obtain⟨hp,g,d,tk,os⟩:=s
  wp_walk using Xm h1,Xm h2
  have x1:xs[((i:Nat):Int).toNat]?=none:=by simp;lia
  have x2:ys[((i:Nat):Int).toNat]?=none:=by simp;lia
  rw[x1,x2]
  wp_walk using Xm h1,Xm h2
  show R (.ok (.ret (.bool (xs.size != ys.size)))) _;rw[hz];simpa using h4
 |succ k ih=>
  intro i hk A R s ⟨h1,h2,h3,h4⟩;obtain⟨hp,g,d,tk,os⟩:=s
  wp_walk using Xm h1,Xm h2
  have l1:i<xs.size:=by lia
  have l2:i<ys.size:=by lia
  have x1:xs[((i:Nat):Int).toNat]?=some xs[i]:=by simp [l1]
  have x2:ys[((i:Nat):Int).toNat]?=some ys[i]:=by simp [l2]
  have x3:((i:Int)+1)=((i+1:Nat):Int):=by lia
  rw[x1,x2];refine WY (h3 i l1 l2 _ _ ?_)
  wp_walk
  rw[x3];exact⟨Yp Zn _,Yh entry_eq_loop (by
   rw[XM Zn _];exact ih (i+1) (by lia) A R _ ⟨h1,h2,h3,h4⟩)⟩
theorem Fb (hz:xs.size=ys.size):MeetsIn P w (Builtin.«list.__ne__» ⟨[.ref a,.ref b],[]⟩) (wV P w a b xs ys ea eb da db sa sb):=by
 intro A R s ⟨h1,h2,h3,h4⟩;obtain⟨hp,g,d,tk,os⟩:=s;have f3:=AutoSeq1.sub_list_list;have cT:¬(xs.size != ys.size)=true:=by simp [hz]
 wp_walk using Xm h1,Xm h2
 exact⟨Yp Zn _,Yh entry_eq_loop (by
  rw[XM Zn _];exact E9 hz _ 0 rfl A R _ ⟨h1,h2,h3,h4⟩)⟩
end
end L2
end
section
set_option maxHeartbeats 1000000
namespace N
open PySem PySem.Spec PyProof.Rows L2 PySem.W
def jH:D->Prop
 |.ak _ ds=>aH ds=true/\aU ds<=50
 |_=>False
def qL:D->Prop
 |.lst ds=>∀d∈ds,jH d
 |d=>jH d
section
variable {G:Gx}{F:Fz}{M:Mp}{s:Shared}{A:Around}
theorem wW (ok:aG G F M s.heap) (hu:A.units+60<cLine) {kvs:List (Key×D)}{vb:List (Key×Value)} (rb:KV G F kvs vb):∀{UM:List (Key×D)}{va:List (Key×Value)},KV G F UM va->(∀p∈UM,aK kvs p.1=some p.2/\aw p.2=true/\aO p.2<=50)->KeqHits A s vb va true
 |_,_,.nil,_=>.nil
 |p::UM,q::va,.cons wE t,h=>by
  obtain⟨h1,h2,h3⟩:=h p W';have hv:=KV.val rb p.1;rw[h1]at hv;cases e:valueAt vb p.1 with
  |none=>rw[e]at hv;exact hv.elim
  |some y=>
   rw[e]at hv;have he:=k6 (G:=G) (F:=F) (M:=M) (A:=A) 50 ok (eJ ok wE.2 h2) (eJ ok hv h2) h3 (by lia);rw[gh _ h2]at he;exact KeqHits.hit (k:=q.1) (by rw[<- wE.1];exact e) he (wW ok hu rb t λp' nN=>h p' (W8 _ nN))
theorem wX:∀{kvs:List (Key×D)},(kvs.map (·.1)).Nodup->∀p∈kvs,aK kvs p.1=some p.2
 |q::r,nd,p,h=>by
  rw[Xe,Y3]at nd;unfold aK;rw[Y4];rcases List.mem_cons.mp h with e |h
  ·subst e;simp
  ·have:¬q.1=p.1:=λe=>nd.1 (e ▸ List.mem_map.mpr ⟨p,h,rfl⟩);simp only[this,decide_false];exact wX nd.2 p h
theorem wY:∀{ds:List D},aH ds=true->∀d∈ds,aw d=true/\aO d<=aU ds
 |x::r,h,d,hd=>by
  rw[aH,W7]at h;rw[aU];rcases List.mem_cons.mp hd with e |hd
  ·subst e;exact⟨h.1,Ym _ _⟩
  ·obtain⟨h1,h2⟩:=wY h.2 d hd;exact⟨h1,W9 h2 (XW _ _)⟩
theorem wZ (ok:aG G F M s.heap) (hu:A.units+62<cLine) {d:D}{u v:Value} (h:jH d) (r1:ab G F d u) (r2:ab G F d v):nM G.P G.w A s u v:=by
 cases d with
 |ak ks ds=>
  obtain⟨k1,k2⟩:=h;rw[ab]at r1 r2;have bL:∀{u:Value},(∃a o us,u=.ref a/\F a=some (.dat o)/\kI G o ks us/\(a == sysModules)=false/\af G F ds us)->∃a vs,u=.ref a/\(a == sysModules)=false/\KV G F (ks.zip ds) vs/\s.heap.DictOf (bo G.P G.w) a vs/\((ks.zip ds).map (·.1)).Nodup:=by
   rintro u ⟨a,o,us,e,h1,h2,h4,h3⟩;obtain⟨es,ep,g1,g2,g3⟩:=h2.bL;refine⟨a,_,e,h4,KV.zip h3,⟨o,es,ep,ok.fz a _ h1,h2.ex,g1,g2,g3,?_⟩,?_⟩
   ·rw[List.map_fst_zip (Zd h2.len.symm)];exact h2.nd
   ·rw[List.map_fst_zip (Zd (by rw[h3.len,h2.len]))];exact h2.nd
  obtain⟨a,va,rfl,n1,U8,da,nd⟩:=bL r1;obtain⟨b,vb,rfl,n2,rb,db,_⟩:=bL r2;intro E Q q;unfold eqBool;refine XU ?_;refine YG (λ_=>?_) (λ_=>?_)
  ·exact W2 (M:=model G.P G.w) (E:=E) q
  have Fa:va.length=vb.length:=by rw[<- U8.length,<- rb.length]
  refine WY (keq_eq (knd:=bo G.P G.w) n1 n2 da db (by lia) (r:=true) (λ_=>wW ok (by show A.units+1+60<cLine;lia) rb U8 λp hp=>⟨wX nd p hp,?_⟩) ?_)
  ·obtain⟨h1,h2⟩:=wY k1 p.2 (YQ hp).2;exact⟨h1,W9 h2 k2⟩
  rw[Fa];refine YW ?_;simpa using q
 |_=>exact h.elim
section
open PySem.AutoSeq1 (wpAny_loadPart')
open PySem.MeetsSeq PySem.MeetsSeq2 PySem.MeetsSeq3 PySem.SeqAt
variable {P:Program}{w:World}{a b:Addr}{xs ys:Array Value}{ea eb:Nat}{da db:Option Addr}{sa sb:Array (Option Value)}
def w4 (P:Program) (w:World) (a b:Addr) (xs ys:Array Value) (ea eb:Nat) (da db:Option Addr) (sa sb:Array (Option Value)):PySem.Spec:=λA R s=>
 s.heap.get? a=some { cls:=.type "list",dict:=da,data:=.seq xs ea,slots:=sa }/\s.heap.get? b=some { cls:=.type "list",dict:=db,data:=.seq ys eb,slots:=sb }/\(∀j (h1:j<xs.size) (h2:j<ys.size),nM P w A.in1 s xs[j] ys[j])/\R (.ok (.ret (.bool true))) s
theorem Fc (hz:xs.size=ys.size):∀(k i:Nat),xs.size-i=k->MeetsIn P w (Builtin.«list.__eq__.loop» ⟨[.ref a,.ref b,rawInt i,rawInt 2],[]⟩) (w4 P w a b xs ys ea eb da db sa sb):=by
 intro k
 induction k with
 |zero=>
  intro i hk A R s ⟨h1,h2,h3,h4⟩;obtain⟨hp,g,d,tk,os⟩:=s
  wp_walk using Xm h1,Xm h2
  have x1:xs[((i:Nat):Int).toNat]?=none:=by simp;lia
  have x2:ys[((i:Nat):Int).toNat]?=none:=by simp;lia
  rw[x1,x2]
  wp_walk using Xm h1,Xm h2
  show R (.ok (.ret (.bool (xs.size == ys.size)))) _;rw[hz];simpa using h4
 |succ k ih=>
  intro i hk A R s ⟨h1,h2,h3,h4⟩;obtain⟨hp,g,d,tk,os⟩:=s
  wp_walk using Xm h1,Xm h2
  have l1:i<xs.size:=by lia
  have l2:i<ys.size:=by lia
  have x1:xs[((i:Nat):Int).toNat]?=some xs[i]:=by simp [l1]
  have x2:ys[((i:Nat):Int).toNat]?=some ys[i]:=by simp [l2]
  have x3:((i:Int)+1)=((i+1:Nat):Int):=by lia
  rw[x1,x2];refine WY (h3 i l1 l2 _ _ ?_)
  wp_walk
  rw[x3];exact⟨Yp Zn _,Yh entry_eq_loop (by
   rw[XM Zn _];exact ih (i+1) (by lia) A R _ ⟨h1,h2,h3,h4⟩)⟩
theorem Fd (hz:xs.size=ys.size):MeetsIn P w (Builtin.«list.__eq__» ⟨[.ref a,.ref b],[]⟩) (w4 P w a b xs ys ea eb da db sa sb):=by
 intro A R s ⟨h1,h2,h3,h4⟩;obtain⟨hp,g,d,tk,os⟩:=s;have f3:=AutoSeq1.sub_list_list;have cT:¬(xs.size != ys.size)=true:=by simp [hz]
 wp_walk using Xm h1,Xm h2
 exact⟨Yp Zn _,Yh entry_eq_loop (by
  rw[XM Zn _];exact Fc hz _ 0 rfl A R _ ⟨h1,h2,h3,h4⟩)⟩
end
theorem Fe (ok:aG G F M s.heap) (hu:A.units+90<cLine) {d:D}{u v:Value} (h:qL d) (r1:ab G F d u) (r2:ab G F d v):nM G.P G.w A s u v:=by
 cases d with
 |lst ds=>
  rw[ab]at r1 r2;obtain⟨a,n,us,rfl,e1,_,q1⟩:=r1;obtain⟨b,m,vs,rfl,e2,_,q2⟩:=r2;have ho:=ok.fz a _ e1;have ho2:=ok.fz b _ e2;have l1:us.toArray.size=ds.length:=by rw[W4,q1.len]
  have l2:vs.toArray.size=ds.length:=by rw[W4,q2.len]
  intro E Q q;unfold eqBool;refine XU ?_;refine YG (λ_=>?_) (λ_=>?_)
  ·exact W2 (M:=model G.P G.w) (E:=E) q
  refine WY (wpAny_richCompare_same_room (op:=.Eq) ⟨_,ho,rfl⟩ ⟨_,ho2,rfl⟩ PySem.F.slot_list_eq (call_meetsIn PySem.F.slot_list_eq ⟨_,ho,rfl⟩ PySem.F.entry_list_eq (PySem.F.args_list_eq_2 _ _) (Fd (P:=G.P) (w:=G.w) (by rw[l1,l2])) ⟨ho,ho2,λj h1 h2=>?_,?_⟩) (by lia))
  ·have g:j<ds.length:=(by rw[<- l1];exact h1);obtain⟨u1,e1,q1⟩:=ee q1 (W6 g);obtain⟨u2,e2,q2⟩:=ee q2 (W6 g);rw[(Array.getElem?_eq_some_iff.mp e1).2,(Array.getElem?_eq_some_iff.mp e2).2];exact wZ ok (by show A.units+1+62<cLine;lia) (h _ (List.getElem_mem g)) q1 q2
  ·refine⟨λz=>(nomatch z),?_⟩;exact YW q
 |ak ks ds=>exact wZ (d:=.ak ks ds) ok (by lia) (show jH (.ak ks ds) from h) r1 r2
 |_=>exact h.elim
end
theorem Ff {X:Cx} (hu:X.A.units+110<cLine) {τ:St} {z:Z}{ds:List D}{v u:Value}{R:Value->Shared->Prop} (I:ae X τ z) (r1:ab X.G z.F (.lst ds) v) (r2:ab X.G z.F (.lst ds) u) (h:∀d∈ds,qL d) (q:R (.bool false) z.s):W X (compareOp .NotEq v u) R z.s:=by
 obtain⟨a,us,n,rfl,l⟩:=I.f7 r1;obtain⟨b,vs,m,rfl,l'⟩:=I.f7 r2;have l1:us.toArray.size=ds.length:=by rw[W4,l.r.len]
 have l2:vs.toArray.size=ds.length:=by rw[W4,l'.r.len]
 obtain⟨⟨cls,dd,data,sl⟩,ho,hc,n,hd⟩:=id l.p.isList;obtain⟨⟨wn,iz,wv,k7⟩,ho2,fA,n2,gI⟩:=id l'.p.isList;simp only at hc hd fA gI;subst hc hd fA gI;refine wpAny_richCompare_same_room (op:=.NotEq) ⟨_,ho,rfl⟩ ⟨_,ho2,rfl⟩ F.slot_list_ne (call_meetsIn F.slot_list_ne ⟨_,ho,rfl⟩ F.entry_list_ne (F.args_list_ne_2 _ _) (Fb (P:=X.G.P) (w:=X.G.w) (by rw[l1,l2])) ⟨ho,ho2,λj h1 h2=>?_,?_⟩) (by lia)
 ·have g:j<ds.length:=by rw[<- l1];exact h1
  obtain⟨u1,e1,q1⟩:=ee l.r (W6 g);obtain⟨u2,e2,q2⟩:=ee l'.r (W6 g);rw[(Array.getElem?_eq_some_iff.mp e1).2,(Array.getElem?_eq_some_iff.mp e2).2];exact Fe I.hok (by show X.A.units+1+90<cLine;lia) (h _ (List.getElem_mem g)) q1 q2
 ·exact⟨λz=>(nomatch z),q⟩
end N
end
section
set_option maxHeartbeats 1000000
namespace N
open PySem PySem.Spec PyProof.Rows L2
section
variable {X:Cx}
theorem af.iF {G:Gx}{F:Fz}{ds:List D}{us:List Value} (r:af G F ds us):∀k:Nat,af G F (XZ k ds).flatten (XZ k us).flatten
 | 0=>.nil
 |k+1=>by rw[Zo,Zo,List.flatten_cons,List.flatten_cons];exact r.app (af.iF r k)
theorem Fh:O2 X (binaryOp .Mult) qG:=fun τ z Q R d e v u I r1 r2 q k=>by
 have lst:∀{d:D},ab X.G z.F d v->(a9 d z.M λds=>b3 e λk=>-(2 ^ 63)<=k/\k<2 ^ 63/\ds.length * k.toNat<=sizeLine/\bQ (XZ k.toNat ds).flatten z.M Q)->W X (binaryOp .Mult v u) R z.s:=λr1 q=>by
  obtain⟨a,ds,us,n,rfl,l,q⟩:=I.a9 r1 q;obtain⟨j,t,rfl,h1,h2,hz,q⟩:=cX q r2;have hlen:us.toArray.size * j.toNat<=sizeLine:=by rw[W4,<- l.r.len];exact hz
  have Fi:¬us.toArray.size * j.toNat > (2 ^ 63-1) / 8:=by
   have:(sizeLine:Nat)<=(2 ^ 63-1) / 8:=(by decide);lia
  have p5:¬(!Builtin.List.listFitsIndex j)=true:=by rw[fitsIndex_both h1 h2];exact XJ
  have lg:¬Yz (us.toArray.size * j.toNat)=true:=by rw[qz hlen];exact XJ
  have Fj:List.foldl (λx1 x2=>x1++x2) #[] (XZ (if us.toArray.isEmpty=true then 0 else j.toNat) us.toArray)=(XZ j.toNat us).flatten.toArray:=by
   have f0:∀m:Nat,List.foldl (λx1 x2=>x1++x2) #[] (XZ m us.toArray)=(XZ m us).flatten.toArray:=λm=>by
    have:=wA us m [];rw[List.nil_append]at this;exact this
   rw[f0];cases us with
   |nil=>simp
   |cons a r'=>rw[if_neg (by simp)]
  refine wpAny_binaryOp_repeat_ref (T:="list") (U:="int") (by decide) ⟨_,l.e,rfl⟩ (λs'=>typeIs_int s' j t) noFill_list_mul F.fills_int_mul F.slot_int_rmul repeat_list F.slot_int_index.lookup
   (call_meets F.slot_int_rmul (typeIs_int z.s j t) F.entry_int_rmul (F.args_int_rmul_2 _ _) (int___rmul___int_list j t a us.toArray n)
    ⟨l.e,rfl,⟨_,l.e,rfl⟩,call_meets F.slot_list_mul ⟨_,l.e,rfl⟩ F.entry_list_mul (F.args_list_mul_2 _ _) (AutoListH.list___mul___list_int_3 a us.toArray n j t p5 Fi lg) ⟨l.e,?_⟩⟩)
  rw[Fj];exact I.lst (t:=z.s.toks) (n:=0) k Le.rfl (l.r.iF j.toNat) (λb o e=>WZ _ e) (W3 _) (W5 _ rfl) (by rw[EA,Nat.mul_comm,<- l.r.len];exact hz) q
 unfold qG at q;cases d with
 |int i=>
  rw[ab]at r1;obtain⟨t,rfl⟩:=r1;obtain⟨j,t',rfl,hc,q⟩:=cX q r2;exact mul_int (I.fin k Le.rfl b5 q _) (hc.elim (·.ok) λh=>.of_bits (wz h.1) (wz h.2))
 |lst ds=>exact lst r1 q
 |ref a=>exact lst r1 q
 |_=>exact q.elim
theorem nP {f:Value->Value->Sem Value}:O2 X f λ_ _ _ _=>False:=λ_ _ _ _ _ _ _ _ _ _ _ q _=>q.elim
theorem Fl:∀o:Operator,O2 X (binaryOp o) (wL o)
 |.Add=>E4
 |.Sub=>wM λ_ _ _ _ _ _ _ q=>sub_int q
 |.Mult=>Fh
 |.FloorDiv=>k9 λi j _ _ _ _ _ hc q=>by
  have h1:(0:Int)<j:=hc.1;have h2:j<2 ^ 200:=hc.2;have h3:j.natAbs<2 ^ 200:=by lia
  exact floordiv_int (by lia) (by rw[Int.fdiv_eq_ediv_of_nonneg i (by lia)];exact q) (.inl (PyProof.noPylong_of_log2 (Xl ((Nat.log2_lt (by lia)).mpr h3) (by decide))))
 |.Mod=>k9 λi j _ _ _ _ _ hc q=>mod_int' (by lia) (by rw[Int.fmod_eq_emod_of_nonneg i (by lia)];exact q)
 |.Pow=>k9 λ_ _ _ _ _ _ _ hc q=>pow_int_small hc.1 hc.2.1 hc.2.2 q
 |.LShift=>k9 λ_ _ _ _ _ _ _ hc q=>lshift_int_small hc.1 hc.2.1 hc.2.2 q
 |.RShift=>k9 λi j _ _ _ _ _ hc q=>rshift_int hc (by rw[Int.fdiv_eq_ediv_of_nonneg i (Ex _)];exact q)
 |.BitAnd=>wM λ_ _ _ _ _ _ _ q=>and_int q
 |.MatMult=>nP
 |.Div=>nP
 |.BitOr=>nP
 |.BitXor=>nP
noncomputable def w5:D->Bool
 |.lst []=>true
 |_=>false
inductive ej (ne:Bool) (x y:D) (M:Mp) (k:Bool->Prop):Prop
 |mk (h:(aw (bZ x M)=true/\aw (bZ y M)=true/\aO (bZ x M)<=100)\/((qw (bZ x M)).isSome=true/\w5 (bZ y M)=true)) (q:k (aE (bZ x M) (bZ y M)))
 |dd (n:ne=true) (ds:List D) (hx:x=.lst ds) (hy:y=.lst ds) (h:∀d∈ds,qL d) (q:k true)
noncomputable def dT (x:D) (ds:List D):Bool:=ds.any λd=>aE d x
def w6 (x y:D) (M:Mp) (k:Bool->Prop):Prop:=match y with
 |.ak _ _=>cu y M λkvs=>dS x λc=>k (aK kvs c).isSome
 |.str b=>match x with
  |.str a=>k (!(Builtin.Str.occurrences b a 0 b.length 1).isEmpty)
  |_=>False
 |.ref a=>(∃kvs,M a=some (.ak kvs)/\dS x λc=>k (aK kvs c).isSome)\/∃ds,M a=some (.lst ds)/\aw x=true/\aH ds=true/\aU ds<=100/\k (dT x ds)
 |y=>dw y M λds=>aw x=true/\aH ds=true/\aU ds<=100/\k (dT x ds)
structure fC (x y:D) (M:Mp) (k:Bool->Prop):Prop where
 h:w6 x y M k
def nQ (x y:D) (k:Bool->Prop):Prop:=match y with
 |.aj=>k (nG x)
 |_=>False
def qM (x y:D) (k:Bool->Prop):Prop:=match x with
 |.int i=>b3 y λj=>k (decide (i<j))
 |.str i=>match y with
  |.str j=>k (decide (i.cps.toList<j.cps.toList))
  |_=>False
 |_=>False
def nR (x y:D) (k:Int->Int->Prop):Prop:=b3 x λi=>b3 y λj=>k i j
def jI:CmpOp->D->D->Mp->(Bool->Prop)->Prop
 |.Eq=>λx y M k=>ej false x y M k
 |.NotEq=>λx y M k=>ej true x y M λb=>k (!b)
 |.Lt=>λx y M k=>qM x y k
 |.LtE=>λx y M k=>nR x y λi j=>k (decide (i<=j))
 |.Gt=>λx y M k=>nR x y λi j=>k (decide (j<i))
 |.GtE=>λx y M k=>nR x y λi j=>k (decide (j<=i))
 |.In=>λx y M k=>fC x y M k
 |.NotIn=>λx y M k=>fC x y M λb=>k (!b)
 |.Is=>λx y _ k=>nQ x y k
 |.IsNot=>λx y _ k=>nQ x y λb=>k (!b)
end
def OC (X:Cx) (f:Value->Value->Sem Value) (r:D->D->Mp->(Bool->Prop)->Prop):Prop:=∀ τ z (k:Bool->Prop) R d e v u,ae X τ z->ab X.G z.F d v->ab X.G z.F e u->r d e z.M k->(∀b t,k b->R (.bool b) { z.s with toks:=t })->W X (f v u) R z.s
def w8 (r:D->D->Mp->(Bool->Prop)->Prop) (ta tb:DE):DE:=fun τ M q=>ta τ M λx M1=>tb τ M1 λy M2=>r x y M2 λb=>q (.bl b) M2
def w9 (r:D->D->Mp->(Bool->Prop)->Prop) (ta tb:DE):DT:=fun τ M q=>ta τ M λx M1=>tb τ M1 λy M2=>r x y M2 λb=>q b M2
section
variable {X:Cx}{a b:Expr}{ta tb:DE}{pos:Pos}
theorem Fm {o:CmpOp}{r:D->D->Mp->(Bool->Prop)->Prop} (ho:OC X (compareOp o) r) (ha:PE X a ta) (hb:PE X b tb) (hm:behindInMarks o b=false):PE X (.Compare a [o] [b] pos) (w8 r ta tb):=fun τ z Q R I h k=>
 wpAny_Compare1 (ha τ z _ _ I h λx z1 v l1 I1 r1 q1=>hb τ z1 _ _ I1 q1 λy z2 u l2 I2 r2 q2=>ho τ z2 _ _ x y v u I2 (r1.up l2.d) r2 q2 λb t q=>I2.fin k (l1.tr l2) kP q t) hm
theorem Fs {o:CmpOp}{r:D->D->Mp->(Bool->Prop)->Prop} (ho:OC X (compareOp o) r) (ha:PE X a ta) (hb:PE X b tb) (hm:behindInMarks o b=false):PT X (.Compare a [o] [b] pos) (w9 r ta tb):=fun τ z Q R I h k=>
 wpAny_isTrue_Compare1 (ha τ z _ _ I h λx z1 v l1 I1 r1 q1=>hb τ z1 _ _ I1 q1 λy z2 u l2 I2 r2 q2=>ho τ z2 _ _ x y v u I2 (r1.up l2.d) r2 q2 λb t q=>YW (k b ⟨z2.F,z2.M,{ z2.s with toks:=t }⟩ (l1.tr l2) (I2.m8 t) q)) hm
end
section
variable {X:Cx}
theorem ae.w' {τ:St} {z:Z}{d:D}{u:Value} (I:ae X τ z) (r:ab X.G z.F d u) (h:aw (bZ d z.M)=true):Sh X.G z.F z.s (bZ d z.M) u:=by
 cases d with
 |ref a=>
  change aw (jF a (z.M a))=true at h;show Sh X.G z.F z.s (jF a (z.M a)) u;rw[ab]at r;subst r;cases e:z.M a with
  |none=>rw[e]at h;cases h
  |some o=>cases o with
   |lst ds=>rw[e]at h;obtain⟨us,n,l⟩:=I.eI e;exact .lst l.p.isList l.r h
   |_=>rw[e]at h;cases h
 |_=>exact eJ I.hok r h
theorem ae.xc {τ:St} {z:Z}{d:D}{u:Value}{ds:List D} (I:ae X τ z) (r:ab X.G z.F d u) (h:bZ d z.M=.lst ds):∃a us n,u=.ref a/\eH X.G z.F z.s.heap a ds us n:=by
 cases d with
 |ref a=>
  change jF a (z.M a)=.lst ds at h;rw[ab]at r;cases e:z.M a with
  |none=>rw[e]at h;cases h
  |some o=>cases o with
   |lst es=>rw[e]at h;cases h;obtain⟨us,n,l⟩:=I.eI e;exact⟨a,us,n,r,l⟩
   |_=>rw[e]at h;cases h
 |lst es=>cases h;exact I.f7 r
 |_=>cases h
theorem xd (hu:X.A.units+110<cLine) {τ:St} {z:Z}{d e:D}{v u:Value}{k:Bool->Prop} (I:ae X τ z) (r1:ab X.G z.F d v) (r2:ab X.G z.F e u) (h:(aw (bZ d z.M)=true/\aw (bZ e z.M)=true/\aO (bZ d z.M)<=100)\/((qw (bZ d z.M)).isSome=true/\w5 (bZ e z.M)=true)) (q:k (aE (bZ d z.M) (bZ e z.M))):∃b,SeqAt.RcAt X.A z.s v u b/\SeqAt.RcNeAt X.A z.s v u (!b)/\k b:=by
 rcases h with ⟨h1,h2,h3⟩ |⟨h1,h2⟩
 ·have c:=Ew (A:=X.A) (n:=100) I.hok (I.w' r1 h1) (I.w' r2 h2) (Nat.le_succ_of_le h3) (by lia);exact⟨_,c.1,c.2,q⟩
 ·cases e1:bZ d z.M with
  |lst ds=>cases e2:bZ e z.M with
   |lst es=>cases es with
    |nil=>
     obtain⟨a,us,n,rfl,l⟩:=I.xc r1 e1;obtain⟨b,vs,n',rfl,l'⟩:=I.xc r2 e2;have:=l'.r;rw[af]at this;subst this;rw[e1,e2]at q;cases ds with
     |nil=>
      have:=l.r;rw[af]at this;subst this;exact⟨true,SeqAt.RcAt.lists (e:=λ_=>true) l.p.isList l'.p.isList rfl (by lia) λj h1=>absurd h1 (Nat.not_lt_zero j),SeqAt.RcNeAt.lists (e:=λ_=>true) l.p.isList l'.p.isList rfl (by lia) λj h1=>absurd h1 (Nat.not_lt_zero j),q⟩
     |cons d ds=>
      have:=l.r;rw[af]at this;obtain⟨u,us,rfl,_⟩:=this;exact⟨false,SeqAt.RcAt.lists_lengths l.p.isList l'.p.isList (by simp) (by lia),SeqAt.RcNeAt.lists_lengths l.p.isList l'.p.isList (by simp) (by lia),q⟩
    |cons _ _=>rw[e2]at h2;cases h2
   |_=>rw[e2]at h2;cases h2
  |_=>rw[e1]at h1;cases h1
theorem Ft (hu:X.A.units+110<cLine):OC X (compareOp .Eq) (jI .Eq):=fun τ z k R d e v u I r1 r2 q K=>by
 cases q with
 |mk h q=>
  obtain⟨b,h1,_,q⟩:=xd hu I r1 r2 h q;exact h1 _ _ _ _ (K b z.s.toks q)
 |dd n=>cases n
theorem Fu (hu:X.A.units+110<cLine):OC X (compareOp .NotEq) (jI .NotEq):=fun τ z k R d e v u I r1 r2 q K=>by
 cases q with
 |mk h q=>
  obtain⟨b,_,h1,q⟩:=xd (k:=λb=>k (!b)) hu I r1 r2 h q;exact h1 _ _ _ _ (K (!b) z.s.toks q)
 |dd n ds hx hy h q=>subst hx;subst hy;exact Ff hu I r1 r2 h (K false z.s.toks q)
open Classical in
theorem Fv {τ:St} {z:Z}{x:D}{v:Value}{ds:List D}{us:List Value} (hu:X.A.units+110<cLine) (I:ae X τ z) (r:ab X.G z.F x v) (rs:af X.G z.F ds us) (h1:aw x=true) (h2:aH ds=true) (h3:aU ds<=100) :
  ∃e:Value->Bool,(∀y,y∈us.toArray->SeqAt.EqAt X.A.in1 z.s y v (e y))/\us.toArray.any e=dT x ds:=by
 have key:∀{d:D}{y:Value},ab X.G z.F d y->aw d=true->decide (∃d',ab X.G z.F d' y/\aw d'=true/\aE d' x=true)=aE d x:=λ{d y} r k=>by
  rw[Yv,decide_eq_true_eq];exact⟨λ⟨d',a,b,c⟩=>by rw[we d r a k b];exact c,λc=>⟨d,r,k,c⟩⟩
 refine⟨λy=>decide (∃d',ab X.G z.F d' y/\aw d'=true/\aE d' x=true),λy hy=>?_,?_⟩
 ·obtain⟨i,hi⟩:=List.getElem?_of_mem (by simpa using hy:y∈us);have hl:i<ds.length:=by rw[rs.len];exact (List.getElem?_eq_some_iff.mp hi).1
  obtain⟨VJ,e,q⟩:=rs.get (W6 hl);rw[hi]at e;cases e;have m:=jA h2 (W6 hl);show SeqAt.EqAt X.A.in1 z.s y v (decide (∃d',ab X.G z.F d' y/\aw d'=true/\aE d' x=true));rw[key q m.1];exact k6 100 I.hok (eJ I.hok q m.1) (eJ I.hok r h1) (W9 m.2 h3) (by show X.A.units+1+100<cLine;lia)
 ·rw[show us.toArray.any (λy=>decide (∃d',ab X.G z.F d' y/\aw d'=true/\aE d' x=true))=us.any (λy=>decide (∃d',ab X.G z.F d' y/\aw d'=true/\aE d' x=true)) by simp];clear h3;unfold dT
  induction ds generalizing us with
  |nil=>rw[af]at rs;subst rs;rfl
  |cons d ds ih=>
   rw[af]at rs;obtain⟨u,us,rfl,q1,q2⟩:=rs;rw[aH,W7]at h2;rw[Zh,Zh,key q1 h2.1,ih q2 h2.2]
theorem xf (hu:X.A.units+110<cLine) {τ:St} {z:Z}{d e:D}{v u:Value}{k:Bool->Prop} (I:ae X τ z) (r1:ab X.G z.F d v) (r2:ab X.G z.F e u) (h:fC d e z.M k):∃b,k b/\(∀Q E:Value->Shared->Prop,(∀t,Q (.bool b) { z.s with toks:=t })->wpAny (model X.G.P X.G.w) X.A (compareOp .In v u) Q E z.s)/\∀Q E:Value->Shared->Prop,(∀t,Q (.bool (!b)) { z.s with toks:=t })->wpAny (model X.G.P X.G.w) X.A (compareOp .NotIn v u) Q E z.s:=by
 have ak:∀{e:D},ab X.G z.F e u->(cu e z.M λkvs=>dS d λc=>k (aK kvs c).isSome)->∃b,k b/\(∀Q E:Value->Shared->Prop,(∀t,Q (.bool b) { z.s with toks:=t })->wpAny (model X.G.P X.G.w) X.A (compareOp .In v u) Q E z.s)/\∀Q E:Value->Shared->Prop,(∀t,Q (.bool (!b)) { z.s with toks:=t })->wpAny (model X.G.P X.G.w) X.A (compareOp .NotIn v u) Q E z.s:=λr2 q=>by
  obtain⟨a,kvs,vs,rfl,l,q⟩:=I.cu r2 q;obtain⟨c,hc,q⟩:=jE (P:=X.G.P) (w:=X.G.w) q r1;have e:=(l.r.val c).so;exact⟨_,q,λQ E h=>wpAny_in_of hc l.n l.d.mapOf (by rw[<- e];exact h _),λQ E h=>wpAny_notIn_of hc l.n l.d.mapOf (by rw[<- e];exact h _)⟩
 have seq:∀{ds:List D}{us:List Value}{a:Addr},af X.G z.F ds us->u=.ref a->(z.s.heap.IsList a us.toArray\/z.s.heap.IsTuple a us.toArray)->aw d=true/\aH ds=true/\aU ds<=100/\k (dT d ds)->∃b,k b/\(∀Q E:Value->Shared->Prop,(∀t,Q (.bool b) { z.s with toks:=t })->wpAny (model X.G.P X.G.w) X.A (compareOp .In v u) Q E z.s)/\∀Q E:Value->Shared->Prop,(∀t,Q (.bool (!b)) { z.s with toks:=t })->wpAny (model X.G.P X.G.w) X.A (compareOp .NotIn v u) Q E z.s:=λrs VL hs q=>by
  subst VL;obtain⟨f,f1,f2⟩:=Fv hu I r1 rs q.1 q.2.1 q.2.2.1;refine⟨_,q.2.2.2,λQ E h=>?_,λQ E h=>?_⟩
  ·rcases hs with hs |hs
   ·exact SeqAt.in_listAt f hs f1 (by rw[f2];exact h z.s.toks)
   ·exact SeqAt.in_tupleAt f hs f1 (by rw[f2];exact h z.s.toks)
  ·rcases hs with hs |hs
   ·exact SeqAt.notIn_listAt f hs f1 (by rw[f2];exact h z.s.toks)
   ·exact SeqAt.notIn_tupleAt f hs f1 (by rw[f2];exact h z.s.toks)
 replace h:=h.h;unfold w6 at h;cases e with
 |ak ks ds=>exact ak r2 h
 |str b=>cases d with
  |str a=>
   rw[ab]at r1 r2;obtain⟨t,rfl⟩:=r1;obtain⟨t',rfl⟩:=r2;exact⟨_,h,λQ E q=>in_str (q z.s.toks),λQ E q=>notIn_str (q z.s.toks)⟩
  |_=>exact h.elim
 |ref a=>
  rcases h with h |⟨ds,h1,h⟩
  ·exact ak (e:=.ref a) r2 h
  ·rw[ab]at r2;obtain⟨us,n,l⟩:=I.eI h1;exact seq l.r r2 (.inl l.p.isList) h
 |lst ds=>obtain⟨a,us,n,e,l⟩:=I.f7 r2;exact seq l.r e (.inl l.p.isList) h
 |tup ds=>obtain⟨a,us,o,e,l⟩:=I.cW r2;exact seq l.r e (.inr l.p) h
 |_=>exact h.elim
theorem xg {G:Gx}{F:Fz}{d:D}{u:Value} (r:ab G F d u):(u == Yb)=nG d:=by
 cases d with
 |aj=>rw[ab]at r;subst r;rfl
 |bl _=>rw[ab]at r;subst r;rfl
 |int _=>rw[ab]at r;obtain⟨t,rfl⟩:=r;rfl
 |str _=>rw[ab]at r;obtain⟨t,rfl⟩:=r;rfl
 |ref _=>rw[ab]at r;subst r;rfl
 |ty _=>rw[ab]at r;subst r;rfl
 |tup _=>rw[ab]at r;obtain⟨_,_,_,rfl,_⟩:=r;rfl
 |lst _=>rw[ab]at r;obtain⟨_,_,_,rfl,_⟩:=r;rfl
 |ak _ _=>rw[ab]at r;obtain⟨_,_,_,rfl,_⟩:=r;rfl
theorem xh {G:Gx}{F:Fz}{x y:D}{k:Bool->Prop}{u:Value} (h:nQ x y k) (r:ab G F y u):u=.none/\k (nG x):=by
 unfold nQ at h;split at h
 ·rw[ab]at r;exact⟨r,h⟩
 ·exact h.elim
theorem qN {o:CmpOp}{f:Int->Int->Bool} (rule:∀(i j:Int) (t u:Tok) (s:Shared) (Q E:Value->Shared->Prop),Q (.bool (f i j)) s->wpAny (model X.G.P X.G.w) X.A (compareOp o (.int i t) (.int j u)) Q E s):OC X (compareOp o) (λx y _ k=>nR x y λi j=>k (f i j)):=fun τ z k R d e v u I r1 r2 q K=>by
 obtain⟨i,t,rfl,q⟩:=cX q r1;obtain⟨j,t',rfl,q⟩:=cX q r2;exact rule i j t t' z.s _ _ (K _ z.s.toks q)
theorem xi (hu:X.A.units+110<cLine):∀o:CmpOp,OC X (compareOp o) (jI o)
 |.Eq=>Ft hu
 |.NotEq=>Fu hu
 |.In=>fun τ z k R d e v u I r1 r2 q K=>by
  obtain⟨b,q,h,_⟩:=xf hu I r1 r2 q;exact h _ _ λt=>K b t q
 |.NotIn=>fun τ z k R d e v u I r1 r2 q K=>by
  obtain⟨b,q,_,h⟩:=xf (k:=λb=>k (!b)) hu I r1 r2 q;exact h _ _ λt=>K (!b) t q
 |.Lt=>fun τ z k R d e v u I r1 r2 q K=>by
  replace q:qM d e k:=q;unfold qM at q;cases d with
  |int i=>
   rw[ab]at r1;obtain⟨t,rfl⟩:=r1;obtain⟨j,t',rfl,q⟩:=cX q r2;exact lt_int (K _ z.s.toks q)
  |str i=>cases e with
   |str j=>
    rw[ab]at r1 r2;obtain⟨t,rfl⟩:=r1;obtain⟨t',rfl⟩:=r2;exact lt_str (K _ z.s.toks q)
   |_=>exact q.elim
  |_=>exact q.elim
 |.LtE=>qN λ_ _ _ _ _ _ _ q=>le_int q
 |.Gt=>qN λ_ _ _ _ _ _ _ q=>gt_int q
 |.GtE=>qN λ_ _ _ _ _ _ _ q=>ge_int q
 |.Is=>fun τ z k R d e v u I r1 r2 q K=>by
  obtain⟨rfl,q⟩:=xh q r2;exact is_none_gen (by rw[xg r1];exact K _ z.s.toks q)
 |.IsNot=>fun τ z k R d e v u I r1 r2 q K=>by
  obtain⟨rfl,q⟩:=xh (k:=λb=>k (!b)) q r2;exact isnot_none_gen (by rw[xg r1];exact K _ z.s.toks q)
end
end N
end
section
set_option maxHeartbeats 1000000
namespace N
open PySem PySem.Spec PyProof.Rows L2
def xj (x:D) (M:Mp) (k:Bool->Prop):Prop:=match x with
 |.aj=>k false
 |.bl b=>k b
 |.int i=>k (i != 0)
 |.str y=>y.length<=sizeLine/\k ((y.length:Int) != 0)
 |.tup ds=>k (!ds.isEmpty)
 |.lst ds=>k (!ds.isEmpty)
 |.ak ks ds=>k (!(ks.zip ds).isEmpty)
 |.ref p=>(∃xs,M p=some (.lst xs)/\k (!xs.isEmpty))\/∃kvs,M p=some (.ak kvs)/\k (!kvs.isEmpty)
 |_=>False
section
variable {X:Cx}{a b:Expr}{ta tb:DE}{pos:Pos}
theorem xk {G:Gx}{F:Fz}{ds:List D}{us:List Value} (r:af G F ds us):(!us.toArray.isEmpty)=!ds.isEmpty:=by
 cases ds with
 |nil=>rw[af]at r;subst r;rfl
 |cons d ds=>rw[af]at r;obtain⟨u,us,rfl,_⟩:=r;rfl
theorem gK {n:Nat} (h:n<=sizeLine):(n:Int)<2 ^ 63:=by have:=nJ;lia
theorem Fw {τ:St} {z:Z}{d:D}{v:Value}{k:Bool->Prop}{R:Bool->Shared->Prop} (I:ae X τ z) (r:ab X.G z.F d v) (h:xj d z.M k) (K:∀b t,k b->R b { z.s with toks:=t }):W X (truthy v) R z.s:=by
 have hl:=nJ;have lst:∀{ds:List D}{us:List Value}{a:Addr}{n:Nat},eH X.G z.F z.s.heap a ds us n->k (!ds.isEmpty)->W X (truthy (.ref a)) R z.s:=λl q=>wpAny_truthy_list l.p.isList (by rw[W4];exact gK l.z) (by rw[xk l.r];exact K _ _ q);have ak:∀{kvs:List (Key×D)}{vs:List (Key×Value)}{a:Addr},jD X.G z.F z.s.heap a kvs vs->k (!kvs.isEmpty)->W X (truthy (.ref a)) R z.s:=λ{kvs vs a} l q=>by
  have e:kvs.isEmpty=vs.isEmpty:=by have:=l.r;unfold KV at this;cases this <;> rfl
  have e2:kvs.length=vs.length:=Paired.length l.r;exact wpAny_truthy_dict l.n l.d (by rw[<- e2];exact gK l.z) (by rw[<- e];exact K _ _ q)
 cases d with
 |aj=>rw[ab]at r;subst r;exact truthy_none (K _ z.s.toks h)
 |bl b=>rw[ab]at r;subst r;exact YW (K _ z.s.toks h)
 |int i=>rw[ab]at r;obtain⟨t,rfl⟩:=r;exact PySem.P.truthy_int (K _ z.s.toks h)
 |str y=>rw[ab]at r;obtain⟨t,rfl⟩:=r;exact PySem.P.truthy_str (Int.not_le.mpr (gK h.1)) (K _ _ h.2)
 |tup ds=>obtain⟨a,us,o,rfl,l⟩:=I.cW r;exact truthy_tuple l.p (by rw[W4];exact gK l.t.len) (by rw[xk l.r];exact K _ _ h)
 |lst ds=>obtain⟨a,us,n,rfl,l⟩:=I.f7 r;exact lst l h
 |ak ks ds=>obtain⟨a,kvs,vs,rfl,l,h⟩:=I.cu (k:=λkvs=>k (!kvs.isEmpty)) r h;exact ak l h
 |ref a=>
  rw[ab]at r;subst r;rcases h with ⟨xs,h1,h2⟩ |⟨kvs,h1,h2⟩
  ·obtain⟨us,n,l⟩:=I.eI h1;exact lst l h2
  ·obtain⟨vs,l⟩:=I.iE h1;exact ak l h2
 |ty _=>exact h.elim
def xl (ta:DE):DT:=fun τ M q=>ta τ M λx M1=>xj x M1 λb=>q b M1
theorem Fx (h:PE X a ta) (he:∀ie,isTrue a X.env ie=(do let v <- ie;standAt a.pos;holding [v] (truthy v))):PT X a (xl ta):=fun τ z Q R I q k=>
 isTrue_plain (h τ z _ _ I q λd z1 u l1 I1 r1 q1=>Fw I1 r1 q1 λb t q=>k b ⟨z1.F,z1.M,{ z1.s with toks:=t }⟩ l1 (I1.m8 t) q) (he _)
def aB:Q2:=λx y M Q=>match x with
 |.str w=>b3 y λi=>w.length<=sizeLine/\∃c,cf w.cps.toList i=some c/\Q (.str ⟨#[c]⟩) M
 |.tup ds=>b3 y λi=>∃d,cf ds i=some d/\Q d M
 |.lst ds=>b3 y λi=>∃d,cf ds i=some d/\Q d M
 |.ak ks ds=>dS y λc=>∃d,aK (ks.zip ds) c=some d/\Q d M
 |.ref a=>(∃ds,M a=some (.lst ds)/\b3 y λi=>∃d,cf ds i=some d/\Q d M)\/∃kvs,M a=some (.ak kvs)/\dS y λc=>∃d,aK kvs c=some d/\Q d M
 |_=>False
theorem Fy (ha:PE X a ta) (hb:PE X b tb) (hs:∀o i,subscripted b false o i=operate [o,i] (getItem o i)):PE X (.Subscript a b pos) (nc aB ta tb):=fun τ z Q R I h k=>
 Subscript_ (ha τ z _ _ I h λx z1 v l1 I1 r1 q1=>hb τ z1 _ _ I1 q1 λy z2 u l2 I2 r2 q2=>by
  have hs:=hs v u;have r1:=r1.up l2.d;have l:=l1.tr l2;have hn:=nJ;have lst:∀{ds:List D}{us:List Value}{c:Addr}{n:Nat},v=.ref c->eH X.G z2.F z2.s.heap c ds us n->(b3 y λi=>∃d,cf ds i=some d/\Q d z2.M)->W X (subscriptTail a b v u) R z2.s:=λ{ds us c n} e p q=>by
   subst e;obtain⟨i,t,rfl,d,hd,q⟩:=cX q r2;obtain⟨j,h1,h2,h3,h4,h5⟩:=qy hd;obtain⟨w,Up,iG⟩:=p.r.get h2;have hl:=p.r.len;have hz:=p.z;have fin:=k d z2 w l I2 iG q;by_cases h0:0<=i
   ·have hj:i.toNat=j:=(by rw[seqIndex_of h0 h5]at h1;exact XD h1);exact item_listR p.p.isList h0 (by lia) (by rw[hj];simpa using Up) fin hs
   ·have hj:(i+(us.toArray.size:Int)).toNat=j:=by
     rw[seqIndex_neg (by lia) h4]at h1;rw[W4,<- hl];exact XD h1
    exact subscriptTail_builtinR (x:=w) p.p.isList.typeIs slot_list_getitem.lookup (wpAny_getItem_list_neg (Q:=λr s'=>r=w/\R r s') p.p.isList (by lia) (by rw[W4];lia) (by lia) (by rw[hj];simpa using Up) ⟨rfl,fin⟩) hs
  have ak:∀{kvs:List (Key×D)}{vs:List (Key×Value)}{c:Addr},v=.ref c->jD X.G z2.F z2.s.heap c kvs vs->(dS y λc=>∃d,aK kvs c=some d/\Q d z2.M)->W X (subscriptTail a b v u) R z2.s:=λ{kvs vs c} e p q=>by
   subst e;obtain⟨c',hc,d,hd,q⟩:=jE (P:=X.G.P) (w:=X.G.w) q r2;have hv:=p.r.val c';rw[hd]at hv;cases e:valueAt vs c' with
   |none=>rw[e]at hv;exact hv.elim
   |some w=>
    rw[e]at hv;exact tail_any (ops:=[.ref c,u]) p.d.typeIs PySem.F.slot_dict_getitem.lookup (wpAny_getItem_of hc p.d.mapOf e (I2.fin k l hv q _)) hs
  cases x with
  |str w=>
   rw[ab]at r1;obtain⟨t,rfl⟩:=r1;obtain⟨i,t',rfl,hz,c,he,q⟩:=cX q2 r2;obtain⟨j,h1,h2,h3,h4,h5⟩:=qy he;have hl:w.cps.toList.length=w.length:=(by simp [Str.length]);rw[hl]at h1 h4 h5;exact tail_any (typeIs_str z2.s w t) slot_str_getitem.lookup (getItem_str (c:=c) (by
    have e1:decide (i < -(2 ^ 63:Int))=false:=decide_eq_false (by lia);have e2:decide (i ≥ 2 ^ 63)=false:=decide_eq_false (by lia);rw[e1,e2,Bool.or_false]) (by rw[h1];simpa using h2) (I2.fin k l gD q _)) hs
  |tup ds=>
   obtain⟨c,us,o,rfl,p⟩:=I2.cW r1;obtain⟨i,t,rfl,d,hd,q⟩:=cX q2 r2;obtain⟨j,h1,h2,h3,h4,h5⟩:=qy hd;obtain⟨w,Up,iG⟩:=p.r.get h2;have hl:=p.r.len;have hz:=p.t.len;exact subscriptTail_builtinR (x:=w) p.p.typeIs slot_tuple_getitem.lookup (getItem_tuple (j:=j) (Q:=λr s'=>r=w/\R r s') p.p (by lia) (by lia) (by rw[W4,<- hl];exact h1) (by simpa using Up) ⟨rfl,k d z2 w l I2 iG q⟩) hs
  |lst ds=>obtain⟨c,us,n,e,p⟩:=I2.f7 r1;exact lst e p q2
  |ak ks ds=>obtain⟨c,kvs,vs,e,p,q⟩:=I2.cu (k:=λkvs=>dS y λc=>∃d,aK kvs c=some d/\Q d z2.M) r1 q2;exact ak e p q
  |ref c=>
   rw[ab]at r1;rcases q2 with ⟨ds,h1,h2⟩ |⟨kvs,h1,h2⟩
   ·obtain⟨us,n,p⟩:=I2.eI h1;exact lst r1 p h2
   ·obtain⟨vs,p⟩:=I2.iE h1;exact ak r1 p h2
  |_=>exact q2.elim)
def nS:QS:=λo i d M k=>match o with
 |.ref a=>(∃xs,M a=some (.lst xs)/\b3 i λn=>∃j,eK xs.length n=some j/\k (up M a (.lst (xs.set j d))))\/∃kvs,M a=some (.ak kvs)/\dS i λc=>kvs.length<sizeLine/\k (up M a (.ak (aY kvs c d)))
 |_=>False
theorem af.set {G:Gx}{F:Fz}{d:D}{u:Value} (r:ab G F d u):∀{ds:List D}{us:List Value} (i:Nat),af G F ds us->af G F (ds.set i d) (us.set i u)
 |[],us,i,h=>by rw[af]at h;subst h;exact .nil
 |c::ds,us,0,h=>by rw[af]at h;obtain⟨v,us,rfl,_,h2⟩:=h;exact .cons r h2
 |c::ds,us,i+1,h=>by rw[af]at h;obtain⟨v,us,rfl,h1,h2⟩:=h;exact .cons h1 (af.set r i h2)
theorem ae.xm {τ:St} {z:Z}{p:Addr}{xs ys:List D}{us us':List Value}{n n' t:Nat}{h':Heap} (I:ae X τ z) (h:z.M p=some (.lst xs)) (sb:∀ b,b≠p->bg z.s.heap h' b) (e:h'.get? p=some (bK us' n')) (r:af X.G z.F ys us') (hz:us'.length<=sizeLine) :
  ae X τ ⟨z.F,up z.M p (.lst ys),{ z.s with heap:=h',toks:=t }⟩:=I.put h rfl (.inl rfl) sb ⟨_,e⟩ ⟨by rw[r.len];exact hz,us',n',r,e⟩
theorem FA (hu:X.A.units+1<cLine):OS X nS:=fun τ z o i d ov iv u Q R I ro ri rd q k=>by
 unfold nS at q;cases o with
 |ref p=>
  rw[ab]at ro;subst ro;rcases q with ⟨xs,hp,q⟩ |⟨kvs,hp,q⟩
  ·obtain⟨n,t,rfl,j,hj,q⟩:=cX q ri;obtain⟨us,m,l⟩:=I.eI hp;obtain⟨h1,h2,h3,h4⟩:=wx hj;have hl:=l.r.len;have hn:=nJ;have hz:=l.z;have e:(z.s.heap.update p (XA (·.setIfInBounds j u))).get? p=some (bK (us.set j u) m):=by
    rw[Xz _ l.e (by unfold bK;rw[wy];rfl)];unfold bK;rw[wy]
   have fin:R () { z.s with heap:=z.s.heap.update p (XA (·.setIfInBounds j u)) }:=
    k ⟨z.F,_,_⟩ Le.rfl (I.xm (us:=us) (n:=m) (t:=z.s.toks) hp (λb hb o q=>(Y9 _ _ (Ys hb)).trans q) e (af.set rd j l.r) (by rw[List.length_set];exact hz)) q
   by_cases h0:0<=n
   ·have hk:n.toNat=j:=(by rw[seqIndex_of h0 h4]at h1;exact XD h1);exact PySem.W.ki_setAt l.e h0 (by lia) (by rw[W4,<- hl];exact h4) (by rw[hk];exact fin)
   ·have hk:(n+(us.toArray.size:Int)).toNat=j:=by
     rw[seqIndex_neg (by lia) h3]at h1;rw[W4,<- hl];exact XD h1
    exact PySem.W.ki_setBack l.e (by lia) (by rw[W4,<- hl];exact h3) (by lia) (by rw[hk];exact fin)
  ·obtain⟨c,hc,hl,q⟩:=jE (P:=X.G.P) (w:=X.G.w) q ri;obtain⟨vs,l⟩:=I.iE hp;refine wpAny_setItem_pairs (hsz:=by rw[<- Paired.length l.r];exact l.z) hc l.d λh' nT hs=>?_;have he:∃q,h'.get? p=some q:=let ⟨q,_,_,hq,_⟩:=nT;⟨q,hq⟩
   exact k ⟨z.F,_,_⟩ Le.rfl (I.put (o':=.ak (aY kvs c d)) hp rfl (.inl rfl) (λb hb o q=>(hs.2 b hb).trans q) he ⟨W9 (qC _ _ _) hl,l.n,_,l.r.put c rd,nT⟩) q
 |_=>exact q.elim
end
end N
end
section
set_option maxHeartbeats 1000000
namespace N
open PySem PySem.Spec PyProof.Rows L2
abbrev XQ:=p8->Mp->Prop
abbrev Sp:=List D->Mp->QK->XQ->Prop
structure jJ (G:Gx) (z z':Z) (s:Shared):Prop where
 s:z'.s=s
 l:Le z.F z'.F
 ok:aG G z'.F z'.M z'.s.heap
 os:z'.s.os=z.s.os
 bare:AllBare z'.s.gens
def CR (G:Gx) (z:Z) (Q:QK) (E:XQ) (r:Result) (s:Shared):Prop:=match r with
 |.ok (.ret u)=>∃d z',jJ G z z' s/\ab G z'.F d u/\Q d z'.M
 |.ok _=>False
 |.error e=>∃x z',jJ G z z' s/\vk G z' x e/\E x z'.M
structure bf (G:Gx) (k:Nat) (f:Addr) (fd:FuncData) (ps:List Str) (sp:Sp):Prop where
 len:∀ds M Q E,sp ds M Q E->ds.length=ps.length
 eC:∀(A:Around) (outer:List Env) (z:Z) (args:Args) (us:List Value) (ds:List D) (Q:QK) (E:XQ),bx k A->dQ G A outer z->BindsTo z.s fd args (ps.zip us)->af G z.F ds us->sp ds z.M Q E ->
  codeAny (model G.P G.w) A (.call (.ref f) args) (CR G z Q E) z.s
section
variable {G:Gx}{F:Fz}{M:Mp}{h:Heap}{A:Around}{outer:List Env}{z z':Z}{s:Shared} (e:Fz)
theorem kI.xe {o:Obj}{ks:List Key}{us:List Value} (h:kI G o ks us):kI { G with ex:=e } o ks us:=⟨h.ex,h.bL,h.nd,h.len,h.sz⟩
mutual
theorem ab.xe:∀{d:D}{u:Value},ab G F d u->ab { G with ex:=e } F d u
 |.aj,u,h=>by rw[ab]at h ⊢;exact h
 |.bl _,u,h=>by rw[ab]at h ⊢;exact h
 |.int _,u,h=>by rw[ab]at h ⊢;exact h
 |.str _,u,h=>by rw[ab]at h ⊢;exact h
 |.ref _,u,h=>by rw[ab]at h ⊢;exact h
 |.ty _,u,h=>by rw[ab]at h ⊢;exact h
 |.tup ds,u,h=>by rw[ab]at h ⊢;obtain⟨a,o,us,q,h1,h2,h3⟩:=h;exact⟨a,o,us,q,h1,h2,h3.xe⟩
 |.lst ds,u,h=>by rw[ab]at h ⊢;obtain⟨a,o,us,q,h1,h2,h3⟩:=h;exact⟨a,o,us,q,h1,h2,h3.xe⟩
 |.ak ks ds,u,h=>by rw[ab]at h ⊢;obtain⟨a,o,us,q,h1,h2,h4,h3⟩:=h;exact⟨a,o,us,q,h1,h2.xe e,h4,h3.xe⟩
theorem af.xe:∀{ds:List D}{us:List Value},af G F ds us->af { G with ex:=e } F ds us
 |[],us,h=>by rw[af]at h ⊢;exact h
 |d::ds,us,h=>by rw[af]at h ⊢;obtain⟨u,r,q,h1,h2⟩:=h;exact⟨u,r,q,h1.xe,h2.xe⟩
end
theorem aG.xe (x:aG G F M h):aG { G with ex:=e } F M h:=⟨x.fz,λa o q=>⟨(x.ob a o q).1,by
 have y:=(x.ob a o q).2;cases o with
 |lst xs=>obtain⟨z,us,n,r,e1⟩:=y;exact⟨z,us,n,r.xe e,e1⟩
 |ak kvs=>obtain⟨z,y,vs,r,c⟩:=y;exact⟨z,y,vs,Paired.im (λ_ _ r=>⟨r.1,r.2.xe e⟩) r,c⟩
 |ins C dx fs=>
  obtain⟨d,z,ne,e1,mA,e2,r1,r2⟩:=y;refine⟨d,z,ne,e1,mA,e2,λf=>?_,r2⟩;have:=r1 f;cases q1:fs.lookup f <;> cases q2:mA f <;> rw[q1,q2]at this
  ·trivial
  ·exact this
  ·exact this
  ·exact ab.xe e this
 |own VJ=>exact y
 |kJ ps=>exact y⟩,x.tb⟩
theorem jJ.xe (x:jJ G z z' s):jJ { G with ex:=e } z z' s:=⟨x.s,x.l,x.ok.xe e,x.os,x.bare⟩
theorem dQ.xe (x:dQ G A outer z) (l:Le e z.F):dQ { G with ex:=e } A outer z:=⟨x.frames,⟨x.bp.fu,x.bp.du,x.bp.kM,x.bp.js⟩,⟨x.bs.b,l⟩,x.cc,x.hok.xe e,x.bare⟩
theorem CR.xe {Q:QK}{E:XQ}{r:Result} (x:CR G z Q E r s):CR { G with ex:=e } z Q E r s:=by
 cases r with
 |error v=>obtain⟨y,z',h1,h2,h3⟩:=x;exact h2.elim
 |ok fl=>
  cases fl with
  |ret u=>obtain⟨d,z',h1,h2,h3⟩:=x;exact⟨d,z',h1.xe e,h2.xe e,h3⟩
  |next=>exact x
  |brk=>exact x
  |cont=>exact x
end
section
variable {G:Gx}{j k:Nat}{f:Addr}{fd:FuncData}{ps:List Str}{sp lh:Sp}{A:Around}{outer:List Env}{z:Z}
theorem bf.mono (F:bf G j f fd ps sp) (h:j<=k):bf G k f fd ps sp:=⟨F.len,λA outer z args us ds Q E hr=>F.eC A outer z args us ds Q E (hr.mono h)⟩
theorem bf.imp (F:bf G k f fd ps sp) (h:∀ds M Q E,lh ds M Q E->sp ds M Q E):bf G k f fd ps lh:=
 ⟨λds M Q E q=>F.len ds M Q E (h _ _ _ _ q),λA outer z args us ds Q E hr he hb hv hs=>F.eC A outer z args us ds Q E hr he hb hv (h _ _ _ _ hs)⟩
theorem dQ.qA (e:dQ G A outer z) (C:Addr) (us:List Value) (kw:List (Str×Value)):dQ G (A.under (.builtin "type.__call__" ⟨.ref C::us,kw⟩)) outer z:=
 ⟨by first |exact e.frames |(simpa [Around.under,Code.envs,Code.isFrame,Sv] using e.frames),e.bp,e.bs,e.cc,e.hok,e.bare⟩
theorem dQ.bk (e:dQ G A outer z):∀b o,G.base.get? b=some o->z.s.heap.get? b=some o:=λb o q=>e.hok.fz b _ (e.bs.b b o q)
end
def qO (sp:Sp) (bc:List D) (E:XQ) (t:DA):DE:=fun τ M q=>t τ M λds M1=>sp (ds++bc) M1 q E
def dU (X:Cx) (E:XQ):Prop:=∀x τ M,E x M->X.x x τ M
def eO (X:Cx) (ds:List D) (us:List Value):Prop:=∀ τ z,ae X τ z->af X.G z.F ds us
theorem af.append {G:Gx}{F:Fz}{ds es:List D}{us vs:List Value} (a:af G F ds us) (b:af G F es vs):af G F (ds++es) (us++vs):=by
 induction ds generalizing us with
 |nil=>rw[af]at a;subst a;exact b
 |cons d ds ih=>rw[af]at a;obtain⟨u,us,rfl,h1,h2⟩:=a;exact .cons h1 (ih h2)
section
variable {X:Cx}{k:Nat}{f C:Addr}{fd:FuncData}{ps:List Str}{sp:Sp}{bc:List D}{ds:List Value}{E:XQ}{x m:Str}{p pos cC:Pos}{e o:Expr}{es:List Expr}{ta:DE}{t:DA} {τ:St} {z:Z}{Q:QK}{R:Value->Shared->Prop}
theorem ae.FC {z':Z}{s:Shared} (I:ae X τ z) (h:jJ X.G ⟨aT z.F (X.aS z.s.heap),z.M,z.s⟩ z' s):∃z2:Z,z2.s=s/\z2.M=z'.M/\Le z.F z2.F/\ae X τ z2/\cb z'.F z2.F:=by
 obtain⟨rfl,l,ok,os,bare⟩:=h;exact⟨⟨N.aN z'.F (X.aS z.s.heap),z'.M,z'.s⟩,rfl,rfl,Le.aN (λb e=>(I.fZ e).2) l,I.after l ok os bare,cb.aN X.p9 l⟩
theorem xn {Q0:QK}{r:Result}{s':Shared} (hx:dU X E) (I:ae X τ z) (h:CR X.G ⟨aT z.F (X.aS z.s.heap),z.M,z.s⟩ Q E r s') (K:∀ u d (z2:Z),z2.s=s'->Le z.F z2.F->ae X τ z2->ab X.G z2.F d u->Q d z2.M->R u s') :
  (match (generalizing:=false) r with |.ok (.ret u)=>R u s' |.ok _=>False |.error e=>XE X e s'):=by
 cases r with
 |error e=>obtain⟨_,_,_,h,_⟩:=h;exact h.elim
 |ok fl=>
  cases fl with
  |ret u=>
   obtain⟨d,z',h,r,q⟩:=h;obtain⟨z2,e1,e2,l,J,ld⟩:=I.FC h;exact K u d z2 e1 l J (r.up ld) (by rw[e2];exact q)
  |next=>exact h.elim
  |brk=>exact h.elim
  |cont=>exact h.elim
theorem nU {K0:PySem.W.Frag}{x:Fz}{us:List Value}{vs:List D} (F:bf { X.G with ex:=x } k f fd ps sp) (hr:bx k X.A) (hb:bM K0 fd ps ds) (hd:eO X bc ds) (hx:dU X E) (I:ae X τ z) (lx:Le x (aT z.F (X.aS z.s.heap))) (hk:K0.In z.s.heap) (r:af X.G z.F vs us) (h:sp (vs++bc) z.M Q E) (K:KE X τ z.F Q R):W X (call (.ref f) us) R z.s:=by
 have r2:af X.G z.F (vs++bc) (us++ds):=r.append (hd τ z I);have hl:(us++ds).length=ps.length:=by rw[<- r2.len];exact F.len _ _ _ _ h
 refine wpAny_call (YI (F.eC X.A X.stk ⟨aT z.F (X.aS z.s.heap),z.M,z.s⟩ ⟨us,[]⟩ (us++ds) (vs++bc) Q E hr (I.qc.xe x lx) (hb z.s us hk hl) ((r2.up I.cB.d).xe x) h) λr s' hq=>?_);have:=xn (Q0:=Q) hx I (hq.xe X.G.ex) λu d z2 e l J r q=>e ▸ K d z2 u l J r q;cases r with
 |error e=>exact this
 |ok fl=>cases fl <;> exact this
theorem qP {us:List Value}{vs:List D} (F:bf X.G k f fd ps sp) (hr:bx k X.A) (hb:bM X.G.K fd ps ds) (hd:eO X bc ds) (hx:dU X E) (I:ae X τ z) (r:af X.G z.F vs us) (h:sp (vs++bc) z.M Q E) (K:KE X τ z.F Q R):W X (call (.ref f) us) R z.s:=
 nU (x:=X.G.ex) F hr hb hd hx I (I.bs.x.tr I.cB) I.bT r h K
theorem FD (F:bf X.G k f fd ps sp) (hr:bx k X.A) (hg:Gl X x) (hm:X.G.mg x=some (.ref f)) (hk:PySem.W.keepIn X.G.K (.ref f)=true) (hb:bM X.G.K fd ps ds) (hd:eO X bc ds) (hx:dU X E)
  (ha:PA X (e::es) t) (cJ:(x == ("__debug__" : Str))=false) (he:starEach (e::es) X.env=(false,eval e X.env)::starEach es X.env) (c0:(backTo pos (starEach es X.env)).any (·.1)=false) :
  PE X (.Call (.Name x p) (e::es) [] pos) (qO sp bc E t):=fun τ z Q R I h K=>
 XY (ij I hg hm cJ (PySem.W.callWith_K (h₀:=X.G.base) I.ok.bp.fu hk (ha pos τ z _ _ I h λvs z1 us l1 I1 r q=>⟨I1.bT,qP F hr hb hd hx I1 r q λd z2 u l2=>K d z2 u (l1.tr l2)⟩) he c0))
theorem FE (F:bf X.G k f fd ps sp) (hr:bx k X.A) (hg:Gl X x) (hm:X.G.mg x=some (.ref f)) (hk:PySem.W.keepIn X.G.K (.ref f)=true) (hb:bM X.G.K fd ps ds) (hd:eO X bc ds) (hx:dU X E)
  (cJ:(x == ("__debug__" : Str))=false):PE X (.Call (.Name x p) [] [] pos) (qO sp bc E eF):=fun τ z Q R I h K=>
 XY (ij I hg hm cJ (PySem.W.callWith_K0 I.bT hk (qP (us:=[]) F hr hb hd hx I .nil h K)))
end
noncomputable def start (N:List Str) (ds:List D):St:=ds.map some++XZ (N.length-ds.length) none
noncomputable def b6 (G:Gx) (N:List Str) (qual:Str) (scope:Scope) (f:Addr) (cd:Value) (A:Around) (outer:List Env) (s:Shared) (E:XQ):Cx where
 G:=G
 A:=A.deeper (envOfC qual scope s.heap.objs.size f cd)
 N:=N
 os:=s.os
 env:=envOfC qual scope s.heap.objs.size f cd
 outer:=outer
 stk:=envOfC qual scope s.heap.objs.size f cd::outer
 fn:=λ_=>true
 calm:=true
 x:=λx _ M=>E x M
theorem FF {G:Gx}{N ps:List Str}{qual:Str}{scope:Scope}{f:Addr}{cd:Value}{A:Around}{outer:List Env}{z:Z}{s1:Shared}{E:XQ}{us:List Value}{ds:List D}
  (S:aC N ps scope) (hd:A.handled=none) (e0:dQ G A outer z) (hl:ds.length=ps.length) (r:af G z.F ds us)
  (x:InCallC z.s z.s.heap.objs.size (bindL (envOfC qual scope z.s.heap.objs.size f cd).kindOf (ps.zip us) λ_=>none) (cellsFrom (z.s.heap.objs.size+1) scope.names []) (bindC (envOfC qual scope z.s.heap.objs.size f cd).kindOf (ps.zip us) λ_=>none) s1) :
  ae (b6 G N qual scope f cd A outer z.s E) (start N ds) ⟨z.F,z.M,s1⟩:=by
 have c0:ps.length<=N.length:=by have:=congrArg YZ S.pre;rw[List.length_take]at this;lia
 obtain⟨h1,tk,rfl,hk⟩:=x.done;refine⟨⟨e0.bp,S.kind,rfl,rfl,λy w c h1 h2=>?_,λy hy=>?_,λ_=>hd,Around.frames_deeper e0.frames,.inr ⟨rfl,rfl⟩⟩,e0.bs,rfl,e0.bare,e0.cc,⟨_,x.toInCall.ns,λi y v h1 h2 h3=>?_⟩,λy c h=>?_,⟨e0.hok.cA (W3 _),e0.hok.c9 (W3 _)⟩,e0.hok.keep λb _ o q=>hk b o q,?_⟩
 ·exact name_of_addr x.apart (PySem.mem_of_lookup h1) (PySem.mem_of_lookup h2)
 ·have hy:scope.names.lookup y=some .cell\/scope.names.lookup y=some .free:=hy;rcases hy with hy |hy
  ·exact wK hy
  ·exact absurd rfl (S.EO _ (PySem.mem_of_lookup hy))
 ·have hi:i<ds.length:=by
   unfold start at h2;by_cases hi:i<ds.length
   ·exact hi
   ·rw[XB (by simpa using hi),List.getElem?_replicate]at h2;split at h2 <;> cases h2
  have ha:ds[i]?=some v:=by
   unfold start at h2;rw[XO (by simpa using hi),Xj]at h2;cases e:ds[i]? with
   |none=>rw[e]at h2;cases h2
   |some a=>rw[e]at h2;cases h2;rfl
  obtain⟨u,hu,rv⟩:=r.get ha;have hp:ps[i]?=some y:=by rw[<- S.pre,List.getElem?_take_of_lt (by lia)];exact h1
  have wP:ps.Nodup:=by rw[<- S.pre];exact S.nd.sublist (List.take_sublist _ _)
  refine⟨u,rv,?_⟩;rcases S.wF y (XN hp) with k |k
  ·exact .inl ⟨k,wI wP hp hu k⟩
  ·obtain⟨c,e⟩:=wK (n:=z.s.heap.objs.size+1) k;refine .inr ⟨.inl k,c,e,?_⟩;have q:=x.cell y c e;rw[wJ wP hp hu (by show scope.names.lookup y≠_;rw[k];decide)]at q;exact q
 ·have:=Nat.le_of_lt (x.above y c (PySem.mem_of_lookup h));exact⟨⟨_,x.cell y c h⟩,e0.hok.c9 this,.inl ⟨rfl,e0.hok.cA this⟩⟩
 ·unfold start;show _=N.length;rw[Xf,W0,List.length_replicate];lia
theorem qQ {G:Gx}{k:Nat}{f:Addr}{name qual:Str}{params:Arguments}{body:List Stmt}{scope:Scope}{Uq kV doc pm an ct oc:Value}{Tg od:Option Addr}{co:Array (Option Value)}{N ps:List Str}{sp:Sp}
  (lk:G.K.lookup f=some ⟨oc,od,.func (PySem.W.fnOf name qual params body scope Uq kV doc pm Tg an ct),co⟩) (dv:PySem.W.codeIn G.K an qual=true) (S:aC N ps scope) (len:∀ds M Q E,sp ds M Q E->ds.length=ps.length)
  (Fk:∀(A:Around) (outer:List Env) (s:Shared) (M:Mp) (ds:List D) (Q:QK) (E:XQ),bx k (A.deeper (envOfC qual scope s.heap.objs.size f an))->sp ds M Q E ->
   ∃t,ed (b6 G N qual scope f an A outer s E) body t/\t { nx:=λ_ M'=>Q .aj M',rt:=Q } (start N ds) M) :
  bf G (k+1) f (PySem.W.fnOf name qual params body scope Uq kV doc pm Tg an ct) ps sp:=by
 refine⟨len,λA outer z args us ds Q E hr e0 hb r jK=>?_⟩;have hl:=len _ _ _ _ jK;have KX:G.K.In z.s.heap:=e0.bp.fu.keeps e0.bk;have js:z.s.heap.NoLimit:=e0.bp.js.keeps e0.bk;have FH:∀y∈ps.zip us,scope.names.lookup y.1=some .local\/(scope.names.lookup y.1=some .cell/\((cellsFrom (z.s.heap.objs.size+1) scope.names []).lookup y.1).isSome=true):=λ⟨n,v⟩ hy=>by
  rcases S.wF n (YQ hy).1 with q |q
  ·exact .inl q
  ·exact .inr ⟨q,PySem.W.cellsFrom_some _ _ _ (.inl q)⟩
 refine codeAny_call_function hr.depth (KX _ _ lk) rfl S.Uo S.jB rfl (PySem.W.codeRec_of KX dv) (hb _ _ _ _ ?_);refine wpAny_newFunctionEnv_cells S.kind FH λenv he s1 x=>?_;subst he;refine⟨js.keeps x.toInCall.keep,codeAny_func ?_⟩;obtain⟨t,ht,hq⟩:=Fk A outer z.s z.M ds Q E (hr.deeper _) jK;refine Y6 (ht (start N ds) ⟨z.F,z.M,s1⟩ _ (λfl s'=>match fl with |.ret u=>CR G z Q E (.ok (.ret u)) s' |.next=>CR G z Q E (.ok (.ret .none)) s' |_=>False) (FF S hr.hd e0 hl r x) hq
  ⟨fun τ z1 l J q=>⟨.aj,z1,⟨rfl,l,J.hok,J.os,J.bare⟩,by rw[ab],q⟩,λd τ z1 u l J rd q=>⟨d,z1,⟨rfl,l,J.hok,J.os,J.bare⟩,rd,q⟩,λ_ _ _ _ q=>q,λ_ _ _ _ q=>q⟩) (λfl s' hs=>?_) λe s' hs=>hs.no.elim
 cases fl <;> first |exact hs |exact False.elim hs
end N
end
section
set_option maxHeartbeats 1000000
namespace N
open PySem PySem.Spec PyProof.Rows L2
noncomputable def fD (f:Str) (d:D):List (Str×D)->List (Str×D)
 |[]=>[(f,d)]
 |p::r=>if p.1=f then (f,d)::r else p::fD f d r
theorem jL (g:Str) (p:Str×D) (r:List (Str×D)):(p::r).lookup g=if g=p.1 then some p.2 else r.lookup g:=by
 by_cases h:g=p.1
 ·rw[if_pos h,List.lookup,beq_iff_eq.mpr h]
 ·rw[if_neg h,List.lookup,beq_eq_false_iff_ne.mpr h]
theorem qR (f g:Str) (d:D):∀fs:List (Str×D),(fD f d fs).lookup g=if g=f then some d else fs.lookup g
 |[]=>jL g (f,d) []
 |p::r=>by
  unfold fD;by_cases h:p.1=f
  ·rw[if_pos h,jL,jL,h];by_cases q:g=f
   ·rw[if_pos q,if_pos q]
   ·rw[if_neg q,if_neg q,if_neg q]
  ·rw[if_neg h,jL,jL,qR f g d r];by_cases q:g=p.1
   ·rw[if_pos q,if_neg λe=>h (q.symm.trans e)];rw[if_pos q]
   ·rw[if_neg q,if_neg q]
theorem xo (f:Str) (d:D):∀fs:List (Str×D),(fD f d fs).length<=fs.length+1
 |[]=>W3 _
 |p::r=>by
  unfold fD;split
  ·exact YK _
  ·exact XT (xo f d r)
theorem xp {g:Str}:∀{fs:List (Str×D)},fs.lookup g≠none->g∈fs.map (·.1)
 |[],h=>absurd rfl h
 |p::r,h=>by
  rw[jL]at h;by_cases q:g=p.1
  ·rw[q];exact W'
  ·rw[if_neg q]at h;exact W8 _ (xp h)
theorem FI {G:Gx}{F:Fz}{d:D}{u:Value} (r:ab G F d u):PySem.W.handedIn u=true:=by
 cases d <;> rw[ab]at r <;> first |(subst r;rfl) |(obtain⟨t,rfl⟩:=r;rfl) |(obtain⟨a,_,_,rfl,_⟩:=r;rfl) |(obtain⟨a,_,rfl,_⟩:=r;rfl)
def cD (d:D) (M:Mp) (k:Addr->Addr->Addr->List (Str×D)->Prop):Prop:=match d with
 |.ref a=>∃C dx fs,M a=some (.ins C dx fs)/\k a C dx fs
 |_=>False
def qS (K:PySem.W.Frag) (f:Str):Q1:=λx M q=>cD x M λa C dx fs=>∃d,(cZ K C/\ef K C f)/\fs.lookup f=some d/\q d M
def qT (K:PySem.W.Frag) (f:Str) (o d:D) (M:Mp) (k:Mp->Prop):Prop:=cD o M λa C dx fs=>(cZ K C/\ef K C f)/\fs.length<1000/\k (up M a (.ins C dx (fD f d fs)))
def lj (C:Addr) (m:Str) (sp:Sp) (bc:List D) (E:XQ) (to:DE) (t:DA):DE:=fun τ M q=>to τ M λo M1=>cD o M1 λ_ C' _ fs=>C'=C/\fs.lookup m=none/\t τ M1 λds M2=>sp (o::(ds++bc)) M2 q E
def qU (C:Addr) (sp:Sp) (bc:List D) (E:XQ) (t:DA):DE:=fun τ M q=>t τ M λds M1=>∀x dx,M1 x=none->M1 dx=none->dx≠x ->
 sp (.ref x::(ds++bc)) (up (up M1 dx (.own x)) x (.ins C dx [])) (λv M2=>v=.aj/\q (.ref x) M2) E
section
variable {X:Cx} {τ:St} {z:Z}{C:Addr}{f m:Str}{o e value:Expr}{es:List Expr}{to tv:DE}{t:DA}{pos cC qV Sw p:Pos}{d:D}{v u:Value}
theorem ae.cD {k:Addr->Addr->Addr->List (Str×D)->Prop} (I:ae X τ z) (r:ab X.G z.F d u) (h:cD d z.M k):∃a C dx fs mA,u=.ref a/\z.M a=some (.ins C dx fs)/\iB z.s.heap a dx C mA/\(∀f,fX X.G z.F (fs.lookup f) (mA f))/\PySem.Within mA (fs.map (·.1))/\z.M dx=some (.own a)/\k a C dx fs:=by
 unfold N.cD at h;split at h
 ·rename_i a;obtain⟨C,dx,fs,e,h⟩:=h;rw[ab]at r;obtain⟨d,_,ne,ob,mA,n,rr,q⟩:=(I.hok.ob a _ e).2;exact⟨a,C,dx,fs,mA,r,e,⟨ob,n,ne⟩,rr,q,d,h⟩
 ·exact h.elim
theorem FJ {b:Bool}:O1 X (λv=>getAttr v f b) (qS X.G.K f):=fun τ z Q R d v I r h k=>by
 obtain⟨a,C,dx,fs,mA,rfl,e,O,rr,_,_,d',⟨c,n⟩,l,q⟩:=I.cD r h;have rf:=rr f;rw[l]at rf;cases e':mA f with
 |none=>rw[e']at rf;exact rf.elim
 |some w=>rw[e']at rf;exact ER I.bT O (c.get f) c.hd n e' (FI rf) (k d' ⟨z.F,z.M,_⟩ w Le.rfl (I.m8 _) rf q)
theorem FK {Q:Mp->Prop}{R:Unit->Shared->Prop}{od:D}{ov:Value} (I:ae X τ z) (ro:ab X.G z.F od ov) (rd:ab X.G z.F d u) (h:qT X.G.K f od d z.M Q) (k:∀z',z'.F=z.F->ae X τ z'->Q z'.M->R () z'.s):W X (setAttr ov f u) R z.s:=by
 obtain⟨a,C,dx,fs,mA,rfl,e,O,rr,wi,ho,⟨c,n⟩,hl,q⟩:=I.cD ro h;have hz:(fs.map (·.1)).length<=sizeLine:=by rw[W0,Zj];lia
 refine ET I.bT O c.sa c.VH n.EY c.hd wi hz λh' O' sb=>k ⟨z.F,_,_⟩ rfl (I.put (o':=.ins C dx (fD f d fs)) e rfl (.inr ho) (λb hb o q=>(sb.2 b hb).trans q) (let ⟨o,_,_,e',_⟩:=O'.ns;⟨o,e'⟩) ?_) q
 refine⟨by rw[ay O.ne];exact ho,W9 (xo f d fs) hl,O.ne,O'.obj,_,O'.ns,λg=>?_,λg hg=>xp ?_⟩
 ·show fX _ _ ((fD f d fs).lookup g) (if g=f then some u else mA g)
  rw[qR];by_cases q:g=f
  ·rw[if_pos q,if_pos q];exact rd
  ·rw[if_neg q,if_neg q];exact rr g
 ·rw[qR];by_cases q:g=f
  ·rw[if_pos q];exact XH d
  ·have hg:(if g=f then some u else mA g)≠none:=hg
   rw[if_neg q]at hg ⊢;have:=rr g;cases e1:fs.lookup g with
   |some _=>exact XH _
   |none=>rw[e1]at this;cases e2:mA g with
    |none=>exact absurd e2 hg
    |some _=>rw[e2]at this;exact this.elim
variable {k:Nat}{g:Addr}{fd:FuncData}{ps:List Str}{sp:Sp}{bc:List D}{ds:List Value}{E:XQ}{x:Str}
theorem xq {pl:Sem Bool}{args:List Expr} (ho:PE X o to) (c:cZ X.G.K C) (hm:jC X.G.K C m g) (F:bf X.G k g fd ps sp) (hr:bx k X.A) (hb:bM X.G.K fd ps ds) (hd:eO X bc ds) (hx:dU X E)
  (ht:eval (.Call (.Attribute o m cC) args [] pos) X.env=(do
   let ov <- eval o X.env
   standAt cC.atName
   let (f,first) <- holding [ov] (getMethod ov m pl)
   callWith pos f first (backTo pos (starEach args X.env)) (backToKw pos (keywordEach [] X.env))))
  (ha:∀ τ z a R Q,ae X τ z->t τ z.M Q->(∀ds z' us,Le z.F z'.F->ae X τ z'->af X.G z'.F ds us->Q ds z'.M->W X (call (.ref g) (.ref a::us)) R z'.s)->W X (callWith pos (.ref g) [.ref a] (backTo pos (starEach args X.env)) (backToKw pos (keywordEach [] X.env))) R z.s) :
  PE X (.Call (.Attribute o m cC) args [] pos) (lj C m sp bc E to t):=fun τ z Q R I h K=>
 PySem.W.methodCall_KW (pl:=pl) (ho τ z _ _ I h λod z1 u l1 I1 r1 q1=>by
  obtain⟨a,C',dx,fs,mA,rfl,e,O,rr,wi,ho,rfl,l,q⟩:=I1.cD r1 q1;have hn:mA m=none:=by have:=rr m;rw[l]at this;cases e2:mA m with
   |none=>rfl
   |some _=>rw[e2]at this;exact this.elim
  exact ES I1.bT O (c.get m) hm.bL hm.fn hn (ha τ z1 a R _ I1 q λds z2 us l2 I2 r2 q2=>qP F hr hb hd hx I2 (.cons (r1.up l2.d) r2) q2 λd z3 u l3=>K d z3 u (l1.tr (l2.tr l3)))) ht
theorem FL {pl:Sem Bool} (ho:PE X o to) (c:cZ X.G.K C) (hm:jC X.G.K C m g) (F:bf X.G k g fd ps sp) (hr:bx k X.A) (hb:bM X.G.K fd ps ds) (hd:eO X bc ds) (hx:dU X E) (ha:PA X (e::es) t)
  (eP:starEach (e::es) X.env=(false,eval e X.env)::starEach es X.env) (c0:(backTo pos (starEach es X.env)).any (·.1)=false)
  (ht:eval (.Call (.Attribute o m cC) (e::es) [] pos) X.env=(do
   let ov <- eval o X.env
   standAt cC.atName
   let (f,first) <- holding [ov] (getMethod ov m pl)
   callWith pos f first (backTo pos (starEach (e::es) X.env)) (backToKw pos (keywordEach [] X.env)))):PE X (.Call (.Attribute o m cC) (e::es) [] pos) (lj C m sp bc E to t):=
 xq ho c hm F hr hb hd hx ht fun τ z a R Q I q K=>PySem.W.callWith_K (first:=[.ref a]) (h₀:=X.G.base) I.ok.bp.fu hm.kp (ha pos τ z _ _ I q λds z2 us l2 I2 r2 q2=>⟨I2.bT,K ds z2 us l2 I2 r2 q2⟩) eP c0
theorem FN {pl:Sem Bool} (ho:PE X o to) (c:cZ X.G.K C) (hm:jC X.G.K C m g) (F:bf X.G k g fd ps sp) (hr:bx k X.A) (hb:bM X.G.K fd ps ds) (hd:eO X bc ds) (hx:dU X E)
  (ht:eval (.Call (.Attribute o m cC) [] [] pos) X.env=(do
   let ov <- eval o X.env
   standAt cC.atName
   let (f,first) <- holding [ov] (getMethod ov m pl)
   callWith pos f first (backTo pos (starEach [] X.env)) (backToKw pos (keywordEach [] X.env)))):PE X (.Call (.Attribute o m cC) [] [] pos) (lj C m sp bc E to eF):=
 xq ho c hm F hr hb hd hx ht fun τ z a R Q I q K=>PySem.W.callWith_K0 (first:=[.ref a]) I.bT hm.kp (K [] z [] Le.rfl I .nil q)
theorem ae.made (I:ae X τ z):ae X τ ⟨z.F,up (up z.M z.s.heap.objs.size (.own (z.s.heap.objs.size+1))) (z.s.heap.objs.size+1) (.ins C z.s.heap.objs.size []),{ z.s with heap:=(z.s.heap.push PySem.W.emptyDict).push (PySem.W.instObj C z.s.heap.objs.size) }⟩:=by
 have e1:(z.s.heap.push PySem.W.emptyDict).get? z.s.heap.objs.size=some PySem.W.emptyDict:=W5 z.s.heap rfl;have e2:((z.s.heap.push PySem.W.emptyDict).push (PySem.W.instObj C z.s.heap.objs.size)).get? (z.s.heap.objs.size+1)=some (PySem.W.instObj C z.s.heap.objs.size):=by
  have:=W5 (z.s.heap.push PySem.W.emptyDict) (o:=PySem.W.instObj C z.s.heap.objs.size) rfl
  rwa [Xx]at this
 have e3:(z.s.heap.push PySem.W.emptyDict).Ns z.s.heap.objs.size (λ_=>none):=⟨PySem.W.emptyDict,#[],_,e1,rfl,(λe he=>absurd he (by simp)),λ_=>rfl⟩;have ne:z.s.heap.objs.size≠z.s.heap.objs.size+1:=Xi (YJ _);have I1:=I.kK (a:=z.s.heap.objs.size) (o:=.own (z.s.heap.objs.size+1)) (h':=z.s.heap.push PySem.W.emptyDict) (t:=z.s.toks) (λb u q=>WZ _ q) (W3 _) ⟨_,e1⟩;exact I1.kK (a:=z.s.heap.objs.size+1) (o:=.ins C z.s.heap.objs.size []) (t:=z.s.toks) (λb u q=>WZ _ q) (Zd (Xx _ _))
  ⟨by rw[ay ne];exact ao,Xk _,ne,e2,λ_=>none,(Heap.Ns1.of_empty e3).at λo q=>WZ _ q,λ_=>Zg,λy hy=>absurd rfl hy⟩
theorem xr {us:List Value}{vs:List D}{Q:QK}{R:Value->Shared->Prop} (M:Mk X.G.K C g) (F:bf X.G k g fd ps sp) (hr:bx (k+1) X.A) (hb:bM X.G.K fd ps ds) (hd:eO X bc ds) (hx:dU X E) (I:ae X τ z) (r:af X.G z.F vs us)
  (h:∀x dx,z.M x=none->z.M dx=none->dx≠x->sp (.ref x::(vs++bc)) (up (up z.M dx (.own x)) x (.ins C dx [])) (λv M2=>v=.aj/\Q (.ref x) M2) E) (K:KE X τ z.F Q R):W X (call (.ref C) us) R z.s:=by
 have hq:=h (z.s.heap.objs.size+1) z.s.heap.objs.size (I.hok.c9 (YK _)) (I.hok.c9 (W3 _)) (Xi (YJ _));have I2:=ae.made (C:=C) I;have r2:af X.G z.F (D.ref (z.s.heap.objs.size+1)::(vs++bc)) (XC (z.s.heap.objs.size+1)::(us++ds)):=.cons (by rw[ab]) (r.append (hd τ z I));have hl:(XC (z.s.heap.objs.size+1)::us++ds).length=ps.length:=by
  have e:=r2.len;rw[F.len _ _ _ _ hq]at e;exact e.symm
 refine wpAny_call (EX (f:=g) I.bT M.E0 M.init (beq_iff_eq.mp M.fn) (YI (F.eC _ X.stk _ ⟨XC (z.s.heap.objs.size+1)::us,[]⟩ (XC (z.s.heap.objs.size+1)::(us++ds)) _ _ E (hr.qA C us [])
  (I2.qc.qA C us []) (hb _ (XC (z.s.heap.objs.size+1)::us) I2.bT hl) (r2.up I2.cB.d) hq) λr s' hq'=>?_))
 have:=xn (Q0:=Q) (R:=λu s'=>u=.none/\R (.ref (z.s.heap.objs.size+1)) s') hx I2 hq' λu d z2 e l J r q=>by
  obtain⟨rfl,q⟩:=q;rw[ab]at r;exact⟨r,e ▸ K _ z2 _ l J (by rw[ab]) q⟩
 cases r with
 |error e=>exact this
 |ok fl=>cases fl <;> exact this
theorem FP (M:Mk X.G.K C g) (F:bf X.G k g fd ps sp) (hr:bx (k+1) X.A) (hg:Gl X x) (hm:X.G.mg x=some (.ref C)) (hb:bM X.G.K fd ps ds) (hd:eO X bc ds) (hx:dU X E)
  (ha:PA X (e::es) t) (cJ:(x == ("__debug__" : Str))=false) (he:starEach (e::es) X.env=(false,eval e X.env)::starEach es X.env) (c0:(backTo pos (starEach es X.env)).any (·.1)=false) :
  PE X (.Call (.Name x p) (e::es) [] pos) (qU C sp bc E t):=fun τ z Q R I h K=>
 XY (ij I hg hm cJ (PySem.W.callWith_K (h₀:=X.G.base) I.ok.bp.fu M.kp (ha pos τ z _ _ I h λvs z1 us l1 I1 r q=>⟨I1.bT,xr M F hr hb hd hx I1 r q λd z2 u l2=>K d z2 u (l1.tr l2)⟩) he c0))
theorem FQ (M:Mk X.G.K C g) (F:bf X.G k g fd ps sp) (hr:bx (k+1) X.A) (hg:Gl X x) (hm:X.G.mg x=some (.ref C)) (hb:bM X.G.K fd ps ds) (hd:eO X bc ds) (hx:dU X E)
  (cJ:(x == ("__debug__" : Str))=false):PE X (.Call (.Name x p) [] [] pos) (qU C sp bc E eF):=fun τ z Q R I h K=>
 XY (ij I hg hm cJ (PySem.W.callWith_K0 I.bT M.kp (xr (us:=[]) M F hr hb hd hx I .nil h K)))
end
end N
end
section
set_option maxHeartbeats 1000000
namespace N
open PySem PySem.Spec PyProof.Rows L2
def xt:Q1:=λx M q=>b3 x λi=>q (.int (-i)) M
abbrev DO:=St->Mp->(Option Int->Mp->Prop)->Prop
def xu:DO:=λ_ M q=>q none M
def xv (t:DE):DO:=fun τ M q=>t τ M λx M1=>b3 x λi=>q (some i) M1
noncomputable def cE (xs:List D) (lo hi:Option Int):List D:=(xs.drop (HT.aB xs.length 0 lo)).take (HT.aB xs.length xs.length hi-HT.aB xs.length 0 lo)
def qW (x:D) (lo hi:Option Int) (M:Mp) (Q:QK):Prop:=match x with
 |.tup ds=>Q (.tup (cE ds lo hi)) M
 |.str w=>w.length<=sizeLine/\Q (.str (Txt.slice w lo hi)) M
 |x=>a9 x M λxs=>bQ (cE xs lo hi) M Q
def xw (te:DE) (tl th:DO):DE:=fun τ M q=>te τ M λx M1=>tl τ M1 λl M2=>th τ M2 λh M3=>qW x l h M3 q
def qX:Q1:=λx M q=>match x with
 |.tup ds=>q (.tup ds.reverse) M
 |x=>a9 x M λds=>bQ ds.reverse M q
section
variable {X:Cx}{e:Expr}{te:DE}{lo hi:Option Expr}{tl th:DO}{pos p2 p3 p4:Pos}
theorem xx {op:UnaryOp}{r:Q1} (ho:O1 X (unaryOp op) r) (h:PE X e te):PE X (.UnaryOp op e pos) (jv r te):=fun τ z Q R I q k=>
 UnaryOp_ (h τ z _ _ I q λd z1 u l1 I1 r1 q1=>ho τ z1 Q R d u I1 r1 q1 λd z2 u l2=>k d z2 u (l1.tr l2))
theorem xy:O1 X (unaryOp .USub) xt:=fun τ z Q R d v I r q k=>by
 obtain⟨i,t,rfl,q⟩:=cX q r;exact neg_int (I.fin k Le.rfl b5 q _)
def PO (X:Cx) (e:Option Expr) (t:DO):Prop:=∀ τ z Q R,ae X τ z->t τ z.M Q->(∀o z' u,Le z.F z'.F->ae X τ z'->IsPart u o->Q o z'.M->R u z'.s)->W X (evalPart e X.env) R z.s
theorem FR:PO X none xu:=fun τ z Q R I h k=>by rw[evalPart_none];exact W2 (k none z .none Le.rfl I .none h)
theorem FT (h:PE X e te):PO X (some e) (xv te):=fun τ z Q R I hw k=>by
 rw[evalPart_some];exact h τ z _ _ I hw λd z1 u l1 I1 r1 q1=>by
  obtain⟨i,t,rfl,q⟩:=cX q1 r1;exact k (some i) z1 _ l1 I1 (.int i t) q
theorem xA (xs:List D) (lo hi:Option Int):(cE xs lo hi).length<=xs.length:=by
 unfold cE;rw[List.length_take,List.length_drop];lia
theorem af.qY {G:Gx}{F:Fz}{ds:List D}{us:List Value} (r:af G F ds us) (i j:Nat):af G F ((ds.drop i).take j) ((us.drop i).take j):=by
 have UN:∀(i:Nat) {ds:List D}{us:List Value},af G F ds us->af G F (ds.drop i) (us.drop i):=λi=>by
  induction i with
  |zero=>exact λr=>r
  |succ i ih=>intro ds us r;cases ds with
   |nil=>rw[af]at r;subst r;exact .nil
   |cons d ds=>rw[af]at r;obtain⟨u,us,rfl,_,r⟩:=r;exact ih r
 have tk:∀(i:Nat) {ds:List D}{us:List Value},af G F ds us->af G F (ds.take i) (us.take i):=λi=>by
  induction i with
  |zero=>exact λr=>by rw[List.take_zero,List.take_zero];exact .nil
  |succ i ih=>intro ds us r;cases ds with
   |nil=>rw[af]at r;subst r;exact .nil
   |cons d ds=>rw[af]at r;obtain⟨u,us,rfl,h,r⟩:=r;exact .cons h (ih r)
 exact tk j (UN i r)
theorem af.rev {G:Gx}{F:Fz}:∀{ds:List D}{us:List Value},af G F ds us->af G F ds.reverse us.reverse
 |[],us,r=>by rw[af]at r;subst r;exact .nil
 |d::ds,us,r=>by rw[af]at r;obtain⟨u,us,rfl,h,r⟩:=r;rw[YA,YA];exact (af.rev r).app (.cons h .nil)
theorem FU {τ:St} {z:Z}{x:D}{v vl vu:Value}{lo hi:Option Int}{sl:Addr}{Q:QK}{R:Value->Shared->Prop} (I:ae X τ z) (r:ab X.G z.F x v) (hs:z.s.heap.IsSliceOf sl vl vu .none) (pl:IsPart vl lo) (pu:IsPart vu hi) (q:qW x lo hi z.M Q) (K:KE X τ z.F Q R) :
  ∃T id,typeLookup (.type T) "__getitem__"=pure (some (.builtin id))/\z.s.TypeIs v T/\W X (getItem v (.ref sl)) R z.s:=by
 have lst:(a9 x z.M λxs=>bQ (cE xs lo hi) z.M Q)->∃T id,typeLookup (.type T) "__getitem__"=pure (some (.builtin id))/\z.s.TypeIs v T/\W X (getItem v (.ref sl)) R z.s:=λq=>by
  obtain⟨a,ds,us,n,rfl,l,q⟩:=I.a9 r q;have hlen:=l.r.len;have hz:=l.z;have hc:(cE ds lo hi).length<=sizeLine:=W9 (xA ds lo hi) (by rw[hlen];exact hz);refine⟨"list",_,slot_list_getitem.lookup,l.p.isList.typeIs,wpAny_getItem_list_slice l.p.isList hs pl pu .none (by simp) ?_ (by rw[W4] <;> lia)⟩;have rc:af X.G z.F (cE ds lo hi) _:=l.r.qY (HT.aB ds.length 0 lo) (HT.aB ds.length ds.length hi-HT.aB ds.length 0 lo);rw[EJ,<- hlen];exact I.lst (n:=0) (t:=z.s.toks) K Le.rfl rc (λb ob q=>WZ _ q) (W3 _) (W5 _ rfl) (by rw[<- rc.len];exact hc) q
 unfold qW at q;split at q
 ·rename_i ds;obtain⟨a,us,o,rfl,p⟩:=I.cW r;have hl:=p.r.len;have hlen:us.toArray.size=ds.length:=by rw[W4];exact hl.symm
  refine⟨"tuple",_,PyProof.Rows.slot_tuple_getitem.lookup,p.p.typeIs,?_⟩;by_cases w:HT.aB ds.length 0 lo=0/\HT.aB ds.length ds.length hi=ds.length
  ·have e:cE ds lo hi=ds:=by
    unfold cE;rw[w.1,w.2,List.drop_zero,Nat.sub_zero,List.take_length]
   rw[e]at q;exact EK p.p hs pl pu (by rw[hlen];exact w) (K _ z _ Le.rfl I r q)
  ·have rc:af X.G z.F (cE ds lo hi) _:=p.r.qY (HT.aB ds.length 0 lo) (HT.aB ds.length ds.length hi-HT.aB ds.length 0 lo);refine HT.EH p.p hs pl pu (by rw[hlen];exact w) ?_ (by rw[W4];exact p.t.len);rw[hlen];exact I.tup (t:=z.s.toks) K Le.rfl rc (λb ob q=>WZ _ q) (W3 _) (W5 _ rfl) ⟨rfl,rfl,⟨_,rfl⟩,by rw[<- rc.len];exact W9 (xA ds lo hi) (by rw[hl];exact p.t.len)⟩ q
 ·rename_i w;rw[ab]at r;obtain⟨t,rfl⟩:=r;obtain⟨hz,q⟩:=q;have fin:∀ (t':Tok) (k:Nat),R (.str (Txt.slice w lo hi) t') { z.s with toks:=k }:=λt' k=>I.fin K Le.rfl gD q _;refine⟨"str",_,F.slot_str_getitem.lookup,typeIs_str _ _ _,?_⟩;obtain⟨os,cY,gJ,eL⟩:=hs;have pt:∀ {v:Value}{o:Option Int},IsPart v o->∃ l:Option (Int×Tok),v=(match l with | some p=>.int p.1 p.2 | none=>.none)/\o=l.map (·.1):=λp=>by
   cases p with
   |none=>exact⟨none,rfl,rfl⟩
   |int i t=>exact⟨some (i,t),rfl,rfl⟩
  obtain⟨l,rfl,rfl⟩:=pt pl;obtain⟨u,rfl,rfl⟩:=pt pu;refine wpAny_getItem_str_slice (l:=l) (u:=u) (st:=none) ⟨os,cY,gJ,?_⟩ rfl (post_val_or_str ⟨W9 (Txt.slice_le w _ _) hz,fin⟩);cases l <;> cases u <;> exact eL
 ·exact lst q
theorem FV (he:PE X e te) (hl:PO X lo tl) (hu:PO X hi th) (hs:∀o i,subscripted (.Slice lo hi none p2) false o i=operate [i,o] (getItem o i)):PE X (.Subscript e (.Slice lo hi none p2) pos) (xw te tl th):=fun τ z Q R I h K=>
 Subscript_ (he τ z _ _ I h λx z1 v l1 I1 r1 q1=>wpAny_Slice (hl τ z1 _ _ I1 q1 λl z2 vl l2 I2 pl q2=>hu τ z2 _ _ I2 q2 λu z3 vu l3 I3 pu q3=>by
  rw[evalPart_none];have I4:ae X τ ⟨z3.F,z3.M,{ z3.s with heap:=z3.s.heap.push { cls:=.type "slice",data:=.fields #[vl,vu,.none] } }⟩:=I3.bP (t:=z3.s.toks) λb ob q=>WZ _ q;obtain⟨T,id,hT,ht,hg⟩:=FU I4 (r1.up (l2.tr l3).d) (Heap.IsSliceOf.new ..) pl pu q3 λd z u l=>K d z u ((l1.tr (l2.tr l3)).tr l);exact W2 (tail_any (ops:=[.ref z3.s.heap.objs.size,v]) ht hT hg (hs _ _))))
theorem FW {k:Nat} (he:PE X e te) (hs:∀o i,subscripted (.Slice none none (some (.UnaryOp .USub (.Constant (.int 1) k p3) p4)) p2) false o i=operate [o,i] (getItem o i)):PE X (.Subscript e (.Slice none none (some (.UnaryOp .USub (.Constant (.int 1) k p3) p4)) p2) pos) (jv qX te):=fun τ z Q R I h K=>
 Subscript_ (he τ z _ _ I h λx z1 v l1 I1 r1 q1=>wpAny_Slice (by
  rw[evalPart_none];refine W2 (W2 ?_);rw[evalPart_some];refine xx xy (te:=Tw (.int 1)) vF τ z1 (λy M=>y=.int (-1)/\M=z1.M) _ I1 ⟨rfl,rfl⟩ λy z2 u l2 I2 r2 q2=>?_;obtain⟨rfl,q2⟩:=q2;rw[ab]at r2;obtain⟨t,rfl⟩:=r2;have I4:ae X τ ⟨z2.F,z2.M,{ z2.s with heap:=z2.s.heap.push { cls:=.type "slice",data:=.fields #[.none,.none,.int (-1) t] } }⟩:=I2.bP (t:=z2.s.toks) λb ob q=>WZ _ q;have r1:=r1.up l2.d;have K:KE X τ z2.F Q R:=λd z u l=>K d z u ((l1.tr l2).tr l);rw[<- q2]at q1;have lst:(a9 x z2.M λds=>bQ ds.reverse z2.M Q)->W X (subscriptTail e (.Slice none none (some (.UnaryOp .USub (.Constant (.int 1) k p3) p4)) p2) v (.ref z2.s.heap.objs.size)) R { z2.s with heap:=z2.s.heap.push { cls:=.type "slice",data:=.fields #[.none,.none,.int (-1) t] } }:=λq=>by
   obtain⟨a,ds,us,n,rfl,l,q⟩:=I4.a9 r1 q;have hz:=l.z;refine tail_any (ops:=[.ref a,.ref z2.s.heap.objs.size]) (T:="list") l.p.isList.typeIs slot_list_getitem.lookup ?_ (hs _ _);refine wpAny_getItem_list_slice l.p.isList (Heap.IsSliceOf.new ..) .none .none (.int (-1) t) (by simp) ?_ (by rw[W4] <;> lia);rw[PySem.W.krv_pick];exact I4.lst (n:=0) (t:=z2.s.toks) K Le.rfl l.r.rev (λb ob q=>WZ _ q) (W3 _) (W5 _ rfl) (by rw[Y5];exact hz) q
  unfold qX at q1;split at q1
  ·obtain⟨a,us,o,rfl,p⟩:=I4.cW r1;refine tail_any (ops:=[.ref a,.ref z2.s.heap.objs.size]) (T:="tuple") p.p.typeIs slot_tuple_getitem.lookup (E2 p.p (Heap.IsSliceOf.new ..) ?_ (by rw[W4];exact p.t.len)) (hs _ _);exact I4.tup (t:=z2.s.toks) K Le.rfl p.r.rev (λb ob q=>WZ _ q) (W3 _) (W5 _ rfl) ⟨rfl,rfl,⟨_,rfl⟩,by rw[Y5];exact p.t.len⟩ q1
  ·exact lst q1))
end
end N
end
section
set_option maxHeartbeats 1000000
namespace N
open PySem PySem.Spec PyProof.Rows L2 PyProof.V
def FX (x:D) (M:Mp) (k:Nat->Prop):Prop:=match x with
 |.str w=>w.length<=sizeLine/\k w.length
 |.tup ds=>k ds.length
 |.lst ds=>k ds.length
 |.ak ks ds=>k (ks.zip ds).length
 |.ref p=>(∃xs,M p=some (.lst xs)/\k xs.length)\/∃kvs,M p=some (.ak kvs)/\k kvs.length
 |_=>False
def n1 (r:Q1):QN:=λds M q=>match ds with
 |[x]=>r x M q
 |_=>False
def xB:QN:=n1 λx M q=>FX x M λn=>q (.int n) M
def qZ:QN:=n1 λx M q=>dw x M λds=>q (.tup ds) M
def xC:QN:=n1 λx M q=>match x with
 |.int i=>q (.int i) M
 |.bl b=>q (.int (if b then 1 else 0)) M
 |_=>False
def q8:QN:=λds M q=>match ds with
 |[.int i,.int j]=>q (.int (if j > i then j else i)) M
 |[x]=>a9 x M λds=>∃ns:List Int,ds=ns.map D.int/\0<ns.length/\∀m,m∈ns->(∀a∈ns,a<=m)->q (.int m) M
 |_=>False
def xD:QN:=n1 λx M q=>a9 x M λds=>∃ns:List Int,ds=ns.map D.int/\q (.int ns.sum) M
def xE (f:List Bool->Bool):QN:=n1 λx M q=>a9 x M λds=>∃bs:List Bool,ds=bs.map D.bl/\q (.bl (f bs)) M
abbrev CB (X:Cx) (f:Value) (r:QN):Prop:=ON X (λus=>call f us) r
def TP (r:QN) (t:DA):DE:=fun τ M q=>t τ M λds M1=>r ds M1 q
section
variable {X:Cx}{x:Str}{p pos:Pos}{e:Expr}{es:List Expr}{t:DA}{id T:String}{r:QN}
theorem FY (hc:CB X (.builtin id) r) (hg:Gl X x) (hm:X.G.mg x=none) (hv:bootBuiltins x=some (.builtin id)) (ha:PA X (e::es) t) (hn:x≠"__name__") (cJ:(x == ("__debug__" : Str))=false)
  (he:starEach (e::es) X.env=(false,eval e X.env)::starEach es X.env) (c0:(backTo pos (starEach es X.env)).any (·.1)=false):PE X (.Call (.Name x p) (e::es) [] pos) (TP r t):=fun τ z Q R I h k=>
 XY (eG I hg hm hv hn cJ (PyProof.Rows.callWith_builtin1 (ha pos τ z _ _ I h λds z1 us l1 I1 r1 q1=>hc τ z1 Q R ds us I1 r1 q1 λd z2 u l2=>k d z2 u (l1.tr l2)) he c0))
theorem FZ (hc:CB X (.type T) r) (hg:Gl X x) (hm:X.G.mg x=none) (hv:bootBuiltins x=some (.type T)) (ha:PA X (e::es) t) (hn:x≠"__name__") (cJ:(x == ("__debug__" : Str))=false)
  (he:starEach (e::es) X.env=(false,eval e X.env)::starEach es X.env) (c0:(backTo pos (starEach es X.env)).any (·.1)=false):PE X (.Call (.Name x p) (e::es) [] pos) (TP r t):=fun τ z Q R I h k=>
 XY (eG I hg hm hv hn cJ (Ye (ha pos τ z _ _ I h λds z1 us l1 I1 r1 q1=>hc τ z1 Q R ds us I1 r1 q1 λd z2 u l2=>k d z2 u (l1.tr l2)) he c0))
theorem iH {f:List Value->Sem Value}{r:Q1} (h:O1 X (λv=>f [v]) r):ON X f (n1 r):=fun τ z Q R ds us I rs q k=>by
 unfold n1 at q;split at q
 ·obtain⟨u,rfl,ru⟩:=gc rs;exact h τ z Q R _ u I ru q k
 ·exact q.elim
theorem F3:CB X (.builtin "len") xB:=iH fun τ z Q R d v I r q k=>by
 have fin:∀{n m:Nat} (t:Nat),n=m->Q (.int n) z.M->R (.int m z.s.toks) { z.s with toks:=t }:=λt e q=>I.fin k Le.rfl (e ▸ b5) q _;have lst:∀{ds:List D}{us:List Value}{a:Addr}{n:Nat},eH X.G z.F z.s.heap a ds us n->Q (.int ds.length) z.M->W X (call (.builtin "len") [.ref a]) R z.s:=λl q=>Calls.call_len_list l.p.isList (by rw[W4];exact gK l.z) (I.fin k Le.rfl (by rw[W4,<- l.r.len];exact b5) q _);have ak:∀{kvs:List (Key×D)}{vs:List (Key×Value)}{a:Addr},jD X.G z.F z.s.heap a kvs vs->Q (.int kvs.length) z.M->W X (call (.builtin "len") [.ref a]) R z.s:=λl q=>by
  have e:=Paired.length l.r;refine call_len_dict l.n l.d (by rw[<- e];exact gK l.z) ?_;rw[<- e];exact I.fin k Le.rfl b5 q _
 cases d with
 |str y=>rw[ab]at r;obtain⟨t,rfl⟩:=r;exact len_str (Int.not_le.mpr (gK q.1)) (I.fin k Le.rfl b5 q.2 _)
 |tup ds=>obtain⟨a,us,o,rfl,l⟩:=I.cW r;exact len_tuple l.p (by rw[W4];exact gK l.t.len) (I.fin k Le.rfl (by rw[W4,<- l.r.len];exact b5) q _)
 |lst ds=>obtain⟨a,us,n,rfl,l⟩:=I.f7 r;exact lst l q
 |ak ks ds=>obtain⟨a,kvs,vs,rfl,l,h⟩:=I.cu (k:=λkvs=>Q (.int kvs.length) z.M) r q;exact ak l h
 |ref a=>
  rw[ab]at r;subst r;rcases q with ⟨xs,h1,h2⟩ |⟨kvs,h1,h2⟩
  ·obtain⟨us,n,l⟩:=I.eI h1;exact lst l h2
  ·obtain⟨vs,l⟩:=I.iE h1;exact ak l h2
 |_=>exact q.elim
theorem F4:CB X (.type "int") xC:=iH fun τ z Q R d v I r q k=>by
 cases d with
 |int i=>rw[ab]at r;obtain⟨t,rfl⟩:=r;exact call_int_int (k _ z _ Le.rfl I b5 q)
 |bl b=>rw[ab]at r;subst r;exact call_int_bool (I.fin k Le.rfl b5 q _)
 |_=>exact q.elim
theorem ae.dw {τ:St} {z:Z}{d:D}{u:Value}{k:List D->Prop} (I:ae X τ z) (r:ab X.G z.F d u) (h:dw d z.M k):∃a ds us,u=.ref a/\k ds/\af X.G z.F ds us/\us.length<=sizeLine/\((∃n,z.s.heap.get? a=some (bK us n))\/(d=.tup ds/\IsTup z.s.heap a us.toArray)):=by
 unfold N.dw at h;split at h
 ·obtain⟨a,us,o,rfl,l⟩:=I.cW r;exact⟨a,_,us,rfl,h,l.r,l.t.len,.inr ⟨rfl,l.p⟩⟩
 ·obtain⟨a,ds,us,n,rfl,l,q⟩:=I.a9 r h;exact⟨a,ds,us,rfl,q,l.r,l.z,.inl ⟨n,l.e⟩⟩
theorem F6:CB X (.type "tuple") qZ:=iH fun τ z Q R d v I ru q k=>by
 obtain⟨a,ds,us,rfl,q,r,hz,h⟩:=I.dw ru q;rcases h with ⟨n,e⟩ |⟨rfl,p⟩
 ·refine call_tuple_list ⟨_,e,rfl,_,rfl⟩ (λh' kp=>?_) (by rw[W4];exact hz);exact (I.bP (t:=z.s.toks) kp).tup (t:=z.s.toks) k Le.rfl r (λb o e=>WZ _ e) (W3 _) (W5 _ rfl) ⟨rfl,rfl,⟨_,rfl⟩,hz⟩ q
 ·exact call_tuple_same p (k _ z _ Le.rfl I ru q)
theorem ints_of {G:Gx}{F:Fz}:∀{ns:List Int}{us:List Value},af G F (ns.map D.int) us->IntsAre us ns
 |[],us,r=>by rw[Yc,af]at r;subst r;exact .nil
 |n::ns,us,r=>by rw[Xe,af]at r;obtain⟨u,us,rfl,h,r⟩:=r;rw[ab]at h;obtain⟨t,rfl⟩:=h;exact .cons n t (ints_of r)
theorem F7 (hc:X.calm=true):CB X (.builtin "max") q8:=fun τ z Q R ds us I rs q k=>by
 unfold q8 at q;split at q
 ·rename_i i j;obtain⟨u,v,rfl,h1,h2⟩:=gG rs;rw[ab]at h1 h2;obtain⟨t,rfl⟩:=h1;obtain⟨t',rfl⟩:=h2;refine max_two_ints (I.ok.hd hc) λh' tk kp=>k _ ⟨z.F,z.M,_⟩ _ Le.rfl (I.bP (t:=tk) kp) ?_ q;by_cases hj:j > i
  ·rw[if_pos hj,if_pos hj];exact b5
  ·rw[if_neg hj,if_neg hj];exact b5
 ·obtain⟨u,rfl,ru⟩:=gc rs;obtain⟨a,ds,its,n,rfl,l,ns,rfl,h0,q⟩:=I.a9 ru q;have hi:IntsAre its ns:=ints_of l.r;have hl:z.s.heap.IsList a its.toArray:=l.p.isList;obtain⟨xs,hx⟩:=hi.allInts.items;have hn:numsOf its.toArray.toList=ns:=by rw[show its.toArray.toList=its from rfl,hi.numsOf]
  rw[hx]at hl hn;rw[nums_intItems]at hn;have hsz:0<xs.size:=by
   have:=congrArg YZ hn;rw[W0,Xp]at this;lia
  refine max_intList (I.ok.hd hc) hl hsz λv h' tk hv hk=>?_;obtain⟨t,rfl⟩:=intItems_at hv;obtain⟨h1,h2⟩:=argBest_gt (numAt xs) (xs.size-1);refine k _ ⟨z.F,z.M,_⟩ _ Le.rfl (I.bP (t:=tk) hk) b5 (q _ ?_ λa ha=>?_)
  ·rw[<- hn,numAt_eq];exact getD_mem (by rw[W0,Xp];lia)
  ·rw[<- hn]at ha;obtain⟨j,hj,rfl⟩:=mem_getD ha;rw[W0,Xp]at hj;rw[<- numAt_eq];exact h2 j (by lia)
 ·exact q.elim
theorem ae.xF {τ:St} {z:Z}{s':Shared} (I:ae X τ z) (g:s'.gens=z.s.gens) (d:s'.drawn=z.s.drawn) (o:s'.os=z.s.os) (k:∀b ob,z.s.heap.get? b=some ob->s'.heap.get? b=some ob):ae X τ ⟨z.F,z.M,s'⟩:=by
 obtain⟨h',UO,d',dV,q9⟩:=s';obtain rfl:UO=z.s.gens:=g;obtain rfl:d'=z.s.drawn:=d;obtain rfl:q9=z.s.os:=o;exact I.bP (t:=dV) k
theorem F8 (hc:X.calm=true):CB X (.builtin "sum") xD:=iH fun τ z Q R d v I ru q k=>by
 obtain⟨p,ds,its,n,rfl,l,ns,rfl,q⟩:=I.a9 ru q;have hi:IntsAre its ns:=ints_of l.r;have hl:z.s.heap.IsList p its.toArray:=l.p.isList;obtain⟨xs,hx⟩:=hi.allInts.items;have hn:numsOf its.toArray.toList=ns:=by rw[show its.toArray.toList=its from rfl,hi.numsOf]
 rw[hx]at hl hn;rw[nums_intItems]at hn;obtain⟨ob,o1,o2,_,o3⟩:=id hl;have ne:p≠z.s.heap.objs.size:=Xi (Xh o1);have W:=(Walks.list (prog:=X.G.P) (w:=X.G.w) (A:=X.A.in1) (I.ok.hd hc) z.s.heap.objs.size p ne (intItems xs)).toS;rw[show (intItems xs).size=xs.size by simp [intItems]]at W;refine call_sum_walkAnyS (Zm hl ?_);refine⟨z.s.heap.objs.size,_,_,_,_,_,_,numAt xs,rfl,W,⟨⟨_,W5 _ rfl,rfl,rfl⟩,hl.push _⟩,λb hb=>?_,λi v hP=>intItems_at hP,λs' t' hm=>?_⟩
 ·rcases List.mem_cons.mp hb with z |z
  ·rw[z];exact Xh (W5 _ rfl)
  ·rw[List.mem_singleton.mp z];exact Xh (WZ _ o1)
 ·have J:=I.xF hm.gens hm.drawn hm.os λb o e=>hm.heap b o (λhb=>absurd (Xh e) ((List.mem_singleton.mp hb) ▸ YD _)) (WZ _ e);refine k (.int ns.sum) ⟨z.F,z.M,s'⟩ _ Le.rfl J ?_ q;rw[preSum_eq,List.take_of_length_le (by simp),hn];exact b5
theorem xG {G:Gx}{F:Fz}:∀{bs:List Bool}{us:List Value}{i:Nat}{v:Value},af G F (bs.map D.bl) us->us[i]?=some v->v=.bool (bs.getD i false)
 |[],us,i,v,r,e=>by rw[Yc,af]at r;subst r;simp at e
 |b::bs,us,0,v,r,e=>by rw[Xe,af]at r;obtain⟨u,us,rfl,h,r⟩:=r;rw[ab]at h;subst h;cases e;rfl
 |b::bs,us,i+1,v,r,e=>by rw[Xe,af]at r;obtain⟨u,us,rfl,h,r⟩:=r;exact xG (i:=i) r e
theorem xH (f:Bool->Bool):∀bs:List Bool,(Yw bs.length).map (λi=>bs.getD i false)=bs
 |[]=>rfl
 |b::bs=>by rw[Xd,List.range_succ_eq_map,Xe,Yd];exact congrArg (b::·) (xH f bs)
theorem F9 (hc:X.calm=true):CB X (.builtin "any") (xE (·.any _root_.id)):=iH fun τ z Q R d v I ru q k=>by
 obtain⟨p,ds,its,n,rfl,l,bs,rfl,q⟩:=I.a9 ru q;have hl:z.s.heap.IsList p its.toArray:=l.p.isList;have ne:p≠z.s.heap.objs.size:=Xi (Xh l.e);have W:=(Walks.list (prog:=X.G.P) (w:=X.G.w) (A:=X.A.in1) (I.ok.hd hc) z.s.heap.objs.size p ne its.toArray).toS;have lb:its.length=bs.length:=by have:=l.r.len;rw[W0]at this;exact this.symm
 refine call_any_walkS (Zm hl ?_);refine⟨z.s.heap.objs.size,_,_,_,_,_,_,λi=>bs.getD i false,rfl,W,⟨⟨_,W5 _ rfl,rfl,rfl⟩,hl.push _⟩,?_,λs' hm=>?_⟩
 ·intro i v s' Q' E' hP hq';have e:=xG (i:=i) (v:=v) l.r (by simpa using hP);subst e;exact YW hq'
 ·have J:=I.xF hm.gens hm.drawn hm.os λb o e=>hm.heap b o (λhb=>absurd (Xh e) ((List.mem_singleton.mp hb) ▸ YD _)) (WZ _ e);refine k (.bl (bs.any _root_.id)) ⟨z.F,z.M,s'⟩ _ Le.rfl J ?_ q;have e:(Yw its.toArray.size).any (λi=>bs.getD i false)=bs.any _root_.id:=by
   rw[W4,lb];exact (List.any_map (f:=λi=>bs.getD i false) (p:=_root_.id)).symm.trans (by rw[xH _root_.id])
  rw[e,ab]
end
end N
end
section
set_option maxHeartbeats 1000000
namespace N
open PySem PySem.Spec PyProof.Rows L2
abbrev QM:=D->QN
def OM (X:Cx) (id:String) (r:QM):Prop:=∀ τ z Q R d v ds us,ae X τ z->ab X.G z.F d v->af X.G z.F ds us->r d ds z.M Q->KE X τ z.F Q R->W X (call (.builtin id) (v::us)) R z.s
def xI (T:String) (x:D) (M:Mp):Prop:=match x with
 |.str _=>T="str"
 |.tup _=>T="tuple"
 |.lst _=>T="list"
 |.ak _ _=>T="dict"
 |.ref a=>(T="list"/\∃xs,M a=some (.lst xs))\/(T="dict"/\∃kvs,M a=some (.ak kvs))
 |_=>False
def lq (T:String) (r:QM) (to:DE) (t:DA):DE:=fun τ M q=>to τ M λx M1=>xI T x M1/\t τ M1 λds M2=>r x ds M2 q
def gi (o:D) (M:Mp) (k:Addr->List D->Prop):Prop:=match o with
 |.ref l=>∃xs,M l=some (.lst xs)/\k l xs
 |_=>False
def ra:QM:=λo ds M q=>match ds with
 |[y]=>gi o M λl xs=>xs.length<sizeLine/\q .aj (up M l (.lst (xs++[y])))
 |_=>False
def rh:QM:=λo ds M q=>match ds with
 |[]=>gi o M λl xs=>∃y,xs[xs.length-1]?=some y/\q y (up M l (.lst xs.dropLast))
 |_=>False
def rj:QM:=λo ds M q=>match ds with
 |[y]=>gi o M λl xs=>dw y M λys=>xs.length+ys.length<=sizeLine/\q .aj (up M l (.lst (xs++ys)))
 |_=>False
def rl:QM:=λo ds M q=>match ds with
 |[y]=>cu o M λkvs=>dS y λk=>q ((aK kvs k).getD .aj) M
 |[y,w]=>cu o M λkvs=>dS y λk=>q ((aK kvs k).getD w) M
 |_=>False
section
variable {X:Cx}{o e:Expr}{es:List Expr}{to:DE}{t:DA}{name:Str}{cC cpos:Pos}{T id:String}{r:QM} {τ:St} {z:Z}
theorem rn {x:D}{v:Value} (I:ae X τ z) (r:ab X.G z.F x v) (ty:xI T x z.M):z.s.TypeIs v T/\∀a,v=.ref a->∃ob,z.s.heap.get? a=some ob/\ob.dict=none:=by
 have lst:∀{ds:List D}{us:List Value}{a:Addr}{n:Nat},eH X.G z.F z.s.heap a ds us n->z.s.TypeIs (.ref a) "list"/\∀b,XC a=.ref b->∃ob,z.s.heap.get? b=some ob/\ob.dict=none:=λl=>⟨l.p.isList.typeIs,λb e=>by cases e;exact⟨_,l.e,rfl⟩⟩;have ak:∀{kvs:List (Key×D)}{vs:List (Key×Value)}{a:Addr},jD X.G z.F z.s.heap a kvs vs->z.s.TypeIs (.ref a) "dict"/\∀b,XC a=.ref b->∃ob,z.s.heap.get? b=some ob/\ob.dict=none:=λl=>by
  obtain⟨o,_,_,e,ex,_⟩:=l.d;exact⟨⟨o,e,ex.1⟩,λb q=>by cases q;exact⟨o,e,ex.2.1⟩⟩
 cases x with
 |str w=>rw[ab]at r;obtain⟨t,rfl⟩:=r;cases (show T="str" from ty);exact⟨typeIs_str z.s w t,λ_ e=>nomatch e⟩
 |tup ds=>obtain⟨a,us,o,rfl,l⟩:=I.cW r;cases (show T="tuple" from ty);exact⟨l.p.typeIs,λb e=>by cases e;exact⟨_,l.e,l.t.dict⟩⟩
 |lst ds=>obtain⟨a,us,n,rfl,l⟩:=I.f7 r;cases (show T="list" from ty);exact lst l
 |ak ks ds=>obtain⟨a,kvs,vs,rfl,l,_⟩:=I.cu (k:=λ_=>True) r trivial;cases (show T="dict" from ty);exact ak l
 |ref a=>
  rw[ab]at r;subst r;rcases ty with ⟨rfl,xs,h⟩ |⟨rfl,kvs,h⟩
  ·obtain⟨us,n,l⟩:=I.eI h;exact lst l
  ·obtain⟨vs,l⟩:=I.iE h;exact ak l
 |_=>exact ty.elim
theorem Ga (pa:PlainAttrs T) (slot:Slot T name id) (re:typeOf (.builtin id)=pure (.type "method_descriptor")) (hm:OM X id r) (ho:PE X o to)
  (gj:attributeBase o name X.env (eval o X.env)=eval o X.env) (ce:(cC.endLine == cpos.line)=true):PE X (.Call (.Attribute o name cC) [] [] cpos) (lq T r to eF):=fun τ z Q R I h k=>
 wpAny_Call_method0_late gj ce (ho τ z _ _ I h λx z1 v l1 I1 r1 q1=>by
  obtain⟨h1,h2⟩:=rn I1 r1 q1.1;exact⟨T,id,pa,slot,re,h1,h2,Calls.callWith_builtin rfl (PySem.evalArgs_none (hm τ z1 Q R x v [] [] I1 r1 .nil q1.2 λd z2 u l2=>k d z2 u (l1.tr l2)))⟩)
theorem Gb (pa:PlainAttrs T) (slot:Slot T name id) (re:typeOf (.builtin id)=pure (.type "method_descriptor")) (hm:OM X id r) (ho:PE X o to) (ha:PA X (e::es) t)
  (gj:attributeBase o name X.env (eval o X.env)=eval o X.env)
  (FM:((backTo cpos (starEach (e::es) X.env)).all (λx=>!x.1) && (backToKw cpos (keywordEach [] X.env)).all (λx=>x.1.isSome)
   && decide ((e::es).length+([]:List Keyword).length+(if ([]:List Keyword).isEmpty then 0 else 1)<30))=true)
  (ce:(cC.endLine == cpos.line)=true) (hs:starEach (e::es) X.env=(false,eval e X.env)::starEach es X.env) (Gc:(backTo cpos (starEach es X.env)).any (·.1)=false) :
  PE X (.Call (.Attribute o name cC) (e::es) [] cpos) (lq T r to t):=fun τ z Q R I h k=>
 wpAny_Call_method_late gj FM ce rfl (ho τ z _ _ I h λx z1 v l1 I1 r1 q1=>by
  obtain⟨h1,h2⟩:=rn I1 r1 q1.1;refine⟨T,id,pa,slot,re,h1,h2,?_⟩;have hA:=ha cpos τ z1 _ (λus s=>W X (call (.builtin id) (v::us)) R s) I1 q1.2 λds z2 us l2 I2 r2 q2=>hm τ z2 Q R x v ds us I2 (r1.up l2.d) r2 q2 λd z3 u l3=>k d z3 u (l1.tr (l2.tr l3));rw[hs]at hA ⊢;exact Calls.callWith_builtin (by show (false ||(backTo cpos (starEach es X.env)).any (·.1))=false;rw[Gc] <;> rfl) (Calls.evalArgs_plain hA))
theorem ae.gi {d:D}{u:Value}{k:Addr->List D->Prop} (I:ae X τ z) (r:ab X.G z.F d u) (h:gi d z.M k):∃a ds us n,u=.ref a/\z.M a=some (.lst ds)/\eH X.G z.F z.s.heap a ds us n/\k a ds:=by
 unfold N.gi at h;split at h
 ·obtain⟨xs,h1,h2⟩:=h;rw[ab]at r;obtain⟨us,n,l⟩:=I.eI h1;exact⟨_,xs,us,n,r,h1,l,h2⟩
 ·exact h.elim
theorem ae.nV {a:Addr}{xs ys:List D}{us us':List Value}{n t:Nat}{f:Array Value->Array Value} (I:ae X τ z) (h:z.M a=some (.lst xs)) (e:z.s.heap.get? a=some (bK us n)) (hf:f us.toArray=us'.toArray) (r:af X.G z.F ys us') (hz:us'.length<=sizeLine) :
  ae X τ ⟨z.F,up z.M a (.lst ys),{ z.s with heap:=z.s.heap.update a (XA f),toks:=t }⟩:=by
 have q:=PySem.IsL.update e f;rw[hf]at q;exact I.xm (us:=us) (n:=n) h (λb hb o q=>(Y9 _ _ (Ys hb)).trans q) q r hz
theorem Gd:OM X "list.append" ra:=fun τ z Q R d v ds us I rv rs h k=>by
 unfold ra at h;split at h
 ·obtain⟨u,rfl,ru⟩:=gc rs;obtain⟨a,xs,its,n,rfl,hM,l,hz,q⟩:=I.gi rv h;have hl:=l.r.len;refine call_meets F.slot_list_append ⟨_,l.e,rfl⟩ F.entry_list_append (F.args_list_append_2 _ _) (PySem.list_append a its.toArray n u (by rw[W4];lia)) ⟨l.e,?_⟩;exact k .aj ⟨z.F,_,_⟩ _ Le.rfl (I.nV (us':=its++[u]) hM l.e (by simp) (l.r.app (.cons ru .nil)) (by rw[Xf,Yl];lia)) (by rw[ab]) q
 ·exact h.elim
theorem af.init {G:Gx}{F:Fz}{ds:List D}{us:List Value} (r:af G F ds us):af G F ds.dropLast us.dropLast:=by
 rw[List.dropLast_eq_take,List.dropLast_eq_take,<- r.len];exact r.qY 0 _
theorem Ge:OM X "list.pop" rh:=fun τ z Q R d v ds us I rv rs h k=>by
 unfold rh at h;split at h
 ·rw[af]at rs;subst rs;obtain⟨a,xs,its,n,rfl,hM,l,y,hy,q⟩:=I.gi rv h;have hl:=l.r.len;have hz:=l.z;obtain⟨u,hu,ru⟩:=l.r.get hy;have Gf:its.toArray[its.toArray.size-1]?=some u:=by
   show its.toArray[its.length-1]?=some u;rw[<- YE,<- hl];exact hu
  refine call_meets F.slot_list_pop ⟨_,l.e,rfl⟩ F.entry_list_pop (F.args_list_pop_1 _) (MeetsSeq.list_pop_last a its.toArray n u Gf (by rw[W4];lia)) ⟨l.e,?_⟩;refine k y ⟨z.F,_,_⟩ _ Le.rfl (I.nV (us':=its.dropLast) hM l.e ?_ l.r.init (by rw[List.length_dropLast];lia)) ru q;show its.toArray.eraseIdxIfInBounds (its.toArray.size-1)=its.dropLast.toArray;rw[W4,List.eraseIdxIfInBounds_toArray,E3]
 ·exact h.elim
theorem Gg:OM X "dict.get" rl:=fun τ z Q R d v ds us I rv rs h k=>by
 have val:∀{kvs:List (Key×D)}{vs:List (Key×Value)}{c:Key}{w:D}{r:Value},KV X.G z.F kvs vs->ab X.G z.F w r->ab X.G z.F ((aK kvs c).getD w) ((valueAt vs c).getD r):=λ{kvs vs c w r} rel iG=>by
  have:=rel.val c;cases e1:aK kvs c <;> cases e2:valueAt vs c <;> rw[e1,e2]at this <;> first |exact this.elim |exact iG |exact this
 unfold rl at h;split at h
 ·obtain⟨u,rfl,ru⟩:=gc rs;obtain⟨a,kvs,vs,rfl,l,h⟩:=I.cu rv h;obtain⟨c,hc,q⟩:=jE (P:=X.G.P) (w:=X.G.w) h ru;exact call_meetsIn PySem.F.slot_dict_get l.d.typeIs PySem.F.entry_dict_get (PySem.F.args_dict_get_2 _ _) (meets_dict_get (bo X.G.P X.G.w) a hc l.n) ⟨_,l.d.mapOf,I.fin k Le.rfl (val l.r (by rw[ab])) q _⟩
 ·obtain⟨u,w,rfl,ru,iG⟩:=gG rs;obtain⟨a,kvs,vs,rfl,l,h⟩:=I.cu rv h;obtain⟨c,hc,q⟩:=jE (P:=X.G.P) (w:=X.G.w) h ru;exact call_meetsIn PySem.F.slot_dict_get l.d.typeIs PySem.F.entry_dict_get (PySem.F.args_dict_get_3 _ _ _) (meets_dict_get_default (bo X.G.P X.G.w) a hc l.n w) ⟨_,l.d.mapOf,I.fin k Le.rfl (val l.r iG) q _⟩
 ·exact h.elim
end
end N
end
section
namespace L2
open PySem PySem.Spec PyProof.Rows PySem.W
section
variable {prog:Program}{w:World}{A:Around}{E:Value->Shared->Prop}{s:Shared}
theorem Gh:typeLookup (.type "tuple") "keys"=pure none:=by rw[YH,X5];kernel_rfl
theorem Gi:typeLookup (.type "list") "keys"=pure none:=by rw[YH,X5];kernel_rfl
theorem Gj {a:Addr}{o:Obj}{xs:Array Value}{k:Nat}{Q:Option Value->Shared->Prop} (hx:s.heap.get? a=some o) (hc:o.cls=.type "tuple") (iI:o.data=.seq xs k) (hd:o.dict=none) (hA:A.handled=none)
  (h:∀h' tk,(∀b o,s.heap.get? b=some o->h'.get? b=some o)->Q none { s with heap:=h',toks:=tk }):wpAny (model prog w) A (getAttr? (.ref a) "keys") Q E s:=by
 obtain⟨c,ak,dat,sl⟩:=o;simp only at hc iI hd;subst hc iI hd;obtain⟨hp,g,d,tk,os⟩:=s;have hT:∀dV,(⟨hp,g,d,dV,os⟩:Shared).TypeIs (.ref a) "tuple":=λ_=>⟨_,hx,rfl⟩;have f1:=sub_AttributeError;have f3:=F.slot_tuple_getattribute.lookup;have f4:=F.slot_tuple_getattribute.bind (.ref a);have f5:=am_tuple_getattr_none;have rq:(["__module__","__name__","__qualname__","__doc__","__annotations__"]:List Str).contains "keys"=false:=by decide
 unfold getAttr? getAttrBy? getAttrBy
 repeat (any_goals (first |assumption |exact hT _ |((with_reducible show wpAny _ _ (call (Value.builtin "tuple.__getattribute__") _ _) _ _ _);refine call_meets F.slot_tuple_getattribute (hT _) am_entry_tuple_getattribute (F.args_tuple_getattribute_2 _ _) (meets_getattribute_miss_tuple a xs k sl "keys" _ Gh rq) ⟨hx,hA,λh' dV e cU=>?_⟩) |wp_step))
 obtain⟨t',u',he⟩:=cU.there;show wpAny _ _ (getattributeRaised _ _ _ _ _ _ _) _ _ _;unfold getattributeRaised
 repeat (any_goals (first |assumption |wp_step))
 exact h _ _ cU.keeps
theorem Gk {a:Addr}{o:Obj}{xs:Array Value}{k:Nat}{Q:Option Value->Shared->Prop} (hx:s.heap.get? a=some o) (hc:o.cls=.type "list") (iI:o.data=.seq xs k) (hd:o.dict=none) (hA:A.handled=none)
  (h:∀h' tk,(∀b o,s.heap.get? b=some o->h'.get? b=some o)->Q none { s with heap:=h',toks:=tk }):wpAny (model prog w) A (getAttr? (.ref a) "keys") Q E s:=by
 obtain⟨c,ak,dat,sl⟩:=o;simp only at hc iI hd;subst hc iI hd;obtain⟨hp,g,d,tk,os⟩:=s;have hT:∀dV,(⟨hp,g,d,dV,os⟩:Shared).TypeIs (.ref a) "list":=λ_=>⟨_,hx,rfl⟩;have f1:=sub_AttributeError;have f3:=F.slot_list_getattribute.lookup;have f4:=F.slot_list_getattribute.bind (.ref a);have f5:=am_list_getattr_none;have rq:(["__module__","__name__","__qualname__","__doc__","__annotations__"]:List Str).contains "keys"=false:=by decide
 unfold getAttr? getAttrBy? getAttrBy
 repeat (any_goals (first |assumption |exact hT _ |((with_reducible show wpAny _ _ (call (Value.builtin "list.__getattribute__") _ _) _ _ _);refine call_meets F.slot_list_getattribute (hT _) am_entry_list_getattribute (F.args_list_getattribute_2 _ _) (meets_getattribute_miss_list a xs k sl "keys" _ Gi rq) ⟨hx,hA,λh' dV e cU=>?_⟩) |wp_step))
 obtain⟨t',u',he⟩:=cU.there;show wpAny _ _ (getattributeRaised _ _ _ _ _ _ _) _ _ _;unfold getattributeRaised
 repeat (any_goals (first |assumption |wp_step))
 exact h _ _ cU.keeps
theorem xJ:entryFor table "dict.update.loop"=some Builtin.«dict.update.loop»:=entryFor_of_tree (by kernel_rfl)
theorem jM:plainId "dict.update.loop"=true:=by decide +kernel
variable {I:Addr}{fp wr:List Addr}{n:Nat}{P:Nat->Value->Prop}{St:Nat->Heap->Prop}
def xK (prog:Program) (w:World) (A:Around) (d:Addr) (n:Nat) (P:Nat->Value->Prop) (DK:Nat->Heap->Prop):Prop:=
 ∀(i:Nat) (v:Value) (s:Shared),i<n->P i v->DK i s.heap->∃(a:Addr) (o:Obj) (xs:Array Value) (m:Nat) (k x:Value),v=.ref a/\s.heap.get? a=some o/\o.cls=.type "tuple"/\o.data=.seq xs m/\xs.toList=[k,x] /\
  ∀(Q:Unit->Shared->Prop) (E:Value->Shared->Prop),(∀h' tk,DK (i+1) h'->YM d s.heap h'->Q () { s with heap:=h',toks:=tk })->wpAny (model prog w) A (dictSet d k x) Q E s
theorem Gm {R:Result->Shared->Prop}{DK:Nat->Heap->Prop} (W:Walks prog w A.in1 I fp wr n P St) (d:Addr) (jN:d ∉ fp) (hfr:∀ i h h',DK i h->(∀ b o,b ∉ wr->h.get? b=some o->h'.get? b=some o)->DK i h') (put:xK prog w A.in1 d n P DK) (res:Value) :
  ∀(k i:Nat) (t:Tok) (s:Shared),n-i=k->i<=n->St i s.heap->DK i s.heap ->
  (∀h' tk,DK n h'->(∀b o,b ∉ d::wr->s.heap.get? b=some o->h'.get? b=some o)->R (.ok (.ret res)) { s with heap:=h',toks:=tk }) ->
  codeAny (model prog w) A (.builtin "dict.update.loop" ⟨[.ref d,.ref I,.int i t,res],[]⟩) R s:=by
 have Sy:d ∉ wr:=λh=>jN (W.sub _ h);intro k
 induction k with
 |zero=>
  intro i t s hk hi eP hD T2;have Go:i=n:=by lia
  subst Go;refine Yh xJ ?_;rw[XM jM _];show wpAny _ A.in1 (pyNext (.ref I) >>= _) _ _ s;refine WY (W.done s _ _ eP λh' tk hm=>?_);dsimp only;unfold Builtin.Dict.addKeywords;refine WY (W2 ?_);exact W2 (T2 h' tk (hfr _ _ _ hD hm) λb o hb e=>hm b o (λz=>hb (W8 _ z)) e)
 |succ k ih=>
  intro i t s hk hi eP hD T2;have be:i<n:=by lia
  refine Yh xJ ?_;rw[XM jM _];show wpAny _ A.in1 (pyNext (.ref I) >>= _) _ _ s;refine WY (W.item i s _ _ be eP λv h' tk hP Gq hm=>?_);dsimp only;obtain⟨a,o,xs,m,WD,x,rfl,ho,hc,iI,Gs,Gu⟩:=put i v { s with heap:=h',toks:=tk } be hP (hfr _ _ _ hD hm);refine WY (XU (WY (wpAny_tryCatch ?_)));unfold Builtin.Dict.pairItems;refine WY (wpAny_typeOf (T:="tuple") ⟨o,ho,hc⟩ ?_);rw[if_pos (by decide)];refine WY (YT ho iI (W2 ?_));dsimp only[Option.getD_some];rw[Gs];dsimp only;refine XU (Gu _ _ λf8 dV Gv hs=>?_);refine W2 ⟨Yp jM _,?_⟩;have:=ih (i+1) 0 { s with heap:=f8,toks:=dV } (by lia) be (W.frame _ _ _ Gq λb hb o e=>(hs.2 b (λz=>jN (z ▸ hb))).trans e) Gv (λh3 Gw Gy Gz=>T2 h3 Gw Gy λb o hb e=>Gz b o hb ((hs.2 b (λz=>hb (by simp [z]))).trans (hm b o (λz=>hb (W8 _ z)) e)));exact this
end
end L2
namespace L2
open PySem PySem.Spec PyProof.Rows PySem.W
structure nW (prog:Program) (w:World) (T:String) (r:Addr) (n:Nat) (P:Nat->Value->Prop) (OK:Heap->Prop):Prop where
 type:∀s:Shared,OK s.heap->s.TypeIs (.ref r) T
 there:∀h:Heap,OK h->r<h.objs.size
 keep:∀h h':Heap,OK h->(∀o,h.get? r=some o->h'.get? r=some o)->OK h'
 notDict:(Zc T != Zc "dict")=true
 rx:∀(A:Around) (E:Value->Shared->Prop) (s:Shared) (Q:Option Value->Shared->Prop),A.handled=none->OK s.heap->(∀h' tk,(∀b o,s.heap.get? b=some o->h'.get? b=some o)->Q none { s with heap:=h',toks:=tk })->wpAny (model prog w) A (getAttr? (.ref r) "keys") Q E s
 iter:∀(A:Around) (s:Shared),A.handled=none->OK s.heap->∃(oI:Obj) (St:Nat->Heap->Prop),
  (∀(E:Value->Shared->Prop) (Q:Value->Shared->Prop),Q (.ref s.heap.objs.size) { s with heap:=s.heap.push oI }->wpAny (model prog w) A (pyIter (.ref r)) Q E s) /\
  Walks prog w A s.heap.objs.size [s.heap.objs.size,r] [s.heap.objs.size] n P St/\St 0 (s.heap.push oI)
section
variable {prog:Program}{w:World}{A:Around}{E:Value->Shared->Prop}{s:Shared}{T:String}{r:Addr}{n:Nat}{P:Nat->Value->Prop}{OK:Heap->Prop}
theorem GA {k:Nat}{its:Array Value}:nW prog w "list" r its.size (λi v=>its[i]?=some v) (λh=>h.get? r=some { cls:=.type "list",data:=.seq its k }) where
 type:=λs h=>⟨_,h,rfl⟩
 there:=λh e=>Xh e
 keep:=λh h' e k=>k _ e
 notDict:=by decide
 rx:=λA E s Q hA e q=>Gk e rfl rfl rfl hA q
 iter:=λA s hA e=>by
  have hl:s.heap.IsList r its:=⟨_,e,rfl,k,rfl⟩;have ne:r≠s.heap.objs.size:=Xi (Xh e);exact⟨_,_,λ_ _ q=>Zm hl q,Walks.list hA s.heap.objs.size r ne its,⟨⟨_,W5 _ rfl,rfl,rfl⟩,hl.push _⟩⟩
theorem GB {its:Array Value}:nW prog w "tuple" r its.size (λi v=>its[i]?=some v) (λh=>∃o k,h.get? r=some o/\o.cls=.type "tuple"/\o.data=.seq its k/\o.dict=none) where
 type:=λs ⟨o,k,h,c,_⟩=>⟨_,h,c⟩
 there:=λh ⟨o,k,e,_⟩=>Xh e
 keep:=λh h' ⟨o,k,e,c⟩ q=>⟨o,k,q _ e,c⟩
 notDict:=by decide
 rx:=λA E s Q hA ⟨o,k,e,c,d,z⟩ q=>Gj e c d z hA q
 iter:=λA s hA ⟨o,k,e,c,d,z⟩=>by
  have hl:s.heap.IsTuple r its:=⟨o,e,c,k,d⟩;have ne:r≠s.heap.objs.size:=Xi (Xh e);exact⟨_,_,λ_ _ q=>Zf hl q,Walks.tuple hA s.heap.objs.size r ne its,⟨⟨_,W5 _ rfl,rfl,rfl⟩,hl.push _⟩⟩
theorem GC {DK:Nat->Heap->Prop}{Q:Value->Shared->Prop} (K:nW prog w T r n P OK) (hA:A.handled=none) (hok:OK s.heap) (TB:DK 0 (s.heap.push { cls:=.type "dict",data:=.dict #[] }))
  (hfr:∀i h h' (it:Addr),s.heap.objs.size<it->DK i h->(∀b o,b≠it->h.get? b=some o->h'.get? b=some o)->DK i h') (put:∀A':Around,A'.units<=A.units+5->xK prog w A' s.heap.objs.size n P DK)
  (h:∀h' tk,DK n h'->(∀b o,s.heap.get? b=some o->h'.get? b=some o)->Q (.ref s.heap.objs.size) { s with heap:=h',toks:=tk }):wpAny (model prog w) A (call (.type "dict") [.ref r]) Q E s:=by
 refine callType_codes (Q₁:=λobj s₁=>obj=.ref s.heap.objs.size/\s₁={ s with heap:=s.heap.push { cls:=.type "dict",data:=.dict #[] } }) F.kt_called_dict (F.kt_typeCall_dict_1 _) F.entry_dict_init (kt_code_dict_new _ ⟨rfl,rfl⟩) ?_;rintro obj s₁ ⟨rfl,rfl⟩;have k1:∀ b o,s.heap.get? b=some o->(s.heap.push { cls:=.type "dict",data:=.dict #[] }).get? b=some o:=λb o e=>WZ _ e;have ry:OK (s.heap.push { cls:=.type "dict",data:=.dict #[] }):=K.keep _ _ hok λo e=>k1 _ o e;have wS:(Shared.TypeIs { s with heap:=s.heap.push { cls:=.type "dict",data:=.dict #[] } } (.ref s.heap.objs.size) "dict"):=⟨_,W5 _ rfl,rfl⟩;refine⟨wS,F.args_dict_init_2 _ _,?_⟩;unfold Builtin.«dict.__init__»;refine WY ?_;unfold Builtin.Dict.selfAndRest;refine WY (wpAny_notOrdered_dict wS ?_);show wpAny _ _ (pure (s.heap.objs.size,[XC r])) _ _ _;refine W2 ?_;show wpAny _ _ (Builtin.Dict.updateFrom "dict.__init__" s.heap.objs.size (.ref r) [] .none) _ _ _;unfold Builtin.Dict.updateFrom;refine WY (wpAny_typeOf (K.type _ ry) ?_);rw[if_pos K.notDict];refine WY (K.rx A.in1.in1 _ { s with heap:=s.heap.push { cls:=.type "dict",data:=.dict #[] } } _ hA ry λh2 wT k2=>?_);simp only[Option.isNone_none,if_true];refine WY (wpAny_rule ?_);have GD:OK h2:=K.keep _ _ ry λo e=>k2 _ o e;obtain⟨oI,St,hit,W,st⟩:=K.iter A.in1.in1 { s with heap:=h2,toks:=wT } hA GD;have nX:s.heap.objs.size<h2.objs.size:=Xh (k2 _ _ (W5 _ rfl));refine WY (hit _ _ ?_);have hr:r<s.heap.objs.size:=K.there _ hok;have loop:=Gm (A:=A.in1) (R:=wants (λr' s₂=>r'=.none/\Q (.ref s.heap.objs.size) s₂) E) (DK:=DK) W s.heap.objs.size (by
   simp only[XI,Xq,or_false,not_or];exact⟨Xi nX,Yg hr⟩)
  (λi h h' x k=>hfr i h h' h2.objs.size nX x λb o hb e=>k b o (by simpa using hb) e) (put _ (by show A.units+1+1<=_;lia)) .none n 0 0 { s with heap:=h2.push oI,toks:=wT } rfl (Xk _) st
  (hfr 0 _ _ h2.objs.size nX TB λb o _ e=>WZ _ (k2 b o e)) (λh' tk hD hk=>⟨rfl,h h' tk hD λb o e=>hk b o (by
   have hb:=Xh e;simp only[XI,Xq,or_false,not_or];exact⟨Xi hb,Xi (XR hb nX)⟩) (WZ _ (k2 b o (k1 b o e)))⟩)
 first
  |exact W2 ⟨Yp jM _,loop⟩
  |exact W2 (W2 ⟨Yp jM _,loop⟩)
  |exact WY (W2 (W2 ⟨Yp jM _,loop⟩))
end
end L2
end
section
set_option maxHeartbeats 1000000
namespace N
open PySem PySem.Spec PyProof.Rows L2
def iJ (kvs:List (Key×D)) (M:Mp) (q:QK):Prop:=q (.ak (kvs.map (·.1)) (kvs.map (·.2))) M\/∀p,M p=none->q (.ref p) (up M p (.ak kvs))
noncomputable def cw (kvs:List (Key×D)):List (Key×D):=kvs.foldl (λal kv=>aY al kv.1 kv.2) []
def xM:DE:=λ_ M q=>iJ [] M q
def rz:List (DE×DE)->St->Mp->(List (Key×D)->Mp->Prop)->Prop
 |[],_,M,q=>q [] M
 |(tk,tv)::r,τ,M,q=>tk τ M λx M1=>dS x λc=>tv τ M1 λy M2=>rz r τ M2 λkvs M3=>q ((c,y)::kvs) M3
def xN (ps:List (DE×DE)):DE:=fun τ M q=>rz ps τ M λkvs M2=>iJ (cw kvs) M2 q
noncomputable def iK:Key->D
 |.inl i=>.int i
 |.inr x=>.str x
noncomputable def de (p:Key×D):D:=.tup [iK p.1,p.2]
def rA:QN:=n1 λx M q=>(cu x M λkvs=>iJ kvs M q)\/dw x M λds=>∃kvs:List (Key×D),ds=kvs.map de/\iJ (cw kvs) M q
section
variable {X:Cx} {τ:St} {z:Z}
theorem ae.nY (I:ae X τ z):sysModules<z.s.heap.objs.size:=XR (by decide) (I.ok.bp.du.keeps I.bk).lt
theorem lr {G:Gx}{F:Fz}:∀{kvs:List (Key×D)}{vs:List (Key×Value)},KV G F kvs vs->af G F (kvs.map (·.2)) (vs.map (·.2))/\kvs.map (·.1)=vs.map (·.1)
 |_,_,.nil=>⟨.nil,rfl⟩
 |_,_,.cons r t=>⟨.cons r.2 (lr t).1,by rw[Xe,Xe,r.1,(lr t).2]⟩
theorem xO (vs:List (Key×Value)):(vs.map (·.1)).zip (vs.map (·.2))=vs:=by
 induction vs with
 |nil=>rfl
 |cons p r ih=>rw[Xe,Xe,Yq,ih]
theorem aG.GF {G:Gx}{F:Fz}{M:Mp}{h:Heap}{a:Addr}{o:MO} (x:aG G F M h) (hF:F a=none) (hM:M a=none) (new:ec G F (N.up M a o) h a o):aG G F (N.up M a o) h:=
 ⟨x.fz,λb u e=>by
  by_cases hb:b=a
  ·subst hb;rw[ao]at e;cases e;exact⟨hF,new⟩
  ·rw[ay hb]at e;exact⟨(x.ob b u e).1,(x.ob b u e).2.go Le.rfl.d (λ_ _ _ q=>q) λc q=>by rw[ay (cV q hM)];exact q⟩,x.tb⟩
theorem ae.xP {a:Addr}{o:Obj} (I:ae X τ z) (f:Fp X z a) (e:z.s.heap.get? a=some o):Le z.F (N.up z.F a (.dat o))/\ae X τ ⟨N.up z.F a (.dat o),z.M,z.s⟩:=
 ⟨Le.new f.f,I.go (Le.new f.f) (I.hok.kL f.f f.m e) (λb hb=>⟨bg.s λ_ e=>e,I.dc hb,ay λq=>f.o (q ▸ hb)⟩) rfl I.bare⟩
theorem ae.take {a:Addr}{o:MO} (I:ae X τ z) (f:Fp X z a) (new:ec X.G z.F (N.up z.M a o) z.s.heap a o):ae X τ ⟨z.F,N.up z.M a o,z.s⟩:=
 I.go Le.rfl (I.hok.GF f.f f.m new) (λb hb=>⟨bg.s λ_ e=>e,(ay (show b≠a from λq=>f.o (q ▸ hb))).trans (I.dc hb),rfl⟩) rfl I.bare
theorem ae.rB {ds:List D}{us:List Value}{a:Addr}{n:Nat}{Q:QK}{R:Value->Shared->Prop}{F:Fz} (I:ae X τ z) (f:Fp X z a) (k:KE X τ F Q R) (l:Le F z.F) (r:af X.G z.F ds us) (ho:z.s.heap.get? a=some (bK us n)) (hz:us.length<=sizeLine) (q:bQ ds z.M Q):R (.ref a) z.s:=by
 rcases q with q |q
 ·obtain⟨l1,J⟩:=I.xP f ho;exact k (.lst ds) ⟨N.up z.F a (.dat (bK us n)),z.M,z.s⟩ _ (l.tr l1) J (nk ao hz (r.up l1.d)) q
 ·exact k (.ref a) ⟨z.F,N.up z.M a (.lst ds),z.s⟩ _ l (I.take (o:=.lst ds) f ⟨by rw[r.len];exact hz,us,n,r,ho⟩) qh (q a f.m)
theorem ae.xQ {kvs:List (Key×D)}{vs:List (Key×Value)}{a:Addr}{Q:QK}{R:Value->Shared->Prop}{F:Fz} (I:ae X τ z) (f:Fp X z a) (nY:(a == sysModules)=false) (k:KE X τ F Q R) (l:Le F z.F) (r:KV X.G z.F kvs vs) (ho:z.s.heap.DictOf (bo X.G.P X.G.w) a vs) (hz:kvs.length<=sizeLine) (q:iJ kvs z.M Q):R (.ref a) z.s:=by
 rcases q with q |q
 ·obtain⟨o,es,ep,e,ex,g1,g2,g3,nd⟩:=ho;obtain⟨l1,J⟩:=I.xP f e;obtain⟨k1,k2⟩:=lr (r.up l1.d);refine k (.ak (kvs.map (·.1)) (kvs.map (·.2))) ⟨N.up z.F a (.dat o),z.M,z.s⟩ _ (l.tr l1) J ?_ q;rw[ab];refine⟨a,o,vs.map (·.2),rfl,ao,⟨ex,⟨es,ep,g1,g2,?_⟩,by rw[k2];exact nd,by rw[k2,W0,W0],by rw[W0];exact hz⟩,nY,k1⟩;rw[k2,xO];exact g3
 ·exact k (.ref a) ⟨z.F,N.up z.M a (.ak kvs),z.s⟩ _ l (I.take (o:=.ak kvs) f ⟨hz,nY,vs,r,ho⟩) qh (q a f.m)
theorem ae.xR {a:Addr} (I:ae X τ z) (hp:z.s.heap.objs.size<=a):(a == sysModules)=false:=beq_eq_false_iff_ne.mpr (Ys (Xi (Xl I.nY hp)))
theorem ae.ak {kvs:List (Key×D)}{vs:List (Key×Value)}{h':Heap}{a:Addr}{t:Nat}{Q:QK}{R:Value->Shared->Prop}{F:Fz} (I:ae X τ z) (k:KE X τ F Q R) (l:Le F z.F) (r:KV X.G z.F kvs vs) (kp:∀b,bg z.s.heap h' b) (hp:z.s.heap.objs.size<=a) (ho:h'.DictOf (bo X.G.P X.G.w) a vs) (hz:kvs.length<=sizeLine) (q:iJ kvs z.M Q):R (.ref a) { z.s with heap:=h',toks:=t }:=
 (I.bP (t:=t) kp).xQ (I.jy hp) (I.xR hp) k l r ho hz q
variable {pos:Pos}{eQ:List (Option Expr)}{iL:List Expr}{ps:List (DE×DE)}{k v:Expr}{tk tv:DE}
theorem GG:PE X (.Dict [] [] pos) xM:=fun τ z Q R I h k=>
 wpAny_Dict_empty (I.ak (vs:=[]) (t:=z.s.toks) k Le.rfl .nil (λ_ _ q=>WZ _ q) (W3 _) (Heap.DictOf.new _) (Xk _) h)
def PP (X:Cx) (pos:Pos) (eQ:List (Option Expr)) (iL:List Expr) (ps:List (DE×DE)):Prop:=∀ τ z Q R,ae X τ z->rz ps τ z.M Q ->
 (∀kvs z' rs ws,Le z.F z'.F->ae X τ z'->Carries (bo X.G.P X.G.w) ws rs->KV X.G z'.F kvs rs->kvs.length=eQ.length->Q kvs z'.M->R ws z'.s)->W X (evalPairs (pairTrees eQ iL X.env pos)) R z.s
theorem GH:PP X pos [] [] []:=fun τ z Q R I h k=>pairTrees_nil_walk (k [] z [] [] Le.rfl I Zg .nil rfl h)
theorem GI (hk:PE X k tk) (hv:PE X v tv) (hr:PP X pos eQ iL ps):PP X pos (some k::eQ) (v::iL) ((tk,tv)::ps):=fun τ z Q R I h K=>
 pairTrees_cons_walk (hk τ z _ _ I h λx z1 u l1 I1 r1 q1=>by
  obtain⟨c,hc,q1⟩:=jE (P:=X.G.P) (w:=X.G.w) q1 r1;exact hv τ z1 _ _ I1 q1 λy z2 w l2 I2 r2 q2=>hr τ z2 _ _ I2 q2 λkvs z3 rs ws l3 I3 ca rel hl q3=>K ((c,y)::kvs) z3 ((c,w)::rs) ((u,w)::ws) (l1.tr (l2.tr l3)) I3 ⟨hc,rfl,ca⟩ (.cons ⟨rfl,r2.up l3.d⟩ rel) (by rw[Xd,Xd,hl]) q3)
theorem KV.cw:∀{more:List (Key×D)}{rs:List (Key×Value)}{G:Gx}{F:Fz}{kvs:List (Key×D)}{vs:List (Key×Value)},KV G F more rs->KV G F kvs vs->KV G F (more.foldl (λal kv=>aY al kv.1 kv.2) kvs) (merged vs rs)/\(more.foldl (λal kv=>aY al kv.1 kv.2) kvs).length<=kvs.length+more.length:=by
 intro more rs G F kvs vs r;unfold KV at r
 induction r generalizing kvs vs with
 |nil=>intro q;exact⟨q,W3 _⟩
 |@cons p q ps qs h t ih=>
  intro r0;have e:KV G F (aY kvs p.1 p.2) (stored vs q.1 q.2):=by
   have:=r0.put p.1 h.2;rw[<- h.1];exact this
  refine⟨(ih e).1,W9 (ih e).2 ?_⟩;have:=qC kvs p.1 p.2;rw[Xd];lia
theorem GJ (h:PP X pos eQ iL ps) (rC:eQ.all (·.isSome)=true) (hl:eQ.length=iL.length) (h0:eQ≠[]) (GK:eQ.length<=15):PE X (.Dict eQ iL pos) (xN ps):=fun τ z Q R I q K=>by
 have hb:=W3 z.s.heap.objs.size;have e0:(z.s.heap.push { cls:=.type "dict",data:=.dict #[] }).get? z.s.heap.objs.size=some { cls:=.type "dict",data:=.dict #[] }:=W5 _ rfl;have I1:ae X τ ⟨z.F,z.M,{ z.s with heap:=z.s.heap.push { cls:=.type "dict",data:=.dict #[] } }⟩:=I.bP (t:=z.s.toks) λ_ _ q=>WZ _ q;have fp:∀b∈[z.s.heap.objs.size],Fp X ⟨z.F,z.M,{ z.s with heap:=z.s.heap.push { cls:=.type "dict",data:=.dict #[] } }⟩ b:=λb m=>by rw[List.mem_singleton.mp m];exact I.jy hb
 obtain⟨lp,I2⟩:=I1.kU fp;refine wpAny_Dict_walk (knd:=bo X.G.P X.G.w) rC hl h0 GK (h τ _ _ _ I2 q λkvs z3 rs ws l3 I3 ca rel hk q3=>?_);have xS:=l3 _ _ (dt (gE (List.mem_singleton.mpr rfl) e0));have h3:z3.s.heap.get? z.s.heap.objs.size=some { cls:=.type "dict",data:=.dict #[] }:=I3.hok.fz _ _ xS;obtain⟨l4,I4⟩:=I3.jx (F:=z.F) (λb m=>⟨(fp b m).f,(fp b m).o⟩) l3 I.bs I.cc;have GL:=rel.up (cb.aN jw l3);obtain⟨rm,hm⟩:=KV.cw GL (kvs:=[]) (vs:=[]) .nil;obtain⟨o,es,ep,e,rest⟩:=Heap.DictOf.new (knd:=bo X.G.P X.G.w) z.s.heap;rw[e0]at e;cases e;refine⟨rs,ca,⟨_,es,ep,h3,rest⟩,λh' nT hs=>?_⟩;have xz:z3.M z.s.heap.objs.size=none:=by
  cases r':z3.M z.s.heap.objs.size with
  |none=>rfl
  |some o'=>have:=(I3.hok.ob _ o' r').1;rw[xS]at this;cases this
 have f4:aN z3.F (aQ [z.s.heap.objs.size] (z.s.heap.push { cls:=.type "dict",data:=.dict #[] })) z.s.heap.objs.size=none:=fq (gE (List.mem_singleton.mpr rfl) e0);have nO:=(fp _ (List.mem_singleton.mpr rfl)).o;have I5:=I4.b0 (t:=z3.s.toks+ws.length) (h':=h') (λb hb o q=>(hs.2 b hb).trans q) f4 xz nO;exact I5.xQ (a:=z.s.heap.objs.size) ⟨f4,xz,nO⟩ (I.xR hb) K l4 rm nT (W9 hm (by rw[hk,Zj,List.length_nil];lia)) q3
theorem xT {kvs:List (Key×D)}{i:Nat}{p:Key×D} (h:kvs[i]?=some p):cw (kvs.take (i+1))=aY (cw (kvs.take i)) p.1 p.2:=by
 rw[List.take_add_one,h];unfold cw;rw[List.foldl_append];rfl
theorem xU (kvs:List (Key×D)) (k:Key) (v:D):(aY kvs k v).length<=kvs.length+1:=by
 unfold aY;split
 ·rw[W0];lia
 ·rw[Xf];exact W3 _
theorem rD (kvs:List (Key×D)):∀i,(cw (kvs.take i)).length<=i
 | 0=>by simp [cw]
 |i+1=>by
  have ih:=rD kvs i;cases h:kvs[i]? with
  |none=>rw[List.take_add_one,h,Option.toList_none,Xo];lia
  |some p=>rw[xT h];have:=xU (cw (kvs.take i)) p.1 p.2;lia
theorem GN {G:Gx}{F:Fz}{P:Program}{w:World}{k:Key}{u:Value} (r:ab G F (iK k) u):(bo P w).is k u=true:=by
 cases k with
 |inl i=>rw[iK,ab]at r;obtain⟨t,rfl⟩:=r;exact wo P w _ t
 |inr x=>rw[iK,ab]at r;obtain⟨t,rfl⟩:=r;exact wt P w _ t
theorem xV {kvs:List (Key×D)}{its:List Value}{T:String}{a:Addr}{OK:Heap->Prop}{Q:QK}{R:Value->Shared->Prop} (hc:X.calm=true) (I:ae X τ z) (rs:af X.G z.F (kvs.map de) its) (hz:its.length<=sizeLine) (hok:OK z.s.heap) (S:nW X.G.P X.G.w T a its.toArray.size (λi v=>its.toArray[i]?=some v) OK)
  (q:iJ (cw kvs) z.M Q) (k:KE X τ z.F Q R):W X (call (.type "dict") [.ref a]) R z.s:=by
 have lt:∀b,z.F b≠none\/z.M b≠none->b<z.s.heap.objs.size:=λb h=>by
  rcases h with h |h
  ·cases e:z.F b with
   |none=>exact absurd e h
   |some f=>exact (I.hok.fz b f e).lt
  ·cases e:z.M b with
   |none=>exact absurd e h
   |some f=>exact (I.hok.ob b f e).2.lt
 have lk:kvs.length=its.length:=by rw[<- rs.len,W0]
 refine GC (DK:=λi h=>aG X.G z.F z.M h/\∃vs,KV X.G z.F (cw (kvs.take i)) vs/\h.DictOf (bo X.G.P X.G.w) z.s.heap.objs.size vs) S (I.ok.hd hc) hok ⟨I.hok.keep λb _ o e=>WZ _ e,[],.nil,Heap.DictOf.new _⟩ (λi h h' it hit x k=>?_) (λA' Sz i v s' hi hP hD=>?_) λh' tk hD keep=>?_
 ·obtain⟨ok,vs,rel,o,es,ep,e,rest⟩:=x;exact⟨ok.keep λb hb o e=>k b o (Xi (XR (lt b hb) hit)) e,vs,rel,o,es,ep,k _ _ (Xi hit) e,rest⟩
 ·obtain⟨ok,vs,rel,dd⟩:=hD;have e1:its[i]?=some v:=by simpa using hP
  have c5:i<kvs.length:=by rw[lk];exact (List.getElem?_eq_some_iff.mp e1).1
  have gl:kvs[i]?=some kvs[i]:=W6 c5;obtain⟨u,hu,r1⟩:=rs.get (i:=i) (d:=de kvs[i]) (by rw[Xj,gl];rfl);rw[e1]at hu;cases hu;rw[de,ab]at r1;obtain⟨b,o,us,rfl,h1,h2,h3⟩:=r1;obtain⟨VM,VN,rfl,q1,q2⟩:=gG h3;obtain⟨n,hd⟩:=h2.data;refine⟨b,o,_,n,VM,VN,rfl,ok.fz b _ h1,h2.cls,hd,rfl,λQ E hq=>?_⟩;have hv:vs.length<=sizeLine:=by
   rw[<- Paired.length rel];exact W9 (rD kvs i) (by lia)
  refine wpAny_dictSet_pairs (hsz:=hv) (GN q1) dd λh2 iz sb=>hq _ _ ⟨ok.keep λb hb o e=>sb.extBut b o (Xi (lt b hb)) e,_,?_,iz⟩ sb;rw[xT gl];exact rel.put kvs[i].1 q2
 ·obtain⟨ok,vs,rel,dd⟩:=hD;have ls:its.toArray.size=kvs.length:=by rw[W4,lk]
  rw[ls,List.take_length]at rel;have hl:(cw kvs).length<=sizeLine:=by
   have:=rD kvs kvs.length;rw[List.take_length]at this;lia
  exact I.ak (t:=tk) k Le.rfl rel (λb o e=>keep b o e) (W3 _) dd hl q
open PySem.W in
theorem GO (hc:X.calm=true):CB X (.type "dict") rA:=iH fun τ z Q R d v I r q k=>by
 rcases q with q |q
 ·obtain⟨a,kvs,vs,rfl,l,q⟩:=I.cu r q;refine kt_call_dict l.n l.d (by rw[<- Paired.length l.r];exact l.z) λh' hm hs=>?_;exact I.ak (t:=z.s.toks) k Le.rfl l.r (λb o e=>hs.extBut b o (Xi (Xh e)) (WZ _ e)) (W3 _) hm l.z q
 ·unfold dw at q;split at q
  ·obtain⟨kvs,rfl,q⟩:=q;obtain⟨a,us,o,rfl,l⟩:=I.cW r;obtain⟨n,hd⟩:=l.t.data;exact xV hc I l.r l.t.len ⟨o,n,l.e,l.t.cls,hd,l.t.dict⟩ GB q k
  ·obtain⟨a,ds,us,n,rfl,l,kvs,rfl,q⟩:=I.a9 r q;exact xV hc I l.r l.z l.e GA q k
end
theorem GP {X:Cx}:OM X "list.extend" rj:=fun τ z Q R d v ds us I rv rs h k=>by
 unfold rj at h;split at h
 ·obtain⟨u,rfl,ru⟩:=gc rs;obtain⟨a,xs,its,n,rfl,hM,l,h⟩:=I.gi rv h;have hl:=l.r.len;unfold dw at h;split at h
  ·obtain⟨hz,q⟩:=h;obtain⟨b,gm,⟨cls,dd,data,sl⟩,rfl,l2⟩:=I.cW ru;obtain⟨e1,e2,⟨n2,e3⟩,_⟩:=l2.t;have hl2:=l2.r.len;have he:=l2.e;simp only at e1 e3;subst e1 e3;have hsz:its.toArray.size+gm.toArray.size<=sizeLine:=(by rw[W4,W4];lia);have lg:¬(!its.toArray.isEmpty && Yz (its.toArray.size+gm.toArray.size))=true:=by
    rw[qz hsz,Bool.and_false];exact XJ
   refine call_meets F.slot_list_extend ⟨_,l.e,rfl⟩ F.entry_list_extend (F.args_list_extend_2 _ _) (E5 a b its.toArray gm.toArray n n2 dd sl lg (by rw[W4];lia) (by lia)) ⟨l.e,he,?_⟩;exact k .aj ⟨z.F,_,_⟩ _ Le.rfl (I.nV (us':=its++gm) hM l.e (by simp) (l.r.app l2.r) (by rw[Xf];lia)) (by rw[ab]) q
  ·obtain⟨b,ys,gm,n2,rfl,l2,hz,q⟩:=I.a9 ru h;have hl2:=l2.r.len;have hsz:its.toArray.size+gm.toArray.size<=sizeLine:=(by rw[W4,W4];lia);have lg:¬(!its.toArray.isEmpty && Yz (its.toArray.size+gm.toArray.size))=true:=by
    rw[qz hsz,Bool.and_false];exact XJ
   refine call_meets F.slot_list_extend ⟨_,l.e,rfl⟩ F.entry_list_extend (F.args_list_extend_2 _ _) (AutoSeq1.list_extend_list_list_0 a its.toArray n b gm.toArray n2 lg (by rw[W4];lia) (by lia)) ⟨l.e,l2.e,?_⟩;exact k .aj ⟨z.F,_,_⟩ _ Le.rfl (I.nV (us':=its++gm) hM l.e (by simp) (l.r.app l2.r) (by rw[Xf];lia)) (by rw[ab]) q
 ·exact h.elim
end N
end
section
set_option maxHeartbeats 1000000
namespace N
open PySem PySem.Spec PyProof.Rows L2
def cK (ok:Mp->Prop) (g:G) (tc:DT) (te:DE) (τ:St) (k:List D->Mp->Prop):List D->List D->Mp->Prop
 |[],ys,M=>ok M/\ys.length<sizeLine/\k ys M
 |x::xs,ys,M=>ok M/\ys.length<sizeLine/\cq g x τ M fun τ1 M0=>tc τ1 M0 λb M1=>if b=true then te τ1 M1 λy M2=>cK ok g tc te τ k xs (ys++[y]) M2 else cK ok g tc te τ k xs ys M1
noncomputable def dC (n:Nat) (fr:List (Str×Nat)) (τ:St):St:=XZ n none++fr.map λp=>(τ[p.2]?).join
def rE (n:Nat) (fr:List (Str×Nat)) (g:G) (ti:DI) (tc:DT) (te:DE):DE:=fun τ M q=>ti τ M λxs ok M1=>cK ok g tc te (dC n fr τ) (λys M2=>bQ ys M2 q) xs [] M1
def GR (n:Nat) (fr:List (Str×Nat)) (g:G) (ti:DI) (tc:DT) (te:DE) (j:Nat):DS:=λe τ M=>ti τ M λxs ok M1=>cK ok g tc te (dC n fr τ) (λys M2=>bQ ys M2 λd M3=>e.nx (τ.set j (some d)) M3) xs [] M1
noncomputable def dE (X:Cx) (scope:Scope) (N':List Str) (cl:List (Str×Addr)) (C:Addr):Cx where
 G:=X.G
 A:=X.A
 N:=N'
 os:=X.os
 env:=compEnvC scope cl C X.env
 outer:=X.stk
 stk:=X.stk
 fn:=λ_=>false
 calm:=X.calm
 x:=λ_ _ _=>False
def PF (X:Cx) (bd:List Expr) (t:DT):Prop:=∀ τ z Q R,ae X τ z->t τ z.M Q->KT X τ z.F Q R ->
 W X (forIn bd true λc r=>if r=true then do let ok <- isTrue c X.env (eval c X.env);pure (YY ok) else pure (YY r)) R z.s
def gn:DT:=λ_ M q=>q true M
theorem GS {X:Cx}:PF X [] gn:=fun τ z Q R I h k=>wpAny_tests_nil (k true z Le.rfl I h)
theorem GU {X:Cx}{c:Expr}{t:DT} (h:PT X c t):PF X [c] t:=fun τ z Q R I q k=>wpAny_tests_one (h τ z Q R I q k)
noncomputable def G.lt (k:Nat):G->Bool
 |.one i=>decide (i<k)
 |.many is=>is.all λi=>decide (i<k)
theorem xW:∀(is:List Nat) (ds:List D) (τ:St) (k:Nat),(is.all λi=>decide (i<k))=true->(fx is ds τ).length=τ.length/\(fx is ds τ).drop k=τ.drop k
 |[],ds,τ,k,_=>by unfold fx;exact⟨rfl,rfl⟩
 |i::is,[],τ,k,_=>by unfold fx;exact⟨rfl,rfl⟩
 |i::is,d::ds,τ,k,h=>by
  rw[List.all_cons,W7]at h;obtain⟨h1,h2⟩:=xW is ds (τ.set i (some d)) k h.2;unfold fx;exact⟨h1.trans List.length_set,h2.trans (List.drop_set_of_lt (of_decide_eq_true h.1))⟩
theorem GV {g:G}{k:Nat} (h:g.lt k=true) {x:D} {τ:St} {M:Mp}{Q:St->Mp->Prop} (q:cq g x τ M Q):cq g x τ M fun τ2 M2=>Q τ2 M2/\τ2.length=τ.length/\τ2.drop k=τ.drop k:=by
 cases g with
 |one i=>exact⟨q,List.length_set,List.drop_set_of_lt (of_decide_eq_true h)⟩
 |many is=>
  have imp:∀{k k':List D->Prop},(∀ds,k ds->k' ds)->dw x M k->dw x M k':=λ{k k'} f h=>by
   cases x <;> first |exact f _ h |exact h |(obtain⟨ds,h1,h2⟩:=h;exact⟨ds,h1,f _ h2⟩)
  exact imp (λds p=>⟨p.1,p.2,xW is ds τ k h⟩) q
structure iM (X:Cx) (scope:Scope) (Nt:List Str) (fr:List (Str×Nat)):Prop where
 kind:scope.kind=.function
 cell:∀y∈scope.names,y.2≠.cell
 names:∀y∈scope.names,y.2=.local->scope.names.lookup y.1=some .local
 free:∀y∈scope.names,y.2=.free->X.env.kindOf y.1=some .cell
 fr:∀p∈fr,X.N[p.2]?=some p.1/\scope.names.lookup p.1=some .free
section
variable {X:Cx} {τ:St} {z:Z}{tg ap iter:Expr}{bd:List Expr}{scope:Scope}{pos:Pos}{Nt:List Str}{fr:List (Str×Nat)}{g:G}{tc:DT}{te:DE}{cl:List (Str×Addr)}{C:Addr}
theorem GW {h1:Heap}{t1:Nat}{m:Str->Option Value} (L:iM X scope Nt fr) (I:ae X τ z) (cg:∀ x c,cl.lookup x=some c->X.env.cells.lookup x=some c) (lm:∀ y∈scope.names,y.2=.free->∃ c,cl.lookup y.1=some c)
  (hC:z.s.heap.objs.size<=C) (c8:∀b,bg z.s.heap h1 b) (hn:h1.Ns C m):ae (dE X scope (Nt++fr.map (·.1)) cl C) (dC Nt.length fr τ) ⟨aT z.F (X.aS z.s.heap),z.M,{ z.s with heap:=h1,toks:=t1 }⟩:=by
 have e0:=I.qc;refine⟨⟨I.ok.bp,L.kind,I.ok.du,I.ok.kM,λx y c e1 e2=>I.ok.inj x y c (cg _ _ e1) (cg _ _ e2),λx hx=>?_,I.ok.hd,I.ok.frames,.inl rfl⟩,e0.bs,I.os,I.bare,e0.cc,⟨m,hn,λi x v lu h2 h3=>?_⟩,λx c e=>?_,⟨I.m9.cA hC,I.hok.c9 hC⟩,I.m9.keep λb _=>c8 b,?_⟩
 ·have cU:((relabel scope X.env).names.lookup x=some .cell\/(relabel scope X.env).names.lookup x=some .free):=hx;rcases cU with q |q
  ·exact lm _ (qI L.cell (.inl rfl) q) rfl
  ·exact lm _ (qI L.cell (.inr rfl) q) rfl
 ·have rF:(Nt++fr.map (·.1))[i]?=some x:=lu;have hi:¬i<Nt.length:=λhi=>by
   unfold dC at h2;rw[XO (by simpa using hi),List.getElem?_replicate]at h2;split at h2 <;> cases h2
  unfold dC at h2;rw[XB (by simpa using hi),List.length_replicate,Xj]at h2;rw[XB (by lia),Xj]at rF;cases e:fr[i-Nt.length]? with
  |none=>rw[e]at h2;cases h2
  |some p=>
   rw[e]at h2 rF;have ex:p.1=x:=XD rF;have TQ:(τ[p.2]?).join=some v:=XD h2;obtain⟨hN,hfr⟩:=L.fr p (XN e);have es:τ[p.2]?=some (some v):=by
    cases q:τ[p.2]? with
    |none=>rw[q]at TQ;cases TQ
    |some o=>rw[q]at TQ;exact congrArg some TQ
   have hkc:=L.free (p.1,.free) (PySem.mem_of_lookup hfr) rfl;obtain⟨WE,SA,GX⟩:=I.loc;obtain⟨u,ru,lk⟩:=GX p.2 p.1 v hN es (.inr (.inl hkc));refine⟨u,ru.up I.cB.d,?_⟩;rcases lk with ⟨kk,_⟩ |⟨_,c,hc,ni⟩
   ·rw[hkc]at kk;cases kk
   ·obtain⟨c',f6⟩:=lm _ (PySem.mem_of_lookup hfr) rfl;have hcc:=cg _ _ f6;rw[hc]at hcc;cases hcc;subst ex;refine .inr ⟨wQ hfr,c,f6,?_⟩;obtain⟨o,q1,q2⟩:=ni;exact⟨o,c8 _ _ q1,q2⟩
 ·have hc:=cg x c e;obtain⟨⟨v,o,q1,q2⟩,hM,hF⟩:=I.cell x c hc;refine⟨⟨v,o,c8 _ _ q1,q2⟩,hM,.inr ⟨rfl,?_⟩⟩;rcases hF with ⟨hf,hF⟩ |⟨hf,o',hF⟩
  ·refine⟨o,dt ?_⟩;unfold Cx.aS;rw[if_neg (I.ju hc),if_pos ⟨x,hf,hc⟩,q1];rfl
  ·exact⟨o',I.cB c _ hF⟩
 ·unfold dC;show _=(Nt++fr.map (·.1)).length;simp
end
end N
end
section
set_option maxHeartbeats 1000000
namespace N
open PySem PySem.Spec PyProof.Rows L2
section
variable {X:Cx} {τ:St} {z:Z}{tg ap iter:Expr}{bd:List Expr}{scope:Scope}{pos:Pos}{Nt:List Str}{fr:List (Str×Nat)}{g:G}{tc:DT}{te:DE}{cl:List (Str×Addr)}
structure xX (X:Cx) (τ:St) (z:Z) (fin:List D->Mp->Prop) (L C:Addr) (z':Z) (ys:List D) (its:List Value) (n:Nat) (m':Str->Option Value):Prop where
 le:Le z.F z'.F
 nZ:ae X τ z'
 fl:Fp X z' L
 T3:Fp X z' C
 ne:L≠C
 ns:z'.s.heap.Ns C m'
 obj:z'.s.heap.get? L=some (bK its n)
 rel:af X.G z'.F ys its
 sz:its.length<=sizeLine
 fin:fin ys z'.M
theorem lA {a b:Addr} (h:b∈[a]):b=a:=List.mem_singleton.mp h
theorem rG {X:Cx} {τ:St} {z:Z}{b:Addr}{f:Fo} (I:ae X τ z) (h:z.F b=some f):z.M b=none:=by
 cases q:z.M b with
 |none=>rfl
 |some o=>have:=(I.hok.ob b o q).1;rw[h]at this;cases this
theorem xY {it:Addr}{xs:List D}{ok:Mp->Prop}{fin:List D->Mp->Prop}{E:Value->Shared->Prop}{RR:Value->Addr->Result->Shared->Prop}
  (L:iM X scope Nt fr) (lB:X.calm=true) (I:ae X τ z) (cg:∀x c,cl.lookup x=some c->X.env.cells.lookup x=some c) (lm:∀y∈scope.names,y.2=.free->∃c,cl.lookup y.1=some c)
  (hit:qo X tg xs ok z it) (hg:∀C,PG (dE X scope (Nt++fr.map (·.1)) cl C) tg (cq g)) (lC:g.lt Nt.length=true) (hc:∀C,PF (dE X scope (Nt++fr.map (·.1)) cl C) bd tc) (he:∀C,PE (dE X scope (Nt++fr.map (·.1)) cl C) ap te)
  (w0:cK ok g tc te (dC Nt.length fr τ) fin xs [] z.M)
  (GY:∀A C z' ys its n m',xX X τ z fin A C z' ys its n m'->RR (.ref A) C (.ok .next) z'.s) :
  wpAny (model X.G.P X.G.w) X.A (newList []) (λal s3=>wpAny (model X.G.P X.G.w) X.A (newFunctionEnv scope X.env.globals cl [] X.env.qual none .none (some X.env)) (λxL s4=>
   codeAny (model X.G.P X.G.w) X.A (.compStart (.ListComp ap [⟨tg,iter,bd,0⟩] scope pos) 0 (.ref it) al { xL with scope:=relabel scope X.env }) (RR al xL.locals) s4) E s3) E z.s:=by
 obtain⟨T,t0,f0⟩:=hit;rename_i fp tn;refine XF (wpAny_newFunctionEnv L.cell (by intro y hy;simp at hy) (λh1 ch dW=>?_) L.kind);dsimp only at ch dW ⊢;generalize rH:z.s.heap.push { cls:=.type "list",dict:=none,data:=.seq ([]:List Value).toArray }=H2 at ch dW ⊢;have hC:H2.objs.size=z.s.heap.objs.size+1:=by rw[<- rH,Xx]
 have c8:∀b,bg z.s.heap h1 b:=λb o q=>
  dW.extBut b o (by rw[hC];exact Xi (Yo (Xh q))) (WZ _ (rH ▸ WZ _ q))
 have lD:z.s.heap.objs.size≠H2.objs.size:=by rw[hC];exact Xi (YJ _)
 have iN:h1.get? z.s.heap.objs.size=some (bK [] 0):=dW.extBut _ _ lD (WZ _ (rH ▸ W5 _ rfl));have jO:z.s.heap.objs.size<=H2.objs.size:=by rw[hC];exact YK _
 have I0:=GW (t1:=z.s.toks+([]:List (Str×Value)).length) (C:=H2.objs.size) L I cg lm jO c8 ch;have n4:tn 0 h1:=T.keep 0 _ _ t0 λb _=>c8 b;have be:∀b∈fp,b<z.s.heap.objs.size:=λb hb=>let ⟨o,q⟩:=T.obj 0 _ t0 b hb;Xh q
 generalize iO:z.s.heap.objs.size=a at lD iN jO be;generalize H2.objs.size=C at lD ch dW jO I0;generalize hX:dE X scope (Nt++fr.map (·.1)) cl C=X' at I0;have Ur:X'.G=X.G:=by subst hX;rfl
 have U9:X'.A=X.A:=by subst hX;rfl
 have WG:X'.env=compEnvC scope cl C X.env:=by subst hX;rfl
 have U':X'.calm=true:=by subst hX;exact lB
 have n6:PG X' tg (cq g):=by subst hX;exact hg _
 have f6:PF X' bd tc:=by subst hX;exact hc _
 have ic:PE X' ap te:=by subst hX;exact he _
 have go:∀{α:Type} {t:Env->Sem α}{R:α->Shared->Prop}{s:Shared},W X' (t X'.env) R s->wpAny (model X.G.P X.G.w) X.A (t (compEnvC scope cl C X.env)) R (λ_ _=>False) s:=λh=>by
  subst hX;exact Y6 h (λ_ _ q=>q) λ_ _ q=>q.no.elim
 have own:∀b,cI X' b->b=C\/cI X b:=λb hb=>by
  subst hX;rcases hb with h |⟨x,h⟩
  ·exact .inl h
  ·exact .inr (.inr ⟨x,cg x b h⟩)
 have n7:∀b∈fp,¬cI X' b:=λb hb o=>by
  rcases own b o with h |h
  ·exact absurd (Xl (be b hb) jO) (by rw[h];exact YD _)
  ·exact (f0 b hb).o h
 have rI:¬cI X' a:=λo=>by
  rcases own a o with h |h
  ·exact lD h
  ·exact absurd (I.fY h) (by rw[iO];exact YD _)
 have rJ:∀b∈fp,b≠a:=λb hb=>Xi (be b hb)
 -- kt SD SE lE SF
 let J:Nat->Shared->Prop:=λn s'=>∃i ys its c z',z'.s=s'/\Le (aT z.F (X.aS z.s.heap)) z'.F/\ae X' (dC Nt.length fr τ) z'/\af X.G z'.F ys its/\tn i z'.s.heap/\(∀b∈fp,Fp X' z' b)/\Fp X' z' a/\z'.s.heap.get? a=some (bK its c) /\
  cK ok g tc te (dC Nt.length fr τ) fin (xs.drop i) ys z'.M/\n+i=xs.length
 have loop:∀ s3:Shared,s3={ z.s with heap:=h1,toks:=z.s.toks+([]:List (Str×Value)).length } ->
   codeAny (model X.G.P X.G.w) X.A (.compLoop (.ListComp ap [⟨tg,iter,bd,0⟩] scope pos) 0 (.ref it) (.ref a) (compEnvC scope cl C X.env)) (RR (.ref a) C) s3:=by
  rintro s3 rfl;refine E7 (P:=λs'=>∃z' ys its n m',z'.s=s'/\xX X τ z fin a C z' ys its n m') (λs' ⟨z',ys,its,n,m',e,q⟩=>e ▸ GY _ _ z' ys its n m' q) J ?_ xs.length
   ⟨0,[],[],0,⟨aT z.F (X.aS z.s.heap),z.M,_⟩,rfl,Le.rfl,I0,.nil,n4,λb hb=>⟨?_,(f0 b hb).m,n7 b hb⟩,⟨I.m9.cA (Zd iO),I.hok.c9 (Zd iO),rI⟩,iN,w0,rfl⟩
  ·rintro n s' ⟨i,ys,its,c,z1,rfl,l1,I1,rv,st,Us,Va,VO,w,hn⟩;have lF:∀b∈[a],Fp X' z1 b:=λb hb=>(by rw[lA hb];exact Va);obtain⟨lp,Ip⟩:=I1.kU lF;have pA:aQ [a] z1.s.heap a=some (.pin (bK its c)):=gE (List.mem_singleton.mpr rfl) VO;have xZ:∀b∈fp,Fp X' ⟨aT z1.F (aQ [a] z1.s.heap),z1.M,z1.s⟩ b:=λb hb=>⟨(fo (kT λm=>rJ b hb (lA m))).trans (Us b hb).f,(Us b hb).m,(Us b hb).o⟩;have lz:Le z.F (aT z1.F (aQ [a] z1.s.heap)):=I.cB.tr (l1.tr lp);cases hx:xs[i]? with
   |none=>
    have hl:xs.length<=i:=List.getElem?_eq_none_iff.mp hx;rw[List.drop_of_length_le hl]at w;have A1:=T.done X' Ur U' i _ ⟨aT z1.F (aQ [a] z1.s.heap),z1.M,z1.s⟩ (λ_ _=>False) Ip lz xZ st w.1 hl;rw[U9]at A1;refine eM A1 λr s1 ⟨hr,I2⟩=>?_;subst hr;obtain⟨l3,I3⟩:=I2.jx (F:=z1.F) (λb hb=>⟨(lF b hb).f,(lF b hb).o⟩) Le.rfl I1.bs I1.cc;have e2:s1.heap.get? a=some (bK its c):=I2.hok.fz a _ (dt pA);have hL:X'.env.locals=C:=(by subst hX;rfl);obtain⟨m',x0,_⟩:=I3.loc;rw[hL]at x0;have l4:=l1.tr l3;have cY:s1.os=z.s.os:=by have:=I3.os;subst hX;exact this.trans I.os.symm
    have I5:=I.after (z':=⟨aN (aT z1.F (aQ [a] z1.s.heap)) (aQ [a] z1.s.heap),z1.M,s1⟩) l4 (by rw[<- Ur];exact I3.hok) cY I3.bare;have GZ:aN (aT z1.F (aQ [a] z1.s.heap)) (aQ [a] z1.s.heap) a=none:=fq pA;have G1:aN (aT z1.F (aQ [a] z1.s.heap)) (aQ [a] z1.s.heap) C=none:=by have:=I3.free.1;rw[hL]at this;exact this
    have G2:z1.M C=none:=by have:=I3.free.2;rw[hL]at this;exact this
    have no:∀{b:Addr},z.s.heap.objs.size<=b->X.aS z.s.heap b=none:=λ{b} hb=>by
     cases q:X.aS z.s.heap b with
     |none=>rfl
     |some f=>exact absurd (Xl (I.fY (I.fZ (h:=z.s.heap) (by rw[q];exact XH f)).1) hb) (YD _)
    have nO:∀{b:Addr},z.s.heap.objs.size<=b->¬cI X b:=λhb o=>absurd (Xl (I.fY o) hb) (YD _);exact⟨_,ys,its,c,m',rfl,⟨Le.aN (λb e=>(I.fZ e).2) l4,I5,⟨(ft (no (Zd iO))).trans GZ,Va.m,nO (Zd iO)⟩,⟨(ft (no (iO ▸ jO))).trans G1,G2,nO (iO ▸ jO)⟩,lD,x0,e2,
     (rv.up l3.d).up (cb.aN X.p9 l4),by rw[<- rv.len];exact Nat.le_of_lt w.2.1,w.2.2⟩⟩
   |some d=>
    obtain⟨rK,hd⟩:=List.getElem?_eq_some_iff.mp hx;rw[List.drop_eq_getElem_cons rK,hd]at w;have A1:=T.item X' Ur U' i _ ⟨aT z1.F (aQ [a] z1.s.heap),z1.M,z1.s⟩ d (λ_ _=>False) Ip lz xZ st w.1 hx;rw[U9]at A1;refine eM A1 λr s1 ⟨u,hr,h4⟩=>?_;subst hr;refine eM h4 λ_ s5 h5=>?_;obtain⟨l5,I5,r5,t5,n5⟩:=h5;rename_i F5;have f5:∀b∈fp,Fp X' ⟨F5,z1.M,s5⟩ b:=λb hb=>⟨n5 b hb,(Us b hb).m,n7 b hb⟩;obtain⟨Ut,Iq⟩:=I5.kU f5
    -- kt aS jP SG ii,kt list SH have grown
    have ii:∀ {τ7:St} {z7:Z}{gq:List D}{n8:List Value}{c':Nat}{h9:Heap},Le (aT F5 (aQ fp s5.heap)) z7.F->ae X' τ7 z7->τ7.length=(dC Nt.length fr τ).length->τ7.drop Nt.length=(dC Nt.length fr τ).drop Nt.length->(∀ b,b≠a->bg z7.s.heap h9 b)->h9.get? a=some (bK n8 c') ->
      (∀F,cb z7.F F->af X.G F gq n8)->cK ok g tc te (dC Nt.length fr τ) fin (xs.drop (i+1)) gq z7.M->∃m,m<n/\J m { z7.s with heap:=h9 }:=λ{τ7 z7 gq n8 c' h9} l7 I7 len UN kp o9 rel w7=>by
     obtain⟨u1,u2⟩:=I7.jx (fp:=fp) (h:=s5.heap) (F:=F5) (λb hb=>⟨n5 b hb,n7 b hb⟩) l7 I5.bs I5.cc;have bL:∀b∈fp,∃o,s5.heap.get? b=some o/\z7.F b=some (.pin o):=λb hb=>by
      obtain⟨o,ho⟩:=T.obj _ _ t5 b hb;exact⟨o,ho,l7 b _ (dt (gE hb ho))⟩
     have l8:Le (aT z1.F (aQ [a] z1.s.heap)) (aN z7.F (aQ fp s5.heap)):=l5.tr u1;obtain⟨v1,v2⟩:=u2.jx (fp:=[a]) (h:=z1.s.heap) (F:=z1.F) (λb hb=>⟨(lF b hb).f,(lF b hb).o⟩) l8 I1.bs I1.cc;have g0:=l8 a _ (dt pA);have Uu:z7.M a=none:=rG (z:=⟨aN z7.F (aQ fp s5.heap),z7.M,z7.s⟩) u2 g0;have Uv:aN (aN z7.F (aQ fp s5.heap)) (aQ [a] z1.s.heap) a=none:=fq pA;have v3:=(v2.b0 (t:=z7.s.toks) kp Uv Uu rI).Dm len.symm λk v q=>by
      have hk:¬k<Nt.length:=λhk=>by
       unfold dC at q;rw[XO (by simpa using hk),List.getElem?_replicate]at q;split at q <;> cases q
      have y:∀l:St,l[k]?=(l.drop Nt.length)[k-Nt.length]?:=λl=>by
       rw[List.getElem?_drop]
       congr 1
       lia
      rw[y,UN,<- y];exact q
     refine⟨n-1,by lia,i+1,gq,n8,c',⟨_,_,_⟩,rfl,l1.tr v1,v3,rel _ λb o e=>cb.aN jw l8 b o (cb.aN jw l7 b o e),?_,λb hb=>?_,⟨Uv,Uu,rI⟩,o9,w7,by lia⟩
     ·refine T.keep _ _ _ t5 λb hb o ho=>kp b (rJ b hb) o ?_;obtain⟨o',h1,h2⟩:=bL b hb;rw[ho]at h1;cases h1;exact I7.hok.fz b _ h2
     ·obtain⟨o',h1,h2⟩:=bL b hb;refine⟨(ft (kT λm=>rJ b hb (lA m))).trans (fq (gE hb h1)),rG (z:=z7) I7 h2,n7 b hb⟩
    refine go (t:=λenv=>assign tg env u) (n6 _ ⟨_,z1.M,s5⟩ d u _ _ Iq (r5.up Ut.d) (GV lC w.2.2) fun τ6 z6 l6 I6 q6=>?_);obtain⟨q6,x4,x5⟩:=q6;refine go (t:=λenv=>forIn bd true λc r=>if r=true then do let ok <- isTrue c env (eval c env);pure (YY ok) else pure (YY r)) (f6 τ6 z6 _ _ I6 q6 λG3 z7 l7 I7 q7=>?_)
    have x6:∀{τ8:St} {z8:Z},Le (aT F5 (aQ fp s5.heap)) z8.F->ae X' τ8 z8->z8.s.heap.get? a=some (bK its c):=λl8 I8=>I8.hok.fz a _ (l8 a _ (Ut a _ (l5 a _ (dt pA))));cases G3 with
    |false=>
     rw[if_neg XJ]at q7 ⊢;exact ii (h9:=z7.s.heap) (l6.tr l7) I7 x4 x5 (λ_ _ _ e=>e) (x6 (l6.tr l7) I7) (λF l=>rv.up λb o e=>l b o ((l6.tr l7) b _ (Ut b _ (l5 b _ (lp b _ e))))) q7
    |true=>
     rw[if_pos rfl]at q7 ⊢;refine go (t:=λenv=>eval ap env) (ic τ6 z7 _ _ I7 q7 λy z8 v l8 I8 VP VQ=>?_);have l8:=l6.tr (l7.tr l8);refine append_at (hsz:=by rw[W4,<- rv.len];exact Nat.le_of_lt w.2.1) (x6 l8 I8) λh9 sb o9=>?_;rw[show its.toArray.push v=(its++[v]).toArray by simp]at o9;exact ii (h9:=h9) l8 I8 x4 x5 (λb hb o q=>(sb.2 b hb).trans q) o9 (λF l=>(rv.up λb o e=>l b o (l8 b _ (Ut b _ (l5 b _ (lp b _ e))))).app (.cons (by rw[<- Ur];exact VP.up l) .nil)) VQ
  ·exact (fo (by
    cases q:X.aS z.s.heap b with
    |none=>rfl
    |some f=>exact absurd (I.fZ (h:=z.s.heap) (by rw[q];exact XH f)).1 (f0 b hb).o)).trans (f0 b hb).f
 exact codeAny_compStart_list (loop _ rfl) (T.self X.A 0 _ _ _ n4 (loop _ rfl))
theorem G4 {ti:DI} (L:iM X scope Nt fr) (lB:X.calm=true) (hi:PI X tg iter ti) (hg:∀ cl C,PG (dE X scope (Nt++fr.map (·.1)) cl C) tg (cq g)) (lC:g.lt Nt.length=true)
  (hc:∀cl C,PF (dE X scope (Nt++fr.map (·.1)) cl C) bd tc) (he:∀cl C,PE (dE X scope (Nt++fr.map (·.1)) cl C) ap te) (hs:∀x,foldedSetIterable iter X.env x=pure x) :
  PE X (.ListComp ap [⟨tg,iter,bd,0⟩] scope pos) (rE Nt.length fr g ti tc te):=fun τ z Q R I h k=>by
 obtain⟨cl,e1,e2,e3⟩:=wN (scope:=scope) (env:=X.env) λy hy hf=>I.ok.has _ (.inl (L.free y hy hf));rw[eval_ListComp];refine wpAny_comprehension_free (use:=none) rfl hs e1 L.kind L.names (hi τ z _ _ I h λxs ok z2 it l2 I2 hit w0=>?_);refine xY (RR:=λal C r s'=>compPost (model X.G.P X.G.w) X.A (XE X) none R al C r s') L lB I2 e2 e3 hit (hg cl) lC (hc cl) (he cl) w0 λA C z' ys its n m' q=>?_;refine⟨m',q.ns,λh' sb=>?_⟩;have J:=q.nZ.b0 (t:=z'.s.toks) (h':=h') (λb hb o e=>(sb.2 b hb).trans e) q.T3.f q.T3.m q.T3.o;exact J.rB ⟨q.fl.f,q.fl.m,q.fl.o⟩ k (l2.tr q.le) q.rel ((sb.2 A q.ne).trans q.obj) q.sz q.fin
theorem G5 {ti:DI}{y:Str}{j:Nat}{py jQ:Pos} (L:iM X scope Nt fr) (lB:X.calm=true) (hN:ik X [j] [y]) (hi:PI X tg iter ti) (hg:∀ cl C,PG (dE X scope (Nt++fr.map (·.1)) cl C) tg (cq g)) (lC:g.lt Nt.length=true)
  (hc:∀cl C,PF (dE X scope (Nt++fr.map (·.1)) cl C) bd tc) (he:∀cl C,PE (dE X scope (Nt++fr.map (·.1)) cl C) ap te) (hs:∀x,foldedSetIterable iter X.env x=pure x)
  (rL:swapsWith (.ListComp ap [⟨tg,iter,bd,0⟩] scope pos) (some (.Name y py)) jQ.line X.env=pure true) :
  PS X (.Assign [.Name y py] (.ListComp ap [⟨tg,iter,bd,0⟩] scope pos) jQ) (GR Nt.length fr g ti tc te j):=fun τ z e R I h k=>by
 obtain⟨cl,e1,e2,e3⟩:=wN (scope:=scope) (env:=X.env) λy hy hf=>I.ok.has _ (.inl (L.free y hy hf));rw[exec_Assign_Name_used _ _ _ _ rL];refine WY (wpAny_standAt (WY ?_));show W X (do let _ <- comprehension (.ListComp ap [⟨tg,iter,bd,0⟩] scope pos) scope X.env _ (newList []) false (eval iter X.env) (some (assign (.Name y py) X.env))) _ z.s
 refine WY (eM (wpAny_comprehension_free (use:=some (assign (.Name y py) X.env)) (Q:=λ_ s'=>R .next s') rfl hs e1 L.kind L.names (hi τ z _ _ I h λxs ok z2 it l2 I2 hit w0=>?_)) λ_ s' hq=>W2 (W2 hq));refine xY (RR:=λal C r s'=>compPost (model X.G.P X.G.w) X.A (XE X) (some (assign (.Name y py) X.env)) (λ_ s'=>R .next s') al C r s') L lB I2 e2 e3 hit (hg cl) lC (hc cl) (he cl) w0 λA C z' ys its n m' q=>?_;obtain⟨oC,es,ep,G6,rest⟩:=id q.ns;have UP:∀b∈[C],Fp X z' b:=λb hb=>by rw[lA hb];exact q.T3
 obtain⟨lp,Ip⟩:=q.nZ.kU UP;have Vb:aQ [C] z'.s.heap C=some (.pin oC):=gE (List.mem_singleton.mpr rfl) G6;have VR:Fp X ⟨aT z'.F (aQ [C] z'.s.heap),z'.M,z'.s⟩ A:=⟨(fo (kT λm=>q.ne (lA m))).trans q.fl.f,q.fl.m,q.fl.o⟩;show W X (assign (.Name y py) X.env (.ref A)) (λ_ s'=>∃m,_/\_) z'.s;refine Ip.rB (R:=λv s'=>W X (assign (.Name y py) X.env v) _ s') VR (λd z3 u l3 I3 r3 q3=>?_) Le.rfl (q.rel.up lp.d) q.obj q.sz q.fin;refine vL hN τ z3 d u (fun τ' M'=>τ'=τ.set j (some d)/\M'=z3.M) _ I3 r3 ⟨rfl,rfl⟩ fun τ4 z4 l4 I4 q4=>?_;have g4:=(l3.tr l4) C _ (dt Vb);have h4:z4.s.heap.get? C=some oC:=I4.hok.fz C _ g4;refine⟨m',⟨oC,es,ep,h4,rest⟩,λf8 sb=>?_⟩;obtain⟨u1,u2⟩:=I4.jx (fp:=[C]) (F:=z'.F) (λb hb=>⟨(UP b hb).f,(UP b hb).o⟩) (l3.tr l4) q.nZ.bs q.nZ.cc;have I6:=u2.b0 (t:=z4.s.toks) (h':=f8) (λb hb o e=>(sb.2 b hb).trans e) (fq Vb) (rG (z:=z4) I4 g4) q.T3.o;refine k.nx τ4 ⟨_,_,_⟩ ((l2.tr q.le).tr u1) I6 ?_;rw[q4.1];show e.nx _ z4.M;rw[q4.2];exact q3
end
end N
end
section
set_option maxHeartbeats 1000000
namespace N
open PySem PySem.Spec PyProof.Rows L2
def cL (G:Gx) (k:Nat) (f:Addr) (sp:Sp):Prop:=∃(fd:FuncData) (ps:List Str) (K:PySem.W.Frag),bf G k f fd ps sp/\PySem.W.keepIn K (.ref f)=true/\bM K fd ps []/\∀z:Z,Mod G->Bs G z.F->aG G z.F z.M z.s.heap->K.In z.s.heap
def rM (d:D) (k:Addr->Prop):Prop:=match d with
 |.ref a=>k a
 |_=>False
def x7 (ca:Addr->Sp->Prop) (E:XQ) (ta:DE) (t:DA):DE:=fun τ M q=>ta τ M λx M1=>rM x λf=>∃sp,ca f sp/\t τ M1 λds M2=>sp ds M2 q E
noncomputable def x8:D->String->Option Bool
 |.tup _,"tuple"=>some true
 |.str _,"tuple"=>some false
 |.str _,"bool"=>some false
 |.str _,"str"=>some true
 |.str _,"int"=>some false
 |.int _,"tuple"=>some false
 |.int _,"bool"=>some false
 |.int _,"str"=>some false
 |.int _,"int"=>some true
 |.bl _,"bool"=>some true
 |_,_=>none
def rN:QN:=λds M q=>match ds with
 |[x,.ty "list"]=>a9 x M λ_=>q (.bl true) M
 |[x,.ty T]=>∃b,x8 x T=some b/\q (.bl b) M
 |[.int _,.tup [.ty "str",.ty "int"]]=>q (.bl true) M
 |[.str _,.tup [.ty "str",.ty "int"]]=>q (.bl true) M
 |_=>False
section
variable {X:Cx}{x:Str}{pos:Pos}{T:String}
theorem G7 (hg:Gl X x) (hm:X.G.mg x=none) (hv:bootBuiltins x=some (.type T)) (hn:x≠"__name__") (cJ:(x == ("__debug__" : Str))=false):PE X (.Name x pos) (Tw (.ty T)):=fun τ z Q R I h k=>
 eG I hg hm hv hn cJ (k (.ty T) z _ Le.rfl I (by rw[ab]) h)
theorem x9 {k:Nat}{ca:Addr->Sp->Prop}{E:XQ}{Uw e:Expr}{es:List Expr}{ta:DE}{t:DA} (hC:∀ f sp,ca f sp->cL X.G k f sp) (hr:bx k X.A) (hx:dU X E) (hf:PE X Uw ta) (ha:PA X (e::es) t)
  (eP:starEach (e::es) X.env=(false,eval e X.env)::starEach es X.env) (c0:(backTo pos (starEach es X.env)).any (·.1)=false)
  (G8:eval (.Call Uw (e::es) [] pos) X.env=(do callWith pos (<- eval Uw X.env) [] (backTo pos (starEach (e::es) X.env)) (backToKw pos (keywordEach [] X.env)))) :
  PE X (.Call Uw (e::es) [] pos) (x7 ca E ta t):=fun τ z Q R I h K=>
 Call_ (hf τ z _ _ I h λd z1 u l1 I1 r1 q1=>by
  unfold rM at q1;split at q1
  ·obtain⟨sp,hc,q1⟩:=q1;rw[ab]at r1;subst r1;obtain⟨fd,ps,K0,F,hk,hb,hi⟩:=hC _ sp hc;exact PySem.W.callWith_K (hi z1 I1.ok.bp I1.bs I1.hok) hk (ha pos τ z1 _ _ I1 q1 λvs z2 us l2 I2 r q=>⟨hi z2 I2.ok.bp I2.bs I2.hok,nU (x:=X.G.ex) (bc:=[]) (ds:=[]) F hr hb (λ_ _ _=>.nil) hx I2 (I2.bs.x.tr I2.cB) (hi z2 I2.ok.bp I2.bs I2.hok) r (by rw[Xo];exact q) λd z3 u l3=>K d z3 u (l1.tr (l2.tr l3))⟩) eP c0
  ·exact q1.elim) G8
theorem G9:CB X (.builtin "isinstance") rN:=fun τ z Q R ds us I rs q k=>by
  have tp:∀ {t:Value},ab X.G z.F (.tup [.ty "str",.ty "int"]) t->∃ a dd n sl,t=.ref a/\z.s.heap.get? a=some { cls:=.type "tuple",dict:=dd,data:=.seq [Zc "str",Zc "int"].toArray n,slots:=sl }:=λr=>by
    obtain⟨a,us,⟨cls,dd,data,sl⟩,rfl,l⟩:=I.cW r;obtain⟨e1,_,⟨n,e3⟩,_⟩:=l.t;obtain⟨u1,u2,rfl,q1,q2⟩:=gG l.r;rw[ab]at q1 q2;have he:=l.e;simp only at e1 e3;subst e1 e3 q1 q2;exact⟨a,dd,n,sl,rfl,he⟩
  unfold rN at q;split at q
  · obtain⟨u,v,rfl,ru,rv⟩:=gG rs;rw[ab]at rv;subst rv;obtain⟨a,ds,us,n,rfl,l,q⟩:=I.a9 ru q;exact PySem.W.kia_one (K:=X.G.K) PySem.W.kitx_list I.bT ⟨_,l.e,rfl⟩ (qJ "list" X.G.K) (λz=>nomatch z) λtk=>I.fin k Le.rfl (by rw[ab]) q _
  · rename_i x T;obtain⟨b,hb,q⟩:=q;obtain⟨u,v,rfl,ru,rv⟩:=gG rs;rw[ab]at rv;subst rv;have bl:∀ {b:Bool},ab X.G z.F (.bl b) (.bool b):=(by intro b;rw[ab]);unfold x8 at hb;split at hb <;> cases hb
    · obtain⟨a,us,o,rfl,l⟩:=I.cW ru;exact IsiPair.tuple_tuple l.e l.t.cls (k _ z _ Le.rfl I bl q)
    all_goals rw[ab]at ru
    all_goals first
      | (obtain⟨t,rfl⟩:=ru
         first
          |exact IsiPair.str_tuple (I.fin k Le.rfl bl q _)
          |exact IsiPair.str_bool (I.fin k Le.rfl bl q _)
          |exact IsiPair.str_str (k _ z _ Le.rfl I bl q)
          |exact IsiPair.str_int (I.fin k Le.rfl bl q _)
          |exact IsiPair.int_tuple (I.fin k Le.rfl bl q _)
          |exact IsiPair.int_bool (I.fin k Le.rfl bl q _)
          |exact IsiPair.int_str (I.fin k Le.rfl bl q _)
          |exact IsiPair.int_int (k _ z _ Le.rfl I bl q))
      |(subst ru;exact IsiPair.bool_bool (k _ z _ Le.rfl I bl q))
  · obtain⟨u,v,rfl,ru,rv⟩:=gG rs;obtain⟨a,dd,n,sl,rfl,h1⟩:=tp rv;rw[ab]at ru;obtain⟨t,rfl⟩:=ru;refine PySem.W.kia_tup (its:=[.type "str",.type "int"]) PySem.W.kitx_int I.bT Zg h1 ?_ (λz=>nomatch z) λtk=>I.fin k Le.rfl (by rw[ab]) q _;unfold PySem.W.kitAny;rw[E8 X.G.K];show PySem.W.kitAny X.G.K (.type "int") [.type "int"]=_;unfold PySem.W.kitAny;rw[qJ "int" X.G.K]
  · obtain⟨u,v,rfl,ru,rv⟩:=gG rs;obtain⟨a,dd,n,sl,rfl,h1⟩:=tp rv;rw[ab]at ru;obtain⟨t,rfl⟩:=ru;refine PySem.W.kia_tup (its:=[.type "str",.type "int"]) PySem.W.kitx_str I.bT Zg h1 ?_ (λz=>nomatch z) λtk=>I.fin k Le.rfl (by rw[ab]) q _;unfold PySem.W.kitAny;rw[qJ "str" X.G.K]
  · exact q.elim
theorem jR {G:Gx}{F:Fz}:∀{us:List Value}{ys:List Str},StrsAre us ys->af G F (ys.map D.str) us
 |_,_,.nil=>.nil
 |_,_,.cons x t r=>.cons gD (jR r)
end
end N
end
section
set_option maxHeartbeats 1000000
namespace N
open PySem PySem.Spec PyProof.Rows L2
open PySem.W (kdu_collect kdl_dict)
def x':QN:=n1 λx M q=>cu x M λkvs=>∃ss:List Str,kvs.map (·.1)=ss.map Yr/\ss.length<64/\∀ys:List Str,ys.Perm ss->sortedS ys=true->bQ (ys.map D.str) M q
theorem ya:∀{al:List Value}{ss:List Str},al.length=ss.length->(∀(i:Nat) (v:Value) (x:Str),al[i]?=some v->ss[i]?=some x->∃t,v=.str x t)->StrsAre al ss
 |[],[],_,_=>.nil
 |[],_::_,h,_=>by cases h
 |_::_,[],h,_=>by cases h
 |v::al,x::ss,h,g=>by
  obtain⟨t,rfl⟩:=g 0 v x rfl rfl;exact .cons x t (ya (by simpa using h) λi v' VS h1 h2=>g (i+1) v' VS h1 h2)
theorem Ha {X:Cx} (hc:X.calm=true):CB X (.builtin "sorted") x':=iH fun τ z Q R d v I r q k=>by
 obtain⟨a,kvs,vs,rfl,l,ss,hk,gL,q⟩:=I.cu r q;obtain⟨ep,gr⟩:=l.d.dictAt;have hlen:kvs.length=vs.length:=Paired.length l.r;have rO:kvs.length=ss.length:=by have:=congrArg YZ hk;rw[W0,W0]at this;exact this
 have z0:=l.z;refine Calls.call_function_entry kind_sorted plain_sorted entry_sorted (args_sorted1 _) ?_;unfold Builtin.«sorted»;refine WY (m:=checkCount "sorted" 1 1 _) (W2 ?_);refine WY (kdu_collect (A:=X.A.in1) (kdl_dict (knd:=bo X.G.P X.G.w) (kvs:=vs) (ep:=ep) l.n) (I.ok.hd hc) gr (by rw[<- hlen];exact z0) λh' tk al keep items=>?_);have hl:al.toList.length=vs.length:=by rw[Xp];exact items.1
 refine WY (wpAny_newList ?_ (by rw[hl,<- hlen];exact z0));have hS:StrsAre al.toList ss:=ya (by rw[hl,<- hlen,rO]) λi v x h1 h2=>by
  obtain⟨c,y,hx,Hb⟩:=items.2 i v (by rw[<- YE];exact h1);have e1:(vs.map (·.1))[i]?=some c:=by rw[Xj,hx];rfl
  rw[<- (lr l.r).2,hk,Xj,h2]at e1;have e2:Yr x=c:=XD e1;subst e2;rcases d8 (show fm (Yr x) _=true from Hb) with ⟨i,t,e1,_⟩ |⟨y,t,e1,e2⟩
  ·cases e1
  ·cases e1;exact⟨t,e2⟩
 have eR:(h'.push { cls:=.type "list",data:=.seq al.toList.toArray }).get? h'.objs.size=some (seqObj "list" al.toList.toArray 0):=W5 _ rfl;refine WY (XU (Xw slot_list_sort ⟨_,eR,rfl⟩ entry_list_sort (list_sort_treeK strKind_oneLt eR hS.keysOf (λv₁ v₂ rest e=>keyKind_strs (by rw[<- e];exact hS)) (by rw[hl,<- hlen,rO];exact gL) λbm Ti a2=>⟨_,rfl,?_⟩) (args_list_sort _)));obtain⟨ys,b1,b2,Tj⟩:=sorted_out_str hS Ti a2;refine W2 ⟨_,rfl,?_⟩;obtain⟨e,rP⟩:=sortedHeap_at (out:=(arrOf bm).map (·.2)) eR;have rs:=jR (G:=X.G) (F:=z.F) b1;have J:=I.bP (t:=tk) keep;refine J.lst (n:=e) (t:=tk) k Le.rfl rs (λb o hb=>?_) (W3 _) ?_ (by rw[<- rs.len,W0,b2.length_eq,<- rO];exact z0) (q ys b2 Tj)
 ·have be:b<h'.objs.size:=Xh hb;rw[sortedHeap_old (Xi be) (by rw[Xx];exact Yo be)];exact WZ _ hb
 ·rw[rP];rfl
end N
end
section
namespace L2
open PySem PySem.Spec PyProof.Rows
theorem Hc (t:SetTable) (n:Nat):(t.orStandIn n).led=t.led:=by
 unfold SetTable.orStandIn;split <;> rfl
theorem Hd (t:SetTable) (es:Array (Int×Value)) (h:Int) (x:Value):(layNew t es h x).2.1.led=t.led:=by
 unfold layNew;split
 ·exact Hc _ _
 ·rfl
theorem yb {yc He Hf:Nat}{led plain:Bool}{hs:Array Int}{r:SetTable×Array Nat} (h:SetTable.laid yc He Hf led plain hs=some r):r.1.led=led/\r.1.plain=plain:=by
 unfold SetTable.laid at h;cases hc:SetTable.layClean yc hs with
 |none=>rw[hc]at h;cases h
 |some WH=>rw[hc]at h;cases h;exact⟨rfl,rfl⟩
theorem Hg (t:SetTable) (es:Array (Int×Value)) (n:Nat):(relayAll t es n).2.1.led=t.led:=by
 unfold relayAll;cases hr:t.relaid (es.map (·.1)) n with
 |none=>rfl
 |some r=>
  obtain⟨t',Hh⟩:=r;have:=yb hr;dsimp only;split
  ·exact this.1
  ·rfl
theorem Hi (t:SetTable) (es:Array (Int×Value)) (n:Nat) (hp:t.plain=false):(relayAll t es n).2.1.plain=false:=by
 unfold relayAll;cases hr:t.relaid (es.map (·.1)) n with
 |none=>rfl
 |some r=>
  obtain⟨t',Hh⟩:=r;have:=yb hr;dsimp only;split
  ·exact this.2.trans hp
  ·rfl
noncomputable def eS:Value->Str
 |.str x _=>x
 |_=>Str.empty
noncomputable def eT (es:List (Int×Value)):List Str:=es.map λe=>eS e.2
def cM (prog:Program) (w:World) (h:Heap) (a:Addr) (zs:List Str):Prop:=
 ∃(es:Array (Int×Value)) (ep:Nat) (t:SetTable),h.get? a=some { cls:=.type "set",dict:=none,data:=.set es ep t,slots:=#[] }/\ElemsOf (strKind prog w) es.toList/\t.fits es.size=true /\
  t.led=(!w.params.followText "set-order")/\(t.plain=false\/es=#[])/\es.size<4000/\(eT es.toList).Nodup/\∀x,x∈eT es.toList ↔ x∈zs
theorem cM.at {prog:Program}{w:World}{h h':Heap}{a:Addr}{zs:List Str} (S:cM prog w h a zs) (k:∀o,h.get? a=some o->h'.get? a=some o):cM prog w h' a zs:=by
 obtain⟨es,ep,t,ho,r⟩:=S;exact⟨es,ep,t,k _ ho,r⟩
section
variable {prog:Program}{w:World}{A:Around}{E:Value->Shared->Prop}{s:Shared}{a:Addr}{zs:List Str}
theorem yd {es:List (Int×Value)} (h:ElemsOf (strKind prog w) es) {e:Int×Value} (he:e∈es):∃t,e.2=.str (eS e.2) t/\e.1=(strKind prog w).hash (eS e.2):=by
 obtain⟨⟨k,hk,hh⟩,_⟩:=h e he;obtain⟨t,ht⟩:=Value.isStrOf_shape (x:=k) (v:=e.2) hk;have:eS e.2=k:=by rw[ht];rfl
 exact⟨t,by rw[this];exact ht,by rw[this];exact hh⟩
theorem ye {es:List (Int×Value)} (h:ElemsOf (strKind prog w) es) (x:Str):(∃e∈es,(strKind prog w).is x e.2=true) ↔ x∈eT es:=by
 constructor
 ·rintro⟨e,he,hx⟩;obtain⟨t,ht⟩:=Value.isStrOf_shape (x:=x) (v:=e.2) hx;exact List.mem_map.mpr ⟨e,he,by rw[ht];rfl⟩
 ·intro hx;obtain⟨e,he,rfl⟩:=List.mem_map.mp hx;obtain⟨t,ht,_⟩:=yd h he;refine⟨e,he,?_⟩;rw[ht];exact strKind_is _ _ _ _
theorem yf {es jS:Array (Int×Value)}{ep:Nat}{t t':SetTable}{Q:Unit->Shared->Prop} (ho:s.heap.get? a=some { cls:=.type "set",dict:=none,data:=.set es ep t,slots:=#[] }) (hz:jS.size<4096)
  (h:∀h',YM a s.heap h'->h'.get? a=some { cls:=.type "set",dict:=none,data:=.set jS (ep+1) t',slots:=#[] }->Q () { s with heap:=h' }):wpAny (model prog w) A (storeSet a jS t') Q E s:=by
 refine wpAny_storeSet_of (ep:=ep) (t:=t) ho rfl (h _ (Xu s.heap a _) ?_) (fits_of_scanBound hz);have:=Xz (Obj.putSet jS t') ho (by rw[putSet_of (ep:=ep) (t:=t) jS t' rfl];rfl);rw[this,putSet_of (ep:=ep) (t:=t) jS t' rfl]
theorem Hj {l l':List Str}{x:Str} (p:List.Perm l' (l++[x])) (nd:l.Nodup) (h:x ∉ l):l'.Nodup:=by
 refine p.nodup_iff.mpr (List.nodup_append.mpr ⟨nd,by simp,λy hy z hz=>?_⟩);rw[List.mem_singleton.mp hz];exact λe=>h (e ▸ hy)
theorem Hk {x:Str}{tk:Tok}{Q:Bool->Shared->Prop} (S:cM prog w s.heap a zs) (hl:zs.length<3900)
  (h:∀b h',YM a s.heap h'->cM prog w h' a (zs++[x])->Q b { s with heap:=h' }):wpAny (model prog w) A (setAddHashed a (.str x tk) ((strKind prog w).hash x)) Q E s:=by
 obtain⟨es,ep,t,ho,eg,hf,jT,c0,hsz,nd,hm⟩:=S;have SI:es.size<3950:=by
  have:=List.Nodup.length_le_of_subset nd λy hy=>(hm y).mp hy;rw[eT,W0,Xp]at this;lia
 have nw:(strKind prog w).is x (.str x tk)=true:=strKind_is _ _ _ _;have eU:(Value.str x tk).scannable=true:=rfl;unfold setAddHashed setAddHashedIn;refine XU (WY (Yt ho rfl hf ?_));dsimp only;rw[byScan_of eU (by show es.size<4096;lia) eg,if_pos rfl];unfold setAddByScan;refine WY (WY (wpAny_rule (WY (wpAny_setScan_of nw ho rfl hf eg ?_))));cases hr:List.findIdx? (λe=>(strKind prog w).is x e.2) es.toList with
 |some j=>
  obtain⟨hj,Hl,_⟩:=List.findIdx?_eq_some_iff_getElem.mp hr;have hx:x∈zs:=(hm x).mp ((ye eg x).mp ⟨es.toList[j],List.getElem_mem hj,Hl⟩);refine W2 (W2 ?_);refine h false s.heap (Heap.SameBut.refl a s.heap) ⟨es,ep,t,ho,eg,hf,jT,c0,hsz,nd,λy=>?_⟩;rw[hm y,YR,List.mem_singleton];exact⟨.inl,λz=>z.elim id λe=>e ▸ hx⟩
 |none=>
  have hx:x ∉ eT es.toList:=λz=>by
   obtain⟨e,he,q⟩:=(ye eg x).mpr z;have:=List.findIdx?_eq_none_iff.mp hr e he;rw[q]at this;cases this
  have jU:=layNew_perm t es ((strKind prog w).hash x) (.str x tk);have jV:=layNew_fits t es ((strKind prog w).hash x) (.str x tk);have jW:=Hd t es ((strKind prog w).hash x) (.str x tk);dsimp only;generalize layNew t es ((strKind prog w).hash x) (.str x tk)=L at jU jV jW ⊢;obtain⟨cN,t1,SJ,SK⟩:=L;dsimp only at jU jV jW ⊢;rw[Array.toList_push]at jU;have yg:ElemsOf (strKind prog w) cN.toList:=(eg.push nw eU).perm jU;have lG:(eT cN.toList).Perm (eT es.toList++[x]):=by
   have:=jU.map (λe:Int×Value=>eS e.2);rw[Xn]at this;exact this
  have yh:=Hj lG nd hx;have jX:∀y,y∈eT cN.toList ↔ y∈zs++[x]:=λy=>by
   rw[lG.mem_iff,YR,YR,hm y]
  have hs1:cN.size=es.size+1:=by
   have:=jU.length_eq;rw[Xf,Xp,Xp]at this;simpa using this
  have Vc:∀(b:Bool) {s₁:Shared}{Q':Unit->Shared->Prop},Q' () s₁->wpAny (model prog w) A (match b with |true=>rule "set.scan.the-table-gave-way" |false=>pure ()) Q' E s₁:=λb s₁ Q' q=>by
   cases b
   ·exact W2 q
   ·exact wpAny_rule q
  refine WY (Vc _ ?_);cases e:t1.plain
  case' false=>
   rw[if_neg XJ];refine WY (W2 ?_);simp only[if_true];have hf2:=jV;have hl2:t1.led=t.led:=jW;have lH:t1.plain=false:=e;clear e jV jW;generalize t1=t2 at hf2 hl2 lH ⊢
  case' true=>
   rw[if_pos rfl,hashByValue_scannable 8 eU];refine WY (W2 ?_);simp only[show plainKind (.str x tk)=false from rfl,Bool.false_eq_true,if_false];have hf2:=SetTable.fits_plain_off jV;have hl2:({ t1 with plain:=false }:SetTable).led=t.led:=jW;have lH:({ t1 with plain:=false }:SetTable).plain=false:=rfl;clear e jV jW;generalize ({ t1 with plain:=false }:SetTable)=t2 at hf2 hl2 lH ⊢
  all_goals
   refine WY (yf ho (by lia) λh1 yi yj=>?_);split
   ·have hp:=relayAll_perm t2 cN (SetTable.grown cN.size);have hfr:=relayAll_fits t2 cN (SetTable.grown cN.size);have hlr:=Hg t2 cN (SetTable.grown cN.size);have rQ:=Hi t2 cN (SetTable.grown cN.size) lH;generalize relayAll t2 cN (SetTable.grown cN.size)=R at hp hfr hlr rQ ⊢;obtain⟨rR,t3,g2⟩:=R;dsimp only at hp hfr hlr rQ ⊢;have hs2:rR.size=cN.size:=(by rw[<- Xp,hp.length_eq,Xp]);have nN:(eT rR.toList).Perm (eT cN.toList):=hp.map _;refine WY (Vc _ (WY (yf (s:={ s with heap:=h1 }) yj (by lia) λh2 Hm ho2=>W2 (W2 ?_))));exact h true h2 (yi.trans Hm) ⟨rR,_,t3,ho2,yg.perm hp,hfr,by rw[hlr,hl2,jT],.inl rQ,by lia,nN.nodup_iff.mpr yh,λy=>(nN.mem_iff).trans (jX y)⟩
   ·exact W2 (W2 (h true h1 yi ⟨cN,_,t2,yj,yg,hf2,by rw[hl2,jT],.inl lH,by lia,yh,jX⟩))
end
end L2
namespace L2
open PySem PySem.Spec PyProof.Rows
theorem yk:∀{vs:List Value}{ss:List Str}{i:Nat}{v:Value},StrsAre vs ss->vs[i]?=some v->∃(x:Str) (t:Tok),ss[i]?=some x/\v=.str x t
 |_,_,i,v,.nil,e=>by simp at e
 |_,_,0,v,.cons x t _,e=>by simp at e;exact⟨x,t,rfl,e.symm⟩
 |_,_,i+1,v,.cons x t r,e=>by
  obtain⟨y,u,h1,h2⟩:=yk (i:=i) r (by simpa using e);exact⟨y,u,by simpa using h1,h2⟩
section
variable {prog:Program}{w:World}{A:Around}{E:Value->Shared->Prop}{s:Shared}
noncomputable def eV (w:World):Obj:={ cls:=.type "set",dict:=none,data:=.set #[] 0 (.fresh 0 0 (!w.params.followText "set-order")) }
theorem Hn {h:Heap}{a:Addr} (e:h.get? a=some (eV w)):cM prog w h a []:=by
 refine⟨#[],0,_,e,λx hx=>?_,by rfl,rfl,.inr rfl,by decide,List.nodup_nil,λx=>Iff.rfl⟩;simp at hx
theorem Ho (a:Value) {Q₁:Value->Shared->Prop} (h:Q₁ (.ref s.heap.objs.size) { s with heap:=s.heap.push (eV w) }) :
  codeAny (model prog w) A (.call (.builtin "set.__new__") ⟨[.type "set",a],[]⟩) (wants Q₁ E) s:=by
 refine codeAny_of_tree ?_;show wpAny _ A.in1 (checkBuiltinCall "set.__new__" ⟨[.type "set",a],[]⟩ >>= λ_=>again (.builtin "set.__new__" ⟨[.type "set",a],[]⟩)) _ _ s;refine WY (wpAny_of_eq (F.newCall_set_1 a) (W2 ⟨Yp F.plain_set_new _,Yh F.entry_set_new ?_⟩));rw[XM F.plain_set_new _];unfold Builtin.«set.__new__» Builtin.Frozenset.newClass;have hsub:=sub_set_self;obtain⟨hp,g,d,tk,os⟩:=s;dsimp only at h ⊢
 wp_walk
 refine wpAny_askSetting (W2 ?_);dsimp only;simp only[newObj];exact WY (wpAny_alloc (W2 (W2 h)))
end
end L2
namespace L2
open PySem PySem.Spec PyProof.Rows
theorem n9 {ys N:List Str} (h:∀x∈ys,x∈N):∀x,x∈ys ↔ x∈N.filter (λz=>decide (z∈ys)):=λx=>by
 rw[List.mem_filter,decide_eq_true_iff];exact⟨λz=>⟨h x z,z⟩,λz=>z.2⟩
theorem cM.eW {prog:Program}{w:World}{h:Heap}{a:Addr}{zs zs':List Str} (S:cM prog w h a zs) (e:∀x,x∈zs ↔ x∈zs'):cM prog w h a zs':=by
 obtain⟨es,ep,t,ho,r1,r2,r3,r4,r5,Vd,r7⟩:=S;exact⟨es,ep,t,ho,r1,r2,r3,r4,r5,Vd,λx=>(r7 x).trans (e x)⟩
section
variable {prog:Program}{w:World}{A:Around}{R:Result->Shared->Prop}{I:Addr}{fp wr:List Addr}{G:Array GenState->Array GenState->Prop}{n:Nat}{P:Nat->Value->Prop}{St:Nat->Shared->Prop}
theorem Hr (W:WalksS prog w A.in1 I fp wr G n P St) (S:Addr) (hS:S ∉ fp) (zs:List Str) (hn:n=zs.length) (oe:∀ i v,P i v->∃ (x:Str) (t:Tok),zs[i]?=some x/\v=.str x t) {N:List Str} (hN:N.length<3900) (hb:∀ x∈zs,x∈N) :
  ∀(k i:Nat) (s:Shared),n-i=k->i<=n->St i s->cM prog w s.heap S (zs.take i)->(∀s',Moved (S::wr) G s s'->cM prog w s'.heap S zs->R (.ok (.ret .none)) s') ->
   codeAny (model prog w) A (.builtin "set.update.loop" ⟨[.ref S,.ref I],[]⟩) R s:=by
 have hw:S ∉ wr:=λh=>hS (W.sub _ h);have sub:∀b∈wr,b∈S::wr:=λb h=>W8 _ h;intro k
 induction k with
 |zero=>
  intro i s hk hi st hs q;obtain rfl:i=n:=by lia
  refine Yh F.entry_set_update_loop ?_;rw[XM F.plain_set_update_loop _];show wpAny _ A.in1 (pyNext (.ref I) >>= _) _ _ s;refine WY (W.done s _ _ st λs' m=>?_);refine W2 (q s' (m.mono sub) ?_);rw[List.take_of_length_le (by lia)]at hs;exact hs.at λo e=>m.heap S o hw e
 |succ k ih=>
  intro i s hk hi st hs q;have lt:i<n:=by lia
  refine Yh F.entry_set_update_loop ?_;rw[XM F.plain_set_update_loop _];show wpAny _ A.in1 (pyNext (.ref I) >>= _) _ _ s;refine WY (W.item i s _ _ lt st λv s1 hP n4 m=>?_);obtain⟨x,t,hx,rfl⟩:=oe i v hP;have hs1:=hs.at (h':=s1.heap) λo e=>m.heap S o hw e;show wpAny _ A.in1 (holding [Value.str x t] (setAdd S (.str x t)) >>= _) _ _ s1;unfold setAdd;refine WY (XU (XU (WY ((strKind prog w).pyHash (k:=x) (strKind_is _ _ _ _) ?_))));have hsm:=hs1.eW (n9 (ys:=zs.take i) (λx hx=>hb x (List.mem_of_mem_take hx)));refine Hk (s:={ s1 with toks:=s1.toks+1 }) hsm (Xg (List.length_filter_le _ _) hN) λb h' og Ht=>?_;have hs2:=Ht.eW (zs':=zs.take i++[x]) (λy=>by rw[YR,YR,<- n9 (ys:=zs.take i) (λx hx=>hb x (List.mem_of_mem_take hx)) y]);have e2:zs.take i++[x]=zs.take (i+1):=by rw[List.take_add_one,hx];rfl
  rw[e2]at hs2;refine W2 ⟨Yp F.plain_set_update_loop _,ih (i+1) _ (by lia) lt (W.frame _ s1 _ _ n4 (YK _) λc hc o e=>?_) hs2 λs2 m2 q2=>?_⟩
  ·rw[og.2 c λz:c=S=>hS (z ▸ hc)];exact e
  ·exact q s2 (Moved.trans W.gtrans ((m.mono sub).then_heap (YK _) λc o hc e=>by rw[og.2 c λz:c=S=>hc (z ▸ W')];exact e) m2) q2
end
section
variable {prog:Program}{w:World}{A:Around}{E:Value->Shared->Prop}{s:Shared}
theorem Hu {l:Addr}{its:Array Value}{zs:List Str}{Q:Value->Shared->Prop} (hh:A.handled=none) (hl:s.heap.IsList l its) (hi:StrsAre its.toList zs) {N:List Str} (hN:N.length<3900) (hb:∀ x∈zs,x∈N)
  (h:∀(h':Heap) (tk:Nat),cM prog w h' s.heap.objs.size zs->(∀b o,s.heap.get? b=some o->h'.get? b=some o)->Q (.ref s.heap.objs.size) { s with heap:=h',toks:=tk }) :
  wpAny (model prog w) A (call (.type "set") [.ref l]) Q E s:=by
 obtain⟨c,tl,SM⟩:=F.called_set.mro;have made:=F.called_set.made;have sub:=F.called_set.sub;refine wpAny_call (codeAny_of_tree ?_);show wpAny _ _ (callAny (.type "set") _) _ _ _;refine W2 ⟨Code.quiet_builtin _ (by decide +kernel),Yh F.entry_type_call ?_⟩;rw[Around.under_plain (weight_type_call_type "set" [.ref l] []) rfl];have g1:=F.called_set.notType;have g2:=F.called_set.canCreate;have g3:=F.typeCall_set_1 (.ref l)
 repeat (any_goals (first |assumption |wp_step))
 refine YI (Ho (.ref l) (E:=E) (Q₁:=λu s1=>u=.ref s.heap.objs.size/\s1={ s with heap:=s.heap.push (eV w) }) ⟨rfl,rfl⟩) λr s1 hr=>?_;cases r with
 |error e=>exact hr
 |ok fl=>
  cases fl with
  |ret obj=>
   obtain⟨rfl,rfl⟩:=hr;have hS:(s.heap.push (eV w)).get? s.heap.objs.size=some (eV w):=W5 _ rfl;have hT:Shared.TypeIs { s with heap:=s.heap.push (eV w) } (.ref s.heap.objs.size) "set":=⟨_,hS,rfl⟩;have SN:∀{k:Nat},Shared.TypeIs { s with heap:=s.heap.push (eV w),toks:=k } (.ref s.heap.objs.size) "set":=⟨_,hS,rfl⟩;have li:=F.called_set.init.lookup;have bi:=F.called_set.init.bind (.ref s.heap.objs.size)
   repeat (any_goals (first |assumption |wp_step))
   refine YI (codeAny_call_builtin (R:=wants (λr s2=>r=.none/\∃h' tk,s2={ s with heap:=h',toks:=tk }/\cM prog w h' s.heap.objs.size zs/\(∀b o,s.heap.get? b=some o->h'.get? b=some o)) E) F.called_set.init.plain F.entry_set_init (check_set_init_1 hT ?_)) λr2 s2 rS=>?_
   ·obtain⟨ol,yl,cg,nl,ym⟩:=hl;obtain⟨oc,od,SO,os⟩:=ol;simp only at cg ym;subst cg;subst ym;have Hv:(s.heap.push (eV w)).get? l=some { cls:=.type "list",dict:=od,data:=.seq its nl,slots:=os }:=WZ _ yl;have e1:=F.sub_list_set;have e2:=F.sub_list_frozenset;have e3:(Zc "list" == Zc "dict")=false:=(by decide);have lI:(s.heap.push (eV w)).IsList l its:=⟨_,Hv,rfl,nl,rfl⟩;unfold Builtin.«set.__init__» noKeywords Builtin.Frozenset.updateFrom;generalize Hw:pyIter=PI
    wp_walk
    subst Hw;refine Zm lI (WY (wpAny_runValue ?_));have Ux:l<s.heap.objs.size:=Xh yl;have Hx:A.in1.in1.in1.handled=none:=(by simp [hh]);have Ve:l≠(s.heap.push (eV w)).objs.size:=(by rw[Xx];exact Xi (Yo Ux));have VT:s.heap.objs.size ∉ [(s.heap.push (eV w)).objs.size,l]:=by
     rw[Xx];simp only[XI,Xq,or_false,not_or];exact⟨Xi (YJ _),Yg Ux⟩
    have len:its.size=zs.length:=(by rw[<- Xp];exact hi.length);have val:∀(i:Nat) (v:Value),its[i]?=some v->∃(x:Str) (t:Tok),zs[i]?=some x/\v=.str x t:=λi v e=>yk hi (by rw[YE];exact e);refine Hr ((Walks.list Hx _ l Ve its).toS) s.heap.objs.size VT zs len val hN hb (its.size-0) 0 _ (by lia) (Xk _) ⟨⟨_,W5 _ rfl,rfl,rfl⟩,(lI.push _)⟩ ?start ?fin
    case start=>
     rw[List.take_zero];exact Hn (WZ _ hS)
    case fin=>
     intro s' m dL;obtain⟨h',UO,d',dV,q9⟩:=s';have TK:UO=s.gens:=m.gens;have UQ:d'=s.drawn:=m.drawn;have TR:q9=s.os:=m.os;subst TK;subst UQ;subst TR;refine W2 ?_;show wpAny _ _ (ret Yb) _ _ _;refine W2 ⟨rfl,h',dV,rfl,dL,λb o e=>?_⟩;have lb:=Xh e;refine m.heap b o ?_ (WZ _ (WZ _ e));simp only[XI,Xq,or_false,not_or];exact⟨Xi lb,by rw[Xx];exact Xi (Yo lb)⟩
   ·cases r2 with
    |error e=>exact rS
    |ok f2=>
     cases f2 with
     |ret r=>
      obtain⟨rfl,h',tk,rfl,dL,k⟩:=rS
      repeat (any_goals (first |assumption |wp_step))
      exact h _ _ dL k
     |_=>exact rS.elim
  |_=>exact hr.elim
end
end L2
namespace L2
open PySem PySem.Spec PyProof.Rows
theorem gM:Slot "set_iterator" "__next__" "set_iterator.__next__":=.of (owner:="set_iterator") (n:="__next__") (by rw[YH,X5];kernel_rfl) (by decide +kernel) (by decide +kernel) (by decide +kernel) (by first |exact .inl (by decide +kernel) |exact .inr (by decide +kernel)) (by rw[Y'];kernel_rfl)
theorem yn:Slot "set_iterator" "__iter__" "set_iterator.__iter__":=.of (owner:="set_iterator") (n:="__iter__") (by rw[YH,X5];kernel_rfl) (by decide +kernel) (by decide +kernel) (by decide +kernel) (by first |exact .inl (by decide +kernel) |exact .inr (by decide +kernel)) (by rw[Y'];kernel_rfl)
theorem yo:entryFor table "set_iterator.__next__"=some Builtin.«set_iterator.__next__»:=entryFor_of_tree (by kernel_rfl)
theorem yp:Manifest.owners.lookup (String.ofList ['r','o','t','a','r','e','t','i','_','t','e','s'].reverse)=some Manifest.sig_set_iterator:=by kernel_rfl
theorem yq (a:Value):argsOk "set_iterator.__next__" ⟨[a],[]⟩:=by
 unfold argsOk;rw[signature?_of (id:="set_iterator.__next__") (n:=['_','_','t','x','e','n','_','_']) (o:=['r','o','t','a','r','e','t','i','_','t','e','s']) (by kernel_rfl) yp];kernel_rfl
theorem Hy:entryFor table "set.__iter__"=some Builtin.«frozenset.__iter__»:=entryFor_alias (id':="frozenset.__iter__") (by kernel_rfl) rfl (by decide +kernel) (by kernel_rfl)
theorem rT {α:Type}:∀(l:List α) (i:Nat) (h:i<l.length),(l[i]::l.eraseIdx i).Perm l
 |x::l,0,_=>.refl _
 |x::l,i+1,h=>by
  have hi:i<l.length:=by simpa using h
  have:=rT l i hi;show (l[i]::x::l.eraseIdx i).Perm (x::l);exact (List.Perm.swap x l[i] _).trans (List.Perm.cons x this)
section
variable {M:Model}{prog:Program}{w:World}{A:Around}{E:Value->Shared->Prop}{s:Shared}
theorem Hz {ir:Source}{n:Nat}{Q:Nat->Shared->Prop} (h0:n≠0) (h:∀i d,i<n->Q i { s with drawn:=d }):wpAny M A (choose ir n) Q E s:=fun Γ p hΓ=>by
 show Sem.wp M Γ (.choose ir n .pure) _ _ p s;rw[Sem.wp_choose];exact⟨h0,h _ _ (Nat.mod_lt _ (by lia))⟩
theorem yr {α:Type}:∀(n:Nat) (xs:List α) (s:Shared) (Q:List α->Shared->Prop),xs.length=n->(∀ys d,ys.Perm xs->Q ys { s with drawn:=d })->wpAny M A (drawOrder n xs) Q E s
 | 0,xs,s,Q,hl,q=>by
  have:xs=[]:=List.length_eq_zero_iff.mp hl;subst this;exact W2 (q [] s.drawn (.refl _))
 |n+1,[],s,Q,hl,q=>by simp at hl
 |n+1,x::xs,s,Q,hl,q=>by
  unfold drawOrder;refine WY (Hz (by simp) λi d hi=>?_);rw[W6 hi];dsimp only;refine WY (yr n _ _ _ (by rw[List.length_eraseIdx,if_pos hi];simp at hl ⊢;lia) λys d' p=>W2 (q _ d' ?_));exact (List.Perm.cons _ p).trans (rT _ _ hi)
theorem yt {α:Type} (next:Nat->Nat):∀(fuel k:Nat) (left:List α) (out:Array α),left.length=fuel->(pickOrder.go next fuel k left out).toList.Perm (out.toList++left)
 | 0,k,left,out,hl=>by
  have:left=[]:=List.length_eq_zero_iff.mp hl;subst this;unfold pickOrder.go;simp
 |fuel+1,k,left,out,hl=>by
  have hi:next k % left.length<left.length:=Nat.mod_lt _ (by lia)
  unfold pickOrder.go;rw[W6 hi];dsimp only;refine (yt next fuel (k+1) _ _ (by rw[List.length_eraseIdx,if_pos hi];lia)).trans ?_
  rw[Array.toList_push,Xy];exact List.Perm.append_left _ (rT _ _ hi)
theorem rU {α:Type} (next:Nat->Nat) (xs:Array α):(pickOrder next xs).toList.Perm xs.toList:=by
 have:=yt next xs.size 0 xs.toList #[] (by simp)
 simpa [pickOrder] using this
noncomputable def ek (first:Value) (i:Nat) (a:Addr) (n ep:Nat):Obj:={ cls:=.type "set_iterator",data:=.fields #[first,.int i 0,.ref a,.int n 0,.int ep 0] }
theorem yu {α:Type} {Q':α->Shared->Prop}{E':Value->Shared->Prop} (hh:A.handled=none) (h:∀ e h',Shared.TypeIs { s with heap:=h' } e "StopIteration"->(∀ b o,s.heap.get? b=some o->h'.get? b=some o)->E' e { s with heap:=h' }) :
  wpAny (model prog w) A.in1 (newExc (.type "StopIteration") [] >>= λe=>(raiseNew e:Sem α)) Q' E' s:=by
 refine WY ?_;simp only[newExc,newTuple];refine WY (XF ?_ (by size_fits));refine WY (m:=firstArgMember _ _) (wpAny_of_eq (a:=Yb) (by first |rfl |(simp only[firstArgMember];rfl)) (XF ?_ (by size_fits)))
 simp only[raiseNew];refine WY (wpAny_handled ?_);rw[show A.in1.handled=none from hh];refine WY (W2 (wpAny_throw (h (.ref _) _ ⟨_,W5 _ rfl,rfl⟩ λb o e=>WZ _ (WZ _ e))))
def fE (h:Heap) (a:Addr) (es:Array (Int×Value)) (ep:Nat) (t:SetTable):Prop:=h.get? a=some { cls:=.type "set",dict:=none,data:=.set es ep t,slots:=#[] }/\t.fits es.size=true
theorem rV {a:Addr}{es:Array (Int×Value)}{ep:Nat}{t:SetTable}{Q:Array (Int×Value)->Shared->Prop} (S:fE s.heap a es ep t) (h:Q es s):wpAny (model prog w) A (setEntries a) Q E s:=by
 unfold setEntries;exact WY (Yt S.1 rfl S.2 (W2 h))
theorem jY {I:Addr}{vs:Array Value}{k:Nat}{v:Value}{Q:Unit->Shared->Prop} (ho:s.heap.get? I=some { cls:=.type "set_iterator",data:=.fields vs }) (hk:k<vs.size)
  (h:∀h',(∀b o,b≠I->s.heap.get? b=some o->h'.get? b=some o)->h'.get? I=some { cls:=.type "set_iterator",data:=.fields (vs.setIfInBounds k v) }->Q () { s with heap:=h' }):wpAny (model prog w) A (setField (.ref I) k v) Q E s:=by
 refine wpAny_setField ho rfl hk (h _ (λb o hb e=>?_) ?_)
 ·exact (Y9 _ _ (Ys hb)).trans e
 ·have:=Xz (YL (·.setIfInBounds k v)) ho (Obj.isFreed_of_fields (Obj.data_mapFields rfl _));rw[this];rfl
theorem oh {I a:Addr}{slot i n ep:Nat}{es:Array (Int×Value)}{t:SetTable}{r:Option (Value×Nat)}{Q:Option Value->Shared->Prop} (hh:A.handled=none) (hI:s.heap.get? I=some (ek (.int slot 0) i a n ep)) (S:fE s.heap a es ep t) (hn:es.size=n)
  (hr:∀(A':Around) (E':Value->Shared->Prop) (Q':Option (Value×Nat)->Shared->Prop),Q' r s->wpAny (model prog w) A' (setNext a slot i ep) Q' E' s)
  (h:match r with
   |some (x,nx)=>∀h',(∀b o,b≠I->s.heap.get? b=some o->h'.get? b=some o)->h'.get? I=some (ek (.int nx 0) (i+1) a n ep)->Q (some x) { s with heap:=h' }
   |none=>∀h',(∀b o,b≠I->s.heap.get? b=some o->h'.get? b=some o)->Q none { s with heap:=h' }):wpAny (model prog w) A (pyNext (.ref I)) Q E s:=by
 have hT:s.TypeIs (.ref I) "set_iterator":=⟨_,hI,rfl⟩;unfold pyNext;refine WY (Y1 (Xr (name:=Yy "__next__") hT gM (Xw gM hT yo ?_ (yq _))));unfold Builtin.«set_iterator.__next__»;refine WY (W2 ?_);refine WY (wpAny_fieldsOf hI rfl ?_);refine WY (rV S ?_);rw[if_neg (by rw[hn];simp)];refine WY (hr _ _ _ ?_);have WI:((slot:Int)).toNat=slot:=YB _;cases r with
 |some p=>
  obtain⟨x,nx⟩:=p;dsimp only at h ⊢;refine WY (jY hI (by simp) λh1 k1 i1=>WY (jY (s:={ s with heap:=h1 }) i1 (by simp) λh2 k2 i2=>?_));exact W2 ⟨_,rfl,W2 (h h2 (λb o hb e=>k2 b o hb (k1 b o hb e)) (by rw[i2];simp [ek,rawInt]))⟩
 |none=>
  dsimp only at h ⊢;refine WY (jY hI (by simp) λh1 k1 i1=>?_);refine yu (s:={ s with heap:=h1 }) hh λe h2 lJ k2=>?_;refine WY (Y0 (T:="StopIteration") (b:=true) lJ isSubtype_stop ?_);exact W2 (h h2 λb o hb e=>k2 b o (k1 b o hb e))
end
end L2
namespace L2
open PySem PySem.Spec PyProof.Rows PySem.W
section
variable {prog:Program}{w:World}{A:Around}{E:Value->Shared->Prop}{s:Shared}
theorem yv {I a tp:Addr}{i n ep:Nat}{es:Array (Int×Value)}{t:SetTable}{vs:Array Value}{m:Nat}{Q:Option Value->Shared->Prop} (hh:A.handled=none) (hI:s.heap.get? I=some (ek (.ref tp) i a n ep)) (S:fE s.heap a es ep t) (hn:es.size=n)
  (hP:s.heap.get? tp=some { cls:=.type "tuple",data:=.seq vs m })
  (h:(∃(j:Nat) (u:Tok) (e:Int×Value),vs[i]?=some (.int j u)/\es[j]?=some e/\∀h',(∀b o,b≠I->s.heap.get? b=some o->h'.get? b=some o)->h'.get? I=some (ek (.ref tp) (i+1) a n ep)->Q (some e.2) { s with heap:=h' }) \/
   (vs[i]?=none/\∀h',(∀b o,b≠I->s.heap.get? b=some o->h'.get? b=some o)->Q none { s with heap:=h' })):wpAny (model prog w) A (pyNext (.ref I)) Q E s:=by
 have hT:s.TypeIs (.ref I) "set_iterator":=⟨_,hI,rfl⟩;unfold pyNext;refine WY (Y1 (Xr (name:=Yy "__next__") hT gM (Xw gM hT yo ?_ (yq _))));unfold Builtin.«set_iterator.__next__»;refine WY (W2 ?_);refine WY (wpAny_fieldsOf hI rfl ?_);refine WY (rV S ?_);rw[if_neg (by rw[hn];simp)];dsimp only;refine WY (YT hP rfl ?_);dsimp only;rw[YB];rcases h with ⟨j,u,e,h1,h2,h3⟩ |⟨h1,h2⟩
 ·rw[h1];dsimp only;rw[YB,YB];have VU:∀ {R:Value->Shared->Prop}{E':Value->Shared->Prop}{A':Around},R e.2 s->wpAny (model prog w) A' (setNextDrawn a j ep) R E' s:=λ{R E' A'} q=>by
   unfold setNextDrawn;refine WY (Yt S.1 rfl S.2 ?_);dsimp only;rw[if_neg (by simp),h2];exact WY (W2 (W2 q))
  refine WY (VU (WY (jY hI (by simp) λh' k1 i1=>?_)));exact W2 ⟨_,rfl,W2 (h3 h' k1 (by rw[i1];simp [ek,rawInt]))⟩
 ·rw[h1];dsimp only;refine WY (jY hI (by simp) λh3 k3 VV=>WY (jY (s:={ s with heap:=h3 }) VV (by simp) λh4 VW WJ=>?_));refine yu (s:={ s with heap:=h4 }) hh λe h5 lJ Un=>?_;refine WY (Y0 (T:="StopIteration") (b:=true) lJ isSubtype_stop ?_);exact W2 (h2 h5 λb o hb e=>Un b o (VW b o hb (k3 b o hb e)))
theorem iP {Q:Bool->Shared->Prop} (h:Q (w.params.followText "set-order") s):wpAny (model prog w) A setsByText Q E s:=by
 unfold setsByText;exact WY (wpAny_askSetting (W2 h))
theorem rW {I:Addr}{o:Obj}{Q:Value->Shared->Prop} (hI:s.heap.get? I=some o) (hc:o.cls=.type "set_iterator") (h:Q (.ref I) s):wpAny (model prog w) A (pyIter (.ref I)) Q E s:=by
 have hT:s.TypeIs (.ref I) "set_iterator":=⟨_,hI,hc⟩;have HA:entryFor table "set_iterator.__iter__"=some Builtin.«dict_keyiterator.__iter__»:=entryFor_alias (id':="dict_keyiterator.__iter__") (by kernel_rfl) rfl (by decide +kernel) (by kernel_rfl);have arg:argsOk "set_iterator.__iter__" ⟨[.ref I],[]⟩:=by
  unfold argsOk;rw[signature?_of (id:="set_iterator.__iter__") (n:=['_','_','r','e','t','i','_','_']) (o:=['r','o','t','a','r','e','t','i','_','t','e','s']) (by kernel_rfl) yp];kernel_rfl
 refine wpAny_pyIter_slot hT yn (Xw yn hT HA ?_ arg);unfold Builtin.«dict_keyiterator.__iter__»;refine WY (W2 ?_);exact W2 ⟨_,rfl,"set_iterator",_,hT,gM.lookup,h⟩
theorem HB {I a:Addr} (cT:a≠I) {es:Array (Int×Value)}{ep:Nat}{t:SetTable} (bt:w.params.followText "set-order"=true) (hh:A.handled=none) :
  WalksS prog w A I [I,a] [I] (λx y=>y=x) es.size (λi v=>((pickOrder (w.params.setOrder a ep) es).toList.map (·.2))[i]?=some v) (λi s=>s.heap.get? I=some (ek (.int 0 0) i a es.size ep)/\fE s.heap a es ep t) where
 sub:=λb hb=>by simp at hb;simp [hb]
 grefl:=λ_=>rfl
 gtrans:=λ_ _ _ h1 h2=>h2.trans h1
 frame:=λi s h' tk st _ k=>⟨k I (by simp) _ st.1,k a (by simp) _ st.2.1,st.2.2⟩
 item:=λi s Q E hi st q=>by
  have hs:(pickOrder (w.params.setOrder a ep) es).toList.length=es.size:=by rw[(rU _ es).length_eq,Xp]
  have c5:i<(pickOrder (w.params.setOrder a ep) es).toList.length:=by lia
  have hx:(pickOrder (w.params.setOrder a ep) es)[i]?=some ((pickOrder (w.params.setOrder a ep) es).toList[i]):=by rw[<- YE];exact W6 c5
  refine oh (slot:=0) (r:=some (((pickOrder (w.params.setOrder a ep) es).toList[i]).2,0)) hh st.1 st.2 rfl (λA' E' Q' q'=>?_) λh' k hI=>?_
  ·unfold setNext;refine WY (Yt st.2.1 rfl st.2.2 (WY (iP ?_)));rw[bt,if_pos rfl,if_neg (by simp)];unfold setWalk;refine WY (WY (Yt st.2.1 rfl st.2.2 (WY (iP ?_))));rw[bt,if_pos rfl];refine WY (wpAny_askSetting (W2 (W2 ?_)));show Q' (((pickOrder (w.params.setOrder a ep) es)[i]?).map λe=>(e.2,0)) s;rw[hx];exact q'
  ·refine q _ _ ?_ ⟨hI,k a _ cT st.2.1,st.2.2⟩ ⟨λb o hb e=>k b o (λz=>hb (by simp [z])) e,rfl,rfl,rfl,W3 _⟩;rw[Xj,W6 c5];rfl
 done:=λs Q E st q=>by
  have hs:(pickOrder (w.params.setOrder a ep) es).toList.length=es.size:=by rw[(rU _ es).length_eq,Xp]
  have hx:(pickOrder (w.params.setOrder a ep) es)[es.size]?=none:=by rw[<- YE];exact List.getElem?_eq_none (by lia)
  refine oh (slot:=0) (r:=none) hh st.1 st.2 rfl (λA' E' Q' q'=>?_) λh' k=>q _ ⟨λb o hb e=>k b o (λz=>hb (by simp [z])) e,rfl,rfl,rfl,W3 _⟩;unfold setNext;refine WY (Yt st.2.1 rfl st.2.2 (WY (iP ?_)));rw[bt,if_pos rfl,if_neg (by simp)];unfold setWalk;refine WY (WY (Yt st.2.1 rfl st.2.2 (WY (iP ?_))));rw[bt,if_pos rfl];refine WY (wpAny_askSetting (W2 (W2 ?_)));show Q' (((pickOrder (w.params.setOrder a ep) es)[es.size]?).map λe=>(e.2,0)) s;rw[hx];exact q'
 self:=λi s Q E st q=>rW st.1 rfl q
theorem HC {I a:Addr} (cT:a≠I) {es:Array (Int×Value)}{ep:Nat}{t:SetTable} (bt:w.params.followText "set-order"=false) (led:t.led=true) (h1:es.size<=1) (hh:A.handled=none) :
  WalksS prog w A I [I,a] [I] (λx y=>y=x) es.size (λi v=>(es.toList.map (·.2))[i]?=some v) (λi s=>s.heap.get? I=some (ek (.int (if i=0 then 0 else t.place.getD 0 0+1:Nat) 0) i a es.size ep)/\fE s.heap a es ep t) where
 sub:=λb hb=>by simp at hb;simp [hb]
 grefl:=λ_=>rfl
 gtrans:=λ_ _ _ h1 h2=>h2.trans h1
 frame:=λi s h' tk st _ k=>⟨k I (by simp) _ st.1,k a (by simp) _ st.2.1,st.2.2⟩
 item:=λi s Q E hi st q=>by
  obtain rfl:i=0:=by lia
  have hz:es.size=1:=by lia
  have hp:t.place.size=1:=by
   have:=st.2.2;simp only[SetTable.fits,W7,beq_iff_eq]at this;lia
  have rX:(!t.plain && decide (es.size > 1))=false:=by rw[hz];simp
  refine oh (slot:=0) (r:=some ((es[0]'(by lia)).2,t.place.getD 0 0+1)) hh (by simpa using st.1) st.2 rfl (λA' E' Q' q'=>?_) λh' k hI=>?_
  ·unfold setNext;refine WY (Yt st.2.1 rfl st.2.2 (WY (iP ?_)));rw[bt,if_neg XJ];dsimp only;refine YG (λz=>absurd (rX.symm.trans (show (!t.plain && decide (es.size > 1))=true from z)) XJ) (λ_=>?_);refine WY ?_;show wpAny _ _ (if (!t.led && !es.isEmpty)=true then _ else pure PUnit.unit) _ _ s
   rw[led,if_neg (by simp)];refine W2 (W2 ?_);have eb:SetTable.below t.place 0=0:=by
    unfold SetTable.below;rw[hp];simp [SetTable.below.go]
   rw[eb,XX (show 0<es.size by lia),XX (show 0<t.place.size by lia)];have TK:t.place.getD 0 0=t.place[0]'(by lia):=(by rw[YO,XX (show 0<t.place.size by lia)];rfl);rw[TK]at q';exact q'
  ·refine q _ _ ?_ ⟨by rw[if_neg (by lia)];exact hI,k a _ cT st.2.1,st.2.2⟩ ⟨λb o hb e=>k b o (λz=>hb (by simp [z])) e,rfl,rfl,rfl,W3 _⟩;rw[Xj,YE,XX (show 0<es.size by lia)];rfl
 done:=λs Q E st q=>by
  have hp:t.place.size=es.size:=by
   have:=st.2.2;simp only[SetTable.fits,W7,beq_iff_eq]at this;lia
  have rX:(!t.plain && decide (es.size > 1))=false:=by simp;lia
  refine oh (r:=none) hh st.1 st.2 rfl (λA' E' Q' q'=>?_) λh' k=>q _ ⟨λb o hb e=>k b o (λz=>hb (by simp [z])) e,rfl,rfl,rfl,W3 _⟩;unfold setNext;refine WY (Yt st.2.1 rfl st.2.2 (WY (iP ?_)));rw[bt,if_neg XJ];dsimp only;refine YG (λz=>absurd (rX.symm.trans (show (!t.plain && decide (es.size > 1))=true from z)) XJ) (λ_=>?_);refine WY ?_;show wpAny _ _ (if (!t.led && !es.isEmpty)=true then _ else pure PUnit.unit) _ _ s
  rw[led,if_neg (by simp)];refine W2 (W2 ?_);have eb:SetTable.below t.place (if es.size=0 then 0 else t.place.getD 0 0+1)=es.size:=by
   rcases Nat.lt_or_ge es.size 1 with hz |hz
   ·have z0:es.size=0:=(by lia);unfold SetTable.below;rw[hp,z0];simp [SetTable.below.go]
   ·have z1:es.size=1:=(by lia);have TK:∀d,t.place.getD 0 d=t.place[0]'(by lia):=λd=>(by rw[YO,XX (show 0<t.place.size by lia)];rfl);unfold SetTable.below;rw[hp,z1];simp [SetTable.below.go,TK]
  rw[eb,Array.getElem?_eq_none (W3 _)];exact q'
 self:=λi s Q E st q=>rW st.1 rfl q
theorem HD {I a tp:Addr} (cT:a≠I) (HE:tp≠I) {es:Array (Int×Value)}{ep m:Nat}{t:SetTable}{ps:List Nat} (hp:ps.Perm (Yw es.size)) (hh:A.handled=none) :
  WalksS prog w A I [I,a,tp] [I] (λx y=>y=x) es.size (λi v=>(ps.map λj=>(es.getD j (0,.none)).2)[i]?=some v)
   (λi s=>s.heap.get? I=some (ek (.ref tp) i a es.size ep)/\fE s.heap a es ep t/\s.heap.get? tp=some { cls:=.type "tuple",data:=.seq (ps.map λi=>rawInt (i:Nat)).toArray m }) where
 sub:=λb hb=>by simp at hb;simp [hb]
 grefl:=λ_=>rfl
 gtrans:=λ_ _ _ h1 h2=>h2.trans h1
 frame:=λi s h' tk st _ k=>⟨k I (by simp) _ st.1,⟨k a (by simp) _ st.2.1.1,st.2.1.2⟩,k tp (by simp) _ st.2.2⟩
 item:=λi s Q E hi st q=>by
  have hl:ps.length=es.size:=by rw[hp.length_eq,YN]
  have c5:i<ps.length:=by lia
  have hj:ps[i]<es.size:=List.mem_range.mp (hp.mem_iff.mp (List.getElem_mem c5));refine yv hh st.1 st.2.1 rfl st.2.2 (.inl ⟨ps[i],0,es[ps[i]],?_,XX hj,λh' k hI=>?_⟩)
  ·simp [W6 c5,rawInt]
  ·refine q _ _ ?_ ⟨hI,⟨k a _ cT st.2.1.1,st.2.1.2⟩,k tp _ HE st.2.2⟩ ⟨λb o hb e=>k b o (λz=>hb (by simp [z])) e,rfl,rfl,rfl,W3 _⟩;rw[Xj,W6 c5];simp [YO,XX hj]
 done:=λs Q E st q=>by
  have hl:ps.length=es.size:=by rw[hp.length_eq,YN]
  refine yv hh st.1 st.2.1 rfl st.2.2 (.inr ⟨?_,λh' k=>q _ ⟨λb o hb e=>k b o (λz=>hb (by simp [z])) e,rfl,rfl,rfl,W3 _⟩⟩);simp [hl]
 self:=λi s Q E st q=>rW st.1 rfl q
end
end L2
namespace L2
open PySem PySem.Spec PyProof.Rows PySem.W
section
variable {prog:Program}{w:World}{A:Around}{E:Value->Shared->Prop}{s:Shared}
theorem HF {a:Addr}{zs:List Str}{Q:Value->Shared->Prop} (S:cM prog w s.heap a zs)
  (h:∀(I:Addr) (h':Heap) (d:Drawn) (fp:List Addr) (St:Nat->Shared->Prop) (os:List Value),(∀b o,s.heap.get? b=some o->h'.get? b=some o)->(∀b∈fp,s.heap.objs.size<=b\/b=a)->s.heap.objs.size<=I ->
   (∃ys:List Str,StrsAre os ys/\ys.Nodup/\∀x,x∈ys ↔ x∈zs)->(∀A':Around,A'.handled=none->WalksS prog w A' I fp [I] (λx y=>y=x) os.length (λi v=>os[i]?=some v) St)->(∀tk,St 0 { s with heap:=h',drawn:=d,toks:=tk })->Q (.ref I) { s with heap:=h',drawn:=d }) :
  wpAny (model prog w) A (pyIter (.ref a)) Q E s:=by
 obtain⟨es,ep,t,ho,eg,hf,jT,c0,hsz,nd,hm⟩:=S;have hT:s.TypeIs (.ref a) "set":=⟨_,ho,rfl⟩;have S0:fE s.heap a es ep t:=⟨ho,hf⟩;have la:a<s.heap.objs.size:=Xh ho;have iQ:∀os:List Value,os.Perm (es.toList.map (·.2))->∃ys:List Str,StrsAre os ys/\ys.Nodup/\∀x,x∈ys ↔ x∈zs:=λos p=>by
  have all:∀v∈os,∃u,v=.str (eS v) u:=λv hv=>by
   obtain⟨e,he,rfl⟩:=List.mem_map.mp (p.mem_iff.mp hv);obtain⟨u,h1,_⟩:=yd eg he;exact⟨u,h1⟩
  have jP:∀l:List Value,(∀v∈l,∃u,v=.str (eS v) u)->StrsAre l (l.map eS):=by
   intro l
   induction l with
   |nil=>intro _;exact .nil
   |cons v l ih=>
    intro hv;obtain⟨u,e⟩:=hv v W';have:=ih λx hx=>hv x (W8 _ hx);rw[Xe];rw[e];exact .cons _ u this
  have pp:(os.map eS).Perm (eT es.toList):=by
   have:=p.map eS;rw[Yd]at this;exact this
  exact⟨os.map eS,jP os all,pp.nodup_iff.mpr nd,λx=>(pp.mem_iff).trans (hm x)⟩
 refine wpAny_pyIter_slot hT F.slot_set_iter (Xw F.slot_set_iter hT Hy ?_ (F.args_set_iter_1 _));unfold Builtin.«frozenset.__iter__» Builtin.Frozenset.slot0;refine WY (W2 ?_);unfold Builtin.Frozenset.sizeOf;refine WY (WY (rV S0 (W2 ?_)));unfold setDrawn;refine WY (WY (Yt S0.1 rfl S0.2 (WY (iP (W2 ?_)))));have yw:a≠s.heap.objs.size:=Xi la;cases bt:w.params.followText "set-order" with
 |true=>
  refine YG (λz=>absurd z (by simp)) (λ_=>?_);refine WY (W2 ?_);refine WY (wpAny_setEpoch_of S0.1 rfl S0.2 ?_);unfold newFields;refine WY (XF (W2 ⟨_,rfl,"set_iterator",_,⟨_,W5 _ rfl,rfl⟩,gM.lookup,?_⟩) (by size_fits));have pp:=(rU (w.params.setOrder a ep) es).map (·.2);have ol:((pickOrder (w.params.setOrder a ep) es).toList.map (·.2)).length=es.size:=by rw[pp.length_eq];simp
  refine h s.heap.objs.size _ s.drawn [s.heap.objs.size,a] (λi s'=>s'.heap.get? s.heap.objs.size=some (ek (.int 0 0) i a es.size ep)/\fE s'.heap a es ep t) ((pickOrder (w.params.setOrder a ep) es).toList.map (·.2)) (λb o e=>WZ _ e) (λb hb=>?_) (W3 _) (iQ _ pp) (λA' hA=>by rw[ol];exact HB yw (t:=t) bt hA) (λtk=>⟨W5 _ rfl,WZ _ S0.1,S0.2⟩);simp at hb;rcases hb with rfl |rfl
  ·exact .inl (W3 _)
  ·exact .inr rfl
 |false=>
  rw[bt]at jT;rcases Nat.lt_or_ge 1 es.size with h2 |h1
  ·have pl:t.plain=false:=by
    rcases c0 with z |z
    ·exact z
    ·rw[z]at h2;simp at h2
   refine YG (λ_=>?_) (λz=>absurd (show (!false && (!t.plain && decide (es.size > 1)))=true by rw[pl];simp;lia) z);refine WY (yr es.size (Yw es.size) s _ (by simp) λps d hp=>?_);refine WY (wpAny_newTuple ?_ (by rw[W0,hp.length_eq,YN];exact fits_of_scanBound (by show es.size<4096;lia)));have o1:∀{o:Obj}{b:Addr},s.heap.get? b=some o->(s.heap.push { cls:=.type "tuple",data:=.seq (ps.map λ(i:Nat)=>rawInt i).toArray }).get? b=some o:=λe=>WZ _ e;refine WY (wpAny_setEpoch_of (o1 S0.1) rfl S0.2 ?_);unfold newFields;refine WY (XF (W2 ⟨_,rfl,"set_iterator",_,⟨_,W5 _ rfl,rfl⟩,gM.lookup,?_⟩) (by size_fits));have hl:ps.length=es.size:=(by rw[hp.length_eq,YN]);have pp:(ps.map λj=>(es.getD j (0,.none)).2).Perm (es.toList.map (·.2)):=by
    refine (hp.map _).trans ?_;have e:(Yw es.size).map (λj=>(es.getD j (0,.none)).2)=es.toList.map (·.2):=by
     refine List.ext_getElem? λi=>?_;rw[Xj,Xj];by_cases hi:i<es.size
     ·have Ti:(Yw es.size)[i]?=some i:=(by simp [hi]);have a2:es.toList[i]?=some es[i]:=(by simp [hi]);rw[Ti,a2];simp [YO,XX hi]
     ·have Ti:(Yw es.size)[i]?=none:=(by simp;lia);have a2:es.toList[i]?=none:=(by simp;lia);rw[Ti,a2];rfl
    rw[e]
   have eX:(s.heap.push { cls:=.type "tuple",data:=.seq (ps.map λ(i:Nat)=>rawInt i).toArray }).objs.size=s.heap.objs.size+1:=Xx _ _;have n1:a≠(s.heap.push { cls:=.type "tuple",data:=.seq (ps.map λ(i:Nat)=>rawInt i).toArray }).objs.size:=(by rw[eX];exact Xi (Yo la));have n2:s.heap.objs.size≠(s.heap.push { cls:=.type "tuple",data:=.seq (ps.map λ(i:Nat)=>rawInt i).toArray }).objs.size:=(by rw[eX];exact Xi (YJ _));refine h (s.heap.push { cls:=.type "tuple",data:=.seq (ps.map λ(i:Nat)=>rawInt i).toArray }).objs.size _ d [(s.heap.push { cls:=.type "tuple",data:=.seq (ps.map λ(i:Nat)=>rawInt i).toArray }).objs.size,a,s.heap.objs.size]
    (λi s'=>s'.heap.get? (s.heap.push { cls:=.type "tuple",data:=.seq (ps.map λ(i:Nat)=>rawInt i).toArray }).objs.size=some (ek (.ref s.heap.objs.size) i a es.size ep)/\fE s'.heap a es ep t/\s'.heap.get? s.heap.objs.size=some { cls:=.type "tuple",data:=.seq (ps.map λi=>rawInt (i:Nat)).toArray 0 })
    (ps.map λj=>(es.getD j (0,.none)).2) (λb o e=>WZ _ (o1 e)) (λb hb=>?_) (by rw[eX];exact YK _) (iQ _ pp) (λA' hA=>by rw[W0,hl];exact HD (m:=0) n1 n2 (t:=t) (ep:=ep) hp hA) (λtk=>⟨W5 _ rfl,⟨WZ _ (o1 S0.1),S0.2⟩,WZ _ (W5 _ rfl)⟩)
   simp only[XI,Xq,or_false]at hb;rcases hb with rfl |rfl |rfl
   ·exact .inl (by rw[eX];exact YK _)
   ·exact .inr rfl
   ·exact .inl (W3 _)
  ·refine YG (λz=>absurd (show (!false && (!t.plain && decide (es.size > 1)))=true from z) (by simp;lia)) (λ_=>?_);refine WY (W2 ?_);refine WY (wpAny_setEpoch_of S0.1 rfl S0.2 ?_);unfold newFields;refine WY (XF (W2 ⟨_,rfl,"set_iterator",_,⟨_,W5 _ rfl,rfl⟩,gM.lookup,?_⟩) (by size_fits));have ol:(es.toList.map (·.2)).length=es.size:=(by simp);refine h s.heap.objs.size _ s.drawn [s.heap.objs.size,a] (λi s'=>s'.heap.get? s.heap.objs.size=some (ek (.int (if i=0 then 0 else t.place.getD 0 0+1:Nat) 0) i a es.size ep)/\fE s'.heap a es ep t) (es.toList.map (·.2)) (λb o e=>WZ _ e) (λb hb=>?_) (W3 _) (iQ _ (.refl _)) (λA' hA=>by rw[ol];exact HC yw (t:=t) bt (by simpa using jT) h1 hA) (λtk=>⟨W5 _ rfl,WZ _ S0.1,S0.2⟩)
   simp at hb;rcases hb with rfl |rfl
   ·exact .inl (W3 _)
   ·exact .inr rfl
theorem HG {r:Addr}{Q:Bool->Shared->Prop} (hT:s.TypeIs (.ref r) "set") (h:Q false s):wpAny (model prog w) A (Builtin.List.listLengthHint (.ref r)) Q E s:=by
 unfold Builtin.List.listLengthHint;refine WY (wpAny_specialOf hT PySem.F.slot_set_len.lookup ?_);generalize yx:("set.__len__" : String)=HH
 wp_delta
 rw[show splitId HH=some ("set","__len__") from by subst yx;decide +kernel];subst yx;refine WY (Y0 (T:="set") (b:=true) hT (by rw[Y'];kernel_rfl) ?_);refine YG (λz=>absurd z (by decide)) (λ_=>YG (λ_=>WY (wpAny_typeOf hT (W2 h))) (λz=>absurd (by decide +kernel) z))
theorem HI {a : Addr} {zs : List Str} {R : List Value -> Shared -> Prop} (hh : A.handled = none) (S : cM prog w s.heap a zs) (hz : zs.length < 3900)
    (h:∀(h':Heap) (tk:Nat) (d:Drawn) (os:List Value) (ys:List Str),(∀b o,s.heap.get? b=some o->h'.get? b=some o)->StrsAre os ys->ys.Nodup->(∀x,x∈ys ↔ x∈zs)->R os { s with heap:=h',toks:=tk,drawn:=d }) :
    wpAny (model prog w) A (collect (.ref a)) R E s:=by
  have la:a<s.heap.objs.size:=let ⟨_,_,_,ho,_⟩:=S;Xh ho
  unfold collect;refine WY (wpAny_runValue (Yh entry_proto_collect' ?_));rw[XM PySem.F.plain_proto_collect _];show wpAny _ A.in1 (newList [] >>= λu=>again (.builtin "list.__iadd__" ⟨[u,.ref a],[]⟩)) _ _ s;refine WY (XF (W2 ⟨Yp PySem.F.plain_list_iadd _,Yh entry_list_iadd' ?_⟩));rw[XM PySem.F.plain_list_iadd _];have hL:(s.heap.push { cls:=.type "list",data:=.seq ([]:List Value).toArray }).get? s.heap.objs.size=some { cls:=.type "list",data:=.seq #[] }:=W5 _ rfl;have S1:cM prog w (s.heap.push { cls:=.type "list",data:=.seq ([]:List Value).toArray }) a zs:=S.at λo e=>WZ _ e;have hT:Shared.TypeIs { s with heap:=s.heap.push { cls:=.type "list",data:=.seq ([]:List Value).toArray } } (.ref a) "set":=let ⟨_,_,_,ho,_⟩:=S1;⟨_,ho,rfl⟩
  have eX:(s.heap.push { cls:=.type "list",data:=.seq ([]:List Value).toArray }).objs.size=s.heap.objs.size+1:=Xx _ _;have k0:∀b o,s.heap.get? b=some o->(s.heap.push { cls:=.type "list",data:=.seq ([]:List Value).toArray }).get? b=some o:=λb o e=>WZ _ e;show wpAny _ A.in1 (Builtin.List.listExtendWith (.ref s.heap.objs.size) (.ref a) (.ref s.heap.objs.size)) _ _ _;generalize s.heap.push { cls:=.type "list",data:=.seq ([]:List Value).toArray }=g1 at hL S1 hT eX k0 ⊢;have yy:s.heap.objs.size≠a:=Yg la;unfold Builtin.List.listExtendWith;refine WY (wpAny_typeOf (T:="set") hT ?_);have e1:Builtin.List.listSameRef (.ref s.heap.objs.size) (.ref a)=false:=by simp [Builtin.List.listSameRef,yy]
  simp only[e1,show (Zc "set" == Zc "list")=false by decide,show (Zc "set" == Zc "tuple")=false by decide,Bool.or_false,Bool.false_eq_true,if_false];refine WY (HF S1 λI h2 d fp St os k2 HJ hI jP W st=>?_);obtain⟨ys,sa,nd,eW⟩:=jP;have rY:=k2 _ _ hL;have nf:s.heap.objs.size ∉ fp:=λz=>by
    rcases HJ _ z with q |q
    · rw[eX]at q;lia
    · exact yy q
  have Ve:s.heap.objs.size≠I:=by rw[eX]at hI;lia
  have lJ:Shared.TypeIs { s with heap:=h2,drawn:=d } (.ref a) "set":=let ⟨_,_,_,ho,_⟩:=S1;⟨_,k2 _ _ ho,rfl⟩
  refine WY (XU (HG lJ ?_));have lo:os.length=ys.length:=sa.length;have iR:os.length<=sizeLine:=by
    have:=List.Nodup.length_le_of_subset nd λy hy=>(eW y).mp hy;exact W9 (show os.length<=4000 by lia) (by decide)
  have key : ∀ (g : Heap) (c tk : Nat), St 0 { s with heap := g, drawn := d, toks := tk } -> (∀ b o, b ≠ s.heap.objs.size -> h2.get? b = some o -> g.get? b = some o) -> g.get? s.heap.objs.size = some { cls := .type "list", data := .seq #[] c } ->
      codeAny (model prog w) A (.builtin "list.extend.loop" ⟨[.ref s.heap.objs.size,.ref I,.ref s.heap.objs.size],[]⟩) (λr s'=>∃ (h':Heap) (tk:Nat) (al:Array Value) (c':Nat),r=.ok (.ret (.ref s.heap.objs.size))/\s'={ s with heap:=h',toks:=tk,drawn:=d }/\(∀ b o,s.heap.get? b=some o->h'.get? b=some o) /\
        h'.get? s.heap.objs.size=some { cls:=.type "list",dict:=none,data:=.seq al c',slots:=#[] }/\ItemsOf (λi v=>os[i]?=some v) al os.length) { s with heap:=g,drawn:=d,toks:=tk }:=by
    intro g c tk bm VX hg;refine codeAny_extend_loopS (W A.in1 (by simpa using hh)) iR s.heap.objs.size nf (.ref s.heap.objs.size) os.length 0 _ #[] c rfl (Xk _) bm hg (ItemsOf.nil _) λs' al c' m hS' iN=>?_;obtain⟨hx,gx,dx,VY,VZ⟩:=s';have TK:gx=s.gens:=m.gens;have UQ:dx=d:=m.drawn;have TR:VZ=s.os:=m.os;subst TK;subst UQ;subst TR;refine⟨hx,VY,al,c',rfl,rfl,λb o e=>?_,hS',iN⟩;have lb:=Xh e;refine m.heap b o ?_ (VX b o (Xi lb) (k2 b o (k0 b o e)));simp only[XI,Xq,or_false,not_or];exact⟨Xi lb,Xi (XR lb (by rw[eX]at hI;exact hI))⟩
  have fin : ∀ (r : Result) (s' : Shared), (∃ (h' : Heap) (tk : Nat) (al : Array Value) (c' : Nat), r = .ok (.ret (.ref s.heap.objs.size)) ∧ s' = { s with heap := h', toks := tk, drawn := d } ∧ (∀ b o, s.heap.get? b = some o → h'.get? b = some o) ∧
        h'.get? s.heap.objs.size=some { cls:=.type "list",dict:=none,data:=.seq al c',slots:=#[] }/\ItemsOf (λi v=>os[i]?=some v) al os.length)->∃(h':Heap) (tk c':Nat),r=.ok (.ret (.ref s.heap.objs.size))/\s'={ s with heap:=h',toks:=tk,drawn:=d }/\h'.get? s.heap.objs.size=some { cls:=.type "list",dict:=none,data:=.seq os.toArray c',slots:=#[] }/\R os { s with heap:=h',toks:=tk,drawn:=d }:=by
    rintro r s' ⟨h',tk,al,c',rfl,rfl,k,hS',iN⟩;have e:al=os.toArray:=by
      refine Array.ext (by rw[W4];exact iN.1) λi h1 h2=>?_;have:=iN.2 i al[i] (XX h1);rw[W4]at h2;rw[W6 h2]at this;injection this with this;rw[<- this];simp
    subst e;exact⟨h',tk,c',rfl,rfl,hS',h h' tk d os ys k sa nd eW⟩
  refine YG (λ_=>?HK) (λ_=>W2 ⟨Yp PySem.F.plain_extend_loop _,YI (key h2 0 s.toks (st _) (λb o _ e=>e) rY) λr s' y=>?last⟩)
  case last=>
    obtain⟨h',tk,c',rfl,rfl,hS',q⟩:=fin r s' y;show wpAny _ A (load s.heap.objs.size >>= _) _ _ _;exact WY (wpAny_load hS' (W2 q))
  case HK=>
    refine WY (wpAny_rule (WY ?_));show wpAny _ _ (updateSeq s.heap.objs.size (·.push .none) >>= λ_=>updateSeq s.heap.objs.size (·.pop)) _ _ _;refine WY (wpAny_updateSeq rY rfl ?_);have u2:=Xz (XA (·.push Yb)) rY rfl;refine wpAny_updateSeq (hz:=by seq_fits) u2 rfl ?_;have u3:=Xz (XA (·.pop)) u2 rfl;have yz:∀b o,b≠s.heap.objs.size->h2.get? b=some o->((h2.update s.heap.objs.size (XA (·.push Yb))).update s.heap.objs.size (XA (·.pop))).get? b=some o:=λb o hb e=>(Y9 _ _ (Ys hb)).trans ((Y9 _ _ (Ys hb)).trans e);refine W2 ⟨Yp PySem.F.plain_extend_loop _,YI (key _ _ s.toks ((W A hh).frame 0 _ _ _ (st s.toks) (W3 _) λb hb o e=>yz b o (λz=>nf (z ▸ hb)) e) yz u3) λr s' y=>?_⟩;obtain⟨h',tk,c',rfl,rfl,hS',q⟩:=fin r s' y;show wpAny _ A (load s.heap.objs.size >>= _) _ _ _;exact WY (wpAny_load hS' (W2 q))
end
end L2
end
section
set_option maxHeartbeats 1000000
namespace N
open PySem PySem.Spec PyProof.Rows L2
def yA (ta:DE):DE:=fun τ M q=>ta τ M λx M1=>a9 x M1 λds=>∃zs N:List Str,ds=zs.map D.str/\N.length<64/\(∀x∈zs,x∈N)/\∀ys:List Str,ys.Nodup->(∀x,x∈ys ↔ x∈zs)->sortedS ys=true->bQ (ys.map D.str) M1 q
section
variable {X:Cx} {τ:St} {z:Z}
theorem ae.HM (I:ae X τ z) (d:Drawn):ae X τ ⟨z.F,z.M,{ z.s with drawn:=d }⟩:=⟨I.ok,I.bs,I.os,I.bare,I.cc,I.loc,I.cell,I.free,I.hok,I.len⟩
theorem yB {G:Gx}{F:Fz}:∀{ys:List Str}{us:List Value},af G F (ys.map D.str) us->StrsAre us ys
 |[],us,r=>by rw[Yc,af]at r;subst r;exact .nil
 |y::ys,us,r=>by rw[Xe,af]at r;obtain⟨u,us,rfl,h,r⟩:=r;rw[ab]at h;obtain⟨t,rfl⟩:=h;exact .cons _ _ (yB r)
theorem HN {a:Addr}{zs:List Str}{Q:QK}{R:Value->Shared->Prop}{F:Fz} (hc:X.calm=true) (I:ae X τ z) (S:cM X.G.P X.G.w z.s.heap a zs) (gL:zs.length<64) (k:KE X τ F Q R) (l:Le F z.F)
  (q:∀ys:List Str,ys.Nodup->(∀x,x∈ys ↔ x∈zs)->sortedS ys=true->bQ (ys.map D.str) z.M Q):W X (call (.builtin "sorted") [.ref a]) R z.s:=by
 refine Calls.call_function_entry kind_sorted plain_sorted entry_sorted (args_sorted1 _) ?_;unfold Builtin.«sorted»;refine WY (m:=checkCount "sorted" 1 1 _) (W2 ?_);refine WY (HI (A:=X.A.in1) (I.ok.hd hc) S (by lia) λh' tk d os ss keep hS nd eW=>?_);have hl:os.length=ss.length:=hS.length;have le:ss.length<=zs.length:=List.Nodup.length_le_of_subset nd λy hy=>(eW y).mp hy;have iR:os.length<=sizeLine:=W9 (show os.length<=64 by lia) (by decide);refine WY (wpAny_newList ?_ iR);have eR:(h'.push { cls:=.type "list",data:=.seq os.toArray }).get? h'.objs.size=some (seqObj "list" os.toArray 0):=W5 _ rfl;refine WY (XU (Xw slot_list_sort ⟨_,eR,rfl⟩ entry_list_sort (list_sort_treeK strKind_oneLt eR hS.keysOf (λv₁ v₂ rest e=>keyKind_strs (by rw[<- e];exact hS)) (by lia) λbm Ti a2=>⟨_,rfl,?_⟩) (args_list_sort _)));obtain⟨ys,b1,b2,Tj⟩:=sorted_out_str hS Ti a2;refine W2 ⟨_,rfl,?_⟩;have J:ae X τ ⟨z.F,z.M,{ z.s with heap:=h',toks:=tk,drawn:=d }⟩:=(I.bP (t:=tk) keep).HM d;obtain⟨e,rP⟩:=sortedHeap_at (out:=(arrOf bm).map (·.2)) eR;have rs:=jR (G:=X.G) (F:=z.F) b1;refine J.lst (n:=e) (t:=tk) k l rs (λb o hb=>?_) (W3 _) ?_ (by rw[<- rs.len,W0,b2.length_eq,<- hl];exact iR) (q ys (b2.nodup_iff.mpr nd) (λx=>b2.mem_iff.trans (eW x)) Tj)
 ·have be:b<h'.objs.size:=Xh hb;rw[sortedHeap_old (Xi be) (by rw[Xx];exact Yo be)];exact WZ _ hb
 ·rw[rP];rfl
theorem HO {e:Expr}{te:DE}{p1 p2 gN dF:Pos} (hc:X.calm=true) (rZ:Gl X "sorted") (jX:X.G.mg "sorted"=none) (r6:Gl X "set") (r8:X.G.mg "set"=none) (he:PE X e te) (hs:bU e=true) :
  PE X (.Call (.Name "sorted" p1) [.Call (.Name "set" p2) [e] [] dF] [] gN) (yA te):=fun τ z Q R I h k=>by
 refine XY (eG I rZ jX (by decide +kernel:bootBuiltins "sorted"=some (.builtin "sorted")) (by decide) (by decide) ?_);refine PyProof.Rows.callWith_builtin1 ?_ (bC rfl) rfl;rw[bC (e:=.Call (.Name "set" p2) [e] [] dF) rfl];show W X (spliced ((false,eval (.Call (.Name "set" p2) [e] [] dF) X.env)::backTo gN (starEach [] X.env))) _ z.s;refine Yu ?_;refine XY (eG I r6 r8 (by decide +kernel:bootBuiltins "set"=some (.type "set")) (by decide) (by decide) ?_);refine Ye ?_ (bC hs) rfl;refine qk he qj (bC hs) dF τ z (λds M=>n1 (λd M Q=>a9 d M λes=>∃zs N:List Str,es=zs.map D.str/\N.length<64/\(∀x∈zs,x∈N)/\∀ys:List Str,ys.Nodup->(∀x,x∈ys ↔ x∈zs)->sortedS ys=true->bQ (ys.map D.str) M Q) ds M Q) _ I h λds z1 us l1 I1 r1 q1=>?_;unfold n1 at q1;dsimp only at q1;split at q1
 case h_2=>exact q1.elim
 obtain⟨u,rfl,ru⟩:=gc r1;obtain⟨a,ds,its,n,rfl,l,zs,N,rfl,gL,hb,q⟩:=I1.a9 ru q1;have jP:StrsAre its zs:=yB l.r;refine Hu (A:=X.A) (its:=its.toArray) (N:=N) (I1.ok.hd hc) ⟨_,l.e,rfl,n,rfl⟩ (by simpa using jP) (by lia) hb λh' tk S keep=>?_;refine Y2 ?_;exact HN hc (I1.bP (t:=tk) keep) (S.eW (n9 hb)) (Xg (List.length_filter_le _ _) gL) k l1 λys h1 h2 h3=>q ys h1 (λx=>(h2 x).trans (n9 hb x).symm) h3
end
end N
end
section
namespace L2
open PySem PySem.Spec PyProof.Rows PySem.W
section
variable {prog:Program}{w:World}{A:Around}{E:Value->Shared->Prop}{s:Shared}
theorem HP {M:Model}{a:Addr}{o:Obj}{Q:Option Obj->Shared->Prop} (ho:s.heap.get? a=some o) (h:Q (some o) s):wpAny M A (Sem.loadIfAlive a Sem.pure) Q E s:=fun Γ p x=>by
 rw[Sem.wp_loadIfAlive,ho];exact h
def r9 (h:Heap) (e it a:Addr) (b:Bool) (i:Nat):Prop:=∃f5,h.get? e=some { cls:=.type "enumerate",data:=.fields #[rawInt (a:Int),.bool b,.ref it,rawInt (i:Int),.none,f5] }
theorem HQ {e it l a:Addr}{b:Bool}{i:Nat}{items:Array Value}{x:Value}{oa:Obj}{Q:Option Value->Shared->Prop} (he:r9 s.heap e it a b i) (ha:s.heap.get? a=some oa)
  (hit:s.heap.IsTupleIter it l i) (hl:s.heap.IsTuple l items) (hx:items[i]?=some x) (ne:e≠it) (nl:l≠e) (gO:l≠it) (na:a≠e) (HR:a≠it)
  (q:∀h' tk,r9 h' e it a true (i+1)->h'.IsTupleIter it l (i+1)->h'.get? s.heap.objs.size=some { cls:=.type "tuple",data:=.seq #[.int i tk,x] }->h'.objs.size=s.heap.objs.size+1 ->
   (∀c o,c≠e->c≠it->s.heap.get? c=some o->h'.get? c=some o)->Q (some (.ref s.heap.objs.size)) { s with heap:=h',toks:=tk+1 }):wpAny (model prog w) A (pyNext (.ref e)) Q E s:=by
 obtain⟨f5,he⟩:=he;have hT:s.TypeIs (.ref e) "enumerate":=⟨_,he,rfl⟩;unfold pyNext;refine WY (Y1 (Xr (name:=Yy "__next__") hT F.slot_enumerate_next
  (Xw F.slot_enumerate_next hT F.entry_enumerate_next ?_ (F.args_enumerate_next_1 _))))
 show wpAny _ _ (field (.ref e) 2 >>= _) _ _ _;refine WY (XS he rfl (x:=.ref it) rfl ?_);refine WY (pY hit hl hx λh1 HS oi=>?_);have sd:h1.get? e=_:=oi.extBut _ _ ne he;obtain⟨UR,oj,se⟩:=id HS;obtain⟨hp,g,d,tk,os⟩:=s;have HU:h1.get? a=some oa:=oi.extBut _ _ HR ha;have z1:h1.objs.size=hp.objs.size:=oi.1
 wp_walk using Xm sd
 have zz:((h1.update e (YL λx=>x.setIfInBounds 3 (rawInt ((i:Int)+1)))).update e (YL λx=>x.setIfInBounds 4 Yb)).objs.size=hp.objs.size:=by rw[Y7,Y7,z1]
 have b1:∀c o,c≠e->h1.get? c=some o->((h1.update e (YL λx=>x.setIfInBounds 3 (rawInt ((i:Int)+1)))).update e (YL λx=>x.setIfInBounds 4 Yb)).get? c=some o:=λc o n q=>
  (Xu ..).extBut c o n ((Xu ..).extBut c o n q)
 have e3:((h1.update e (YL λx=>x.setIfInBounds 3 (rawInt ((i:Int)+1)))).update e (YL λx=>x.setIfInBounds 4 Yb)).get? e=some { cls:=.type "enumerate",data:=.fields #[rawInt (a:Int),.bool b,.ref it,rawInt ((i:Int)+1),.none,f5] }:=
  Xz (YL λx=>x.setIfInBounds 4 Yb) (Xz (YL λx=>x.setIfInBounds 3 (rawInt ((i:Int)+1))) sd rfl) rfl
 generalize ((h1.update e (YL λx=>x.setIfInBounds 3 (rawInt ((i:Int)+1)))).update e (YL λx=>x.setIfInBounds 4 Yb))=h2 at *;have tp:=W5 h2 (o:={ cls:=.type "tuple",data:=.seq #[.int (i:Int) tk,x] }) rfl;have kp:∀c o,h2.get? c=some o->(h2.push { cls:=.type "tuple",data:=.seq #[.int (i:Int) tk,x] }).get? c=some o:=λc o q=>WZ _ q;have sz:(h2.push { cls:=.type "tuple",data:=.seq #[.int (i:Int) tk,x] }).objs.size=hp.objs.size+1:=by rw[Xx,zz]
 rw[zz]at tp;refine HP (o:=oa) (kp _ _ (b1 _ _ na HU)) ?_;have e4:=kp _ _ e3;have k2:∀c o,c≠e->c≠it->hp.get? c=some o->(h2.push { cls:=.type "tuple",data:=.seq #[.int (i:Int) tk,x] }).get? c=some o:=λc o n n' q=>kp _ _ (b1 c o n (oi.extBut c o n' q));have yC:=kp _ _ (b1 it _ ne.symm oj);dsimp only;generalize (h2.push { cls:=.type "tuple",data:=.seq #[.int (i:Int) tk,x] })=h3 at *;rw[zz];cases b with
 |true=>
  refine WY (XS e4 rfl (x:=.bool true) rfl (W2 (W2 ⟨_,rfl,W2 (q h3 tk ⟨f5,e4⟩ ⟨_,yC,se⟩ tp sz k2)⟩)))
 |false=>
  refine WY (XS e4 rfl (x:=.bool false) rfl ?_);have n:e≠hp.objs.size:=Xi (Xh he);refine WY (wpAny_setField e4 rfl (by show 1<6;decide) (W2 (W2 ⟨_,rfl,W2 (q _ tk ⟨f5,Xz _ e4 rfl⟩ ⟨UR,(Xu ..).extBut _ _ ne.symm yC,se⟩ ((Xu ..).extBut _ _ n.symm tp) (by rw[Y7];exact sz) λc o n1 n2 z=>(Xu ..).extBut _ _ n1 (k2 c o n1 n2 z))⟩)))
theorem HV {e it l:Addr}{i:Nat}{items:Array Value}{f0 f1 f5:Value}{Q:Option Value->Shared->Prop} (hh:A.handled=none)
  (he:s.heap.get? e=some { cls:=.type "enumerate",data:=.fields #[f0,f1,.ref it,rawInt (i:Int),.none,f5] }) (hit:s.heap.IsTupleIter it l i) (hl:s.heap.IsTuple l items) (hx:items[i]?=none)
  (hQ:∀h',Zb it s.heap h'->Q none { s with heap:=h' }):wpAny (model prog w) A (pyNext (.ref e)) Q E s:=by
 have hT:s.TypeIs (.ref e) "enumerate":=⟨_,he,rfl⟩;unfold pyNext;refine WY (Y1 (Xr (name:=Yy "__next__") hT F.slot_enumerate_next
  (Xw F.slot_enumerate_next hT F.entry_enumerate_next ?_ (F.args_enumerate_next_1 _))))
 show wpAny _ _ (field (.ref e) 2 >>= _) _ _ _;refine WY (XS he rfl (x:=.ref it) rfl ?_);refine WY (mX hh hit hl hx λh' x ic cU=>?_);obtain⟨o,ho,hc⟩:=cU;refine WY (Y0 (T:="StopIteration") (b:=true) ⟨o,ho,hc⟩ isSubtype_stop ?_);exact W2 (hQ _ ic)
def sf (h:Heap) (e it:Addr) (i:Nat) (as:List Addr):Prop:=(as=[]/\∃c8,IsEnum h e it (i:Int) c8)\/∃a r b,as=a::r/\r9 h e it a b i
def om (h:Heap) (items:Array Value) (as:List Addr):Prop:=∀(j:Nat) (b:Addr),as[j]?=some b->∃tk x,items[j]?=some x/\h.get? b=some { cls:=.type "tuple",data:=.seq #[.int (j:Int) tk,x] }
theorem HW {e it l:Addr}{i:Nat}{items:Array Value}{x:Value}{as:List Addr}{Q:Option Value->Shared->Prop} (hh:A.handled=none) (he:sf s.heap e it i as) (hA:om s.heap items as)
  (hit:s.heap.IsTupleIter it l i) (hl:s.heap.IsTuple l items) (hx:items[i]?=some x) (ne:e≠it) (nl:l≠e) (gO:l≠it) (na:∀a∈as,a≠e/\a≠it)
  (q:∀h' tk,sf h' e it (i+1) (as++[s.heap.objs.size])->h'.IsTupleIter it l (i+1)->h'.get? s.heap.objs.size=some { cls:=.type "tuple",data:=.seq #[.int i tk,x] }->h'.objs.size=s.heap.objs.size+1 ->
   (∀c o,c≠e->c≠it->s.heap.get? c=some o->h'.get? c=some o)->Q (some (.ref s.heap.objs.size)) { s with heap:=h',toks:=tk+1 }):wpAny (model prog w) A (pyNext (.ref e)) Q E s:=by
 rcases he with ⟨rfl,c8,he⟩ |⟨a,r,b,rfl,he⟩
 ·refine wpAny_pyNext_enum_itemD (Draws.tuple (A:=A.in1) hh it l gO items) he ⟨hit,hl⟩ (Array.getElem?_eq_some_iff.mp hx).1 ne (by simp only[XI,Xq,or_false,not_or];exact⟨ne,nl.symm⟩) λu h' tk hP Z' J T n k=>?_;have hP:items[i]?=some u:=hP;rw[hx]at hP;cases hP;exact q h' tk (.inr ⟨_,[],false,rfl,x,by have Z2:=Z';unfold IsEnumOut at Z2;rw[Int.natCast_add];exact Z2⟩) J.1 T n k
 ·obtain⟨tk,y,_,ha⟩:=hA 0 a rfl;obtain⟨n1,n2⟩:=na a (by simp);exact HQ he ha hit hl hx ne nl gO n1 n2 λh' tk z1 z2 z3 z4 z5=>q h' tk (.inr ⟨a,r++[_],true,rfl,z1⟩) z2 z3 z4 z5
theorem HX {R:Result->Shared->Prop} (hh:A.handled=none) {e it l S:Addr}{items:Array Value} (hz:items.size<sizeLine) (ne:e≠it) (nl:l≠e) (gO:l≠it) (ns:S≠e) (sg:S≠it) (HY:l≠S) (res:Value) (n0:Nat) (le:e<n0) (li:it<n0) (Ux:S<n0) :
  ∀(k i:Nat) (s:Shared) (as:List Addr) (c:Nat),items.size-i=k->i<=items.size->sf s.heap e it i as->s.heap.IsTupleIter it l i->s.heap.IsTuple l items->s.heap.get? S=some { cls:=.type "list",data:=.seq (as.map XC).toArray c }->om s.heap items as->as.length=i ->
   n0<=s.heap.objs.size->(∀a∈as,n0<=a)->as.Pairwise (· < ·) ->
   (∀h' tk iS c',(∀b o,b≠e->b≠it->b≠S->s.heap.get? b=some o->h'.get? b=some o)->h'.get? S=some { cls:=.type "list",data:=.seq (iS.map XC).toArray c' }->om h' items iS->iS.length=items.size->(∀a∈iS,n0<=a)->iS.Pairwise (· < ·) ->
    R (.ok (.ret res)) { s with heap:=h',toks:=tk })->codeAny (model prog w) A (.builtin "list.extend.loop" ⟨[.ref S,.ref e,res],[]⟩) R s:=by
 intro k
 induction k with
 |zero=>
  intro i s as c hk hi he hit hl hS hA la hn h0 pw q;have c5:i=items.size:=by lia
  subst c5;refine Yh F.entry_extend_loop ?_;rw[XM F.plain_extend_loop];unfold Builtin.«list.extend.loop»;have fin:∀h',Zb it s.heap h'->R (.ok (.ret res)) { s with heap:=h' }:=λh' eb=>q h' s.toks as c (λb o _ n2 _ z=>eb b o n2 z) (eb _ _ sg hS) (λj b z=>by
   obtain⟨tk,x,z1,z2⟩:=hA j b z;exact⟨tk,x,z1,eb _ _ (Yg (Xl li (h0 b (XN z)))) z2⟩) la h0 pw
  have nx:items[items.size]?=none:=by simp
  rcases he with ⟨_,c8,he⟩ |⟨a,r,b,_,f5,he⟩
  ·exact WY (C7 hh he hit hl nx λh' eb=>W2 (fin h' eb))
  ·exact WY (HV hh he hit hl nx λh' eb=>W2 (fin h' eb))
 |succ k ih=>
  intro i s as c hk hi he hit hl hS hA la hn h0 pw q;have be:i<items.size:=by lia
  obtain⟨x,hx⟩:∃x,items[i]?=some x:=⟨items[i],by simp [be]⟩;refine Yh F.entry_extend_loop ?_;rw[XM F.plain_extend_loop];unfold Builtin.«list.extend.loop»;refine WY (HW hh he hA hit hl hx ne nl gO (λa ha=>⟨Yg (Xl le (h0 a ha)),Yg (Xl li (h0 a ha))⟩) λh' tk ic p0 T' n' kp=>?_);have hS':=kp S _ ns sg hS;refine (show wpAny _ _ (updateSeq S (λy=>y.push (.ref s.heap.objs.size)) >>= _) _ _ _ from WY (wpAny_updateSeq hS' rfl ?_ (by rw[W4,W0,la];lia) (by rw[Array.size_push,W4,W0,la];lia)));have HZ:S<s.heap.objs.size:=Xh hS;have sb:=Xu h' S (XA λy=>y.push (.ref s.heap.objs.size));have H0:=Xz (XA λy=>y.push (.ref s.heap.objs.size)) hS' rfl;obtain⟨c',H1⟩:∃c',(h'.update S (XA λy=>y.push (.ref s.heap.objs.size))).get? S=some { cls:=.type "list",data:=.seq ((as++[s.heap.objs.size]).map XC).toArray c' }:=by
   have US:((as++[s.heap.objs.size]).map XC).toArray=((as.map XC).toArray).push (.ref s.heap.objs.size):=(by simp);rw[US];exact⟨_,H0⟩
  have rK:∀a∈as,a<s.heap.objs.size:=λa ha=>by
   obtain⟨j,hj⟩:=List.getElem?_of_mem ha;obtain⟨_,_,_,z⟩:=hA j a hj;exact Xh z
  refine W2 ⟨Yp F.plain_extend_loop _,ih (i+1) _ (as++[s.heap.objs.size]) c' (by lia) be ?_ ?_ ?_ H1 ?_ (by simp [la]) ?_ ?_ ?_ ?_⟩
  ·rcases ic with ⟨z,_⟩ |⟨a,r,b,z,f5,z'⟩
   ·simp at z
   ·exact .inr ⟨a,r,b,z,f5,sb.extBut _ _ ns.symm z'⟩
  ·exact p0.at λo z=>sb.extBut _ _ sg.symm z
  ·exact hl.at λo z=>sb.extBut _ _ HY (kp _ _ nl gO z)
  ·intro j b hj;by_cases hb:j<as.length
   ·rw[XO hb]at hj;obtain⟨tk,y,z1,z2⟩:=hA j b hj;have:=h0 b (XN hj);exact⟨tk,y,z1,sb.extBut _ _ (Yg (Xl Ux this)) (kp _ _ (Yg (Xl le this)) (Yg (Xl li this)) z2)⟩
   ·rw[XB (by lia)]at hj;have H3:j-as.length=0:=by
     rcases Nat.eq_zero_or_pos (j-as.length) with z |z
     ·exact z
     ·rw[List.getElem?_eq_none (by simp;lia)]at hj;cases hj
    rw[H3]at hj;cases hj;have:j=i:=(by lia);subst this;exact⟨tk,x,hx,sb.extBut _ _ (Yg HZ) T'⟩
  ·show n0<=(h'.update S _).objs.size;rw[Y7,n'];lia
  ·intro a ha;rcases List.mem_append.mp ha with z |z
   ·exact h0 a z
   ·rw[List.mem_singleton.mp z];exact hn
  ·rw[List.pairwise_append];exact⟨pw,List.pairwise_singleton _ _,λa ha b hb=>by rw[List.mem_singleton.mp hb];exact rK a ha⟩
  ·intro f8 H4 H5 H6 kk z2 z3 z4 z5 z6;exact q f8 H4 H5 H6 (λb o n1 n2 n3 z=>kk b o n1 n2 n3 (sb.extBut _ _ n3 (kp b o n1 n2 z))) z2 z3 z4 z5 z6
theorem H7:typeLookup (.type "enumerate") "__len__"=pure none:=by rw[YH,X5];kernel_rfl
theorem H8:typeLookup (.type "enumerate") "__length_hint__"=pure none:=by rw[YH,X5];kernel_rfl
theorem H9 {Q:Value->Shared->Prop} (hh:A.handled=none) {e it l:Addr}{items:Array Value}{c8:Value} (hz:items.size<sizeLine) (he:IsEnum s.heap e it 0 c8) (hit:s.heap.IsTupleIter it l 0) (hl:s.heap.IsTuple l items) (ne:e≠it) (nl:l≠e) (gO:l≠it)
  (q:∀h' tk as c,(∀b o,b≠e->b≠it->s.heap.get? b=some o->h'.get? b=some o)->h'.get? s.heap.objs.size=some { cls:=.type "list",data:=.seq (as.map XC).toArray c }->om h' items as->as.length=items.size->(∀a∈as,s.heap.objs.size<a)->as.Pairwise (· < ·) ->
   Q (.ref s.heap.objs.size) { s with heap:=h',toks:=tk }):wpAny (model prog w) A (call (.type "list") [.ref e]) Q E s:=by
 have le:=Xh he;obtain⟨UR,oj,se⟩:=id hit;obtain⟨ol,lI,hl2⟩:=id hl;have li:=Xh oj;have ll:=Xh lI;refine callType_codes F.called_list (F.typeCall_list_1 _) F.entry_list_init (code_list_new (Q₁:=λv s1=>v=.ref s.heap.objs.size/\s1={ s with heap:=s.heap.push { cls:=.type "list",data:=.seq #[] } }) _ ⟨rfl,rfl⟩) ?_;rintro obj s1 ⟨rfl,rfl⟩;have h0:=W5 s.heap (o:={ cls:=.type "list",data:=.seq #[] }) rfl;refine⟨⟨_,h0,rfl⟩,F.args_list_init_2 _ _,?_⟩;have kp:∀c o,s.heap.get? c=some o->(s.heap.push { cls:=.type "list",data:=.seq #[] }).get? c=some o:=λc o z=>WZ _ z;have sd:=kp _ _ he;have SP:=kp _ _ oj;have SQ:=kp _ _ lI;have f1:=H7;have f2:=H8;have sz:(s.heap.push { cls:=.type "list",data:=.seq #[] }).objs.size=s.heap.objs.size+1:=Xx ..;obtain⟨hp,g,d,tk,os⟩:=s;dsimp only at *
 wp_walk using Xm h0
 obtain⟨c1,yD⟩:∃c,((hp.push { cls:=.type "list",data:=.seq #[] }).update hp.objs.size (XA λx=>#[])).get? hp.objs.size=some { cls:=.type "list",data:=.seq #[] c }:=⟨_,Xz _ h0 rfl⟩;have k1:∀c o,hp.get? c=some o->((hp.push { cls:=.type "list",data:=.seq #[] }).update hp.objs.size (XA λx=>#[])).get? c=some o:=λc o z=>(Xu ..).extBut _ _ (Xi (Xh z)) (kp _ _ z);have eX:((hp.push { cls:=.type "list",data:=.seq #[] }).update hp.objs.size (XA λx=>#[])).objs.size=hp.objs.size+1:=by rw[Y7,sz]
 generalize ((hp.push { cls:=.type "list",data:=.seq #[] }).update hp.objs.size (XA λx=>#[]))=h1 at *;have sh:=k1 _ _ he;have hT:Shared.TypeIs (⟨h1,g,d,tk,os⟩:Shared) (.ref e) "enumerate":=⟨_,sh,rfl⟩;have ns:(Builtin.List.listSameRef (XC hp.objs.size) (XC e))=false:=by
  show (hp.objs.size == e)=false;simpa using Yg le
 refine Xm sh (W2 ?_);rw[ns];refine WY (wpAny_pyIter_enum sh (WY (XU ?_)));unfold Builtin.List.listLengthHint;refine WY (wpAny_specialOf hT f1 ?_);refine (show wpAny _ _ (specialOf (.ref e) "__length_hint__" >>= _) _ _ _ from WY (wpAny_specialOf hT f2 (W2 ?_)));refine (show wpAny _ _ (rule "list.extend.makes-room" >>= _) _ _ _ from WY (wpAny_rule ?_));refine (show wpAny _ _ (Builtin.List.listTouch (.ref hp.objs.size) >>= _) _ _ _ from ?_);unfold Builtin.List.listTouch;obtain⟨c2,yE⟩:∃c,(h1.update hp.objs.size (XA λx=>x.push .none)).get? hp.objs.size=some { cls:=.type "list",data:=.seq #[.none] c }:=⟨_,Xz _ yD rfl⟩;obtain⟨c3,H'⟩:∃c,((h1.update hp.objs.size (XA λx=>x.push .none)).update hp.objs.size (XA λx=>x.pop)).get? hp.objs.size=some { cls:=.type "list",data:=.seq #[] c }:=⟨_,Xz _ yE rfl⟩;have k3:∀c o,hp.get? c=some o->((h1.update hp.objs.size (XA λx=>x.push .none)).update hp.objs.size (XA λx=>x.pop)).get? c=some o:=λc o z=>(Xu ..).extBut _ _ (Xi (Xh z)) ((Xu ..).extBut _ _ (Xi (Xh z)) (k1 _ _ z));have Ia:((h1.update hp.objs.size (XA λx=>x.push .none)).update hp.objs.size (XA λx=>x.pop)).objs.size=hp.objs.size+1:=by rw[Y7,Y7,eX]
 refine WY (WY (show wpAny _ _ (updateSeq hp.objs.size λx=>x.push .none) _ _ _ from wpAny_updateSeq yD rfl ?_ (Xk _) (by show 1<=sizeLine+1;lia)));refine (show wpAny _ _ (updateSeq hp.objs.size λx=>x.pop) _ _ _ from wpAny_updateSeq yE rfl ?_ (by show 1<=sizeLine;decide) (Xk _));dsimp only;generalize ((h1.update hp.objs.size (XA λx=>x.push .none)).update hp.objs.size (XA λx=>x.pop))=h3 at *;refine W2 ⟨Yp F.plain_extend_loop _,HX (A:=A.in1) hh hz ne nl gO (Yg le) (Yg li) (Xi ll) _ (hp.objs.size+1) (Yo le) (Yo li) (YJ _) _ 0 _ [] c3 rfl (Xk _) (.inl ⟨rfl,c8,k3 _ _ he⟩) (hit.at λo z=>k3 _ _ z) (hl.at λo z=>k3 _ _ z) H' (λj b z=>by cases z) rfl (Zd Ia.symm) (λ_ z=>nomatch z) .nil
  λh' dV iS c' kk z2 z3 z4 z5 z6=>⟨rfl,q h' dV iS c' (λb o n1 n2 z=>kk b o n1 n2 (Xi (Xh z)) (k3 _ _ z)) z2 z3 z4 z5 z6⟩⟩
end
end L2
end
section
set_option maxHeartbeats 1000000
namespace N
open PySem PySem.Spec PyProof.Rows L2
open Classical in
noncomputable def cF (F:Fz) (as:List Addr) (h:Heap):Fz:=λb=>if b∈as then (h.get? b).map Fo.dat else F b
section
variable {X:Cx} {τ:St} {z:Z}
theorem oo {F:Fz}{as:List Addr}{h:Heap}{b:Addr}{o:Obj} (hb:b∈as) (e:h.get? b=some o):cF F as h b=some (.dat o):=by unfold cF;rw[if_pos hb,e];rfl
theorem jZ {F:Fz}{as:List Addr}{h:Heap}{b:Addr} (hb:b ∉ as):cF F as h b=F b:=if_neg hb
theorem ae.many {as:List Addr}{h':Heap}{t:Nat} (I:ae X τ z) (kp:∀ b,bg z.s.heap h' b) (new:∀ b∈as,z.s.heap.objs.size<=b):Le z.F (cF z.F as h')/\ae X τ ⟨cF z.F as h',z.M,{ z.s with heap:=h',toks:=t }⟩:=by
  have l:Le z.F (cF z.F as h'):=λb f e=>by
    rw[jZ λhb=>by rw[I.hok.cA (new b hb)]at e;cases e];exact e
  have ok:aG X.G (cF z.F as h') z.M h':=by
   refine⟨λb f e=>?_,λb o e=>?_,I.hok.tb.go (λT p q e=>?_) l.d λT _ _ _=>kp T⟩
   · by_cases hb:b∈as
     · cases q:h'.get? b with
       |none=>unfold cF at e;rw[if_pos hb,q]at e;cases e
       |some o=>rw[oo hb q]at e;cases e;exact q
     · rw[jZ hb]at e;exact (I.hok.fz b f e).go (kp b)
   case refine_3=>
     by_cases hb:T∈as
     · cases r:h'.get? T with
       |none=>unfold cF at e;rw[if_pos hb,r]at e;cases e
       |some o=>rw[oo hb r]at e;cases e
     · rw[jZ hb]at e;exact e
   · have hb:b ∉ as:=λm=>by have:=I.hok.c9 (new b m);rw[e]at this;cases this
     exact⟨(jZ hb).trans (I.hok.ob b o e).1,(I.hok.ob b o e).2.go l.d (λc _=>kp c) λ_ q=>q⟩
  exact⟨l,I.go l ok (λb hb=>⟨(kp b).s,I.dc hb,jZ λm=>YD _ (Xl (I.fY hb) (new b m))⟩) rfl I.bare⟩
def yF (ta:DE):DE:=fun τ M q=>ta τ M λx M1=>match x with
 |.tup ds=>ds.length<sizeLine/\bQ (gH ds) M1 q
 |_=>False
theorem yG {G:Gx}{F:Fz}:∀ {ds:List D}{us:List Value}{as:List Addr}{k:Nat},af G F ds us->as.length=us.length->(∀ (j:Nat) (b:Addr),as[j]?=some b->∃ tk x,us[j]?=some x/\F b=some (.dat { cls:=.type "tuple",data:=.seq #[.int ((k+j:Nat):Int) tk,x] })) ->
  af G F (ds.mapIdx λi d=>.tup [.int ((k+i:Nat):Int),d]) (as.map XC)
 |[],us,as,k,r,l,h=>by
  rw[af]at r;subst r;rw[List.length_eq_zero_iff.mp l];exact .nil
 |d::ds,us,as,k,r,l,h=>by
  rw[af]at r;obtain⟨u,us,rfl,r1,r2⟩:=r;cases as with
  |nil=>cases l
  |cons a as=>
   obtain⟨tk,x,e1,e2⟩:=h 0 a rfl;cases e1;rw[List.mapIdx_cons,Xe];refine .cons ?_ ?_
   ·rw[ab];exact⟨a,_,[.int ((k+0:Nat):Int) tk,u],rfl,e2,⟨rfl,rfl,⟨_,rfl⟩,by show 2<=sizeLine;decide⟩,.cons b5 (.cons r1 .nil)⟩
   ·have:=yG (k:=k+1) (as:=as) r2 (Zl l) λj b hb=>by
     obtain⟨tk,x,e1,e2⟩:=h (j+1) b hb;exact⟨tk,x,e1,by rw[show k+1+j=k+(j+1) by lia];exact e2⟩
    have e:(λ(i:Nat) (d:D)=>D.tup [.int ((k+(i+1):Nat):Int),d])=λi d=>.tup [.int ((k+1+i:Nat):Int),d]:=(by funext i d;rw[show k+(i+1)=k+1+i by lia]);rw[e];exact this
theorem Ib {e:Expr}{te:DE}{p1 p2 gN dF:Pos} (hc:X.calm=true) (rZ:Gl X "list") (jX:X.G.mg "list"=none) (r6:Gl X "enumerate") (r8:X.G.mg "enumerate"=none) (he:PE X e te) (hs:bU e=true) :
  PE X (.Call (.Name "list" p1) [.Call (.Name "enumerate" p2) [e] [] dF] [] gN) (yF te):=fun τ z Q R I h k=>by
 refine XY (eG I rZ jX (by decide +kernel:bootBuiltins "list"=some (.type "list")) (by decide) (by decide) ?_);refine Ye ?_ (bC rfl) rfl;rw[bC (e:=.Call (.Name "enumerate" p2) [e] [] dF) rfl];show W X (spliced ((false,eval (.Call (.Name "enumerate" p2) [e] [] dF) X.env)::backTo gN (starEach [] X.env))) _ z.s;refine Yu ?_;refine XY (eG I r6 r8 boot_enumerate (by decide) (by decide) ?_);refine Ye ?_ (bC hs) rfl;refine qk he qj (bC hs) dF τ z (λds M=>n1 (λd M Q=>match d with
  |.tup ds=>ds.length<sizeLine/\bQ (gH ds) M Q
  |_=>False) ds M Q) _ I h λds z1 us l1 I1 r1 q1=>?_
 unfold n1 at q1;dsimp only at q1;split at q1
 case h_2=>exact q1.elim
 obtain⟨u,rfl,ru⟩:=gc r1;split at q1
 case h_2=>exact q1.elim
 rename_i ds;obtain⟨hz,q⟩:=q1;obtain⟨a,us,o,rfl,l⟩:=I1.cW ru;have hl:=l.r.len;refine C6 l.p λh' Z J n2 keep=>?_;refine Y2 ?_;have hL:h'.IsTuple a us.toArray:=(show z1.s.heap.IsTuple a us.toArray from l.p).at λo e=>keep _ _ e;obtain⟨ol,e1,_⟩:=id l.p;have la:=Xh e1;refine H9 (s:={ z1.s with heap:=h' }) (I1.ok.hd hc) (by rw[W4,<- hl];exact hz) Z J hL (Yg (YJ _)) (Xi (Yo la)) (Xi la) λh2 tk as c kp hS hA ln hn pw=>?_;have kk:∀b,bg z1.s.heap h2 b:=λb o e=>kp b o (Xi (Yo (Xh e))) (Xi (Xh e)) (keep b o e);have sz:z1.s.heap.objs.size<=h'.objs.size:=by rw[n2];lia
 obtain⟨l2,I2⟩:=I1.many (as:=as) (t:=tk) kk λb hb=>W9 sz (Nat.le_of_lt (hn b hb));have rs:af X.G (cF z1.F as h2) (gH ds) (as.map XC):=by
  have:=yG (k:=0) (as:=as) (l.r.up l2.d) (by rw[ln,W4]) λj b hb=>by
   obtain⟨tk,x,e1,e2⟩:=hA j b hb;exact⟨tk,x,by simpa using e1,oo (XN hb) (by rw[Nat.zero_add];exact e2)⟩
  simpa [gH] using this
 have fp:Fp X ⟨cF z1.F as h2,z1.M,{ z1.s with heap:=h2,toks:=tk }⟩ h'.objs.size:=⟨(jZ (F:=z1.F) (h:=h2) λm=>YD _ (hn _ m)).trans (I1.hok.cA sz),I1.hok.c9 sz,λo=>YD _ (Xl (I1.fY o) sz)⟩;exact I2.rB (n:=c) fp k (l1.tr l2) rs hS (by rw[W0,ln,W4,<- hl];exact Nat.le_of_lt hz) q
end
end N
end
section
set_option maxHeartbeats 1000000
namespace N
open PySem PySem.Spec PyProof.Rows L2
noncomputable def dX (kvs more:List (Key×D)):List (Key×D):=more.foldl (λal kv=>aY al kv.1 kv.2) kvs
theorem KV.add {G:Gx}{F:Fz}{more:List (Key×D)}{ws:List (Key×Value)} (r:KV G F more ws):∀{kvs:List (Key×D)}{vs:List (Key×Value)},KV G F kvs vs->KV G F (dX kvs more) (merged vs ws):=by
 unfold KV at r
 induction r with
 |nil=>intro kvs vs q;exact q
 |@cons p q ps qs h t ih=>
  intro kvs vs k;have:=ih (KV.put k p.1 h.2);rw[h.1]at this;show KV G F (dX (aY kvs p.1 p.2) ps) (merged (stored vs q.1 q.2) qs);rw[h.1];exact this
theorem Ic (more:List (Key×D)):∀kvs:List (Key×D),(dX kvs more).length<=kvs.length+more.length:=by
 induction more with
 |nil=>intro kvs;exact W3 _
 |cons p r ih=>
  intro kvs;have h1:=ih (aY kvs p.1 p.2);have h2:=xU kvs p.1 p.2;show (dX (aY kvs p.1 p.2) r).length<=_;rw[Xd];lia
def si:QM:=λo ds M q=>match o,ds with
 |.ref p,[.ak ks es]=>∃kvs,M p=some (.ak kvs)/\kvs.length+ks.length<=sizeLine/\q .aj (up M p (.ak (dX kvs (ks.zip es))))
 |_,_=>False
section
variable {X:Cx} {τ:St} {z:Z}
theorem Ie:OM X "dict.update" si:=fun τ z Q R d v ds us I rv rs h k=>by
 unfold si at h;split at h
 ·rename_i p ks es;obtain⟨kvs,hp,hz,q⟩:=h;rw[ab]at rv;subst rv;obtain⟨u,rfl,ru⟩:=gc rs;have hF:=(I.hok.ob _ _ hp).1;have yH:=ru;rw[ab]at yH;obtain⟨a,o,us',rfl,e1,e2,e3,e4⟩:=yH;obtain⟨TF,SR,ws,e,l2,hm⟩:=I.cu (k:=λkvs=>kvs=ks.zip es) ru rfl;cases e;subst hm;obtain⟨vs,l⟩:=I.iE hp;have ne:p≠a:=λq=>by rw[q,e1]at hF;cases hF
  have lz:(ks.zip es).length<=ks.length:=by rw[YS];exact Nat.min_le_left _ _
  refine call_meetsIn PySem.F.slot_dict_update l.d.typeIs PySem.F.entry_dict_update (PySem.F.args_dict_update_2 _ _) (meets_dict_update (bo X.G.P X.G.w) p a ne l2.n) ⟨vs,ws,l.d,l2.d,by rw[<- Paired.length l.r,<- Paired.length l2.r];lia,λh' dd _ hs=>?_⟩;have he:∃q,h'.get? p=some q:=let ⟨q,_,_,hq,_⟩:=dd;⟨q,hq⟩
  exact k .aj ⟨z.F,_,_⟩ _ Le.rfl (I.put (t:=z.s.toks) (o':=.ak (dX kvs (ks.zip es))) hp rfl (.inl rfl) (λb hb o q=>(hs.2 b hb).trans q) he ⟨W9 (Ic _ _) (by lia),l.n,_,l2.r.add l.r,dd⟩) (by rw[ab]) q
 ·exact h.elim
end
end N
end
section
set_option maxHeartbeats 1000000
namespace N
open PySem PySem.Spec PyProof.Rows L2
mutual
inductive Fr (M K:Mp):D->D->Prop
 |rfl {d:D}:Fr M K d d
 |lst {p:Addr}{ds es:List D}:M p=some (.lst ds)->K p=none->gu M K ds es->Fr M K (.ref p) (.lst es)
 |ak {p:Addr}{kvs:List (Key×D)}{es:List D}:M p=some (.ak kvs)->K p=none->gu M K (kvs.map (·.2)) es->Fr M K (.ref p) (.ak (kvs.map (·.1)) es)
 |tup {ds es:List D}:gu M K ds es->Fr M K (.tup ds) (.tup es)
 |Ig {ds es:List D}:gu M K ds es->Fr M K (.lst ds) (.lst es)
inductive gu (M K:Mp):List D->List D->Prop
 |rfl {ds:List D}:gu M K ds ds
 |cons {d e:D}{ds es:List D}:Fr M K d e->gu M K ds es->gu M K (d::ds) (e::es)
end
structure cx (K M:Mp):Prop where
 sub:∀a o,K a=some o->M a=some o
 own:∀a b,K a≠none->M b=some (.own a)->K b=some (.own a)
theorem cx.rfl {M:Mp}:cx M M:=⟨λ_ _ h=>h,λ_ _ _ h=>h⟩
noncomputable def dg (F:Fz) (M K:Mp) (h:Heap):Fz:=λa=>match M a,K a with
 |some _,none=>(h.get? a).map Fo.dat
 |_,_=>F a
section
variable {G:Gx}{F:Fz}{M K:Mp}{h:Heap}
theorem eY (x:aG G F M h):Le F (dg F M K h):=λa f e=>by
 unfold dg;cases q:M a with
 |none=>exact e
 |some o=>have:=(x.ob a o q).1;rw[e]at this;cases this
theorem yI {a:Addr}{o:MO}{ob:Obj} (hM:M a=some o) (hK:K a=none) (e:h.get? a=some ob):dg F M K h a=some (.dat ob):=by
 unfold dg;rw[hM,hK];show (h.get? a).map Fo.dat=_;rw[e];rfl
theorem yJ (x:aG G F M h) (s:cx K M):aG G (dg F M K h) K h:=by
 refine⟨λa f e=>?_,λa o e=>?_,x.tb.go (λT p q e=>?_) (eY x).d λ_ _ _ _ _ e=>e⟩
 case refine_3=>
  unfold dg at e;split at e
  ·cases q:h.get? T <;> rw[q]at e <;> cases e
  ·exact e
 ·unfold dg at e;split at e
  ·cases q:h.get? a with
   |none=>rw[q]at e;cases e
   |some ob=>rw[q]at e;cases e;exact q
  ·exact x.fz a f e
 ·have hM:=s.sub a o e;obtain⟨h1,h2⟩:=x.ob a o hM;refine⟨by unfold dg;rw[hM,e];exact h1,h2.go (eY x).d (λ_ _ _ q=>q) λb q=>s.own a b (by rw[e];exact XH o) q⟩
mutual
theorem Fr.rel (x:aG G F M h):∀{d e:D}{u:Value},Fr M K d e->ab G F d u->ab G (dg F M K h) e u
 |_,_,u,.rfl,r=>r.up (eY x).d
 |_,_,u,.lst h1 h2 h3,r=>by
  rw[ab]at r;subst r;obtain⟨_,hz,us,n,rs,e⟩:=x.ob _ _ h1;exact nk (yI h1 h2 e) (by rw[<- rs.len];exact hz) (h3.rel x rs)
 |_,_,u,.ak (kvs:=kvs) h1 h2 h3,r=>by
  rw[ab]at r;subst r;obtain⟨_,hz,hs,vs,rs,o,es,ep,e,ex,g1,g2,g3,nd⟩:=x.ob _ _ h1;obtain⟨k1,k2⟩:=lr rs;rw[ab];refine⟨_,o,vs.map (·.2),rfl,yI h1 h2 e,⟨ex,⟨es,ep,g1,g2,?_⟩,by rw[k2];exact nd,by rw[k2,W0,W0],by rw[W0];exact hz⟩,hs,h3.rel x k1⟩;rw[k2,xO];exact g3
 |_,_,u,.tup h3,r=>by
  rw[ab]at r ⊢;obtain⟨a,o,us,e,h1,h2,rs⟩:=r;exact⟨a,o,us,e,eY x a _ h1,h2,h3.rel x rs⟩
 |_,_,u,.Ig h3,r=>by
  rw[ab]at r ⊢;obtain⟨a,n,us,e,h1,h2,rs⟩:=r;exact⟨a,n,us,e,eY x a _ h1,h2,h3.rel x rs⟩
theorem gu.rel (x:aG G F M h):∀{ds es:List D}{us:List Value},gu M K ds es->af G F ds us->af G (dg F M K h) es us
 |_,_,us,.rfl,r=>r.up (eY x).d
 |_,_,us,.cons h1 h2,r=>by
  rw[af]at r;obtain⟨u,us,rfl,r1,r2⟩:=r;exact .cons (h1.rel x r1) (h2.rel x r2)
end
end
theorem ae.Ih {X:Cx} {τ:St} {z:Z}{K:Mp} (I:ae X τ z) (s:cx K z.M):ae X τ ⟨dg z.F z.M K z.s.heap,K,z.s⟩ where
 ok:=I.ok
 bs:=I.bs.up (eY I.hok)
 os:=I.os
 bare:=I.bare
 cc:=λenv h=>let ⟨h1,L,o,h2,h3,h4⟩:=I.cc env h;⟨h1,L,o,h2,eY I.hok _ _ h3,h4⟩
 loc:=let ⟨m,h1,h2⟩:=I.loc;⟨m,h1,λi x d a b c=>let ⟨u,r,l⟩:=h2 i x d a b c;⟨u,r.up (eY I.hok).d,l⟩⟩
 cell:=λx c h=>by
  obtain⟨h1,h2,h3⟩:=I.cell x c h;have e:dg z.F z.M K z.s.heap c=z.F c:=by unfold dg;rw[h2]
  refine⟨h1,?_,?_⟩
  ·cases q:K c with
   |none=>exact q
   |some o=>rw[s.sub c o q]at h2;cases h2
  ·dsimp only;rw[e];exact h3
 free:=by
  obtain⟨h1,h2⟩:=I.free;refine⟨by dsimp only;unfold dg;rw[h2];exact h1,?_⟩;cases q:K X.env.locals with
  |none=>exact q
  |some o=>rw[s.sub _ o q]at h2;cases h2
 hok:=yJ I.hok s
 len:=I.len
noncomputable def c6 (a:Addr) (d:D):Option D->Option D
 |some (.ref b)=>if b=a then some d else some (.ref b)
 |o=>o
theorem Ii {M:Mp}{a:Addr}{o:MO} (h:M a=some o) (n:∀b,o≠.own b):cx (rm M a) M:=⟨λb u e=>by
 by_cases z:b=a
 ·rw[z,mY]at e;cases e
 ·rw[p6 z]at e;exact e,λb c e q=>by
 by_cases z:c=a
 ·rw[z,h]at q;cases q;exact absurd rfl (n b)
 ·rw[p6 z];exact q⟩
theorem ae.yK {X:Cx} {τ:St} {z:Z}{a:Addr}{o:MO}{d:D} (I:ae X τ z) (h:z.M a=some o) (n:∀b,o≠.own b) (f:Fr z.M (rm z.M a) (.ref a) d):∃F',Le z.F F'/\ae X (τ.map (c6 a d)) ⟨F',rm z.M a,z.s⟩:=by
 have I':=I.Ih (Ii h n);refine⟨_,eY I.hok,{ I' with loc:=?_,len:=by rw[W0];exact I.len }⟩;obtain⟨m,h1,h2⟩:=I'.loc;refine⟨m,h1,λi x e hx he hv=>?_⟩;rw[Xj]at he;obtain⟨y,hy,hs⟩:=Option.map_eq_some_iff.mp he;cases y with
 |none=>cases hs
 |some y=>
  obtain⟨u,r,l⟩:=h2 i x y hx hy hv;cases y with
  |ref b=>
   unfold c6 at hs;dsimp only at hs;split at hs
   ·rename_i e0;subst e0;cases hs;rw[ab]at r;exact⟨u,by rw[r];exact f.rel I.hok (by rw[ab]),l⟩
   ·cases hs;exact⟨u,r,l⟩
  |_=>cases hs;exact⟨u,r,l⟩
inductive cO (P:St->Mp->Prop):St->Mp->Prop
 |rfl {τ:St} {M:Mp}:P τ M->cO P τ M
 |lst {τ:St} {M:Mp} (a:Addr) (ds:List D):M a=some (.lst ds)->cO P (τ.map (c6 a (.lst ds))) (rm M a)->cO P τ M
 |ak {τ:St} {M:Mp} (a:Addr) (kvs:List (Key×D)):M a=some (.ak kvs)->cO P (τ.map (c6 a (.ak (kvs.map (·.1)) (kvs.map (·.2))))) (rm M a)->cO P τ M
theorem KS.Ij {X:Cx}{F:Fz}{e:En}{R:Flow->Shared->Prop} (k:KS X F e R):KS X F { e with nx:=cO e.nx } R where
 rt:=k.rt
 bk:=k.bk
 ct:=k.ct
 nx:=fun τ z l I h=>by
  have go:∀{τ:St} {M:Mp},cO e.nx τ M->∀z:Z,z.M=M->Le F z.F->ae X τ z->R .next z.s:=λh=>by
   induction h with
   |rfl h=>intro z e l I;subst e;exact k.nx _ z l I h
   |lst a ds h1 _ ih=>
    intro z e l I;subst e;obtain⟨F',l',I'⟩:=I.yK h1 (λb q=>by cases q) (.lst h1 mY .rfl);exact ih ⟨F',rm z.M a,z.s⟩ rfl (l.tr l') I'
   |ak a kvs h1 _ ih=>
    intro z e l I;subst e;obtain⟨F',l',I'⟩:=I.yK h1 (λb q=>by cases q) (.ak h1 mY .rfl);exact ih ⟨F',rm z.M a,z.s⟩ rfl (l.tr l') I'
  exact go h z rfl l I
def yL (ti:DI) (g:DG) (tb:DS):DS:=λe τ M=>qp ti g tb { e with nx:=cO e.nx } τ M
theorem Ik {X:Cx}{st:Stmt}{ti:DI}{g:DG}{tb:DS} (h:PS X st (qp ti g tb)):PS X st (yL ti g tb):=fun τ z e R I q k=>h τ z _ R I q k.Ij
end N
end
section
set_option maxHeartbeats 1000000
namespace N
open PySem PySem.Spec PyProof.Rows L2 PySem.W
structure sj (G:Gx) (F0:Fz) (d:Addr) (ks:List Key) (ds:List D) (n ep:Nat):Prop where
 bL:∀{F M h},Le F0 F->aG G F M h->∃vs,KV G F (ks.zip ds) vs/\h.DictAt (bo G.P G.w) d vs ep/\vs.length=n
 len:(ks.zip ds).length=n
theorem oq {X:Cx} {τ:St} {z:Z}{ks:List Key}{ds:List D}{u:Value} (I:ae X τ z) (r:ab X.G z.F (.ak ks ds) u):∃a n ep vs,u=.ref a/\sj X.G z.F a ks ds n ep/\z.s.heap.DictAt (bo X.G.P X.G.w) a vs ep/\vs.length=n/\(a == sysModules)=false:=by
 rw[ab]at r;obtain⟨a,o,us,rfl,h1,h2,h4,h3⟩:=r;obtain⟨es,ep,g1,g2,g3⟩:=h2.bL;have hl:=h3.len;have key:∀{F M h},Le z.F F->aG X.G F M h->∃vs,KV X.G F (ks.zip ds) vs/\h.DictAt (bo X.G.P X.G.w) a vs ep/\vs.length=(ks.zip us).length:=λ{F M h} l ok=>
  ⟨ks.zip us,KV.zip (h3.up l.d),⟨o,es,ok.fz a _ (l a _ h1),h2.ex,g1,g2,g3,by rw[List.map_fst_zip (by rw[h2.len];exact W3 _)];exact h2.nd⟩,rfl⟩
 obtain⟨vs,q1,q2,q3⟩:=key Le.rfl I.hok;exact⟨a,(ks.zip us).length,ep,vs,rfl,⟨key,by rw[YS,YS,hl]⟩,q2,q3,h4⟩
theorem yM {G:Gx}{F:Fz}{P:Program}{w:World}{k:Key}{u:Value} (h:(bo P w).is k u=true):ab G F (iK k) u:=by
 rcases d8 (k:=k) (v:=u) h with ⟨i,t,rfl,rfl⟩ |⟨x,t,rfl,rfl⟩
 ·exact b5
 ·exact gD
theorem ot {G:Gx}{F:Fz}:∀{a:List (Key×D)}{b:List (Key×Value)}{i:Nat}{p:Key×D},KV G F a b->a[i]?=some p->∃q,b[i]?=some q/\p.1=q.1/\ab G F p.2 q.2
 |_,_,_,_,.nil,e=>by simp at e
 |_,_,0,_,.cons r _,e=>by simp at e;subst e;exact⟨_,rfl,r.1,r.2⟩
 |_,_,i+1,_,.cons _ t,e=>by
  obtain⟨q,h1,h2⟩:=ot (i:=i) t (by simpa using e);exact⟨q,by simpa using h1,h2⟩
section
variable {G:Gx}{F0:Fz}{d it:Addr}{ks:List Key}{ds:List D}{n ep:Nat}{tg:Expr}{jp:List Expr}{kk:Nat}{tp:Pos}
theorem Il (S:sj G F0 d ks ds n ep):f9 G tg ((ks.zip ds).map λp=>iK p.1) (λ_=>True) F0 [it] it (λi h=>h.IsKeyIter it d i n ep) where
 obj:=λi h st c hc=>by
  rw[List.mem_singleton.mp hc];obtain⟨o,q,_⟩:=st;exact⟨o,q⟩
 keep:=λi h h' st k=>by
  obtain⟨o,q,r⟩:=st;exact⟨o,k it (List.mem_singleton.mpr rfl) _ q,r⟩
 item:=by
  intro X hG hc i τ z d' E I l hf st hok hd;subst hG;rw[Xj]at hd;obtain⟨p,hp,rfl⟩:=Option.map_eq_some_iff.mp hd;obtain⟨vs,rel,da,lv⟩:=S.bL l I.hok;obtain⟨q,hq,e1,r2⟩:=ot rel hp;rw[<- lv]at st ⊢;refine wpAny_pyNext_dict_item (k:=q.1) (v:=q.2) st da hq λkey h' hk bm sb=>⟨_,rfl,?_⟩;refine letGo_keyiter (s':={ z.s with heap:=h' }) bm ?_;exact⟨Le.rfl,I.dz (t:=z.s.toks) hf λc hc o e=>sb.extBut c o (by simpa using hc) e,by rw[e1];exact yM hk,bm,λb hb=>(hf b hb).f⟩
 done:=by
  intro X hG hc i τ z E I l hf st hok hd;subst hG;obtain⟨vs,rel,da,lv⟩:=S.bL l I.hok;rw[<- lv]at st;refine wpAny_pyNext_dict_end (I.ok.hd hc) st da ?_ λh' eb=>⟨rfl,I.dz (t:=z.s.toks) hf λb hb o e=>eb b o (by simpa using hb) e⟩;rw[W0,Paired.length rel]at hd;simp;lia
 self:=λ_ _ _ _ _ st h=>wpAny_pyIter_keyiter st h
theorem Im (S:sj G F0 d ks ds n ep):f9 G (.Tuple jp kk tp) ((ks.zip ds).map de) (λ_=>True) F0 [it] it (λi h=>∃ok ov,IsItemIter h it d i n ep ok ov) where
 obj:=λi h st c hc=>by
  rw[List.mem_singleton.mp hc];obtain⟨_,_,q⟩:=st;exact⟨_,q⟩
 keep:=λi h h' st k=>by
  obtain⟨o1,o2,q⟩:=st;exact⟨o1,o2,k it (List.mem_singleton.mpr rfl) _ q⟩
 item:=by
  intro X hG hc i τ z d' E I l hf st hok hd;subst hG;rw[Xj]at hd;obtain⟨p,hp,rfl⟩:=Option.map_eq_some_iff.mp hd;obtain⟨vs,rel,da,lv⟩:=S.bL l I.hok;obtain⟨q,hq,e1,r2⟩:=ot rel hp;obtain⟨o1,o2,q1⟩:=st;rw[<- lv]at q1 ⊢;have hit:it<z.s.heap.objs.size:=Xh q1;refine wpAny_pyNext_items_item (k:=q.1) (v:=q.2) q1 da hq λkey h' hk Z' T' n' keep=>⟨_,rfl,?_⟩;refine wpAny_letOwnedTupleGo_items Z' λf8 qu sb=>?_;have I':ae X τ ⟨z.F,z.M,{ z.s with heap:=f8,toks:=z.s.toks }⟩:=I.dz hf λc hc o e=>by
   simp only[XI,Xq,or_false]at hc;exact sb.extBut _ _ hc (keep c o hc e)
  refine vV I' (I.jy (W3 _)) (sb.extBut _ _ (Yg hit) T') ⟨rfl,rfl,⟨0,rfl⟩,by show 2<=sizeLine;decide⟩ (by rw[e1];exact yM hk) r2 ⟨_,_,qu⟩ λc hc=>⟨(hf c hc).f,?_⟩;rw[List.mem_singleton.mp hc];exact Xi hit
 done:=by
  intro X hG hc i τ z E I l hf st hok hd;subst hG;obtain⟨vs,rel,da,lv⟩:=S.bL l I.hok;obtain⟨o1,o2,q1⟩:=st;rw[<- lv]at q1;refine wpAny_pyNext_items_end (I.ok.hd hc) q1 da ?_ λh' eb=>⟨rfl,I.dz (t:=z.s.toks) hf λb hb o e=>eb b o (by simpa using hb) e⟩;rw[W0,Paired.length rel]at hd;simp;lia
 self:=λ_ _ _ _ _ st h=>by
  obtain⟨o1,o2,q1⟩:=st;exact kcp_self q1 h
end
section
variable {X:Cx}{o e:Expr}{to te:DE}{tg:Expr}{jp:List Expr}{kk:Nat}{tp q p:Pos}
def yN (t:DE):DI:=fun τ M k=>t τ M λd M1=>match d with
 |.ak ks ds=>k ((ks.zip ds).map λp=>iK p.1) (λ_=>True) M1
 |.str x=>x.cps.all (·<128)=true/\k (nA x) (λ_=>True) M1
 |d=>iq d M1 λxs ok=>k xs ok M1
theorem Io (hl:PE X e te):PI X tg e (yN te):=fun τ z k R I h K=>hl τ z _ _ I h λd z1 u l1 I1 r1 q1=>by
 have go:iq d z1.M (λxs ok=>k xs ok z1.M)->W X (pyIter u) R z1.s:=λq1=>by
  obtain⟨q,a,xs,ok,rfl,S,hok,q1⟩:=I1.ir r1 q1;obtain⟨us,r,hz,hq⟩:=S X τ z1 rfl I1 Le.rfl hok;have fin:R (.ref z1.s.heap.objs.size) { z1.s with heap:=z1.s.heap.push { cls:=.type (fW q),data:=.fields #[.ref a,.int 0 0] } }:=
   K xs ok ⟨z1.F,z1.M,_⟩ _ l1 (I1.bP (t:=z1.s.toks) λb o e=>WZ _ e) (jz I1 (W3 _) (D8 S) ⟨_,W5 _ rfl,rfl,rfl⟩) q1
  cases q with
  |true=>exact Zf hq fin
  |false=>exact Zm hq fin
 cases d with
 |str x=>
  rw[ab]at r1;obtain⟨t,rfl⟩:=r1;exact wpAny_pyIter_ascii q1.1 (K _ _ ⟨z1.F,z1.M,_⟩ _ l1 (I1.bP (t:=z1.s.toks) λb o e=>WZ _ e) (jz I1 (W3 _) D9 ⟨_,W5 _ rfl,rfl,rfl⟩) q1.2)
 |ak ks ds=>
  obtain⟨a,n,ep,vs,rfl,S,da,lv,lo⟩:=oq I1 r1;refine wpAny_pyIter_dict (knd:=bo X.G.P X.G.w) lo da ?_;rw[lv];exact K _ _ ⟨z1.F,z1.M,_⟩ _ l1 (I1.bP (t:=z1.s.toks) λb o e=>WZ _ e) (jz I1 (W3 _) (Il S) ⟨_,W5 _ rfl,rfl,rfl⟩) q1
 |_=>exact go q1
def ou (Q:List Key->List D->Mp->Prop):QK:=λd M=>match d with
 |.ak ks ds=>Q ks ds M
 |_=>False
theorem yO (ho:PE X o to) (gj:attributeBase o "items" X.env (eval o X.env)=eval o X.env) (ce:(q.endLine == p.line)=true) {τ:St} {z:Z}{Q:List Key->List D->Mp->Prop}{R:Value->Shared->Prop} (I:ae X τ z) (h:to τ z.M (ou Q))
  (k:∀ks ds a z1 v,Le z.F z1.F->ae X τ z1->ab X.G z1.F (.ak ks ds) (.ref a)->z1.s.heap.IsItemsView v a->Q ks ds z1.M->R (.ref v) z1.s):W X (eval (.Call (.Attribute o "items" q) [] [] p) X.env) R z.s:=
 wpAny_Call_method0_late gj ce (ho τ z _ _ I h λx z1 v l1 I1 r1 q1=>by
  unfold ou at q1;split at q1
  ·rename_i ks ds;obtain⟨h1,h2⟩:=rn (T:="dict") I1 r1 rfl;obtain⟨a,n,ep,vs,rfl,S,da,lv,lo⟩:=oq I1 r1;obtain⟨o,es,g⟩:=da;have dd:z1.s.heap.DictOf (bo X.G.P X.G.w) a vs:=⟨o,es,ep,g⟩;refine⟨"dict","dict.items",PySem.F.plainAttrs_dict,PySem.F.slot_dict_items,PySem.F.type_dict_items,h1,h2,Calls.callWith_builtin rfl (PySem.evalArgs_none ?_)⟩;refine call_meetsIn PySem.F.slot_dict_items dd.typeIs PySem.F.entry_dict_items (PySem.F.args_dict_items_1 _) (meets_dict_items (bo X.G.P X.G.w) a lo) ⟨⟨vs,dd⟩,?_⟩;exact k ks ds a ⟨z1.F,z1.M,{ z1.s with heap:=z1.s.heap.push { cls:=.type "dict_items",data:=.fields #[.ref a] },toks:=z1.s.toks }⟩ _ l1 (I1.bP λb o e=>WZ _ e) r1 ⟨_,W5 _ rfl,rfl,rfl⟩ q1
  ·exact q1.elim)
def yP (t:DE):DI:=fun τ M k=>t τ M (ou λks ds M1=>k ((ks.zip ds).map de) (λ_=>True) M1)
theorem Ir (ho:PE X o to) (gj:attributeBase o "items" X.env (eval o X.env)=eval o X.env) (ce:(q.endLine == p.line)=true):PI X (.Tuple jp kk tp) (.Call (.Attribute o "items" q) [] [] p) (yP to):=fun τ z k R I h K=>
 yO ho gj ce I h λks ds a z1 v l1 I1 r1 iv q1=>by
  obtain⟨TF,n,ep,vs,e,S,da,lv,lo⟩:=oq I1 r1;cases e;refine wpAny_pyIter_items (knd:=bo X.G.P X.G.w) iv da ?_;rw[lv];exact K _ _ ⟨z1.F,z1.M,_⟩ _ l1 (I1.bP (t:=z1.s.toks) λb o e=>WZ _ e) (jz I1 (W3 _) (Im S) ⟨.none,.none,W5 _ rfl⟩) q1
end
end N
end
section
namespace Kn
open PySem PySem.W PyProof.Rows
noncomputable def krun {α:Type} (lt:Nat->Nat->Bool):KasT α->α
 |.ret a=>a
 |.ask i j k=>krun lt (k (lt i j))
theorem j0 {α β:Type} (lt:Nat->Nat->Bool) (f:α->KasT β):∀t:KasT α,krun lt (t.bind f)=krun lt (f (krun lt t))
 |.ret _=>rfl
 |.ask i j k=>j0 lt f (k (lt i j))
section
variable (r:Nat->Nat)
variable {r}
end
end Kn
namespace Kn
open PySem PySem.W PyProof.Rows
def cj {α:Type} (n:Nat) (R:α->Prop):KasT α->Prop
 |.ret a=>R a
 |.ask i j k=>i<n/\j<n/\∀b,cj n R (k b)
theorem cj.bind {α β:Type} {n:Nat}{R:α->Prop}{S:β->Prop}{f:α->KasT β} (hf:∀a,R a->cj n S (f a)):∀{t:KasT α},cj n R t->cj n S (t.bind f)
 |.ret a,h=>hf a h
 |.ask _ _ k,h=>⟨h.1,h.2.1,λb=>cj.bind hf (h.2.2 b)⟩
theorem yQ {α:Type} {n:Nat}{R:α->Prop}{lt:Nat->Nat->Bool}{cmp:Nat->Nat->(Bool->Shared->Prop)->Shared->Prop}{Q:α->Shared->Prop}{s:Shared}
  (hc:∀i j C,i<n->j<n->C (lt i j) s->cmp i j C s):∀{t:KasT α},cj n R t->Q (krun lt t) s->t.kasWp cmp Q s
 |.ret _,_,q=>q
 |.ask i j k,h,q=>hc i j _ h.1 h.2.1 (yQ hc (h.2.2 _) q)
def Gn (n:Nat) (p:Array Nat):Prop:=∀x∈p.toList,x<n
theorem Gn.get {n:Nat}{p:Array Nat} (h0:0<n) (h:Gn n p) (i:Nat):p.getD i 0<n:=by
 rw[YO];cases e:p[i]? with
 |none=>exact h0
 |some x=>exact h x (Array.mem_toList_iff.mpr (Array.mem_of_getElem? e))
theorem Gn.perm {n:Nat}{p q:Array Nat} (h:Gn n p) (e:q.Perm p):Gn n q:=λx hx=>h x (Array.mem_toList_iff.mpr (e.mem_iff.mp (Array.mem_toList_iff.mp hx)))
section
variable {n:Nat} (h0:0<n)
include h0
theorem sm {p:Array Nat} (g:Gn n p):∀f m,cj n (λ_=>True) (kas_asc p f m)
 | 0,_=>trivial
 |f+1,m=>by
  rw[kas_asc];refine⟨g.get h0 _,g.get h0 _,λb=>?_⟩;dsimp only;split
  ·trivial
  ·exact sm g f _
theorem ow:∀(f:Nat) (p:Array Nat) (m q:Nat),Gn n p->cj n (λr:Array Nat×Nat×Nat=>Gn n r.1) (kas_desc f p m q)
 | 0,p,_,_,g=>g
 |f+1,p,m,q,g=>by
  rw[kas_desc];refine⟨g.get h0 _,g.get h0 _,λb=>?_⟩;dsimp only;by_cases hb:b=true
  ·rw[if_pos hb];split
   ·exact ow f _ _ _ (g.perm (mirror_perm _ _ _ _))
   ·exact ow f _ _ _ g
  ·rw[if_neg hb];refine⟨g.get h0 _,g.get h0 _,λb=>?_⟩;dsimp only;split
   ·exact g
   ·exact ow f _ _ _ g
theorem yR {p:Array Nat} (g:Gn n p) (m k:Nat):cj n (λr:Nat×Array Nat=>Gn n r.2) (kas_tail3 m k p):=by
 unfold kas_tail3;refine cj.bind (R:=λ_=>True) (λm _=>?_) (sm h0 (g.perm (mirror_perm _ _ _ _)) _ _);exact g.perm (mirror_perm _ _ _ _)
theorem yS {p:Array Nat} (g:Gn n p) (m k:Nat):cj n (λr:Nat×Array Nat=>Gn n r.2) (kas_descPart m k p):=by
 unfold kas_descPart;refine cj.bind (λr hr=>?_) (ow h0 _ p _ _ g);split
 ·exact yR h0 (Gn.perm hr (mirror_perm _ _ _ _)) _ _
 ·exact yR h0 hr _ _
theorem It {p:Array Nat} (g:Gn n p) (k:Nat):cj n (λr:Nat×Array Nat=>Gn n r.2) (kas_count k p):=by
 unfold kas_count;refine cj.bind (λm _=>?_) (sm h0 g _ _);split
 ·exact g
 split
 ·refine⟨g.get h0 _,g.get h0 _,λb=>?_⟩;dsimp only;split
  ·exact g
  ·exact yS h0 (g.perm (mirror_perm _ _ _ _)) _ _
 ·exact yS h0 g _ _
theorem su {p:Array Nat} (g:Gn n p) (k:Nat):∀f l u,cj n (λ_=>True) (kas_place p k f l u)
 | 0,_,_=>trivial
 |f+1,l,u=>by
  rw[kas_place];split
  ·trivial
  ·refine⟨g.get h0 _,g.get h0 _,λb=>?_⟩;dsimp only;split
   ·exact su g k f _ _
   ·exact su g k f _ _
theorem yT:∀(f:Nat) (p:Array Nat) (k:Nat),Gn n p->cj n (λ_=>True) (kas_bin f p k)
 | 0,_,_,_=>trivial
 |f+1,p,k,g=>by
  rw[kas_bin];exact cj.bind (λl _=>yT f _ _ (g.perm (bubble_perm _ _ _))) (su h0 g _ _ _ _)
theorem Iu:cj n (λ_=>True) (kas_sort n):=by
 unfold kas_sort;refine cj.bind (λr hr=>?_) (It h0 (p:=(Yw n).toArray) (λx hx=>by simpa using hx) n);split
 ·exact yT h0 _ _ _ hr
 ·trivial
end
end Kn
namespace Kn
open PySem PySem.W PyProof.Rows
section
variable {lt:Nat->Nat->Bool}
theorem lK:∀(f:Nat) (p:Array Nat) (m q:Nat),(krun lt (kas_desc f p m q)).1.Perm p
 | 0,p,_,_=>by rw[kas_desc];exact .refl _
 |f+1,p,m,q=>by
  rw[kas_desc,krun];split
  ·split
   ·exact (lK f _ _ _).trans (mirror_perm _ _ _ _)
   ·exact lK f _ _ _
  ·rw[krun];split
   ·exact .refl _
   ·exact lK f _ _ _
theorem yU (p:Array Nat) (m k:Nat):(krun lt (kas_tail3 m k p)).2.Perm p:=by
 unfold kas_tail3;rw[j0];exact mirror_perm _ _ _ _
theorem yV (p:Array Nat) (m k:Nat):(krun lt (kas_descPart m k p)).2.Perm p:=by
 unfold kas_descPart;rw[j0];split
 ·exact (yU _ _ _).trans ((mirror_perm _ _ _ _).trans (lK _ _ _ _))
 ·exact (yU _ _ _).trans (lK _ _ _ _)
theorem yW (p:Array Nat) (k:Nat):(krun lt (kas_count k p)).2.Perm p:=by
 unfold kas_count;rw[j0];split
 ·exact .refl _
 split
 ·rw[krun];split
  ·exact .refl _
  ·exact (yV _ _ _).trans (mirror_perm _ _ _ _)
 ·exact yV _ _ _
theorem yX:∀(f:Nat) (p:Array Nat) (k:Nat),(krun lt (kas_bin f p k)).Perm p
 | 0,p,_=>by rw[kas_bin];exact .refl _
 |f+1,p,k=>by
  rw[kas_bin,j0];exact (yX f _ _).trans (bubble_perm _ _ _)
theorem Iw (n:Nat):(krun lt (kas_sort n)).Perm (Yw n).toArray:=by
 unfold kas_sort;rw[j0];split
 ·exact (yX _ _ _).trans (yW _ _)
 ·exact yW _ _
end
end Kn
namespace L2
open PySem PySem.Spec PyProof.Rows PySem.W
end L2
end
section
set_option maxHeartbeats 1000000
namespace N
open PySem PySem.Spec PyProof.Rows L2 PySem.W
open Kn (krun)
def gP (G:Gx) (F:Fz) (vs:List Value) (ps:List (Str×D)):Prop:=vs.length=ps.length/\∀(i:Nat) p,ps[i]?=some p->∃b o t u n,vs[i]?=some (.ref b)/\F b=some (.dat o)/\o.cls=.type "tuple"/\o.data=.seq #[.str p.1 t,u] n/\ab G F p.2 u/\aw p.2=true/\aO p.2<=50
theorem gP.tl {G:Gx}{F:Fz}{v:Value}{vs:List Value}{p:Str×D}{ps:List (Str×D)} (t:gP G F (v::vs) (p::ps)):gP G F vs ps:=⟨Zl t.1,λi y hy=>t.2 (i+1) y hy⟩
noncomputable def iT (ps:List (Str×D)) (i j:Nat):Bool:=decide ((ps.getD i ("",.aj)).1.cps.toList<(ps.getD j ("",.aj)).1.cps.toList)
section
variable {G:Gx}{F:Fz}{M:Mp}{A:Around}{E:Value->Shared->Prop}{s:Shared}
theorem gP.yY {P:Program}{w:World} (ok:aG G F M s.heap):∀{vs:List Value}{ps:List (Str×D)},gP G F vs ps->∃fs,KatTups s.heap vs fs/\fs.length=vs.length/\∀f∈fs,Looks (model P w) s.heap (typeOf f) (.type "str")
 |[],[],_=>⟨[],.nil,rfl,λf hf=>(nomatch hf)⟩
 |[],_::_,t=>by have:=t.1;simp at this
 |_::_,[],t=>by have:=t.1;simp at this
 |v::vs,p::ps,t=>by
  obtain⟨fs,h1,h2,h3⟩:=gP.yY (P:=P) (w:=w) ok t.tl;obtain⟨b,o,tk,u,n,e1,e2,e3,e4,_⟩:=t.2 0 p rfl;cases e1;refine⟨.str p.1 tk::fs,.cons (ok.fz b _ e2) e3 e4 (by simp) h1,by simp [h2],λf hf=>?_⟩;rcases List.mem_cons.mp hf with z |z
  ·subst z;exact Looks.of_pure rfl
  ·exact h3 f z
theorem Iy {a : Addr} {vs : List Value} {ps : List (Str × D)} {n : Nat} {P : Fin -> Shared -> Prop} (hu : A.units + 60 < cLine) (ok : aG G F M s.heap) (ha : F a = none) (hm : M a = none) (ho : s.heap.get? a = some (seqObj "list" vs.toArray n)) (hT : gP G F vs ps) (nd : (ps.map (·.1)).Nodup) (gL : vs.length < 64)
    (h:∀(p:List Nat),p.Perm (Yw vs.length)->P (.done (.ret .none)) { s with heap:=sortedHeap s.heap a vs (p.map λi=>vs.getD i Yb).toArray }) :
    wpAny (model G.P G.w) A (Builtin.«list.sort» ⟨[.ref a],[]⟩) P E s:=by
  obtain⟨e1,g1⟩:∃e1,(s.heap.update a (XA λ_=>(#[]:Array Value))).get? a=some (seqObj "list" #[] e1):=⟨_,get?_update_seq ho λ_=>#[]⟩;have g6:(((s.heap.update a (XA λ_=>(#[]:Array Value))).push (seqObj "tuple" vs.toArray 0)).push (seqObj "list" #[] 0)).get? a=some (seqObj "list" #[] e1):=WZ _ (WZ _ g1);have sb:=Xu s.heap a (XA λ_=>(#[]:Array Value));have iU:aG G F M (((s.heap.update a (XA λ_=>(#[]:Array Value))).push (seqObj "tuple" vs.toArray 0)).push (seqObj "list" #[] 0)):=ok.keep λb hb o e=>WZ _ (WZ _ (sb.extBut b o (by rintro rfl;rcases hb with h |h;exact h ha;exact h hm) e));rw[list_sort_plain];refine WY (listItems_at ho rfl (WY (listUpdate_at ho rfl ?_ (by rw[W4,Zj];lia) (Xk _))));refine WY (seqEpoch_at g1 rfl (WY (wpAny_newTuple ?_ (by show vs.length<=_;rw[Zj];lia))));refine WY (wpAny_newList (XU ?_) (Xk _));show wpAny (model G.P G.w) A _ P E { s with heap:=((s.heap.update a (XA λ_=>(#[]:Array Value))).push (seqObj "tuple" vs.toArray 0)).push (seqObj "list" #[] 0) };dsimp only;by_cases h2:vs.toArray.size<2
  · have yZ:vs.length<2:=(by simpa using h2);rw[if_pos h2,if_pos h2];refine WY (W2 ?_);rw[StateT.run_pure];refine WY (W2 ?_);dsimp only;have TN:(arrOf (SortSt.mk' general' (vs.toArray.zip vs.toArray) #[] 7 none)).map (·.2)=vs.toArray:=by
      show (vs.toArray.zip vs.toArray).map (·.2)=vs.toArray;apply Array.toList_inj.mp;rw[Array.toList_map,Array.toList_zip];simp only[List.toList_toArray];have zz:∀l:List Value,(l.zip l).map (·.2)=l:=λl=>(by induction l with |nil=>rfl |cons x l ih=>simp [ih]);exact zz vs
    rw[TN];refine WY (seqEpoch_at g6 rfl (WY (listUpdate_at g6 rfl ?_ (Xk _) (by rw[W4,Zj];lia))));simp only[bne_self_eq_false,Bool.false_eq_true,if_false];have q:=h (Yw vs.length) (.refl _);have zz:(Yw vs.length).map (λi=>vs.getD i Yb)=vs:=by
      refine List.ext_getElem (by simp) λi h1 h2=>?_;simp [Xs,W6 h2]
    rw[zz]at q;exact W2 q
  · have yZ : 2 ≤ vs.length := by have : ¬ vs.length < 2 := by simpa using h2
                                  lia
    rw[if_neg h2,if_neg h2];obtain⟨fs,f1,f2,f3⟩:=hT.yY (P:=G.P) (w:=G.w) (s:={ s with heap:=((s.heap.update a (XA λ_=>(#[]:Array Value))).push (seqObj "tuple" vs.toArray 0)).push (seqObj "list" #[] 0) }) iU;refine WY (kat_kind (T:=.type "str") f1 (by rw[f2];lia) f3 (by simp) ?_);have pp:=Kn.Iw (lt:=iT ps) vs.length;refine WY (Y6 (kat_run (ks:=vs) (Q:=λbm s'=>arrOf bm=(krun (iT ps) (kas_sort vs.length)).map (kas_item (vs.toArray.zip vs.toArray))/\failedOf bm=none/\s'={ s with heap:=((s.heap.update a (XA λ_=>(#[]:Array Value))).push (seqObj "tuple" vs.toArray 0)).push (seqObj "list" #[] 0) })
      (G:=λq s'=>q=krun (iT ps) (kas_sort vs.length)/\s'={ s with heap:=((s.heap.update a (XA λ_=>(#[]:Array Value))).push (seqObj "tuple" vs.toArray 0)).push (seqObj "list" #[] 0) }) rfl yZ gL (λq bm s' _ a2 To ⟨Tp,TH⟩=>⟨Tp ▸ a2,To,TH⟩) ?ask) ?_ λ_ _ e=>e)
    case ask=>
      refine Kn.yQ (n:=vs.length) (R:=λ_=>True) (lt:=iT ps) (λi j C hi hj q=>?_) (Kn.Iu (by lia)) ⟨rfl,rfl⟩;have c5:i<ps.length:=(by rw[<- hT.1];exact hi);have lL:j<ps.length:=(by rw[<- hT.1];exact hj);have Vf:ps[i]?=some ps[i]:=W6 c5;have Tz:ps[j]?=some ps[j]:=W6 lL;obtain⟨bi,UR,ti,WK,WL,Ti,a2,To,Tp,TH,Uk,UH⟩:=hT.2 i _ Vf;obtain⟨V0,WM,WN,WO,WQ,c1,c2,c3,c4,V1,V2,WR⟩:=hT.2 j _ Tz;unfold kas_ask;rw[Xs,Xs,Ti,c1];refine kat_lt (iU.fz bi _ a2) Tp (iU.fz V0 _ c2) c4 ?_;have e:iT ps i j=decide (ps[i].1.cps.toList<ps[j].1.cps.toList):=(by unfold iT;rw[Xs,Xs,Vf,Tz];rfl);rw[e]at q;refine kat_cons (k6 50 (d:=.str ps[i].1) (e:=.str ps[j].1) iU .str .str (by simp [aO]) (by lia) _ _ _ _ ?_);by_cases Vg:i=j
      · subst Vg;rw[gh _ rfl];refine kat_yes (kat_cons (k6 50 iU (eJ iU TH Uk) (eJ iU V1 V2) UH (by lia) _ _ _ _ ?_));rw[gh _ Uk];rw[decide_eq_false (List.lt_irrefl _)]at q;exact kat_yes (kat_nil (by simpa using q))
      · have ne:ps[i].1≠ps[j].1:=fun z=>Vg ((List.getElem_inj (h₀:=by simpa using c5) (h₁:=by simpa using lL) nd).mp (by simpa using z));have e2:aE (.str ps[i].1) (.str ps[j].1)=false:=by
          show (some ps[j].1 == some ps[i].1)=false;simpa using Ys ne
        rw[e2];exact kat_no (oneLt_str q)
    rintro⟨⟨⟩,bm⟩ s' ⟨Ix,hf,rfl⟩;dsimp only;have hout:=kat_snds rfl Ix;rw[hout];have lp:(krun (iT ps) (kas_sort vs.length)).toList.length=vs.length:=(by rw[Xp,pp.size_eq];simp);refine WY (seqEpoch_at g6 rfl (WY (listUpdate_at g6 rfl ?_ (Xk _) (by rw[W4,W0,lp,Zj];lia))));rw[hf];simp only[bne_self_eq_false,Bool.false_eq_true,if_false];exact W2 (h _ (by have:=Array.perm_iff_toList_perm.mp pp;simpa using this))
end
def lM (t:DE):DE:=fun τ M q=>t τ M (ou λks ds M1=>ks.length<64/\(∀k∈ks,∃x,k=Yr x)/\(∀d∈ds,aw d=true/\aO d<=50)/\∀ys:List (Key×D),ys.Perm (ks.zip ds)->bQ (ys.map de) M1 q)
section
variable {X:Cx}{o:Expr}{to:DE}{p1 q2 gN dF:Pos}
theorem Iz {G:Gx}{F:Fz}{ks:List Key}{ds:List D}{u:Value} (r:ab G F (.ak ks ds) u):ks.Nodup/\ds.length=ks.length:=by
 rw[ab]at r;obtain⟨a,o,us,rfl,h1,h2,h4,h3⟩:=r;exact⟨h2.nd,h3.len.trans h2.len⟩
theorem IA (hc:X.calm=true) (hu:X.A.units+110<cLine) (hg:Gl X "sorted") (hm:X.G.mg "sorted"=none) (ho:PE X o to) (gj:attributeBase o "items" X.env (eval o X.env)=eval o X.env) (ce:(q2.endLine == dF.line)=true) :
  PE X (.Call (.Name "sorted" p1) [.Call (.Attribute o "items" q2) [] [] dF] [] gN) (lM to):=fun τ z Q R I h k=>by
 refine XY (eG I hg hm (by decide +kernel:bootBuiltins "sorted"=some (.builtin "sorted")) (by decide) (by decide) ?_);refine PyProof.Rows.callWith_builtin1 ?_ (bC rfl) rfl;rw[bC (e:=.Call (.Attribute o "items" q2) [] [] dF) rfl];show W X (spliced ((false,eval (.Call (.Attribute o "items" q2) [] [] dF) X.env)::backTo gN (starEach [] X.env))) _ z.s;refine Yu ?_;refine yO ho gj ce I h λks ds a z1 v l1 I1 r1 iv q1=>?_;refine Y2 ?_;obtain⟨gL,hk,hd,q⟩:=q1;obtain⟨nd,ln⟩:=Iz r1;obtain⟨TF,n,ep,vs,e,S,da,lv,lo⟩:=oq I1 r1;cases e;obtain⟨IB,rel,IC,SS⟩:=S.bL Le.rfl I1.hok;have lz:(ks.zip ds).length=ks.length:=by rw[YS,ln,Nat.min_self]
 have gQ:IB.length=ks.length:=by rw[<- Paired.length rel,lz]
 refine Calls.call_function_entry kind_sorted plain_sorted entry_sorted (args_sorted1 _) ?_;unfold Builtin.«sorted»;refine WY (m:=checkCount "sorted" 1 1 _) (W2 ?_);refine WY (kdx_collect (knd:=bo X.G.P X.G.w) (A:=X.A.in1) (I1.ok.hd hc) iv IC (by rw[gQ,Zj];lia) λh' tk as keep la Gp=>?_);obtain⟨l2,I2⟩:=I1.many (as:=as) (t:=tk) (λb o e=>keep b o e) λb hb=>Nat.le_of_lt (Gp.above b hb);obtain⟨ss,on⟩:∃ss:List Str,ks=ss.map Yr:=by
  clear gL nd ln lz gQ rel S r1 q
  induction ks with
  |nil=>exact⟨[],rfl⟩
  |cons k ks ih=>
   obtain⟨x,rfl⟩:=hk k W';obtain⟨ss,rfl⟩:=ih λk ww=>hk k (W8 _ ww);exact⟨x::ss,rfl⟩
 have item:∀(i:Nat) (pr:Key×D),(ks.zip ds)[i]?=some pr->∃b t u s,as[i]?=some b/\pr.1=Yr s/\cF z1.F as h' b=some (.dat { cls:=.type "tuple",data:=.seq #[.str s t,u] })/\ab X.G (cF z1.F as h') pr.2 u:=λi pr hp=>by
  obtain⟨q,hq,e1,r2⟩:=ot rel hp;have hi:i<as.length:=by rw[la];exact (List.getElem?_eq_some_iff.mp hq).1
  have hb:as[i]?=some as[i]:=W6 hi;obtain⟨key,kk,x,g1,g2,g3⟩:=Gp.pairs i _ hb;rw[hq]at g1;cases g1;have ID:pr.1∈ks:=(YQ (show (pr.1,pr.2)∈ks.zip ds from XN hp)).1;obtain⟨s,hs⟩:=hk _ ID;have e3:kk=Yr s:=e1.symm.trans hs;rw[e3]at g2;rcases d8 (show fm (Yr s) key=true from g2) with ⟨i,t,e,_⟩ |⟨y,t,e,e2⟩
  ·cases e
  ·cases e;subst e2;exact⟨_,t,x,s,hb,hs,oo (XN hb) g3,r2.up l2.d⟩
 have IE:(ss.zip ds).length=as.length:=by rw[la,gQ,<- lz,on,YS,YS,W0]
 have V3:∀(i:Nat) (p:Str×D),(ss.zip ds)[i]?=some p->(ks.zip ds)[i]?=some (Yr p.1,p.2):=λi p hp=>by
  rw[on,List.zip_map_left,Xj,hp];rfl
 have IF:gP X.G (cF z1.F as h') (as.map XC) (ss.zip ds):=⟨by rw[W0,IE],λi p hp=>by
  obtain⟨b,t,u,s,g1,g2,g3,g4⟩:=item i _ (V3 i p hp);cases g2;obtain⟨d1,d2⟩:=hd _ (YQ (show (p.1,p.2)∈ss.zip ds from XN hp)).2;exact⟨b,_,t,u,_,by rw[Xj,g1];rfl,g3,rfl,rfl,g4,d1,d2⟩⟩
 have IG:((ss.zip ds).map (·.1)).Nodup:=by
  rw[List.map_fst_zip (by rw[ln,on,W0];exact W3 _)];rw[on]at nd;exact (List.pairwise_map.mp nd).imp λh e=>h (congrArg Yr e)
 have IH:(as.map XC).length<=sizeLine:=by rw[W0,la,gQ,Zj];lia
 refine WY (wpAny_newList ?_ IH);have eR:(h'.push { cls:=.type "list",data:=.seq (as.map XC).toArray }).get? h'.objs.size=some (seqObj "list" (as.map XC).toArray 0):=W5 _ rfl;have Uv:=I2.hok.cA (W3 h'.objs.size);have Uu:=I2.hok.c9 (W3 h'.objs.size);have II:aG X.G (cF z1.F as h') z1.M (h'.push { cls:=.type "list",data:=.seq (as.map XC).toArray }):=I2.hok.keep λb _ o e=>WZ _ e;refine WY (XU (Xw slot_list_sort ⟨_,eR,rfl⟩ entry_list_sort (Iy (G:=X.G) (F:=cF z1.F as h') (M:=z1.M) (by show X.A.units+1+1+60<cLine;lia) II Uv Uu eR IF IG (by rw[W0,la,gQ];lia) λp b1=>⟨_,rfl,?_⟩) (args_list_sort _)));refine W2 ⟨_,rfl,?_⟩;obtain⟨e,gr⟩:=sortedHeap_at (out:=(p.map λi=>(as.map XC).getD i Yb).toArray) eR;have lp:p.length=ks.length:=by rw[b1.length_eq,YN,W0,la,gQ]
 have pm:(p.map λi=>(ks.zip ds).getD i (Yr "",.aj)).Perm (ks.zip ds):=by
  have:=b1.map λi=>(ks.zip ds).getD i (Yr "",D.aj);have zz:(Yw (as.map XC).length).map (λi=>(ks.zip ds).getD i (Yr "",D.aj))=ks.zip ds:=by
   refine List.ext_getElem (by rw[W0,YN,W0,la,gQ,lz]) λi h1 h2=>?_;simp [Xs,W6 h2]
  rw[zz]at this;exact this
 have rs:af X.G (cF z1.F as h') ((p.map λi=>(ks.zip ds).getD i (Yr "",D.aj)).map de) (p.map λi=>(as.map XC).getD i Yb):=by
  have go:∀p:List Nat,(∀i∈p,i<ks.length)->af X.G (cF z1.F as h') ((p.map λi=>(ks.zip ds).getD i (Yr "",D.aj)).map de) (p.map λi=>(as.map XC).getD i Yb):=λp hp=>by
   induction p with
   |nil=>exact .nil
   |cons i p ih=>
    refine .cons ?_ (ih λj hj=>hp j (W8 _ hj));have hi:i<(ks.zip ds).length:=(by rw[lz];exact hp i W');have hz:(ks.zip ds)[i]?=some (ks.zip ds)[i]:=W6 hi;obtain⟨b,t,u,s,g1,g2,g3,g4⟩:=item i _ hz;dsimp only;rw[Xs,Xs,hz,Xj,g1];show ab X.G _ (de (ks.zip ds)[i]) (.ref b);rw[de,g2];exact nj g3 ⟨rfl,rfl,⟨0,rfl⟩,by show 2<=sizeLine;decide⟩ (.cons gD (.cons g4 .nil))
  exact go p λi hi=>by have:=b1.mem_iff.mp hi;rw[List.mem_range,W0,la,gQ]at this;exact this
 refine I2.lst (n:=e) (t:=tk) k (l1.tr l2) rs (λb o hb=>?_) (W3 _) ?_ (by rw[W0,lp,Zj];lia) (q _ pm)
 ·have be:b<h'.objs.size:=Xh hb;rw[sortedHeap_old (Xi be) (by rw[Xx];exact Yo be)];exact WZ _ hb
 ·rw[gr];rfl
end
end N
end
section
set_option maxHeartbeats 1000000
namespace N
open PySem PySem.Spec PyProof.Rows L2
set_option genInjectivity false
set_option genSizeOfSpec false
inductive C where
 |aj |bl (b:Bool) |int (i:Int) |str (x:Str)
noncomputable def C.d:C->D
 |.aj=>.aj
 |.bl b=>.bl b
 |.int i=>.int i
 |.str x=>.str x
inductive Bi where
 |len |tuple |int |max |sum |dict |any |lO |sorted
inductive Mt where
 |append |pop |extend |get |update
mutual
inductive E where
 |v (i:Nat) |c (k:C) |g (i:Nat) |ty (x:String) |tup (es:L) |lst (es:L)
 |op (o:Operator) (a b:E) |cmp (o:CmpOp) (a b:E) |neg (a:E) |and (a b:E) |or (a b:E) |not (a:E) |ite (c a b:E)
 |ix (a b:E) |sl (a lo hi:E) |rev (a:E) |call (i:Nat) (es:L) |bi (b:Bi) (es:L) |mt (m:Mt) (o:E) (es:L)
 |lc (n:Nat) (fr:List Nat) (g:G) (it:I) (c e:E) |fld (e:E) (f:Str) |new (i:Nat) (es:L) |aV (i:Nat) (o:E) (es:L) |app (f:E) (es:L)
 |ox |sv (ks vs:L) |sset (e:E) |sx (e:E) |oy (e:E) |aq
inductive L where
 |nil |cons (e:E) (r:L)
inductive I where
 |seq (e:E) |lP (e:E) |zip (a b:E) |oz (e:E) |sy (e:E) |no
end
mutual
inductive S where
 |set (g:G) (e:E) |put (o i e:E) |oA (o:E) (f:Str) (e:E) |ret (e:E) |ex (e:E) |cond (c:E) (a b:B) |loop (g:G) (it:I) (b:B) |j3 (c:E) (b:B) |pass |brk |cnt |dead
inductive B where
 |nil |cons (s:S) (r:B)
end
structure Wd where
 sp:Nat->Sp
 gv:List D
 fl:Addr->Str->Prop
 ci:Nat->Option (Addr×Sp)
 mt:Nat->Option (Addr×Sp)
 ca:Addr->Sp->Prop
abbrev X0:XQ:=λ_ _=>False
def cP {α β γ:Type}:α->β->γ->Prop:=λ_ _ _=>False
noncomputable def y0 (n:Nat) (fr:List Nat) (τ:St):St:=XZ n none++fr.map λi=>(τ[i]?).join
def sA (n:Nat) (fr:List Nat) (g:G) (ti:DI) (tc:DT) (te:DE):DE:=fun τ M q=>ti τ M λxs ok M1=>cK ok g tc te (y0 n fr τ) (λys M2=>bQ ys M2 q) xs [] M1
theorem IJ (n:Nat) (fr:List (Str×Nat)) (g:G) (ti:DI) (tc:DT) (te:DE):rE n fr g ti tc te=sA n (fr.map (·.2)) g ti tc te:=by
 unfold rE sA dC y0;simp only[Yd];rfl
def oB (fl:Addr->Str->Prop) (f:Str):Q1:=λx M q=>cD x M λa C dx fs=>∃d,fl C f/\fs.lookup f=some d/\q d M
def y1 (fl:Addr->Str->Prop) (f:Str) (to tv:DE):DS:=λe τ M=>tv τ M λd M1=>to τ M1 λo M2=>cD o M2 λa C dx fs=>fl C f/\fs.length<1000/\e.nx τ (up M2 a (.ins C dx (fD f d fs)))
def IK (c:Option (Addr×Sp)) (t:DA):DE:=match c with
 |some (C,sp)=>qU C sp [] X0 t
 |none=>cP
def sC (c:Option (Addr×Sp)) (m:Str) (to:DE) (t:DA):DE:=match c with
 |some (C,sp)=>lj C m sp [] X0 to t
 |none=>cP
def y2:Bi->QN
 |.len=>xB |.tuple=>qZ |.int=>xC |.max=>q8 |.sum=>xD |.dict=>rA |.any=>xE (·.any _root_.id) |.lO=>rN |.sorted=>x'
noncomputable def Mt.ty:Mt->String
 |.get=>"dict" |.update=>"dict" |_=>"list"
def y3:Mt->QM
 |.append=>ra |.pop=>rh |.extend=>rj |.get=>rl |.update=>si
noncomputable def j4:E->Bool
 |.aq=>true
 |_=>false
def oW (e:E) (t:DE):DO:=cond (j4 e) xu (xv t)
def UT (e:E) (t:DT):DT:=cond (j4 e) gn t
noncomputable def vl (t:DE):DE×DT:=(t,xl t)
variable (W:Wd) (mn:List Str)
mutual
noncomputable def E.w:E->DE×DT
 |.v i=>vl (eE i)
 |.c k=>vl (Tw k.d)
 |.g i=>vl (Tw (W.gv.getD i .aj))
 |.ty x=>vl (Tw (.ty x))
 |.tup es=>vl (vr es.w)
 |.lst es=>vl (vt es.w)
 |.op o a b=>vl (nc (wL o) a.w.1 b.w.1)
 |.cmp o a b=>(w8 (jI o) a.w.1 b.w.1,w9 (jI o) a.w.1 b.w.1)
 |.neg a=>vl (jv xt a.w.1)
 |.and a b=>(vv a.w.1 b.w.1,vy a.w.2 b.w.2)
 |.or a b=>(vw a.w.1 b.w.1,vz a.w.2 b.w.2)
 |.not a=>(vx a.w.1,vA a.w.2)
 |.ite c a b=>(vB c.w.2 a.w.1 b.w.1,cP)
 |.ix a b=>vl (nc aB a.w.1 b.w.1)
 |.sl a lo hi=>(xw a.w.1 (oW lo lo.w.1) (oW hi hi.w.1),cP)
 |.rev a=>(jv qX a.w.1,cP)
 |.call i es=>vl (qO (W.sp i) [] X0 es.w)
 |.bi b es=>vl (TP (y2 b) es.w)
 |.mt m o es=>vl (lq m.ty (y3 m) o.w.1 es.w)
 |.lc n fr g it c e=>(sA n fr g it.w (UT c c.w.2) e.w.1,cP)
 |.fld e f=>vl (jv (oB W.fl f) e.w.1)
 |.new i es=>(IK (W.ci i) es.w,cP)
 |.aV i o es=>vl (sC (W.mt i) (mn.getD i "") o.w.1 es.w)
 |.app f es=>vl (x7 W.ca X0 f.w.1 es.w)
 |.ox=>(xM,cP)
 |.sv ks vs=>(xN (ks.wl.zip vs.wl),cP)
 |.sset e=>(yA e.w.1,cP)
 |.sx e=>(yF e.w.1,cP)
 |.oy e=>(lM e.w.1,cP)
 |.aq=>(cP,cP)
noncomputable def L.w:L->DA
 |.nil=>eF
 |.cons e r=>fv e.w.1 r.w
noncomputable def L.wl:L->List DE
 |.nil=>[]
 |.cons e r=>e.w.1::r.wl
noncomputable def I.w:I->DI
 |.seq e=>yN e.w.1
 |.sy e=>yP e.w.1
 |.lP e=>vT e.w.1
 |.zip a b=>vZ a.w.1 b.w.1
 |.oz e=>wb e.w.1
 |.no=>cP
end
mutual
def S.w:S->DS
 |.set g e=>kR (e.w W mn).1 (cq g)
 |.put o i e=>kR (e.w W mn).1 (qn nS (o.w W mn).1 (i.w W mn).1)
 |.oA o f e=>y1 W.fl f (o.w W mn).1 (e.w W mn).1
 |.ret e=>vC (e.w W mn).1
 |.ex e=>ng (e.w W mn).1
 |.cond c a b=>vD (c.w W mn).2 a.w b.w
 |.loop g it b=>yL (it.w W mn) (cq g) b.w
 |.j3 c b=>vQ (c.w W mn).2 b.w
 |.pass=>λe τ M=>e.nx τ M
 |.brk=>λe τ M=>e.bk τ M
 |.cnt=>λe τ M=>e.ct τ M
 |.dead=>cP
def B.w:B->DS
 |.nil=>λe τ M=>e.nx τ M
 |.cons s .nil=>s.w
 |.cons s r=>qe s.w r.w
end
structure Nm where
 bV:List Str
 fF:List Str
 cls:List Str
 ai:List Str
noncomputable def dG (x:Str):List Str->Nat->Option Nat
 |[],_=>none
 |y::r,i=>if y=x then some i else dG x r (i+1)
noncomputable def oE (sc:Scope) (x:Str):Bool:=match sc.names.lookup x with
 |some .local=>true
 |some .cell=>true
 |some .free=>true
 |_=>false
noncomputable def aZ (sc:Scope) (x:Str):Bool:=match sc.names.lookup x with
 |some .globalImplicit=>true
 |_=>false
noncomputable def loc (sc:Scope) (x:Str):Bool:=match sc.names.lookup x with
 |some .local=>true
 |some .cell=>true
 |_=>false
noncomputable def oF (sc:Scope) (x:Str):Bool:=match sc.names.lookup x with
 |some .local=>true
 |_=>false
noncomputable def lQ (x:Str):Bool:=!(x == ("__debug__" : Str)) && !(x == ("__classdict__" : Str))
noncomputable def b7:Expr->Bool
 |.Set _ _ _=>false
 |.Slice _ _ _ _=>false
 |.Starred _ _=>false
 |_=>true
noncomputable def eZ:Expr->Bool
 |.ListComp _ _ _ _=>true
 |.SetComp _ _ _ _=>true
 |.DictComp _ _ _ _ _=>true
 |_=>false
noncomputable def lR:Expr->Bool
 |.Tuple _ _ _=>true
 |_=>false
noncomputable def fG (sc scope:Scope):Scope:=
 { scope with names:=scope.names.map λ(n,k)=>if (k == .free && sc.kind == .function && sc.names.lookup n == some .cell) then (n,.cell) else (n,k) }
noncomputable def sD (x:Str):Option Bi:=if x="len" then some .len else if x="tuple" then some .tuple else if x="int" then some .int else if x="max" then some .max
 else if x="sum" then some .sum else if x="dict" then some .dict else if x="any" then some .any else if x="isinstance" then some .lO else if x="sorted" then some .sorted else none
noncomputable def sE (x:Str):Option Mt:=if x="append" then some .append else if x="pop" then some .pop else if x="extend" then some .extend else if x="get" then some .get else if x="update" then some .update else none
noncomputable def y4 (x:Str):E:=if x="tuple" then .ty "tuple" else if x="bool" then .ty "bool" else if x="str" then .ty "str" else if x="int" then .ty "int" else if x="list" then .ty "list" else .aq
noncomputable def j5 (o:Option Nat) (f:Nat->E) (e:E):E:=match o with
 |some i=>f i
 |none=>e
noncomputable def L.of:List E->L
 |[]=>.nil
 |e::r=>.cons e (L.of r)
noncomputable def e5 (f:E->E->E):List E->E
 |[]=>.aq
 |[e]=>e
 |e::r=>f e (e5 f r)
noncomputable def lS:Expr->Option (Str×Pos)
 |.Name x p=>some (x,p)
 |_=>none
noncomputable def lT:List Expr->Option (List (Str×Pos))
 |[]=>some []
 |e::r=>(lS e).bind λq=>(lT r).map (q::·)
noncomputable def iV:Expr->List (Str×Pos)
 |.Name x p=>[(x,p)]
 |.Tuple es _ _=>(lT es).getD []
 |_=>[]
noncomputable def sF (N:List Str) (ok:Str->Bool) (l:List (Str×Pos)):Option G:=if l.all (λq=>ok q.1 && (dG q.1 N 0).isSome) then some (.many (l.map λq=>(dG q.1 N 0).getD 0)) else none
noncomputable def gR (N:List Str) (ok:Str->Bool):Expr->Option G
 |.Name x _=>if ok x then (dG x N 0).map .one else none
 |.Tuple es _ _=>(lT es).bind (sF N ok)
 |_=>none
noncomputable def iW (N:List Str) (names:List (Str×NameKind)):List (Str×Nat):=names.filterMap λy=>if y.2=.free then (dG y.1 N 0).map λi=>(y.1,i) else none
variable (m:Nm)
noncomputable def sG (N:List Str) (sc:Scope) (x:Str) (as:L) (ne:Bool):E:=
 if aZ sc x then j5 (dG x m.bV 0) (.call · as) (j5 (dG x m.cls 0) (.new · as) (match sD x with |some b=>if ne then .bi b as else .aq |none=>.aq)) else .aq
noncomputable def sH (y:Str) (o:E) (as:L):E:=j5 (dG y m.ai 0) (.aV · o as) (match sE y with |some b=>.mt b o as |none=>.aq)
noncomputable def oG (N:List Str) (sc:Scope) (x:Str):E:=
 if lQ x then (if oE sc x then j5 (dG x N 0) .v .aq else if aZ sc x then j5 (dG x m.fF 0) .g (y4 x) else .aq) else .aq
noncomputable def sJ:Const->E
 |.int i=>.c (.int i)
 |.str x=>.c (.str x)
 |.bool b=>.c (.bl b)
 |.none=>.c .aj
 |_=>.aq
noncomputable def sL (sc:Scope) (x:Str):List Expr->Option Expr
 |[.Call (.Name g _) [a] [] _]=>if x="sorted"/\g="set"/\aZ sc x=true/\aZ sc g=true/\b7 a=true then some a else none
 |_=>none
noncomputable def sM (sc:Scope) (x:Str):List Expr->Option Expr
 |[.Call (.Name g _) [a] [] _]=>if x="list"/\g="enumerate"/\aZ sc x=true/\aZ sc g=true/\b7 a=true then some a else none
 |_=>none
noncomputable def sN (sc:Scope) (x:Str):List Expr->Option Expr
 |[.Call (.Attribute o y q) [] [] p]=>if x="sorted"/\y="items"/\aZ sc x=true/\PL.fB o=false/\(q.endLine == p.line)=true then some o else none
 |_=>none
noncomputable def oH (o:Option Expr) (f:Expr->E):E:=match o with
 |some x=>f x
 |none=>.aq
noncomputable def oJ (o:Option Expr) (f:Expr->E):Bool:=match o with
 |some x=>!j4 (f x)
 |none=>true
noncomputable def sP (f:Expr->E) (a:Expr):Expr->E
 |.Slice none none (some (.UnaryOp .USub (.Constant (.int 1) _ _) _)) _=>.rev (f a)
 |.Slice lo hi none _=>if oJ lo f && oJ hi f then .sl (f a) (oH lo f) (oH hi f) else .aq
 |b=>if b7 b then .ix (f a) (f b) else .aq
noncomputable def sQ (f:Expr->E) (a:Expr):List CmpOp->List Expr->E
 |[o],[b]=>if b7 b then .cmp o (f a) (f b) else .aq
 |_,_=>.aq
noncomputable def IL (e:E):UnaryOp->E
 |.USub=>.neg e
 |.Not=>.not e
 |_=>.aq
noncomputable def IM (es:List E):BoolOp->E
 |.And=>e5 .and es
 |.Or=>e5 .or es
noncomputable def sR (ns:List Str) (sc:Scope) (f:Expr->E) (es:List Expr) (pos:Pos):Expr->E
  | .Name x _=>match sL sc x es with
    |some a=>.sset (f a)
    |none=>match sM sc x es with
     |some a=>.sx (f a)
     |none=>match sN sc x es with
      |some a=>.oy (f a)
      |none=>if lQ x && a7 es then (if oE sc x then (if es.isEmpty then .aq else .app (oG m ns sc x) (L.of (es.map f))) else sG m ns sc x (L.of (es.map f)) (!es.isEmpty)) else .aq
  |.Attribute o y q=>if (q.endLine == pos.line) && !PL.fB o && a7 es && decide (es.length<29) then sH m y (f o) (L.of (es.map f)) else .aq
  |.Subscript a b q=>if a7 es && !es.isEmpty then .app (f (.Subscript a b q)) (L.of (es.map f)) else .aq
  |_=>.aq
noncomputable def IP (e:E):List Keyword->E
 |[]=>e
 |_=>.aq
noncomputable def bW (sc:Scope) (f:Expr->E) (tg:Expr):Expr->I
 |.Call (.Name g p) [a] [] q=>if aZ sc g && b7 a then (if g="range" then I.lP (f a) else if g="reversed" then .oz (f a) else .seq (f (.Call (.Name g p) [a] [] q))) else .seq (f (.Call (.Name g p) [a] [] q))
 |.Call (.Name g p) [a,b] [] q=>if aZ sc g && b7 a && b7 b then (if g="zip"/\lR tg=true then .zip (f a) (f b) else .seq (f (.Call (.Name g p) [a,b] [] q))) else .seq (f (.Call (.Name g p) [a,b] [] q))
 |.Call (.Attribute o y q) [] [] p=>if y="items"/\lR tg=true/\PL.fB o=false/\(q.endLine == p.line)=true then .sy (f o) else .seq (f (.Call (.Attribute o y q) [] [] p))
 |e=>.seq (f e)
noncomputable def dY (ns:List Str) (scope:Scope) (tg:Expr):List Str:=(iV tg).map (·.1)++(iW ns scope.names).map (·.1)
noncomputable def y5 (ns:List Str) (sc:Scope) (f:List Str->Scope->Expr->E) (ap:Expr) (scope:Scope) (tg iter:Expr) (bd:List Expr):E:=
 match gR (dY ns scope tg) (oF (fG sc scope)) tg with
 | some g=>if nL sc ns scope (iW ns scope.names) && g.lt ((iV tg).map (·.1)).length && decide (dY ns scope tg).Nodup && b7 iter then (match bd with
   |[]=>.lc ((iV tg).map (·.1)).length ((iW ns scope.names).map (·.2)) g (bW sc (f ns sc) tg iter) .aq (f (dY ns scope tg) (fG sc scope) ap)
   |[c]=>if j4 (f (dY ns scope tg) (fG sc scope) c) then .aq else .lc ((iV tg).map (·.1)).length ((iW ns scope.names).map (·.2)) g (bW sc (f ns sc) tg iter) (f (dY ns scope tg) (fG sc scope) c) (f (dY ns scope tg) (fG sc scope) ap)
   |_=>.aq) else .aq
 |none=>.aq
noncomputable def sS (ns:List Str) (sc:Scope) (f:List Str->Scope->Expr->E) (ap:Expr) (scope:Scope):List Comprehension->E
 |[⟨tg,iter,bd,0⟩]=>y5 ns sc f ap scope tg iter bd
 |_=>.aq
noncomputable def sT (f:Expr->E) (ks:List (Option Expr)) (vs:List Expr):E:=
 if ks.isEmpty && vs.isEmpty then .ox else if ks.all (·.isSome) && decide (ks.length=vs.length) && decide (ks.length<=15) && !ks.isEmpty then .sv (L.of (ks.map λk=>match k with |some k=>f k |none=>.aq)) (L.of (vs.map f)) else .aq
noncomputable def aR:Nat->List Str->Scope->Expr->E
 | 0,_,_,_=>.aq
 |n+1,ns,sc,e=>match e with
  |.Name x _=>oG m ns sc x
  |.Constant c _ _=>sJ c
  |.Tuple es _ _=>if a7 es then .tup (L.of (es.map (aR n ns sc))) else .aq
  |.List es _=>if a7 es then .lst (L.of (es.map (aR n ns sc))) else .aq
  |.BinOp a o b _=>.op o (aR n ns sc a) (aR n ns sc b)
  |.Compare a os bs _=>sQ (aR n ns sc) a os bs
  |.UnaryOp o a _=>IL (aR n ns sc a) o
  |.BoolOp o vs _=>IM (vs.map (aR n ns sc)) o
  |.IfExp c a b _=>.ite (aR n ns sc c) (aR n ns sc a) (aR n ns sc b)
  |.Subscript a b _=>sP (aR n ns sc) a b
  |.Call g es sn p=>IP (sR m ns sc (aR n ns sc) es p g) sn
  |.Attribute o f _=>if !PL.fB o then .fld (aR n ns sc o) f else .aq
  |.ListComp ap gs scope _=>sS ns sc (aR n) ap scope gs
  |.Dict ks vs _=>sT (aR n ns sc) ks vs
  |_=>.aq
end N
end
section
set_option maxHeartbeats 1000000
namespace N
open PySem PySem.Spec PyProof.Rows L2
theorem y6 {x:Str}:∀{l:List Str}{i j:Nat},dG x l i=some j->∃k,j=i+k/\l[k]?=some x
 |[],_,_,h=>by cases h
 |y::r,i,j,h=>by
  unfold dG at h;split at h
  ·rename_i e;cases h;exact⟨0,rfl,by rw[e];rfl⟩
  ·obtain⟨k,e,q⟩:=y6 h;exact⟨k+1,by lia,q⟩
theorem gS {x:Str}{l:List Str}{j:Nat} (h:dG x l 0=some j):l[j]?=some x:=by
 obtain⟨k,e,q⟩:=y6 h;rw[e,Nat.zero_add];exact q
theorem IQ {sc:Scope}{x:Str} (h:oE sc x=true):jm sc x:=by
 unfold oE at h;unfold jm;split at h <;> first |(rename_i e;rw[e];first |exact .inl rfl |exact .inr (.inl rfl) |exact .inr (.inr rfl)) |cases h
theorem IS {sc:Scope}{x:Str} (h:aZ sc x=true):sc.names.lookup x=some .globalImplicit:=by
 unfold aZ at h;split at h <;> first |assumption |cases h
theorem oK {sc:Scope}{x:Str} (h:loc sc x=true):L2.ib sc x:=by
 unfold loc at h;unfold L2.ib;split at h <;> first |(rename_i e;rw[e];first |exact .inl rfl |exact .inr rfl) |cases h
theorem IT {sc:Scope}{x:Str} (h:oF sc x=true):sc.names.lookup x=some .local:=by
 unfold oF at h;split at h <;> first |assumption |cases h
theorem gT {y:Str} (h:lQ y=true):(y == ("__debug__" : Str))=false/\(y == ("__classdict__" : Str))=false:=by
 unfold lQ at h;rw[W7,Bool.not_eq_true',Bool.not_eq_true']at h;exact h
theorem lU {e : Expr} (h : b7 e = true) : bU e = true ∧ (∀ o, behindInMarks o e = false) ∧ (∀ o i, subscripted e false o i = operate [o, i] (getItem o i)) ∧ (∀ (env : Env) x, foldedSetIterable e env x = pure x) ∧ ∀ (o : Expr) (pos : Pos) (env : Env) v, assign (.Subscript o e pos) env v = (do
      let ov <- holding [v] (eval o env)
      let iv <- holding [v,ov] (eval e env)
      standAt pos
      holding [v,ov,iv] (setItem ov iv v)
      release [v,ov,iv] []):=by cases e <;> first |exact⟨rfl,λ_=>rfl,λ_ _=>rfl,λ_ _=>rfl,λ_ _ _ _=>rfl⟩ |cases h
theorem oL {e:Expr} (h:b7 e=true):bU e=true:=(lU h).1
theorem y7 {e:Expr}{o:CmpOp} (h:b7 e=true):behindInMarks o e=false:=(lU h).2.1 o
theorem IU {e:Expr} (h:b7 e=true):∀o i,subscripted e false o i=operate [o,i] (getItem o i):=(lU h).2.2.1
theorem sU {e:Expr}{env:Env} (h:b7 e=true):∀x,foldedSetIterable e env x=pure x:=(lU h).2.2.2.1 env
theorem IV {o i : Expr} {pos : Pos} {env : Env} (h : b7 i = true) : ∀ v, assign (.Subscript o i pos) env v = (do
      let ov <- holding [v] (eval o env)
      let iv <- holding [v,ov] (eval i env)
      standAt pos
      holding [v,ov,iv] (setItem ov iv v)
      release [v,ov,iv] []):=(lU h).2.2.2.2 o pos env
theorem lV {e:Expr}{t:Option Expr}{n:Nat}{env:Env} (h:eZ e=false):swapsWith e t n env=pure false:=by cases e <;> first |rfl |cases h
theorem IW {t v:Expr}{env:Env} (h:lR v=false):swappedStores [t] v env=pure none:=by
 cases t <;> first |rfl |(cases v <;> first |rfl |cases h)
noncomputable def iX:List Str:=["len","tuple","list","int","max","min","sum","dict","all","any","isinstance","sorted","set","bool","str","range","zip","enumerate","reversed"]
structure lW (m:Nm) (W:Wd) (k:Nat) (G:Gx):Prop where
 fn:∀i x,m.bV[i]?=some x->∃f fd ps,bf G k f fd ps (W.sp i)/\G.mg x=some (.ref f)/\PySem.W.keepIn G.K (.ref f)=true/\bM G.K fd ps []
 gv:∀i x,m.fF[i]?=some x->∃u,G.mg x=some u/\∀F:Fz,(∀b o,G.base.get? b=some o->F b=some (.dat o))->ab G F (W.gv.getD i .aj) u
 bl:∀x∈iX,G.mg x=none
 fl:∀C f,W.fl C f->cZ G.K C/\ef G.K C f
 cl:∀i x C sp,m.cls[i]?=some x->W.ci i=some (C,sp)->∃j f fd ps,j+1<=k/\Mk G.K C f/\bf G j f fd ps sp/\G.mg x=some (.ref C)/\bM G.K fd ps []
 mt:∀i x C sp,m.ai[i]?=some x->W.mt i=some (C,sp)->∃f fd ps,cZ G.K C/\jC G.K C x f/\bf G k f fd ps sp/\bM G.K fd ps []
 ca:∀f sp,W.ca f sp->cL G k f sp
structure bj (m:Nm) (W:Wd) (k:Nat) (ns:List Str) (sc:Scope) (X:Cx):Prop where
 hN:X.N=ns
 eU:X.env.scope=sc
 nd:ns.Nodup
 calm:X.calm=true
 room:bx k X.A
 en:lW m W k X.G
theorem fH {X:Cx}:dU X X0:=λ_ _ _ h=>h.elim
theorem gU {X:Cx}:eO X [] []:=λ_ _ _=>.nil
section
variable {m:Nm}{W:Wd}{k:Nat}{ns:List Str}{sc:Scope}{X:Cx}{x:Expr}{t:DE×DT}
theorem bj.sV (C:bj m W k ns sc X):X.A.units+110<cLine:=by have:=C.room.un;lia
theorem bj.u1 (C:bj m W k ns sc X):X.A.units+1<cLine:=by have:=C.room.un;lia
theorem bj.aZ (C:bj m W k ns sc X) {y:Str} (h:aZ sc y=true):Gl X y:=by
 show X.env.scope.names.lookup y=_;rw[C.eU];exact IS h
theorem bj.lc (C:bj m W k ns sc X) {scope:Scope}{N':List Str}{cl:List (Str×Addr)}{a:Addr} (nd:N'.Nodup):bj m W k N' (fG sc scope) (dE X scope N' cl a):=
 ⟨rfl,by rw[<- C.eU];rfl,nd,C.calm,C.room,C.en⟩
structure a0 (X:Cx) (x:Expr) (w:DE×DT):Prop where
 e:PE X x w.1
 t:PT X x w.2
 s:eZ x=true->∀(y:Str) (j:Nat) (py jQ:Pos),ik X [j] [y]->swapsWith x (some (.Name y py)) jQ.line X.env=pure true->PS X (.Assign [.Name y py] x jQ) (kR w.1 (cq (.one j)))
theorem a0.val {d:DE} (h:PE X x d) (he:∀ie,isTrue x X.env ie=(do let v <- ie;standAt x.pos;holding [v] (truthy v)):=by exact λ_=>rfl) (hl:eZ x=false:=by rfl):a0 X x (vl d):=⟨h,Fx h he,λz=>by rw[hl]at z;cases z⟩
theorem a0.no {d:DE} (h:PE X x d) (hl:eZ x=false:=by rfl):a0 X x (d,cP):=⟨h,ql,λz=>by rw[hl]at z;cases z⟩
theorem a0.aq:a0 X x (E.aq.w W m.ai):=by
 refine⟨kQ,ql,λ_ _ _ _ _ _ _=>?_⟩;exact fun τ z e R I h=>h.elim
theorem a0.lE {d:DE}{u:DT} (h:PE X x d) (h':PT X x u) (hl:eZ x=false:=by rfl):a0 X x (d,u):=⟨h,h',λz=>by rw[hl]at z;cases z⟩
theorem lX {o:Option Nat}{f:Nat->E}{e:E} (h1:∀i,o=some i->a0 X x ((f i).w W m.ai)) (h2:a0 X x (e.w W m.ai)):a0 X x ((j5 o f e).w W m.ai):=by
 cases o with
 |none=>exact h2
 |some i=>exact h1 i rfl
theorem iY {f:Expr->E}:∀{es:List Expr},a7 es=true->(∀e∈es,PE X e ((f e).w W m.ai).1)->PA X es ((L.of (es.map f)).w W m.ai)
 |[],_,_=>by rw[Yc,L.of,L.w];exact qj
 |e::es,h,g=>by
  have h':(bU e && a7 es)=true:=h;rw[W7]at h';rw[Xe,L.of,L.w];exact qk (g e W') (iY h'.2 λa ha=>g a (W8 _ ha)) (bC h'.1)
theorem y8 {f:Expr->E}{p:Pos}:∀{vs:List Expr},(∀e∈vs,a0 X e ((f e).w W m.ai))->PE X (.BoolOp .And vs p) ((e5 .and (vs.map f)).w W m.ai).1/\PW X (.BoolOp .And vs p) ((e5 .and (vs.map f)).w W m.ai).2
 |[],_=>⟨kQ,vK⟩
 |[a],g=>⟨vG (g a W').e,Dz (g a W').t⟩
 |a::b::r,g=>by
  have i:=y8 (p:=p) (vs:=b::r) λe he=>g e (W8 _ he);have e:e5 .and ((a::b::r).map f)=.and (f a) (e5 .and ((b::r).map f)):=rfl;rw[e,E.w];exact⟨DJ (g a W').e i.1,DC (g a W').t i.2⟩
theorem y9 {f:Expr->E}{p:Pos}:∀{vs:List Expr},(∀e∈vs,a0 X e ((f e).w W m.ai))->PE X (.BoolOp .Or vs p) ((e5 .or (vs.map f)).w W m.ai).1/\PW X (.BoolOp .Or vs p) ((e5 .or (vs.map f)).w W m.ai).2
 |[],_=>⟨kQ,vK⟩
 |[a],g=>⟨vG (g a W').e,DB (g a W').t⟩
 |a::b::r,g=>by
  have i:=y9 (p:=p) (vs:=b::r) λe he=>g e (W8 _ he);have e:e5 .or ((a::b::r).map f)=.or (f a) (e5 .or ((b::r).map f)):=rfl;rw[e,E.w];exact⟨DL (g a W').e i.1,DD (g a W').t i.2⟩
theorem y' {u:DT} (h:PW X x u):PT X x u:=fun τ z Q R I q k=>h _ τ z Q R I q k
theorem za (C:bj m W k ns sc X) {y:Str}{p:Pos}:a0 X (.Name y p) ((oG m ns sc y).w W m.ai):=by
 unfold oG;split
 ·rename_i ho;split
  ·rename_i hv;exact lX (λi hi=>by rw[E.w];exact .val (Dr (by rw[C.hN];exact gS hi) (by rw[C.eU];exact IQ hv) (gT ho).1 (gT ho).2)) .aq
  ·split
   ·rename_i hg;refine lX (λi hi=>?_) ?_
    ·obtain⟨u,h1,h2⟩:=C.en.gv i y (gS hi);rw[E.w];exact .val (Dx (C.aZ hg) h1 (gT ho).1 fun τ z I=>h2 z.F I.bs.b)
    ·have ty:∀{T:String},y∈iX->bootBuiltins y=some (.type T)->y≠"__name__"->a0 X (.Name y p) ((E.ty T).w W m.ai):=λh1 h2 h3=>(by rw[E.w];exact .val (G7 (C.aZ hg) (C.en.bl y h1) h2 h3 (gT ho).1));unfold y4;split
     ·rename_i e;subst e;exact ty (by decide) (by decide +kernel) (by decide)
     ·split
      ·rename_i e;subst e;exact ty (by decide) (by decide +kernel) (by decide)
      ·split
       ·rename_i e;subst e;exact ty (by decide) (by decide +kernel) (by decide)
       ·split
        ·rename_i e;subst e;exact ty (by decide) (by decide +kernel) (by decide)
        ·split
         ·rename_i e;subst e;exact ty (by decide) (by decide +kernel) (by decide)
         ·exact .aq
   ·exact .aq
 ·exact .aq
theorem IX {c:Const}{kk:Nat}{p:Pos}:a0 X (.Constant c kk p) ((sJ c).w W m.ai):=by
 unfold sJ;split
 ·rw[E.w];exact .val vF
 ·rw[E.w];exact .val Dw
 ·rw[E.w];exact .val Du
 ·rw[E.w];exact .val Dv
 ·exact .aq
end
end N
end
section
set_option maxHeartbeats 1000000
namespace N
open PySem PySem.Spec PyProof.Rows L2
section
variable {m:Nm}{W:Wd}{k:Nat}{ns:List Str}{sc:Scope}{X:Cx}{x:Expr}
def Bi.nm:Bi->Str
 |.len=>"len" |.tuple=>"tuple" |.int=>"int" |.max=>"max" |.sum=>"sum" |.dict=>"dict" |.any=>"any" |.lO=>"isinstance" |.sorted=>"sorted"
def Mt.nm:Mt->Str
 |.append=>"append" |.pop=>"pop" |.extend=>"extend" |.get=>"get" |.update=>"update"
theorem IY {y:Str}{b:Bi} (h:sD y=some b):y=b.nm:=by
 unfold sD at h
 repeat' split at h
 all_goals first |(cases h;assumption) |cases h
theorem IZ {y:Str}{b:Mt} (h:sE y=some b):y=b.nm:=by
 unfold sE at h
 repeat' split at h
 all_goals first |(cases h;assumption) |cases h
theorem I9 (C:bj m W k ns sc X) {e:Expr}{es:List Expr}{p pos:Pos}{tA:DA} (hA:PA X (e::es) tA) (hs:a7 (e::es)=true):∀b:Bi,aZ sc b.nm=true->PE X (.Call (.Name b.nm p) (e::es) [] pos) (TP (y2 b) tA):=by
 have h':(bU e && a7 es)=true:=hs;rw[W7]at h';have TU:∀{y:Str}{id:String}{r:QN},CB X (.builtin id) r->aZ sc y=true->y∈iX->bootBuiltins y=some (.builtin id)->y≠"__name__"->(y == ("__debug__" : Str))=false->PE X (.Call (.Name y p) (e::es) [] pos) (TP r tA):=
  λhc hg hb hv hn hd=>FY hc (C.aZ hg) (C.en.bl _ hb) hv hA hn hd (bC h'.1) (eh h'.2)
 have UU:∀{y:Str}{T:String}{r:QN},CB X (.type T) r->aZ sc y=true->y∈iX->bootBuiltins y=some (.type T)->y≠"__name__"->(y == ("__debug__" : Str))=false->PE X (.Call (.Name y p) (e::es) [] pos) (TP r tA):=
  λhc hg hb hv hn hd=>FZ hc (C.aZ hg) (C.en.bl _ hb) hv hA hn hd (bC h'.1) (eh h'.2)
 intro b hg;cases b with
 |len=>exact TU F3 hg (by decide) (by decide +kernel) (by decide) (by decide)
 |tuple=>exact UU F6 hg (by decide) (by decide +kernel) (by decide) (by decide)
 |int=>exact UU F4 hg (by decide) (by decide +kernel) (by decide) (by decide)
 |max=>exact TU (F7 C.calm) hg (by decide) (by decide +kernel) (by decide) (by decide)
 |sum=>exact TU (F8 C.calm) hg (by decide) (by decide +kernel) (by decide) (by decide)
 |dict=>exact UU (GO C.calm) hg (by decide) (by decide +kernel) (by decide) (by decide)
 |any=>exact TU (F9 C.calm) hg (by decide) (by decide +kernel) (by decide) (by decide)
 |lO=>exact TU G9 hg (by decide) (by decide +kernel) (by decide) (by decide)
 |sorted=>exact TU (Ha C.calm) hg (by decide) (by decide +kernel) (by decide) (by decide)
theorem Ja {o:Expr}{es:List Expr}{q p:Pos}{to:DE}{tA:DA} (ho:PE X o to) (hA:PA X es tA) (h0:es=[]->tA=eF) (hs:a7 es=true) (hl:es.length<29) (hb:PL.fB o=false) (ce:(q.endLine == p.line)=true):∀b:Mt,PE X (.Call (.Attribute o b.nm q) es [] p) (lq b.ty (y3 b) to tA):=by
 have go:∀{T id:String}{y:Str}{r:QM},PlainAttrs T->Slot T y id->typeOf (.builtin id)=pure (.type "method_descriptor")->OM X id r->PE X (.Call (.Attribute o y q) es [] p) (lq T r to tA):=λpa sl ty hm=>by
  cases es with
  |nil=>cases h0 rfl;exact Ga pa sl ty hm ho (PL.jG hb) ce
  |cons e es=>
   have h':(bU e && a7 es)=true:=hs;rw[W7]at h';exact Gb pa sl ty hm ho hA (PL.jG hb) (wU hs hl) ce (bC h'.1) (eh h'.2)
 intro b;cases b with
 |append=>exact go PySem.F.plainAttrs_list PySem.F.slot_list_append PySem.F.type_list_append Gd
 |pop=>exact go PySem.F.plainAttrs_list PySem.F.slot_list_pop PySem.F.type_list_pop Ge
 |extend=>exact go PySem.F.plainAttrs_list PySem.F.slot_list_extend PySem.F.type_list_extend GP
 |get=>exact go PySem.F.plainAttrs_dict PySem.F.slot_dict_get PySem.F.type_dict_get Gg
 |update=>exact go PySem.F.plainAttrs_dict PySem.F.slot_dict_update PySem.F.type_dict_update Ie
theorem Jb (C:bj m W k ns sc X) {y:Str}{es:List Expr}{p pos:Pos}{f:Expr->E} (ho:lQ y=true) (hs:a7 es=true) (g:∀ e∈es,PE X e ((f e).w W m.ai).1) :
  a0 X (.Call (.Name y p) es [] pos) ((sG m ns sc y (L.of (es.map f)) (!es.isEmpty)).w W m.ai):=by
 have hA:=iY hs g;unfold sG;split
 ·rename_i hg;refine lX (λi hi=>?_) (lX (λi hi=>?_) ?_)
  ·obtain⟨fa,fd,ps,g1,g2,g3,g4⟩:=C.en.fn i y (gS hi);rw[E.w];refine .val ?_;cases es with
   |nil=>exact FE g1 C.room (C.aZ hg) g2 g3 g4 gU fH (gT ho).1
   |cons e es=>
    have h':(bU e && a7 es)=true:=hs;rw[W7]at h';exact FD g1 C.room (C.aZ hg) g2 g3 g4 gU fH hA (gT ho).1 (bC h'.1) (eh h'.2)
  ·rw[E.w];refine .no ?_;cases hc:W.ci i with
   |none=>exact kQ
   |some cs=>
    obtain⟨Ca,sp⟩:=cs;obtain⟨j,fa,fd,ps,g0,g1,g2,g3,g4⟩:=C.en.cl i y Ca sp (gS hi) hc;cases es with
    |nil=>exact FQ g1 g2 (C.room.mono g0) (C.aZ hg) g3 g4 gU fH (gT ho).1
    |cons e es=>
     have h':(bU e && a7 es)=true:=hs;rw[W7]at h';exact FP g1 g2 (C.room.mono g0) (C.aZ hg) g3 g4 gU fH hA (gT ho).1 (bC h'.1) (eh h'.2)
  ·split
   ·rename_i b hb;split
    ·cases es with
     |nil=>contradiction
     |cons e es=>
      cases IY hb;rw[E.w];exact .val (I9 C hA hs b hg)
    ·exact .aq
   ·exact .aq
 ·exact .aq
theorem zb {o : Expr} {es : List Expr} {y : Str} {q pos : Pos} {env : Env} (hb : PL.fB o = false) (hs : a7 es = true) (hl : es.length < 29) (ce : (q.endLine == pos.line) = true) : eval (.Call (.Attribute o y q) es [] pos) env = (do
      let ov <- eval o env
      standAt q.atName
      let (f,first) <- holding [ov] (getMethod ov y (do return (<- importBound o env).getD true))
      callWith pos f first (backTo pos (starEach es env)) (backToKw pos (keywordEach [] env))):=by
  have e1:eval (.Call (.Attribute o y q) es [] pos) env=(do
    let ov <- attributeBase o y env (eval o env)
    standAt q.atName
    methodCall o y q pos env ov (es.length+([]:List Keyword).length) (backTo pos (starEach es env)) (backToKw pos (keywordEach [] env))):=rfl
  rw[e1,PL.jG hb];have e2:methodCallForm (es.length+([]:List Keyword).length) (backTo pos (starEach es env)) (backToKw pos (keywordEach [] env))=true:=wU (env:=env) (cpos:=pos) hs hl;unfold methodCall;rw[e2];unfold calleeOf methodCallPos;rw[ce];rfl
theorem Jc (C:bj m W k ns sc X) {y:Str}{o:Expr}{TR:E}{es:List Expr}{q pos:Pos}{f:Expr->E} (ho:PE X o (TR.w W m.ai).1) (hb:PL.fB o=false) (ce:(q.endLine == pos.line)=true) (hl:es.length<29) (hs:a7 es=true) (g:∀ e∈es,PE X e ((f e).w W m.ai).1) :
  a0 X (.Call (.Attribute o y q) es [] pos) ((sH m y TR (L.of (es.map f))).w W m.ai):=by
 have hA:=iY hs g;unfold sH;refine lX (λi hi=>?_) ?_
 ·rw[E.w];refine .val ?_;cases hc:W.mt i with
  |none=>exact kQ
  |some cs=>
   obtain⟨Ca,sp⟩:=cs;have hy:=gS hi;obtain⟨fa,fd,ps,g1,g2,g3,g4⟩:=C.en.mt i y Ca sp hy hc;have e:m.ai.getD i ""=y:=(by rw[Xs,hy];rfl);show PE X _ (lj Ca (m.ai.getD i "") sp [] X0 _ _);rw[e];cases es with
   |nil=>exact FN ho g1 g2 g3 C.room g4 gU fH (zb hb hs hl ce)
   |cons e es=>
    have h':(bU e && a7 es)=true:=hs;rw[W7]at h';exact FL ho g1 g2 g3 C.room g4 gU fH hA (bC h'.1) (eh h'.2) (zb hb hs hl ce)
 ·split
  ·rename_i b og;cases IZ og;rw[E.w];exact .val (Ja ho hA (λz=>by subst z;rfl) hs hl hb ce b)
  ·exact .aq
end
end N
end
section
set_option maxHeartbeats 2000000
namespace N
open PySem PySem.Spec PyProof.Rows L2
section
variable {m:Nm}{W:Wd}{k:Nat}{ns:List Str}{sc:Scope}{X:Cx}{x:Expr}
theorem Jd {e:Expr}{q:Str×Pos} (h:lS e=some q):e=.Name q.1 q.2:=by
 cases e
 case Name x p=>cases h;rfl
 all_goals cases h
theorem zc:∀{es:List Expr}{l:List (Str×Pos)},lT es=some l->es=l.map λq=>.Name q.1 q.2
 |[],l,h=>by cases h;rfl
 |e::r,l,h=>by
  obtain⟨q,h1,h2⟩:=Option.bind_eq_some_iff.mp (show (lS e).bind _=some l from h);obtain⟨l',h3,rfl⟩:=Option.map_eq_some_iff.mp h2;rw[Xe,<- zc h3,Jd h1]
theorem sW (C:bj m W k ns sc X) {ok:Str->Bool} (hok:∀y,ok y=true->L2.ib X.env.scope y/\(X.fn y=true\/X.env.scope.names.lookup y=some .local)) {e:Expr}{g:G} (h:gR ns ok e=some g):PG X e (cq g):=by
 have nd:X.N.Nodup:=by rw[C.hN];exact C.nd
 unfold gR at h;split at h
 ·rename_i x p;split at h
  ·rename_i ho;obtain⟨i,h1,rfl⟩:=Option.map_eq_some_iff.mp h;refine vL ⟨nd,λV4 y hy=>?_⟩;cases List.mem_singleton.mp hy;exact⟨by rw[C.hN];exact gS h1,hok x ho⟩
  ·cases h
 ·rename_i es kk p;cases hn:lT es with
  |none=>rw[hn]at h;cases h
  |some l=>
   rw[hn]at h;have h:sF ns ok l=some g:=h;unfold sF at h;split at h
   ·rename_i ha;cases h;rw[zc hn];refine D4 C.calm ⟨nd,λi y hy=>?_⟩ (by rw[W0]);rw[List.zip_map',List.mem_map]at hy;obtain⟨q,hq,e⟩:=hy;cases e;have hb:=List.all_eq_true.mp ha q hq;rw[W7]at hb;obtain⟨i,hi⟩:=Option.isSome_iff_exists.mp hb.2;rw[hi];exact⟨by rw[C.hN];exact gS hi,hok q.1 hb.1⟩
   ·cases h
 ·cases h
theorem iM.of {scope:Scope}{Nt:List Str}{fr:List (Str×Nat)} (h1:X.env.scope=sc) (h2:X.N=ns) (h:nL sc ns scope fr=true):iM X scope Nt fr:=by
 unfold nL at h;simp only[W7,List.all_eq_true,decide_eq_true_eq]at h;obtain⟨⟨⟨⟨Ti,a2⟩,To⟩,Tp⟩,TH⟩:=h;refine⟨eq_of_beq Ti,a2,To,λy hy hf=>?_,λp hp=>?_⟩
 ·show X.env.scope.names.lookup y.1=some .cell;rw[h1];exact Tp y hy hf
 ·rw[h2];exact TH p hp
theorem zd {e:Expr} (h:lR e=true):∃a b c,e=.Tuple a b c:=by cases e <;> first |exact⟨_,_,_,rfl⟩ |cases h
theorem sX {n:Nat} (C:bj m W k ns sc X) (ih:∀x,a0 X x ((aR m n ns sc x).w W m.ai)) {tg e:Expr}:PI X tg e ((bW sc (aR m n ns sc) tg e).w W m.ai):=by
 have sq:PI X tg e ((I.seq (aR m n ns sc e)).w W m.ai):=by rw[I.w];exact Io (ih e).e
 have bl:∀y∈iX,X.G.mg y=none:=C.en.bl;have s1:∀{a:Expr},b7 a=true->starEach [a] X.env=[(false,eval a X.env)]:=λh=>by rw[bC (oL h)];rfl
 unfold bW;split
 ·rename_i f p a q;split
  ·rename_i h;rw[W7]at h;split
   ·rename_i e;subst e;rw[I.w];exact Ed (C.aZ h.1) (bl _ (by decide)) (ih a).e (s1 h.2)
   ·split
    ·rename_i e;subst e;rw[I.w];exact Et (C.aZ h.1) (bl _ (by decide)) (ih a).e (s1 h.2)
    ·exact sq
  ·exact sq
 ·rename_i f p a b q;split
  ·rename_i h;rw[W7,W7]at h;obtain⟨⟨h1,h2⟩,h3⟩:=h;have s2:starEach [a,b] X.env=[(false,eval a X.env),(false,eval b X.env)]:=(by rw[bC (oL h2),s1 h3]);split
   ·rename_i e;obtain⟨rfl,ht⟩:=e;obtain⟨_,_,_,rfl⟩:=zd ht;rw[I.w];exact Ep (C.aZ h1) (bl _ (by decide)) (ih a).e (ih b).e s2 (s1 h3)
   ·exact sq
  ·exact sq
 ·rename_i o y q p;split
  ·rename_i c;obtain⟨rfl,ht,hb,ce⟩:=c;obtain⟨_,_,_,rfl⟩:=zd ht;rw[I.w];exact Ir (ih o).e (PL.jG hb) ce
  ·exact sq
 ·exact sq
theorem ze {n:Nat} (C:bj m W k ns sc X) (ih:∀ x,a0 X x ((aR m n ns sc x).w W m.ai)) {tg iter ap:Expr}{bd:List Expr}{scope:Scope}{pos:Pos}{g:G}{TJ Vh:E} (hg:gR (dY ns scope tg) (oF (fG sc scope)) tg=some g)
  (h1:nL sc ns scope (iW ns scope.names)=true) (h2:g.lt ((iV tg).map (·.1)).length=true) (h3:(dY ns scope tg).Nodup) (h4:b7 iter=true)
  (hc:∀{X':Cx},bj m W k (dY ns scope tg) (fG sc scope) X'->PF X' bd (UT TJ (TJ.w W m.ai).2)) (he:∀{X':Cx},bj m W k (dY ns scope tg) (fG sc scope) X'->PE X' ap (Vh.w W m.ai).1) :
  a0 X (.ListComp ap [⟨tg,iter,bd,0⟩] scope pos) ((E.lc ((iV tg).map (·.1)).length ((iW ns scope.names).map (·.2)) g (bW sc (aR m n ns sc) tg iter) TJ Vh).w W m.ai):=by
 have L1:iM X scope ((iV tg).map (·.1)) (iW ns scope.names):=.of C.eU C.hN h1;have C':∀cl a,bj m W k (dY ns scope tg) (fG sc scope) (dE X scope (dY ns scope tg) cl a):=λcl a=>C.lc h3;have n6:∀cl a,PG (dE X scope (dY ns scope tg) cl a) tg (cq g):=λcl a=>sW (C' cl a) (λy hy=>by
  have hl:=IT hy;rw[(C' cl a).eU];exact⟨.inl hl,.inr hl⟩) hg
 rw[E.w,<- IJ];exact⟨G4 L1 C.calm (sX C ih) n6 h2 (λcl a=>hc (C' cl a)) (λcl a=>he (C' cl a)) (sU h4),ql,
  λ_ y j py jQ hN rL=>G5 L1 C.calm hN (sX C ih) n6 h2 (λcl a=>hc (C' cl a)) (λcl a=>he (C' cl a)) (sU h4) rL⟩
theorem zg {f:Expr->E}{pos:Pos}:∀ {ks:List (Option Expr)}{vs:List Expr},ks.all (·.isSome)=true->ks.length=vs.length->(∀ e,PE X e ((f e).w W m.ai).1) ->
  PP X pos ks vs (((L.of (ks.map λk=>match k with |some k=>f k |none=>.aq)).wl W m.ai).zip ((L.of (vs.map f)).wl W m.ai))
 |[],[],_,_,_=>by simp only[Yc,L.of,L.wl,List.zip_nil_left];exact GH
 |[],v::vs,_,h,_=>by cases h
 |none::ks,vs,h,_,_=>by cases h
 |some k::ks,[],_,h,_=>by cases h
 |some k::ks,v::vs,h,hl,g=>by
  simp only[Xe,L.of,L.wl,Yq];exact GI (g k) (g v) (zg (by simpa using h) (by simpa using hl) g)
end
end N
end
section
namespace N
open PySem PySem.Spec PyProof.Rows L2
section
variable {m:Nm}{W:Wd}{k:Nat}
theorem zh {X:Cx}{o:Option Expr}{f:Expr->E} (h:oJ o f=true) (g:∀e,PE X e ((f e).w W m.ai).1):PO X o (oW (oH o f) ((oH o f).w W m.ai).1):=by
 cases o with
 |none=>exact FR
 |some x=>
  have h:j4 (f x)=false:=by simpa [oJ] using h
  show PO X (some x) (oW (f x) ((f x).w W m.ai).1);unfold oW;rw[h];exact FT (g x)
theorem Je {a b:Expr}{q pos:Pos}{es:List Expr}{env:Env}:eval (.Call (.Subscript a b q) es [] pos) env=(do callWith pos (<- eval (.Subscript a b q) env) [] (backTo pos (starEach es env)) (backToKw pos (keywordEach [] env))):=rfl
theorem Jf {X:Cx}{fl:Addr->Str->Prop}{f:Str} (hf:∀C,fl C f->cZ X.G.K C/\ef X.G.K C f) {x:D}{M:Mp}{q:QK} (h:oB fl f x M q):qS X.G.K f x M q:=by
 unfold oB cD at h;unfold qS cD;split at h
 ·obtain⟨C,dx,fs,e,d,h1,h2⟩:=h;exact⟨C,dx,fs,e,d,hf C h1,h2⟩
 ·exact h.elim
theorem Jg {X:Cx}{fl:Addr->Str->Prop}{f:Str}{e:Expr}{to:DE}{pos:Pos} (hf:∀C,fl C f->cZ X.G.K C/\ef X.G.K C f) (he:PE X e to) (hb:attributeBase e f X.env (eval e X.env)=eval e X.env):PE X (.Attribute e f pos) (jv (oB fl f) to):=fun τ z Q R I h k=>
 EZ hb (he τ z _ _ I h λd z1 u l1 I1 r1 q1=>FJ τ z1 Q R d u I1 r1 (Jf hf q1) λd z2 u l2=>k d z2 u (l1.tr l2))
theorem Jh {sc:Scope}{x:Str}{es:List Expr}{a:Expr} (h:sL sc x es=some a):∃p q,x="sorted"/\es=[.Call (.Name "set" p) [a] [] q]/\aZ sc "sorted"=true/\aZ sc "set"=true/\b7 a=true:=by
 unfold sL at h;split at h
 ·rename_i g p b q;split at h
  ·rename_i c;obtain⟨rfl,rfl,h1,h2,h3⟩:=c;cases h;exact⟨p,q,rfl,rfl,h1,h2,h3⟩
  ·cases h
 ·cases h
theorem Ji {sc:Scope}{x:Str}{es:List Expr}{a:Expr} (h:sM sc x es=some a):∃p q,x="list"/\es=[.Call (.Name "enumerate" p) [a] [] q]/\aZ sc "list"=true/\aZ sc "enumerate"=true/\b7 a=true:=by
 unfold sM at h;split at h
 ·rename_i g p b q;split at h
  ·rename_i c;obtain⟨rfl,rfl,h1,h2,h3⟩:=c;cases h;exact⟨p,q,rfl,rfl,h1,h2,h3⟩
  ·cases h
 ·cases h
theorem Jj {sc:Scope}{x:Str}{es:List Expr}{a:Expr} (h:sN sc x es=some a):∃p q,x="sorted"/\es=[.Call (.Attribute a "items" q) [] [] p]/\aZ sc "sorted"=true/\PL.fB a=false/\(q.endLine == p.line)=true:=by
 unfold sN at h;split at h
 ·rename_i o y q p;split at h
  ·rename_i c;obtain⟨rfl,rfl,h1,h2,h3⟩:=c;cases h;exact⟨p,q,rfl,rfl,h1,h2,h3⟩
  ·cases h
 ·cases h
section
variable {ns:List Str}{sc:Scope}{X:Cx}{f:Expr->E}
theorem Jk (ih:∀x,a0 X x ((f x).w W m.ai)) {a b:Expr}{pos:Pos}:a0 X (.Subscript a b pos) ((sP f a b).w W m.ai):=by
 unfold sP;split
 ·rw[E.w];exact .no (FW (ih _).e λ_ _=>by with_unfolding_all rfl)
 ·split
  ·rename_i h;rw[W7]at h;rw[E.w];exact .no (FV (ih _).e (zh h.1 λe=>(ih e).e) (zh h.2 λe=>(ih e).e) λ_ _=>by with_unfolding_all rfl)
  ·exact .aq
 ·split
  ·rename_i h;rw[E.w];exact .val (Fy (ih _).e (ih _).e (IU h))
  ·exact .aq
theorem Jl (C:bj m W k ns sc X) (ih:∀x,a0 X x ((f x).w W m.ai)) {a:Expr}{os:List CmpOp}{bs:List Expr}{pos:Pos}:a0 X (.Compare a os bs pos) ((sQ f a os bs).w W m.ai):=by
 unfold sQ;split
 ·split
  ·rename_i h;rw[E.w];exact .lE (Fm (xi C.sV _) (ih _).e (ih _).e (y7 h)) (Fs (xi C.sV _) (ih _).e (ih _).e (y7 h))
  ·exact .aq
 ·exact .aq
theorem Jm (C:bj m W k ns sc X) (ih:∀x,a0 X x ((f x).w W m.ai)) {g:Expr}{es:List Expr}{pos:Pos}:a0 X (.Call g es [] pos) ((sR m ns sc f es pos g).w W m.ai):=by
 have hA:a7 es=true->PA X es ((L.of (es.map f)).w W m.ai):=λh=>iY h λe _=>(ih e).e;unfold sR;split
 ·split
  ·rename_i a ha;obtain⟨p,q,rfl,rfl,h1,h2,h3⟩:=Jh ha;rw[E.w];exact .no (HO C.calm (C.aZ h1) (C.en.bl _ (by decide)) (C.aZ h2) (C.en.bl _ (by decide)) (ih a).e (oL h3))
  ·split
   ·rename_i a ha;obtain⟨p,q,rfl,rfl,h1,h2,h3⟩:=Ji ha;rw[E.w];exact .no (Ib C.calm (C.aZ h1) (C.en.bl _ (by decide)) (C.aZ h2) (C.en.bl _ (by decide)) (ih a).e (oL h3))
   split
   ·rename_i a ha;obtain⟨p,q,rfl,rfl,h1,h2,h3⟩:=Jj ha;rw[E.w];exact .no (IA C.calm C.sV (C.aZ h1) (C.en.bl _ (by decide)) (ih a).e (PL.jG h2) h3)
   split
   ·rename_i h;rw[W7]at h;split
    ·split
     ·exact .aq
     ·rename_i hn;rw[E.w];cases es with
      |nil=>exact absurd rfl hn
      |cons e es=>
       have h':(bU e && a7 es)=true:=h.2;rw[W7]at h';exact .val (x9 C.en.ca C.room fH (za C).e (hA h.2) (bC h'.1) (eh h'.2) rfl)
    ·exact Jb C h.1 h.2 λe _=>(ih e).e
   ·exact .aq
 ·split
  ·rename_i h;rw[W7,W7,W7]at h;obtain⟨⟨⟨h1,h2⟩,h3⟩,h4⟩:=h;exact Jc C (ih _).e (by simpa using h2) h1 (of_decide_eq_true h4) h3 λe _=>(ih e).e
  ·exact .aq
 ·split
  ·rename_i h;rw[W7]at h;rw[E.w];cases es with
   |nil=>exact absurd h.2 (by decide)
   |cons e es=>
    have h':(bU e && a7 es)=true:=h.1;rw[W7]at h';exact .val (x9 C.en.ca C.room fH (ih _).e (hA h.1) (bC h'.1) (eh h'.2) Je)
  ·exact .aq
 ·exact .aq
theorem Jn (ih:∀x,a0 X x ((f x).w W m.ai)) {ks:List (Option Expr)}{vs:List Expr}{pos:Pos}:a0 X (.Dict ks vs pos) ((sT f ks vs).w W m.ai):=by
 unfold sT;split
 ·rename_i h;rw[W7,List.isEmpty_iff,List.isEmpty_iff]at h;obtain⟨rfl,rfl⟩:=h;rw[E.w];exact .no GG
 ·split
  ·rename_i h;rw[W7,W7,W7]at h;obtain⟨⟨⟨h1,h2⟩,h3⟩,h4⟩:=h;rw[E.w];exact .no (GJ (zg h1 (of_decide_eq_true h2) λe=>(ih e).e) h1 (of_decide_eq_true h2) (by rintro rfl;cases h4) (of_decide_eq_true h3))
  ·exact .aq
end
theorem Jo {n:Nat}{ns:List Str}{sc:Scope}{X:Cx} (C:bj m W k ns sc X) (ih:∀{ns:List Str}{sc:Scope}{X:Cx},bj m W k ns sc X->∀x,a0 X x ((aR m n ns sc x).w W m.ai)) {ap:Expr}{gs:List Comprehension}{scope:Scope}{pos:Pos}:a0 X (.ListComp ap gs scope pos) ((sS ns sc (aR m n) ap scope gs).w W m.ai):=by
 unfold sS;split
 ·unfold y5;split
  ·rename_i g hg;split
   ·rename_i h;rw[W7,W7,W7]at h;obtain⟨⟨⟨h1,h2⟩,h3⟩,h4⟩:=h;split
    ·exact ze (n:=n) C (ih C) hg h1 h2 (of_decide_eq_true h3) h4 (λ_=>GS) λC'=>(ih C' _).e
    ·split
     ·exact .aq
     ·rename_i hn;exact ze (n:=n) C (ih C) hg h1 h2 (of_decide_eq_true h3) h4 (λC'=>by unfold UT;rw[show j4 _=false by simpa using hn];exact GU (ih C' _).t) λC'=>(ih C' _).e
    ·exact .aq
   ·exact .aq
  ·exact .aq
 ·exact .aq
theorem iZ:∀(n:Nat) {ns:List Str}{sc:Scope}{X:Cx},bj m W k ns sc X->∀x,a0 X x ((aR m n ns sc x).w W m.ai)
 | 0,ns,sc,X,C,x=>.aq
 |n+1,ns,sc,X,C,x=>by
  have ih:∀x,a0 X x ((aR m n ns sc x).w W m.ai):=iZ n C;have hA:∀{es:List Expr},a7 es=true->PA X es ((L.of (es.map (aR m n ns sc))).w W m.ai):=λh=>iY h λe _=>(ih e).e;cases x
  case Name y p=>exact za C
  case Constant c kk p=>exact IX
  case Tuple es kk p=>
   show a0 X _ ((if a7 es then E.tup (L.of (es.map (aR m n ns sc))) else .aq).w W m.ai)
   split
   ·rename_i h;rw[E.w];exact .val (DP (hA h))
   ·exact .aq
  case List es p=>
   show a0 X _ ((if a7 es then E.lst (L.of (es.map (aR m n ns sc))) else .aq).w W m.ai)
   split
   ·rename_i h;rw[E.w];exact .val (DQ (hA h))
   ·exact .aq
  case BinOp a o b p=>exact .val (Dy (Fl _) (ih _).e (ih _).e)
  case Compare a os bs p=>exact Jl C ih
  case UnaryOp o a p=>
   cases o
   case USub=>exact .val (xx xy (ih _).e)
   case Not=>exact .lE (DM (ih _).e) (DH (ih _).t)
   all_goals exact .aq
  case BoolOp o vs p=>
   cases o
   case And=>obtain⟨h1,h2⟩:=y8 (p:=p) λe _=>ih e;exact .lE h1 (y' h2)
   case Or=>obtain⟨h1,h2⟩:=y9 (p:=p) λe _=>ih e;exact .lE h1 (y' h2)
  case IfExp c a b p=>exact .no (DN (ih _).t (ih _).e (ih _).e)
  case Subscript a b p=>exact Jk ih
  case Call g es sn p=>
   cases sn with
   |nil=>exact Jm C ih
   |cons _ _=>exact .aq
  case Attribute o f p=>
   show a0 X _ ((if !PL.fB o then E.fld (aR m n ns sc o) f else .aq).w W m.ai)
   split
   ·rename_i h;rw[E.w];exact .val (Jg (λC' z=>C.en.fl C' _ z) (ih _).e (PL.jG (by simpa using h)))
   ·exact .aq
  case ListComp ap gs scope p=>exact Jo C (iZ n)
  case Dict ks vs p=>exact Jn ih
  all_goals exact .aq
end
noncomputable def B.of:List S->B
 |[]=>.nil
 |s::r=>.cons s (B.of r)
noncomputable def lY (o:Option G) (f:G->S):S:=match o with
 |some g=>f g
 |none=>.dead
noncomputable def sY (ns:List Str) (sc:Scope) (f:Expr->E) (v:Expr):List Expr->S
 |[.Name x p]=>lY (gR ns (loc sc) (.Name x p)) λg=>.set g (f v)
 |[.Tuple es kk p]=>if !lR v && !eZ v then lY (gR ns (loc sc) (.Tuple es kk p)) λg=>.set g (f v) else .dead
 |[.Subscript o i _]=>if b7 i && !eZ v then .put (f o) (f i) (f v) else .dead
 |[.Attribute o a _]=>if !eZ v then .oA (f o) a (f v) else .dead
 |_=>.dead
noncomputable def zi (s:S):List Stmt->S
 |[]=>s
 |_=>.dead
noncomputable def Jp (f:Expr->E):Option Expr->S
 |some v=>.ret (f v)
 |none=>.dead
noncomputable def sZ (b:B) (hs:List ExceptHandler) (e f:List Stmt):S:=if hs.isEmpty || !e.isEmpty || !f.isEmpty then .dead else .cond (.c (.bl true)) b .nil
variable (m:Nm) in
noncomputable def gw:Nat->List Str->Scope->Stmt->S
 | 0,_,_,_=>.dead
 |n+1,ns,sc,s=>match s with
  |.Assign ts v _=>sY ns sc (aR m n ns sc) v ts
  |.Return o _=>Jp (aR m n ns sc) o
  |.Expr v _=>if !eZ v then .ex (aR m n ns sc v) else .dead
  |.If c a b _=>.cond (aR m n ns sc c) (B.of (a.map (gw n ns sc))) (B.of (b.map (gw n ns sc)))
  |.For t i b e _=>zi (if b7 i then lY (gR ns (loc sc) t) λg=>.loop g (bW sc (aR m n ns sc) t i) (B.of (b.map (gw n ns sc))) else .dead) e
  |.While c b e _=>zi (.j3 (aR m n ns sc c) (B.of (b.map (gw n ns sc)))) e
  |.Try b hs e f _=>sZ (B.of (b.map (gw n ns sc))) hs e f
  |.Pass _=>.pass
  |.Break _=>.brk
  |.Continue _=>.cnt
  |_=>.dead
section
variable {m:Nm}{W:Wd}{k:Nat}{ns:List Str}{sc:Scope}{X:Cx}
theorem s6 {st:Stmt}{o:Option G}{f:G->S} (h:∀g,o=some g->PS X st ((f g).w W m.ai)):PS X st ((lY o f).w W m.ai):=by
 cases o with
 |none=>exact dR
 |some g=>exact h g rfl
theorem gV {f:Stmt->S} (g:∀s,PS X s ((f s).w W m.ai)):∀ss:List Stmt,ed X ss ((B.of (ss.map f)).w W m.ai)
 |[]=>DR
 |[s]=>vJ (g s)
 |s::t::r=>DU (g s) (gV g (t::r))
theorem Jq {X:Cx}{fl:Addr->Str->Prop}{f:Str} (hf:∀C,fl C f->cZ X.G.K C/\ef X.G.K C f) {o d:D}{M:Mp}{q:Mp->Prop} (h:cD o M λa C dx fs=>fl C f/\fs.length<1000/\q (up M a (.ins C dx (fD f d fs)))):qT X.G.K f o d M q:=by
 unfold cD at h;unfold qT cD;split at h
 ·obtain⟨C,dx,fs,e,h1,h2⟩:=h;exact⟨C,dx,fs,e,hf C h1,h2⟩
 ·exact h.elim
theorem Jr {fl:Addr->Str->Prop}{o value:Expr}{f:Str}{to tv:DE}{pos qV:Pos} (hf:∀C,fl C f->cZ X.G.K C/\ef X.G.K C f) (ho:PE X o to) (hv:PE X value tv) (hs:swapsWith value (some (.Attribute o f qV)) pos.line X.env=pure false):PS X (.Assign [.Attribute o f qV] value pos) (y1 fl f to tv):=fun τ z e R I h k=>
 plainObj_wpAny_Assign_Attribute (hv τ z _ _ I h λd z1 u l1 I1 r1 q1=>ho τ z1 _ _ I1 q1 λod z2 ov l2 I2 r2 q2=>FK I2 r2 (r1.up l2.d) (Jq hf q2) λz3 e3 I3 q3=>k.nx τ z3 (by rw[e3];exact l1.tr l2) I3 q3) hs
theorem Js (C:bj m W k ns sc X) (hf:∀y,loc sc y=true->X.fn y=true\/X.env.scope.names.lookup y=some .local) {f:Expr->E} (ih:∀x,a0 X x ((f x).w W m.ai)) {ts:List Expr}{v:Expr}{q:Pos}:PS X (.Assign ts v q) ((sY ns sc f v ts).w W m.ai):=by
 have hok:∀y,loc sc y=true->L2.ib X.env.scope y/\(X.fn y=true\/X.env.scope.names.lookup y=some .local):=λy hy=>⟨by rw[C.eU];exact oK hy,hf y hy⟩;have nd:X.N.Nodup:=by rw[C.hN];exact C.nd
 unfold sY;split
 ·rename_i x p;refine s6 λg hg=>?_;rw[S.w];have hg:(if loc sc x then (dG x ns 0).map G.one else none)=some g:=hg
  split at hg
  ·rename_i hl;obtain⟨i,h1,rfl⟩:=Option.map_eq_some_iff.mp hg;have hN:ik X [i] [x]:=⟨nd,λV4 y hy=>by
    cases List.mem_singleton.mp hy;exact⟨by rw[C.hN];exact gS h1,hok x hl⟩⟩
   cases hc:eZ v with
   |false=>exact vP hN (ih v).e (lV hc)
   |true=>
    have key:∃b:Bool,swapsWith v (some (.Name x p)) q.line X.env=pure b:=by
     cases v <;> first |exact⟨_,rfl⟩ |cases hc
    obtain⟨b,hb⟩:=key;cases b with
    |false=>exact vP hN (ih v).e hb
    |true=>exact (ih v).s hc x i p q hN hb
  ·cases hg
 ·split
  ·rename_i es kk p h;rw[W7]at h;refine s6 λg hg=>?_;rw[S.w];exact vO (ih v).e (sW C hok hg) (show swapsWith v (some (.Tuple es kk p)) q.line X.env=pure false from lV (by simpa using h.2)) (IW (by simpa using h.1)) rfl
  ·exact dR
 ·split
  ·rename_i o i p h;rw[W7]at h;rw[S.w];exact vO (ih v).e (D5 (ih o).e (ih i).e (FA C.u1) (IV h.1)) (show swapsWith v (some (.Subscript o i p)) q.line X.env=pure false from lV (by simpa using h.2)) rfl rfl
  ·exact dR
 ·split
  ·rename_i o a p h;rw[S.w];exact Jr (λC' z=>C.en.fl C' _ z) (ih o).e (ih v).e (lV (by simpa using h))
  ·exact dR
 ·exact dR
theorem Jt {body:List Stmt}{h₀:ExceptHandler}{hs:List ExceptHandler}{t:DS}{pos:Pos} (hb:ed X body t):PS X (.Try body (h₀::hs) [] [] pos) t:=fun τ z e R I h k=>
 wpAny_Try_except (Y6 (hb τ z e (λf s=>match f with |.next=>N.W X (execs [] X.env) R s |f=>R f s) I h ⟨fun τ1 z1 l I1 q=>wpAny_execs_nil (k.nx τ1 z1 l I1 q),k.rt,k.bk,k.ct⟩) (λ_ _ h=>h) λ_ _ h=>h.no.elim)
theorem Ju {body:List Stmt}{hs:List ExceptHandler}{e f:List Stmt}{b:B}{pos:Pos} (hb:ed X body (b.w W m.ai)):PS X (.Try body hs e f pos) ((sZ b hs e f).w W m.ai):=by
 unfold sZ;split
 ·exact dR
 ·rename_i c;cases hs with
  |nil=>exact absurd rfl c
  |cons h₀ hs=>cases e with
   |cons _ _=>exact absurd (by simp) c
   |nil=>cases f with
    |cons _ _=>exact absurd (by simp) c
    |nil=>
     intro τ z en R I h k;exact Jt hb τ z en R I (by rw[S.w,E.w]at h;exact h) k
theorem s9 (C:bj m W k ns sc X) (hf:∀y,loc sc y=true->X.fn y=true\/X.env.scope.names.lookup y=some .local):∀(n:Nat) (s:Stmt),PS X s ((gw m n ns sc s).w W m.ai)
 | 0,s=>dR
 |n+1,s=>by
  have ih:∀x,a0 X x ((aR m n ns sc x).w W m.ai):=iZ n C;have lZ:∀s,PS X s ((gw m n ns sc s).w W m.ai):=s9 C hf n;cases s
  case Assign ts v q=>exact Js C hf ih
  case Return o p=>
   cases o with
   |none=>exact dR
   |some v=>exact D0 (ih _).e
  case Expr v p=>
   show PS X _ ((if !eZ v then S.ex (aR m n ns sc v) else .dead).w W m.ai)
   split
   ·rename_i h;rw[S.w];exact DZ (ih _).e (lV (by simpa using h))
   ·exact dR
  case If c a b p=>exact D1 (ih _).t (gV lZ _) (gV lZ _)
  case For t i b e p=>
   cases e with
   |cons _ _=>exact dR
   |nil=>
    show PS X _ ((if b7 i then lY (gR ns (loc sc) t) λg=>S.loop g (bW sc (aR m n ns sc) t i) (B.of (b.map (gw m n ns sc))) else .dead).w W m.ai)
    split
    ·rename_i h;refine s6 λg hg=>?_;rw[S.w];exact Ik (D7 C.calm (sX C ih) (sW C (λy hy=>⟨by rw[C.eU];exact oK hy,hf y hy⟩) hg) (gV lZ _) (sU h))
    ·exact dR
  case While c b e p=>
   cases e with
   |cons _ _=>exact dR
   |nil=>exact D6 (ih _).t (gV lZ _)
  case Try b hs e f p=>exact Ju (gV lZ _)
  case Pass p=>exact DV
  case Break p=>exact DW
  case Continue p=>exact DX
  all_goals exact dR
end
noncomputable def aF (m:Nm) (n:Nat) (ns:List Str) (sc:Scope) (ss:List Stmt):B:=B.of (ss.map (gw m n ns sc))
end N
end
section
set_option maxHeartbeats 1000000
namespace N
open PySem PySem.Spec PyProof.Rows L2
def aW (Q:QK):QK:=λd M=>∃K e,cx K M/\Fr M K d e/\Q e K
section
variable {G:Gx}{F:Fz}{M K:Mp}{h:Heap}
theorem CR.ret {z:Z}{Q:QK}{E:XQ}{r:Result}{s:Shared} (h:CR G z (aW Q) E r s):CR G z Q E r s:=by
 cases r with
 |error e=>exact h
 |ok fl=>
  cases fl with
  |ret u=>
   obtain⟨d,z',l,rd,Km,e,sb,f,q⟩:=h;exact⟨e,⟨dg z'.F z'.M Km z'.s.heap,Km,z'.s⟩,⟨l.s,l.l.tr (eY l.ok),yJ l.ok sb,l.os,l.bare⟩,f.rel l.ok rd,q⟩
  |next=>exact h
  |brk=>exact h
  |cont=>exact h
end
noncomputable abbrev a' (Q:QK):En:={ nx:=λ_ M=>aW Q .aj M,rt:=aW Q }
theorem zj {G:Gx}{m:Nm}{W:Wd}{k n:Nat}{x qual:Str}{st:Stmt}{f:Addr}{fd:FuncData}{ns ps:List Str}{sp:Sp}{b:B} (F:dA G.K x qual st f fd) (S:aC ns ps (ag st)) (En:lW m W k G) (hc:aF m n ns (ag st) (av st)=b)
  (h:∀ds M Q E,sp ds M Q E->ds.length=ps.length/\b.w W m.ai (a' Q) (start ns ds) M):bf G (k+1) f fd ps sp:=by
 obtain⟨oc,od,kV,doc,pm,Tg,an,ct,co,rfl,lk,dv⟩:=F.ex;have key:bf G (k+1) f (PySem.W.fnOf x qual (ei st) (av st) (ag st) .none kV doc pm Tg an ct) ps λds M R E=>∃Q,R=aW Q/\sp ds M Q E:=by
  refine qQ lk dv S (λds M R E ⟨Q,_,z⟩=>(h ds M Q E z).1) λA outer s M ds R E hr ⟨Q,e,z⟩=>?_;subst e;have C:bj m W k ns (ag st) (b6 G ns qual (ag st) f an A outer s E):=⟨rfl,rfl,S.nd,rfl,hr,En⟩;refine⟨_,gV (s9 C (λ_ _=>.inl rfl) n) _,?_⟩;have:=(h ds M Q E z).2;rw[<- hc]at this;exact this
 refine⟨λds M Q E z=>(h ds M Q E z).1,λA outer z args us ds Q E hr e0 hb r hs=>YI (key.eC A outer z args us ds (aW Q) E hr e0 hb r ⟨Q,rfl,hs⟩) λr s q=>q.ret⟩
end N
end
section
set_option maxHeartbeats 1000000
namespace N
open PySem PySem.Spec PyProof.Rows L2
structure Ds where
 x:Str
 st:Stmt
 ps:List Str
def zl:Sp:=λ_ _ _ _=>False
def oM:List (Nat×Sp)->Nat->Sp
 |[],_=>zl
 |(j,sp)::r,i=>if i=j then sp else oM r i
structure l0 (G:Gx) (x:Str) (st:Stmt) (f:Addr) (fd:FuncData) (ps:List Str):Prop where
 fn:∃n,dA G.K n n st f fd
 b:bM G.K fd ps []
 mg:G.mg x=some (.ref f)
theorem l0.kp {G:Gx}{x:Str}{st:Stmt}{f:Addr}{fd:FuncData}{ps:List Str} (d:l0 G x st f fd ps):PySem.W.keepIn G.K (.ref f)=true:=d.fn.elim λ_ h=>h.kp
structure Wo where
 G:Gx
 ds:List Ds
 fF:List Str
 gv:List D
 fl:Addr->Str->Prop
 cls:List Str
 ca:Nat->Addr
 ms:List Ds
 mc:Nat->Addr
def Wo.nm (w:Wo):Nm:=⟨w.ds.map (·.x),w.fF,w.cls,w.ms.map (·.x)⟩
structure tf (K:PySem.W.Frag) (C:Addr) (d:Ds) (f:Addr) (fd:FuncData):Prop where
 fn:∃q:Str,dA K d.x q d.st f fd
 b:bM K fd d.ps []
 m:jC K C d.x f
 c:cZ K C
structure Wo.Ok (w:Wo):Prop where
 df:∀(i:Nat) (d:Ds),w.ds[i]?=some d->∃f fd,l0 w.G d.x d.st f fd d.ps
 gv:∀i x,w.fF[i]?=some x->∃u,w.G.mg x=some u/\∀F:Fz,(∀b o,w.G.base.get? b=some o->F b=some (.dat o))->ab w.G F (w.gv.getD i .aj) u
 bl:∀x∈iX,w.G.mg x=none
 fl:∀C f,w.fl C f->cZ w.G.K C/\ef w.G.K C f
 mt:∀(i:Nat) (d:Ds),w.ms[i]?=some d->∃f fd,tf w.G.K (w.mc i) d f fd
 cl:∀(i:Nat) (x:Str),w.cls[i]?=some x->w.G.mg x=some (.ref (w.ca i))/\∀f,PySem.W.findIn w.G.K (.ref (w.ca i)) "__init__"=some (some (.ref f))->PySem.W.isFn w.G.K (.ref f)=true->Mk w.G.K (w.ca i) f
def FO (w:Wo) (i k:Nat) (sp:Sp):Prop:=∃d f fd,w.ds[i]?=some d/\l0 w.G d.x d.st f fd d.ps/\bf w.G k f fd d.ps sp
theorem FO.mono {w:Wo}{i j k:Nat}{sp:Sp} (h:FO w i j sp) (hk:j<=k):FO w i k sp:=let ⟨d,f,fd,a,b,c⟩:=h;⟨d,f,fd,a,b,c.mono hk⟩
theorem FO.imp {w:Wo}{i k:Nat}{sp lh:Sp} (h:FO w i k sp) (g:∀ds M Q E,lh ds M Q E->sp ds M Q E):FO w i k lh:=
 let ⟨d,f,fd,a,b,c⟩:=h
 ⟨d,f,fd,a,b,c.imp g⟩
theorem Jv {G:Gx}{k:Nat}{f:Addr}{fd:FuncData}{ps:List Str}:bf G k f fd ps zl:=⟨λ_ _ _ _ h=>h.elim,λ_ _ _ _ _ _ _ _ _ _ _ _ h=>h.elim⟩
def tj (w:Wo) (k:Nat):List (Nat×Sp)->Prop
 |[]=>True
 |(i,sp)::r=>(∃j,j<=k/\FO w i j sp)/\tj w k r
theorem tm {w:Wo} (O:w.Ok) {k i:Nat}{d:Ds} (hd:w.ds[i]?=some d):∀{cs:List (Nat×Sp)},tj w k cs->FO w i k (oM cs i)
 |[],_=>let ⟨f,fd,h⟩:=O.df i d hd;⟨d,f,fd,hd,h,Jv⟩
 |(j,sp)::r,h=>by
  unfold oM;by_cases e:i=j
  ·subst e;rw[if_pos rfl];obtain⟨⟨l,hl,h⟩,_⟩:=h;exact h.mono hl
  ·rw[if_neg e];exact tm O hd h.2
def dh (w:Wo) (i k:Nat) (sp:Sp):Prop:=∃d f fd,w.ms[i]?=some d/\tf w.G.K (w.mc i) d f fd/\bf w.G k f fd d.ps sp
theorem dh.mono {w:Wo}{i j k:Nat}{sp:Sp} (h:dh w i j sp) (hk:j<=k):dh w i k sp:=let ⟨d,f,fd,a,b,c⟩:=h;⟨d,f,fd,a,b,c.mono hk⟩
noncomputable def gy:List (Nat×Sp)->Nat->Option Sp
 |[],_=>none
 |(j,sp)::r,i=>if i=j then some sp else gy r i
def tq (w:Wo) (k:Nat):List (Nat×Sp)->Prop
 |[]=>True
 |(i,sp)::r=>(∃j,j<=k/\dh w i j sp)/\tq w k r
theorem zm {w:Wo}{k i:Nat}{sp:Sp}:∀{cs:List (Nat×Sp)},tq w k cs->gy cs i=some sp->dh w i k sp
 |[],_,h=>by cases h
 |(j,s)::r,h,e=>by
  unfold gy at e;by_cases z:i=j
  ·subst z;rw[if_pos rfl]at e;cases e;obtain⟨⟨l,hl,h⟩,_⟩:=h;exact h.mono hl
  ·rw[if_neg z]at e;exact zm h.2 e
structure a8 (w:Wo) where
 cs:List (Nat×Sp):=[]
 ms:List (Nat×Sp):=[]
 ci:List (Nat×Nat×Sp):=[]
 ca:Addr->Sp->Prop:=λ_ _=>False
noncomputable def oN (w:Wo):List (Nat×Nat×Sp)->Nat->Option (Addr×Sp)
 |[],_=>none
 |(j,_,sp)::r,i=>if i=j then some (w.ca j,sp) else oN w r i
noncomputable def a8.wd {w:Wo} (l:a8 w):Wd:=⟨oM l.cs,w.gv,w.fl,oN w l.ci,λi=>(gy l.ms i).map λsp=>(w.mc i,sp),l.ca⟩
def tu (w:Wo) (k:Nat):List (Nat×Nat×Sp)->Prop
 |[]=>True
 |(i,m,sp)::r=>(w.mc m=w.ca i/\w.ms[m]?.map (·.x)=some "__init__"/\∃j,j+1<=k/\dh w m j sp)/\tu w k r
theorem zo {w:Wo}{k i:Nat}{C:Addr}{sp:Sp}:∀{cs:List (Nat×Nat×Sp)},tu w k cs->oN w cs i=some (C,sp)->C=w.ca i/\∃m j,w.mc m=w.ca i/\w.ms[m]?.map (·.x)=some "__init__"/\j+1<=k/\dh w m j sp
 |[],_,h=>by cases h
 |(j,m,s)::r,h,e=>by
  unfold oN at e;by_cases z:i=j
  ·subst z;rw[if_pos rfl]at e;cases e;obtain⟨⟨h1,h0,l,hl,h⟩,_⟩:=h;exact⟨rfl,m,l,h1,h0,hl,h⟩
  ·rw[if_neg z]at e;exact zo h.2 e
structure a8.Ok {w:Wo} (l:a8 w) (k:Nat):Prop where
 cs:tj w k l.cs
 ms:tq w k l.ms:=by exact trivial
 ci:tu w k l.ci:=by exact trivial
 ca:∀f sp,l.ca f sp->cL w.G k f sp:=by exact λ_ _ z=>z.elim
theorem a8.Ok.env {w:Wo} (O:w.Ok) {l:a8 w}{k:Nat} (h:l.Ok k):lW w.nm l.wd k w.G where
 fn:=λj x hj=>by
  have lL:(w.ds.map (·.x))[j]?=some x:=hj;rw[Xj]at lL;obtain⟨e,he,rfl⟩:=Option.map_eq_some_iff.mp lL;obtain⟨e',f',zn,h1,h2,h3⟩:=tm O he h.cs;rw[he]at h1;cases h1;exact⟨f',zn,e.ps,h3,h2.mg,h2.kp,h2.b⟩
 gv:=O.gv
 bl:=O.bl
 fl:=O.fl
 cl:=λi x C sp hi hc=>by
  obtain⟨e,m,j,h1,h0,h2,d,f,fd,h3,h4,h5⟩:=zo h.ci hc;subst e;obtain⟨g1,g2⟩:=O.cl i x hi;rw[h3]at h0;have hx:d.x="__init__":=XD h0;have hm:=h4.m;rw[hx,h1]at hm;exact⟨j,f,fd,d.ps,h2,g2 f hm.bL hm.fn,h5,g1,h4.b⟩
 mt:=λi x C sp hi hc=>by
  have f6:(gy l.ms i).map (λsp=>(w.mc i,sp))=some (C,sp):=hc;obtain⟨s,e1,e2⟩:=Option.map_eq_some_iff.mp f6;cases e2;obtain⟨d,f,fd,h3,h4,h5⟩:=zm h.ms e1;have c5:(w.ms.map (·.x))[i]?=some x:=hi;rw[Xj,h3]at c5;cases c5;exact⟨f,fd,d.ps,h4.c,h4.m,h5,h4.b⟩
 ca:=h.ca
theorem aJ {w:Wo} (O:w.Ok) {nm:Nm} (hn:w.nm=nm) {k n:Nat}{ns:List Str}{b:B}{sp:Sp} (i:Nat) (d:Ds) (hd:w.ds[i]?=some d) (l:a8 w) (hl:l.Ok k) (S:aC ns d.ps (ag d.st)) (hc:aF nm n ns (ag d.st) (av d.st)=b)
  (h:∀ds M Q E,sp ds M Q E->ds.length=d.ps.length/\b.w l.wd nm.ai (a' Q) (start ns ds) M):FO w i (k+1) sp:=by
 subst hn;obtain⟨f,fd,F⟩:=O.df i d hd;obtain⟨n,Fn⟩:=F.fn;exact⟨d,f,fd,hd,F,zj Fn S (hl.env O) hc h⟩
theorem i0 {w:Wo} (O:w.Ok) {nm:Nm} (hn:w.nm=nm) {k n:Nat}{ns:List Str}{b:B}{sp:Sp} (i:Nat) (d:Ds) (hd:w.ms[i]?=some d) (l:a8 w) (hl:l.Ok k) (S:aC ns d.ps (ag d.st)) (hc:aF nm n ns (ag d.st) (av d.st)=b)
  (h:∀ds M Q E,sp ds M Q E->ds.length=d.ps.length/\b.w l.wd nm.ai (a' Q) (start ns ds) M):dh w i (k+1) sp:=by
 subst hn;obtain⟨f,fd,F⟩:=O.mt i d hd;obtain⟨q,Fn⟩:=F.fn;exact⟨d,f,fd,hd,F,zj Fn S (hl.env O) hc h⟩
end N
end
section
namespace Att
open PySem PySem.W PySem.Calls PyProof.Rows
theorem Jw {P:Params}{h:Heap}:∀(ns:List Int) (vs:List Value),WellAll P h vs (ns.map WData.int)->IntsAre vs ns:=by
 intro ns
 induction ns with
 |nil=>
  intro vs w;rw[Yc]at w;cases w;exact .nil
 |cons n ns ih=>
  intro vs w;rw[Xe]at w;cases w with
  |cons a b=>
   cases a;exact .cons _ _ (ih _ b)
theorem Jx {l:OpenLaw}{n:Nat} (hn:l.most=some n) {P:Params}{h:Heap}{args:List WData}{iQ:List Value}
  (e6:l.row.toRowW.claim.pre args=true) (sw:WellAll P h iQ args) :
  ∃a vs ns,iQ=[XC a]/\args=[WData.list (ns.map WData.int)]/\h.get? a=some { cls:=.type "list",data:=.seq vs.toArray }/\IntsAre vs ns/\ns.length<=n:=by
 have IN:WShape.hasAll [] args [.list .int]=true:=(pre_splitW e6).1;have hc:l.pre.holds [] { args:=args }=true:=(pre_splitW e6).2;obtain⟨d,r,rfl,h1,h2⟩:=hasAllW_cons IN;obtain rfl:=hasAllW_nil h2;obtain⟨xs,rfl,h3⟩:=hasW_list h1;obtain⟨ns,rfl⟩:=items_int h3;have hlen:ns.length<=n:=by
  unfold OpenLaw.pre at hc;have h4:(WTm.not (.lt (.lit (.int (n:Int))) (.len (.arg 0)))).holds [] { args:=[.list (ns.map .int)] }=true:=by
   have h4:=(holds_andW hc).1;rw[hn]at h4;exact h4
  have h5:=condW_of h4 (w_not (w_lt w_lit (w_len_list (w_arg rfl))));rw[W0]at h5;refine Nat.le_of_not_lt λq=>?_;have q':(n:Int)<((ns.length:Nat):Int):=by lia
  first
   |(rw[decide_eq_true q']at h5;exact absurd h5 (by decide))
   |(simp at h5;lia)
 cases sw with
 |cons w1 w2=>
  cases w2;cases w1 with
  |list ho rC=>exact⟨_,_,ns,rfl,rfl,ho,Jw ns _ rC,hlen⟩
theorem Jy (l:OpenLaw) (args:List WData):l.row.toRowW.claim.post args (.bool true) args=true:=
 postW_of (r:=l.row.toRowW) (X:=(true == true))
  (show WShape.has [] (.bool true) .bool=true by first |rfl |decide |simp [WShape.has,WShape.arms,WShape.armsAll])
  (show (WTm.eq .res (.lit (.bool true))).value [] { args:=args,res:=some (.bool true),after:=args }=some (.bool (true == true)) from w_eq_bool (w_res rfl) w_lit) rfl
theorem Jz {l:OpenLaw}{n:Nat}{q:Program}{loose:List Str}{XP:(Str->Option Value)->Heap->Prop}{YP:World->Heap->Prop}{d:DefRec}
  (hn:l.most=some n) (jN:d.params.defaults=[])
  (call:∀(w:World) (s₀ s₁:Shared) (mg mb:Str->Option Value) (fa:Addr) (o:Obj) (pm cd doc:Value) (a:Addr) (vs:List Value) (ns:List Int),
   Ground q loose [] XP w s₀ mg mb s₁.heap->YP w s₁.heap ->
   s₁.heap.get? fa=some o->o.data=.func (docDef d.name d.params d.body d.scope pm cd doc)->s₁.heap.CodeRec cd d.name->mg d.name=some (.ref fa) ->
   s₁.heap.get? a=some { cls:=.type "list",data:=.seq vs.toArray }->IntsAre vs ns->ns.length<=n->s₁.gens=#[] ->
   codeAny (model l.prog w) callerA (.call (.ref fa) ⟨[.ref a],[]⟩) (λr s'=>r=.ok (.ret (.bool true))/\OldK s₁.heap s'.heap/\s'.os=s₁.os/\AllBare s'.gens) s₁) :
  WalkO q loose XP YP l.row.toRowW d [] (λf vs=>PySem.call f vs):=by
 intro w s₀ s₁ mg mb G Y fa o pm cd doc Uq kV ho hd dv hD hmg hg args iQ as e6 SU SV sw SW;obtain rfl:Uq=.none:=Dflts.none hD jN;obtain rfl:kV=.none:=Dflts.noKw hD;obtain⟨a,vs,ns,rfl,rfl,sK,tt,hlen⟩:=Jx hn e6 sw;refine enter_call (YI (call w s₀ s₁ mg mb fa o pm cd doc a vs ns G Y ho (fd_plain hd) dv hmg sK tt hlen hg) λr s' hq=>?_);obtain⟨rfl,h2,h3,h4⟩:=hq;exact⟨.inl ⟨.bool true,.bool true,[],rfl,λ_=>rfl,.bool true,Jy l _,λ_=>⟨List.Pairwise.nil,λ_ hm=>(nomatch hm)⟩⟩,h2,h3,h4⟩
end Att
namespace L2
open PySem PySem.Spec PyProof.Rows
end L2
end
section
set_option maxHeartbeats 1000000
namespace N
open PySem PySem.Spec PyProof.Rows L2
abbrev gz:=List (Addr×Pos×Str)
noncomputable def bz (ts:gz):Fz:=λb=>(ts.lookup b).map λq=>.tab q.1 q.2
noncomputable def eo (h:Heap) (ts:gz):Fz:=λb=>match ts.lookup b with
 |some q=>some (.tab q.1 q.2)
 |none=>(h.get? b).map Fo.dat
noncomputable abbrev gW (h:Heap) (ts:gz):Heap:=PySem.W.hideAll h (ts.map (·.1))
theorem l9 {ts:gz}{b:Addr} (h:b ∉ ts.map (·.1)):ts.lookup b=none:=by
 rw[List.lookup_eq_none_iff];rintro⟨a,q⟩ hm;have:b≠a:=λz=>h (z ▸ List.mem_map.mpr ⟨_,hm,rfl⟩);simpa using this
theorem dZ:∀{ts:gz}{b:Addr}{q:Pos×Str},ts.lookup b=some q->b∈ts.map (·.1)
 |[],_,_,h=>by cases h
 |(a,p)::r,b,q,h=>by
  by_cases e:b=a
  ·rw[e];exact W'
  ·rw[X8,beq_false_of_ne e]at h;exact W8 _ (dZ h)
theorem JA {h:Heap}{ts:gz}{b:Addr}{o:Obj} (e:(gW h ts).get? b=some o):h.get? b=some o/\b ∉ ts.map (·.1):=
 ⟨PySem.W.of_hideAll _ e,λhm=>by rw[PySem.W.hideAll_none _ hm]at e;cases e⟩
theorem JB {P:Program}{w:World}{K:PySem.W.Frag}{mg mb:Str->Option Value}{k:Nat}{fa a:Addr}{fd:FuncData}{x:Str}{sp:Sp}{s₁:Shared}{vs:List Value}{ns:List Int}{ts:gz}
  (KX:K.In s₁.heap) (hT:∀T∈ts.map (·.1),s₁.heap.get? T=some (PySem.W.tabObj #[])) (ma:∀T∈ts.map (·.1),K.lookup T=none/\∃c,PySem.W.CodeHd s₁.heap c T)
  (ch:s₁.heap.Ns mainGlobals mg) (hb:s₁.heap.Ns builtinsNs mb) (JC:∀x:Str,x≠"__name__"->mb x=bootBuiltins x) (JD:s₁.heap.NoLimit) (hg:s₁.gens=#[])
  (ha:s₁.heap.get? a=some { cls:=.type "list",data:=.seq vs.toArray }) (hi:IntsAre vs ns) (hl:ns.length<=sizeLine) (hr:bx k callerA)
  (F:∀base:Heap,K.In base->base.Ns mainGlobals mg->bf ⟨P,w,K,mg,base,bz ts⟩ k fa fd [x] sp) (JE:∀(s:Shared) (u:Value),BindsTo s fd ⟨[u],[]⟩ [(x,u)])
  (jK:sp [.lst (ns.map D.int)] (λ_=>none) (λd _=>d=.bl true) X0) :
  codeAny (model P w) callerA (.call (.ref fa) ⟨[.ref a],[]⟩) (λr s'=>r=.ok (.ret (.bool true))/\OldK s₁.heap s'.heap/\s'.os=s₁.os/\AllBare s'.gens) s₁:=by
 have TB:∀b o,s₁.heap.get? b=some o->b ∉ ts.map (·.1)->eo s₁.heap ts b=some (.dat o):=λb o e n=>by unfold eo;rw[l9 n];show (s₁.heap.get? b).map Fo.dat=_;rw[e];rfl
 have t0:∀b q,ts.lookup b=some q->eo s₁.heap ts b=some (.tab q.1 q.2):=λb q e=>by unfold eo;rw[e]
 have zp:∀b f,eo s₁.heap ts b=some f->(∃q,ts.lookup b=some q/\f=.tab q.1 q.2)\/∃o,s₁.heap.get? b=some o/\f=.dat o:=λb f e=>by
  unfold eo at e;split at e
  ·rename_i q hq;cases e;exact .inl ⟨q,hq,rfl⟩
  ·obtain⟨o,h1,rfl⟩:=Option.map_eq_some_iff.mp e;exact .inr ⟨o,h1,rfl⟩
 have nd:∀{b:Addr}{m:Str->Option Value},s₁.heap.Ns b m->b ∉ ts.map (·.1):=λ{b m} ⟨o,es,ep,e,d,r⟩ hm=>by
  rw[hT b hm]at e;cases e;cases d
 have oO:∀{b:Addr}{m:Str->Option Value},s₁.heap.Ns b m->(gW s₁.heap ts).Ns b m:=λ{b m} h=>let n:=nd h;let ⟨o,es,ep,e,d,r⟩:=h;⟨o,es,ep,PySem.W.hideAll_get _ e n,d,r⟩
 have zq:K.In (gW s₁.heap ts):=λb o e=>PySem.W.hideAll_get _ (KX b o e) λhm=>by rw[(ma b hm).1]at e;cases e
 have hok:aG ⟨P,w,K,mg,gW s₁.heap ts,bz ts⟩ (eo s₁.heap ts) (λ_=>none) s₁.heap:=⟨λb f e=>by
  rcases zp b f e with ⟨q,h1,rfl⟩ |⟨o,h1,rfl⟩
  ·exact⟨_,hT b (dZ h1)⟩
  ·exact h1,λ_ _ e=>(nomatch e),λT p q e=>by
  rcases zp T _ e with ⟨q',h1,h2⟩ |⟨o,h1,h2⟩
  ·exact .inl (hT T (dZ h1))
  ·cases h2⟩
 have bs:Bs ⟨P,w,K,mg,gW s₁.heap ts,bz ts⟩ (eo s₁.heap ts):=⟨λb o e=>let ⟨h1,h2⟩:=JA e;TB b o h1 h2,λb f e=>by
  obtain⟨q,h1,rfl⟩:=Option.map_eq_some_iff.mp (show (ts.lookup b).map _=_ from e);exact t0 b q h1⟩
 have e0:dQ ⟨P,w,K,mg,gW s₁.heap ts,bz ts⟩ callerA [] ⟨eo s₁.heap ts,λ_=>none,s₁⟩:=⟨rfl,⟨zq,oO ch,⟨mb,oO hb,JC⟩,let ⟨mc,h1,h2⟩:=JD;⟨mc,oO h1,h2⟩⟩,bs,λ_ h=>(nomatch h),hok,.of_eq hg⟩
 have ri:∀{ns:List Int}{vs:List Value},IntsAre vs ns->af ⟨P,w,K,mg,gW s₁.heap ts,bz ts⟩ (eo s₁.heap ts) (ns.map D.int) vs:=λh=>by
  induction h with
  |nil=>exact .nil
  |cons n t r ih=>exact .cons b5 ih
 have na:a ∉ ts.map (·.1):=λhm=>by rw[hT a hm]at ha;cases ha
 have V5:ab ⟨P,w,K,mg,gW s₁.heap ts,bz ts⟩ (eo s₁.heap ts) (.lst (ns.map D.int)) (.ref a):=nk (n:=0) (TB a _ ha na) (by rw[hi.length];exact hl) (ri hi);refine YI ((F _ zq (oO ch)).eC callerA [] ⟨eo s₁.heap ts,λ_=>none,s₁⟩ ⟨[.ref a],[]⟩ [.ref a] [.lst (ns.map D.int)] _ _ hr e0 (JE s₁ (.ref a)) (.cons V5 .nil) jK) λr s' h=>?_;cases r with
 |error e=>obtain⟨_,_,_,z,_⟩:=h;exact z.elim
 |ok fl=>
  cases fl with
  |next=>exact h.elim
  |brk=>exact h.elim
  |cont=>exact h.elim
  |ret u=>
   obtain⟨d,z',⟨rfl,l,ok,os,bare⟩,rd,e⟩:=h;have e':d=.bl true:=e;subst e';rw[ab]at rd;subst rd;have kp:∀b o,s₁.heap.get? b=some o->asItWas s₁.heap z'.s.heap b o/\∃o',z'.s.heap.get? b=some o':=λb o q=>by
    by_cases hm:b∈ts.map (·.1)
    ·have e0:=hT b hm;rw[q]at e0;cases e0;obtain⟨⟨T,p,s⟩,hq,rfl⟩:=List.mem_map.mp hm;obtain⟨⟨p',s'⟩,hq'⟩:∃ q,ts.lookup T=some q:=by
      cases e:ts.lookup T with
      |some q=>exact⟨q,rfl⟩
      |none=>rw[List.lookup_eq_none_iff]at e;exact absurd (e _ hq) (by simp)
     obtain⟨c,C⟩:=(ma T hm).2;have it:=(C.tab q).isCodeTable;rcases ok.tb T _ _ (l T _ (t0 T _ hq')) with y |⟨c',o',y,_⟩
     ·exact⟨.inr (.inl ⟨it,rfl,#[],#[],rfl,by simpa using y⟩),_,y⟩
     ·exact⟨.inr (.inl ⟨it,rfl,#[],_,rfl,by simpa using y⟩),_,y⟩
    ·have:=ok.fz b _ (l b _ (TB b o q hm));exact⟨.inl this,o,this⟩
   exact⟨rfl,⟨λb o q=>(kp b o q).1,λb o q=>(kp b o q).2⟩,os,bare⟩
theorem walk_of {l:PySem.W.OpenLaw}{n k:Nat}{q:Program}{loose:List Str}{XP:(Str->Option Value)->Heap->Prop}{YP:World->Heap->Prop}{d:DefRec}{K:Params->PySem.W.Frag}{sp:World->Sp}{x:Str}{ts:gz}
  (hn:l.most=some n) (nK:n<=sizeLine) (jN:d.params.defaults=[]) (hr:bx k callerA)
  (V6:∀(w:World) (h:Heap),YP w h->(K w.params).In h/\∀T∈ts.map (·.1),h.get? T=some (PySem.W.tabObj #[]))
  (ma:∀(w:World),∀T∈ts.map (·.1),(K w.params).lookup T=none/\∃c,PySem.W.codeHdIn (K w.params) c T=true)
  (F:∀(w:World) (mg:Str->Option Value) (fa:Addr) (h:Heap),(K w.params).In h->h.Ns mainGlobals mg->mg d.name=some (.ref fa) ->
   ∃fd:FuncData,(∀(s:Shared) (u:Value),BindsTo s fd ⟨[u],[]⟩ [(x,u)])/\∀base:Heap,(K w.params).In base->base.Ns mainGlobals mg->bf ⟨l.prog,w,K w.params,mg,base,bz ts⟩ k fa fd [x] (sp w))
  (jK:∀(w:World) (ns:List Int),ns.length<=n->sp w [.lst (ns.map D.int)] (λ_=>none) (λd _=>d=.bl true) X0) :
  PySem.W.WalkO q loose XP YP l.row.toRowW d [] (λf vs=>PySem.call f vs):=by
 refine Att.Jz hn jN λw s₀ s₁ mg mb fa o pm cd doc a vs ns G Y ho hd dv hmg sK tt hlen hg=>?_;obtain⟨KX,hT⟩:=V6 w _ Y;obtain⟨fd,hb,hF⟩:=F w mg fa _ KX G.T.g hmg;exact JB KX hT (λT hm=>⟨(ma w T hm).1,let ⟨c,e⟩:=(ma w T hm).2;⟨c,PySem.W.codeHd_of_K KX e⟩⟩) G.T.g G.T.b G.T.builtins G.T.nolimit hg sK tt (W9 hlen nK) hr hF hb (jK w ns hlen)
end N
end
section
set_option maxHeartbeats 1000000
namespace N
open PySem PySem.Spec PyProof.Rows L2
theorem aG.oP {G:Gx}{F:Fz}{M:Mp}{h h':Heap}{T c:Addr}{p:Pos}{q:Str}{o:Obj} (x:aG G F M h) (hT:F T=some (.tab p q)) (k:∀b,b≠T->bg h h' b) (e:h'.get? T=some { cls:=.none,data:=.fields #[rawInt p.line,rawInt p.col,.ref c] }) (hp:h.objs.size<=c) (ho:h'.get? c=some o) (hc:eD o q):aG G (up F c (.dat o)) M h':=by
 have hF:=x.cA hp;have SX:T≠c:=cV hT hF;refine⟨λb f r=>?_,λb u r=>?_,λT' p' q' r=>?_⟩
 ·by_cases hb:b=c
  ·subst hb;rw[ao]at r;cases r;exact ho
  ·rw[ay hb]at r;by_cases j6:b=T
   ·subst j6;rw[hT]at r;cases r;exact⟨_,e⟩
   ·exact (x.fz b f r).go (k b j6)
 ·have hb:b≠c:=cV r (x.c9 hp);obtain⟨h1,h2⟩:=x.ob b u r;refine⟨by rw[ay hb];exact h1,h2.go (Le.new hF).d (λd hd=>k d ?_) λ_ e=>e⟩;rintro rfl;rcases hd with rfl |hd
  ·rw[hT]at h1;cases h1
  ·have:=(x.ob _ _ hd).1;rw[hT]at this;cases this
 ·by_cases hb:T'=c
  ·subst hb;rw[ao]at r;cases r
  ·rw[ay hb]at r;by_cases j6:T'=T
   ·subst j6;rw[hT]at r;cases r;exact .inr ⟨c,o,e,ao,hc⟩
   ·rcases x.tb T' p' q' r with y |⟨c',o',h1,h2,h3⟩
    ·exact .inl (k T' j6 _ y)
    ·exact .inr ⟨c',o',k T' j6 _ h1,Le.new hF _ _ h2,h3⟩
theorem ae.oP {X:Cx} {τ:St} {z:Z}{h':Heap}{t:Nat}{T c:Addr}{p:Pos}{q:Str}{o:Obj} (I:ae X τ z) (hT:z.F T=some (.tab p q)) (k:∀ b,b≠T->bg z.s.heap h' b) (e:h'.get? T=some { cls:=.none,data:=.fields #[rawInt p.line,rawInt p.col,.ref c] }) (hp:z.s.heap.objs.size<=c) (ho:h'.get? c=some o) (hc:eD o q) :
  Le z.F (up z.F c (.dat o))/\ae X τ ⟨up z.F c (.dat o),z.M,{ z.s with heap:=h',toks:=t }⟩:=by
 have l:Le z.F (up z.F c (.dat o)):=Le.new (I.hok.cA hp);refine⟨l,I.go l (I.hok.oP hT k e hp ho hc) (λb hb=>⟨(k b ?_).s,I.dc hb,ay (Xi (Xl (I.fY hb) hp))⟩) rfl I.bare⟩;rintro rfl;rcases hb with rfl |⟨x,hx⟩
 ·rw[I.free.1]at hT;cases hT
 ·rcases (I.cell x b hx).2.2 with r |⟨_,o',r⟩
  ·rw[r.2]at hT;cases hT
  ·rw[r]at hT;cases hT
structure er (G:Gx) (c T:Addr) (p:Pos) (q:Str):Prop where
 cd:PySem.W.codeHdIn G.K c T=true
 bi:∃(Th:Addr) (ob:Obj),G.mg "__builtins__"=some (.ref Th)/\G.K.lookup Th=some ob/\Th≠builtinsNs/\Th≠mainGlobals/\Th≠T/\ob.cls=.type "module"/\ob.dict=some builtinsNs/\ob.data=.plain
 T4:mainGlobals≠T
 tab:G.ex T=some (.tab p q)
abbrev e7:=List (Str×Addr)
theorem zr {h:Heap}{c:Addr}{q:Str} (x:h.CodeRec (.ref c) q):∃o,h.get? c=some o/\eD o q:=by
 obtain⟨d,o,vs,t,e,e1,e2,e3⟩:=x;cases e;exact⟨o,e1,vs,t,e2,e3⟩
section
variable {X:Cx} {τ:St} {z:Z}
theorem JF {clos:e7}{params:Arguments}{body:Expr}{scope:Scope}{pos:Pos}{c T:Addr}{R:Value->Shared->Prop} (I:ae X τ z) (L:er X.G c T pos (X.env.qual++"<lambda>")) (tw:defaultsOf params X.env=([],[])) (cg:closureFor scope X.env=pure clos) (md:X.env.code=.ref c)
  (k:∀f c' o' ctv z',Le z.F z'.F->ae X τ z'->z'.M=z.M->z'.F f=some (.dat (PySem.W.kla_obj "<lambda>" (X.env.qual++"<lambda>") params body scope clos ((X.G.mg "__name__").getD .none) c' ctv))->z'.F c'=some (.dat o')->eD o' (X.env.qual++"<lambda>")->R (.ref f) z'.s) :
  W X (eval (.Lambda params body scope pos) X.env) R z.s:=by
 obtain⟨cd,⟨Th,ob,b1,b2,Tj,b4,T5,T6,T7,T9⟩,T4,tab⟩:=L;have hg:z.s.heap.Ns mainGlobals X.G.mg:=I.ok.bp.du.keeps I.bk;have C:PySem.W.CodeHd z.s.heap c T:=PySem.W.codeHd_of_K I.bT cd;have hb:z.s.heap.BuiltinsAt X.G.mg T:=⟨Th,ob,b1,Tj,b4,T5,I.bT _ _ b2,T6,T7,T9⟩;have hT:z.F T=some (.tab pos (X.env.qual++"<lambda>")):=I.bs.x T _ tab;have fin:∀ {c':Addr}{o':Obj}{ctv:Value}{z1:Z} (tk:Nat),Le z.F z1.F->ae X τ z1->z1.M=z.M->z1.F c'=some (.dat o')->eD o' (X.env.qual++"<lambda>") ->
   R (.ref z1.s.heap.objs.size) { z1.s with heap:=z1.s.heap.push (PySem.W.kla_obj "<lambda>" (X.env.qual++"<lambda>") params body scope clos ((X.G.mg "__name__").getD .none) c' ctv),toks:=tk }:=λ{c' o' ctv z1} tk l1 I1 TL hc hr=>by
  have I2:=I1.jr (f:=.dat (PySem.W.kla_obj "<lambda>" (X.env.qual++"<lambda>") params body scope clos ((X.G.mg "__name__").getD .none) c' ctv)) (t:=tk) (λb o e=>WZ _ e) (W3 _) (W5 _ rfl);have l2:=Le.new (f:=.dat (PySem.W.kla_obj "<lambda>" (X.env.qual++"<lambda>") params body scope clos ((X.G.mg "__name__").getD .none) c' ctv)) (I1.hok.cA (W3 z1.s.heap.objs.size));exact k _ c' o' ctv _ (l1.tr l2) I2 TL ao (l2 _ _ hc) hr
 refine PySem.W.kla_eval tw ?_;rcases I.hok.tb T _ _ hT with hP |⟨c',o',hP,hc,hr⟩
 ·refine PySem.W.kla_makeFunction cg I.ok.du hg md C hP trivial rfl T4 hb λc' ctv h' tk ext tx fA rec tab=>?_;obtain⟨o',ho,hr⟩:=zr rec;obtain⟨l1,I1⟩:=I.oP (t:=tk) hT (λb z u e=>ext b u z e) (by simpa using tab) tx ho hr;exact fin tk l1 I1 rfl ao hr
 ·refine PySem.W.kla_makeFunctionHit (cv:=.ref c') cg I.ok.du hg md C hP ?_ ?_ hb λctv h' tk k hs=>?_
  ·simp [TriplesOk,rawInt]
  ·simp [codeAmong,rawInt]
  exact fin (z1:=⟨z.F,z.M,{ z.s with heap:=h',toks:=tk }⟩) tk Le.rfl (I.bP k) rfl hc hr
theorem JG {clos:e7}{name:Str}{params:Arguments}{body:List Stmt}{scope:Scope}{pos:Pos}{c T:Addr}{i:Nat}{R:Flow->Shared->Prop} (I:ae X τ z) (L:er X.G c T pos (qualnameIn X.env name name)) (hN:X.N.Nodup) (hi:X.N[i]?=some name) (hx:ib X.env.scope name) (JH:X.fn name=true\/X.env.scope.names.lookup name=some .local)
  (tz:params.defaults=[]) (tC:params.kw_defaults=[]) (ha:annTrees params none X.env=[]) (cg:closureFor scope X.env=pure clos) (md:X.env.code=.ref c)
  (k:∀f c' o' doc ctv z',Le z.F z'.F->ae X (τ.set i (some (.ref f))) z'->z'.M=z.M->z'.F f=some (.dat (PySem.W.fnMade name (qualnameIn X.env name name) params body scope clos doc ((X.G.mg "__name__").getD .none) c' ctv))->z'.F c'=some (.dat o')->eD o' (qualnameIn X.env name name)->R .next z'.s) :
  W X (exec (.FunctionDef name params body [] none [] scope none name pos) X.env) R z.s:=by
 obtain⟨cd,⟨Th,ob,b1,b2,Tj,b4,T5,T6,T7,T9⟩,T4,tab⟩:=L;have hg:z.s.heap.Ns mainGlobals X.G.mg:=I.ok.bp.du.keeps I.bk;have C:PySem.W.CodeHd z.s.heap c T:=PySem.W.codeHd_of_K I.bT cd;have hb:z.s.heap.BuiltinsAt X.G.mg T:=⟨Th,ob,b1,Tj,b4,T5,I.bT _ _ b2,T6,T7,T9⟩;refine PySem.W.nestDef_K tz tC ha ?_;generalize tE:qualnameIn X.env name name=qual at *;have hT:z.F T=some (.tab pos qual):=I.bs.x T _ tab;have fin:∀ {c':Addr}{o':Obj}{doc ctv:Value}{z1:Z} (tk:Nat),Le z.F z1.F->ae X τ z1->z1.M=z.M->z1.F c'=some (.dat o')->eD o' qual ->
   W X (storeName X.env name (.ref z1.s.heap.objs.size)) (λ_ s=>R .next s) { z1.s with heap:=z1.s.heap.push (PySem.W.fnMade name qual params body scope clos doc ((X.G.mg "__name__").getD .none) c' ctv),toks:=tk }:=λ{c' o' doc ctv z1} tk l1 I1 TL hc hr=>by
  have I2:=I1.jr (f:=.dat (PySem.W.fnMade name qual params body scope clos doc ((X.G.mg "__name__").getD .none) c' ctv)) (t:=tk) (λb o e=>WZ _ e) (W3 _) (W5 _ rfl);have l2:=Le.new (f:=.dat (PySem.W.fnMade name qual params body scope clos doc ((X.G.mg "__name__").getD .none) c' ctv)) (I1.hok.cA (W3 z1.s.heap.objs.size));generalize JI:PySem.W.fnMade name qual params body scope clos doc ((X.G.mg "__name__").getD .none) c' ctv=Vi at *;have rf:ab X.G (up z1.F z1.s.heap.objs.size (.dat Vi)) (.ref z1.s.heap.objs.size) (.ref z1.s.heap.objs.size):=by rw[ab]
  refine nh (Q:=λ_ s=>R .next s) I2 hN hi hx JH rf λs' I3=>?_;have:=k z1.s.heap.objs.size c' o' doc ctv ⟨up z1.F z1.s.heap.objs.size (.dat Vi),z1.M,s'⟩ (l1.tr l2) I3 TL;rw[JI]at this;exact this ao (l2 _ _ hc) hr
 rcases I.hok.tb T _ _ hT with hP |⟨c',o',hP,hc,hr⟩
 ·refine PySem.W.makeFunction_K cg I.ok.du hg md C hP trivial rfl T4 hb λc' ctv doc h' tk ext tx fA rec tab=>?_;obtain⟨o',ho,hr⟩:=zr rec;obtain⟨l1,I1⟩:=I.oP (t:=tk) hT (λb z u e=>ext b u z e) (by simpa using tab) tx ho hr;have q:=fin (z1:=⟨up z.F c' (.dat o'),z.M,{ z.s with heap:=h',toks:=tk }⟩) (doc:=doc) (ctv:=ctv) tk l1 I1 rfl ao hr;exact q
 ·refine PySem.W.makeFunction_hit (cv:=.ref c') cg I.ok.du hg md C hP ?_ ?_ hb λctv doc h' tk k hs=>?_
  ·simp [TriplesOk,rawInt]
  ·simp [codeAmong,rawInt]
  have q:=fin (z1:=⟨z.F,z.M,{ z.s with heap:=h',toks:=tk }⟩) (doc:=doc) (ctv:=ctv) tk Le.rfl (I.bP k) rfl hc hr;exact q
end
end N
end
section
set_option maxHeartbeats 1000000
namespace N
open PySem L2
theorem ar {Q:QK}{d:D}{M:Mp} (h:Q d M):aW Q d M:=⟨M,d,.rfl,.rfl,h⟩
theorem b8 {M:Mp}{p:Addr}{a b:MO}:up (up M p a) p b=up M p b:=funext λx=>by
 by_cases h:x=p
 ·rw[h,ao,ao]
 ·rw[ay h,ay h,ay h]
noncomputable def MO.tF:MO->Bool
 |.own _=>false
 |_=>true
theorem tG {M:Mp}{p:Addr}{o:MO} (hp:M p=none) (ho:o.tF=true):cx M (up M p o):=⟨λa u e=>by rw[ay (cV e hp)];exact e,λa b e q=>by
 by_cases hb:b=p
 ·subst hb;rw[ao]at q;cases q;cases ho
 ·rw[ay hb]at q;exact q⟩
theorem tH {Q:QK}{M:Mp}{p:Addr}{kvs:List (Key×D)} (hp:M p=none) (h:Q (.ak (kvs.map (·.1)) (kvs.map (·.2))) M):aW Q (.ref p) (up M p (.ak kvs)):=⟨M,_,tG hp rfl,.ak ao hp .rfl,h⟩
theorem JJ {Q:QK}{M:Mp}{p:Addr}{o:MO}{d:D} (hp:M p=none) (ho:o.tF=true) (h:Q d M):aW Q d (up M p o):=⟨M,d,tG hp ho,.rfl,h⟩
theorem aX {c:Prop} [Decidable c] {a b:Prop} (h:c) (q:a):if c then a else b:=by rw[if_pos h];exact q
theorem az {c:Prop} [Decidable c] {a b:Prop} (h:¬c) (q:b):if c then a else b:=by rw[if_neg h];exact q
theorem e8 {ok:Mp->Prop}{g:G}{tc:DT}{te:DE} {τ:St} {k:List D->Mp->Prop} (J:List D->List D->Mp->Prop) (fin:∀ ys M,J [] ys M->ok M/\ys.length<sizeLine/\k ys M)
  (step:∀x xs ys M,J (x::xs) ys M->ok M/\ys.length<sizeLine/\∀N:List D->Mp->Prop,(∀gq M',J xs gq M'->N gq M')->cq g x τ M fun τ1 M0=>tc τ1 M0 λb M1=>if b=true then te τ1 M1 λy M2=>N (ys++[y]) M2 else N ys M1) :
  ∀xs ys M,J xs ys M->cK ok g tc te τ k xs ys M
 |[],ys,M,h=>fin ys M h
 |x::xs,ys,M,h=>
  let ⟨h1,h2,h3⟩:=step x xs ys M h
  ⟨h1,h2,h3 (λys M=>cK ok g tc te τ k xs ys M) λgq M' q=>e8 J fin step xs gq M' q⟩
theorem d0 {ok:Mp->Prop}{g:DG}{tb:DS}{e:En} (J:List D->St->Mp->Prop) (fin:∀ τ M,J [] τ M->ok M/\e.nx τ M)
  (step:∀x xs τ M,J (x::xs) τ M->ok M/\∀N:St->Mp->Prop,(∀ τ' M',J xs τ' M'->N τ' M')->g x τ M fun τ1 M1=>tb { e with nx:=N,ct:=N,bk:=e.nx } τ1 M1):∀xs τ M,J xs τ M->gF ok g tb e xs τ M
 |[],τ,M,h=>fin τ M h
 |x::xs,τ,M,h=>
  let ⟨h1,h2⟩:=step x xs τ M h
  ⟨h1,h2 (gF ok g tb e xs) fun τ' M' q=>d0 J fin step xs τ' M' q⟩
theorem gX {α:Type} {ok:Mp->Prop}{g:G}{te:DE} {τ:St} {k:List D->Mp->Prop}{M:Mp} (f:α->D) (h:α->D) (xs:List α) (hok:ok M) (hl:xs.length<sizeLine)
  (one:∀x∈xs,∀N:D->Mp->Prop,N (h x) M->cq g (f x) τ M fun τ1 M0=>te τ1 M0 N) (fin:k (xs.map h) M):cK ok g gn te τ k (xs.map f) [] M:=by
 refine e8 (λrest ys M'=>M'=M/\∃a b,xs=a++b/\rest=b.map f/\ys=a.map h) ?_ ?_ _ _ _ ⟨rfl,[],xs,rfl,rfl,rfl⟩
 ·rintro ys M' ⟨rfl,a,b,e1,e2,rfl⟩;cases b with
  |cons x r=>cases e2
  |nil=>rw[Xo]at e1;subst e1;exact⟨hok,by rw[W0];exact hl,fin⟩
 ·rintro x rest ys M' ⟨rfl,a,b,e1,e2,rfl⟩;cases b with
  |nil=>cases e2
  |cons y r=>
   cases e2;refine⟨hok,by rw[W0];rw[e1,Xf]at hl;lia,λN hN=>?_⟩;exact one y (by rw[e1];simp) (λy M2=>N (a.map h++[y]) M2) (hN _ _ ⟨rfl,a++[y],r,by rw[e1];simp,rfl,by simp⟩)
end N
end
section
set_option maxHeartbeats 1000000
namespace N
open PySem PySem.Spec PyProof.Rows L2
structure me (ps fr:List Str) (scope:Scope):Prop where
 kind:scope.kind=.function
 Uo:scope.isCoroutine=false
 jB:scope.isGenerator=false
 oQ:∀y∈scope.names,y.2≠.cell
 free:∀y∈scope.names,y.2=.free->y.1∈fr
 JK:∀x∈fr,scope.names.lookup x=some .free
 tI:∀x∈ps,scope.names.lookup x=some .local
theorem zt:∀{ps:List Str}{us:List Value}{i:Nat}{x:Str}{u:Value},ps.Nodup->ps[i]?=some x->us[i]?=some u->(ps.zip us).reverse.lookup x=some u
 |[],_,_,_,_,_,h,_=>by simp at h
 |_::_,[],_,_,_,_,_,h=>by simp at h
 |p::ps,w::us,0,x,u,nd,h1,h2=>by
  simp only[List.getElem?_cons_zero,Option.some.injEq]at h1 h2;subst h1 h2;rw[Yq,YA,List.lookup_append];have:(ps.zip us).reverse.lookup p=none:=by
   rw[List.lookup_eq_none_iff];rintro⟨a,b⟩ iy;have ha:=(YQ (List.mem_reverse.mp iy)).1;have:p≠a:=λz=>(List.nodup_cons.mp nd).1 (z ▸ ha);simpa using this
  rw[this];simp
 |p::ps,w::us,i+1,x,u,nd,h1,h2=>by
  rw[Yq,YA,List.lookup_append,zt (List.nodup_cons.mp nd).2 (by simpa using h1) (by simpa using h2)];rfl
noncomputable def tJ (qual:Str) (scope:Scope) (clos:e7) (L f:Addr) (cd:Value):Env:=newEnv scope L mainGlobals clos (qual++".<locals>.") (some f) cd none builtinsNs
noncomputable def oR (G:Gx) (N:List Str) (qual:Str) (scope:Scope) (clos:e7) (f:Addr) (cd:Value) (A:Around) (outer:List Env) (s:Shared) (E:XQ):Cx where
 G:=G
 A:=A.deeper (tJ qual scope clos s.heap.objs.size f cd)
 N:=N
 os:=s.os
 env:=tJ qual scope clos s.heap.objs.size f cd
 outer:=outer
 stk:=tJ qual scope clos s.heap.objs.size f cd::outer
 fn:=λ_=>false
 calm:=true
 x:=λx _ M=>E x M
structure j7 (G:Gx) (clos:e7) (ws:List D):Prop where
 len:ws.length=clos.length
 bL:∀(i:Nat) x a w,clos[i]?=some (x,a)->ws[i]?=some w->∃o u,G.ex a=some (.pin o)/\o.data=.cell (some u)/\ab G G.ex w u
 nd:(clos.map (·.1)).Nodup
 inj:∀x y c,clos.lookup x=some c->clos.lookup y=some c->x=y
theorem tK:∀{clos:e7}{i:Nat}{p:Str×Addr},(clos.map (·.1)).Nodup->clos[i]?=some p->clos.lookup p.1=some p.2
 |[],_,_,_,h=>by simp at h
 |q::r,0,p,_,h=>by
  simp only[List.getElem?_cons_zero,Option.some.injEq]at h;subst h;simp [List.lookup]
 |q::r,i+1,p,nd,h=>by
  rw[Xe,Y3]at nd;have h':r[i]?=some p:=by simpa using h
  have ne:(p.1 == q.1)=false:=by
   have:p.1≠q.1:=λz=>nd.1 (by rw[<- z];exact List.mem_map.mpr ⟨p,XN h',rfl⟩);simpa using this
  show (match p.1 == q.1 with |true=>some q.2 |false=>r.lookup p.1)=some p.2
  rw[ne];exact tK nd.2 h'
theorem j7.cell {G:Gx}{clos:e7}{ws:List D} (h:j7 G clos ws) {x:Str}{a:Addr} (e:clos.lookup x=some a):∃o u,G.ex a=some (.pin o)/\o.data=.cell (some u):=by
 obtain⟨i,hi,Ua⟩:=List.mem_iff_getElem.mp (PySem.mem_of_lookup e);obtain⟨o,u,h1,h2,_⟩:=h.bL i x a (ws[i]'(by rw[h.len];exact hi)) (by rw[W6 hi,Ua]) (W6 _);exact⟨o,u,h1,h2⟩
theorem zu {G:Gx}{ps ls:List Str}{qual:Str}{scope:Scope}{clos:e7}{f:Addr}{cd:Value}{A:Around}{outer:List Env}{z:Z}{E:XQ}{us:List Value}{ds ws:List D}{h':Heap}{tk:Nat}
  (S:me ps (clos.map (·.1)) scope) (hd:A.handled=none) (e0:dQ G A outer z) (hl:ds.length=ps.length) (JL:ps.Nodup) (r:af G z.F ds us) (Tq:j7 G clos ws)
  (ch:h'.Ns z.s.heap.objs.size (λx=>(ps.zip us).reverse.lookup x)) (dW:YM z.s.heap.objs.size (z.s.heap.push { cls:=.type "frame",data:=.dict #[] }) h') :
  ae (oR G ((ps++clos.map (·.1))++ls) qual scope clos f cd A outer z.s E) ((ds.map some++ws.map some)++ls.map λ_=>none) ⟨z.F,z.M,{ z.s with heap:=h',toks:=tk }⟩:=by
 have hk:∀b o,z.s.heap.get? b=some o->h'.get? b=some o:=λb o e=>by
  rw[dW.2 b (Xi (Xh e))];exact WZ _ e
 have pin:∀{a o},G.ex a=some (.pin o)->z.F a=some (.pin o)/\h'.get? a=some o:=λ{a o} e=>⟨e0.bs.x a _ e,hk _ _ (e0.hok.fz a _ (e0.bs.x a _ e))⟩;refine⟨⟨e0.bp,S.kind,rfl,rfl,Tq.inj,λy hy=>?_,λ_=>hd,Around.frames_deeper e0.frames,.inr ⟨rfl,rfl⟩⟩,e0.bs,rfl,e0.bare,e0.cc,⟨_,ch,λi y v h1 h2 h3=>?_⟩,λy c h=>?_,⟨e0.hok.cA (W3 _),e0.hok.c9 (W3 _)⟩,e0.hok.keep λb _ o q=>hk b o q,?_⟩
 ·have hy:scope.names.lookup y=some .cell\/scope.names.lookup y=some .free:=hy;rcases hy with hy |hy
  ·exact absurd rfl (S.oQ _ (PySem.mem_of_lookup hy))
  ·obtain⟨p,hp,e⟩:=List.mem_map.mp (S.free _ (PySem.mem_of_lookup hy) rfl);obtain⟨i,hi,Ua⟩:=List.mem_iff_getElem.mp hp;have:=tK Tq.nd (W6 hi);rw[Ua,e]at this;exact⟨_,this⟩
 ·have h1:((ps++clos.map (·.1))++ls)[i]?=some y:=h1;have lN:(ps++clos.map (·.1)).length=(ds.map some++ws.map some).length:=by rw[Xf,Xf,W0,W0,W0,hl,Tq.len]
  have JM:i<(ds.map some++ws.map some).length:=by
   refine Nat.lt_of_not_le λz=>?_;rw[XB z,Xj]at h2;cases e:ls[i-(ds.map some++ws.map some).length]? with
   |none=>rw[e]at h2;cases h2
   |some a=>rw[e]at h2;cases h2
  rw[XO (by lia)]at h1;rw[XO JM]at h2;by_cases hi:i<ps.length
  ·rw[XO hi]at h1;rw[XO (by rw[W0];lia),Xj]at h2;cases e:ds[i]? with
   |none=>rw[e]at h2;cases h2
   |some a=>
    rw[e]at h2;cases h2;obtain⟨u,hu,rv⟩:=r.get e;exact⟨u,rv,.inl ⟨S.tI y (XN h1),zt JL h1 hu⟩⟩
  ·rw[XB (by lia),Xj]at h1;rw[XB (by rw[W0];lia),Xj,W0,hl]at h2;cases e:ws[i-ps.length]? with
   |none=>rw[e]at h2;cases h2
   |some a=>
    rw[e]at h2;cases h2;cases e1:clos[i-ps.length]? with
    |none=>rw[e1]at h1;cases h1
    |some p=>
     rw[e1]at h1;cases h1;obtain⟨o,u,q1,q2,q3⟩:=Tq.bL _ p.1 p.2 v e1 e;have lk:=tK Tq.nd e1;exact⟨u,q3.up e0.bs.x.d,.inr ⟨.inr (S.JK _ (List.mem_map.mpr ⟨p,XN e1,rfl⟩)),p.2,lk,_,(pin q1).2,q2⟩⟩
 ·obtain⟨o,u,q1,q2⟩:=Tq.cell (show clos.lookup y=some c from h);obtain⟨p1,p2⟩:=pin q1;refine⟨⟨_,o,p2,q2⟩,?_,.inr ⟨rfl,o,p1⟩⟩;cases e:z.M c with
  |none=>rfl
  |some m=>have:=(e0.hok.ob c m e).1;rw[p1]at this;cases this
 ·show _=((ps++clos.map (·.1))++ls).length;rw[Xf,Xf,Xf,Xf,W0,W0,W0,W0,hl,Tq.len]
theorem zv {G:Gx}{z:Z}{c:Addr}{o:Obj}{q:Str} (bs:Bs G z.F) (ok:aG G z.F z.M z.s.heap) (h:G.ex c=some (.dat o)) (r:eD o q):z.s.heap.CodeRec (.ref c) q:=by
 obtain⟨vs,t,h1,h2⟩:=r;exact⟨c,o,vs,t,rfl,ok.fz c _ (bs.x c _ h),h1,h2⟩
theorem JN {G:Gx}{m:Nm}{W:Wd}{k n:Nat}{f c:Addr}{o':Obj}{qual:Str}{params:Arguments}{body:Expr}{scope:Scope}{clos:e7}{pm ctv:Value}{ps:List Str}{ws:List D}{sp:Sp}{e:E}
  (hf:G.ex f=some (.dat (PySem.W.kla_obj "<lambda>" qual params body scope clos pm c ctv))) (hc:G.ex c=some (.dat o')) (hr:eD o' qual) (S:me ps (clos.map (·.1)) scope) (Tq:j7 G clos ws) (nd:(ps++clos.map (·.1)).Nodup) (En:lW m W k G) (tL:aR m n (ps++clos.map (·.1)) scope body=e)
  (h:∀ds M Q E,sp ds M Q E->ds.length=ps.length/\(e.w W m.ai).1 (ds.map some++ws.map some) M (aW Q)):bf G (k+1) f (PySem.W.kla_fn "<lambda>" qual params body scope clos pm (.ref c) ctv) ps sp:=by
 refine⟨λds M Q E z=>(h ds M Q E z).1,λA outer z args us ds Q E room e0 ck r hs=>?_⟩;obtain⟨hl,hq⟩:=h _ _ _ _ hs;have ho:z.s.heap.get? f=some _:=e0.hok.fz f _ (e0.bs.x f _ hf);refine YI (R:=CR G z (aW Q) E) ?_ λr s q=>q.ret;refine PySem.W.kla_callFunE room.depth ho rfl S.Uo S.jB rfl (zv e0.bs e0.hok hc hr) (ck _ _ _ _ ?_);refine wpAny_newFunctionEnv S.oQ (λy hy=>S.tI _ (YQ (show (y.1,y.2)∈ps.zip us from hy)).1) (λh' ch dW=>?_) S.kind;have hk:∀b o,z.s.heap.get? b=some o->h'.get? b=some o:=λb o e=>by
  rw[dW.2 b (Xi (Xh e))];exact WZ _ e
 refine⟨(e0.bp.js.keeps e0.bk).keeps hk,PySem.W.kla_codeExpr ?_⟩;have I:=zu (ls:=[]) (qual:=qual) (f:=f) (cd:=.ref c) (E:=E) (tk:=z.s.toks+(ps.zip us).length) S room.hd e0 hl (List.nodup_append.mp nd).1 r Tq ch dW;rw[Xo,Yc,Xo]at I;have C:bj m W k (ps++clos.map (·.1)) scope (oR G (ps++clos.map (·.1)) qual scope clos f (.ref c) A outer z.s E):=⟨rfl,rfl,nd,rfl,room.deeper _,En⟩;rw[<- tL]at hq;exact Y6 ((iZ n C body).e _ _ _ _ I hq λd z1 u l J rd q=>(⟨d,z1,⟨rfl,l,J.hok,J.os,J.bare⟩,rd,q⟩:CR G z (aW Q) E (.ok (.ret u)) z1.s)) (λ_ _ h=>h) λe s' hs=>hs.no.elim
theorem JO {G:Gx}{m:Nm}{W:Wd}{k n:Nat}{f c:Addr}{o':Obj}{name qual:Str}{params:Arguments}{body:List Stmt}{scope:Scope}{clos:e7}{doc pm ctv:Value}{ps ls:List Str}{ws:List D}{sp:Sp}{b:B}
  (hf:G.ex f=some (.dat (PySem.W.fnMade name qual params body scope clos doc pm c ctv))) (hc:G.ex c=some (.dat o')) (hr:eD o' qual) (S:me ps (clos.map (·.1)) scope) (Tq:j7 G clos ws) (nd:((ps++clos.map (·.1))++ls).Nodup) (En:lW m W k G)
  (tL:aF m n ((ps++clos.map (·.1))++ls) scope body=b)
  (h:∀ds M Q E,sp ds M Q E->ds.length=ps.length/\b.w W m.ai (a' Q) ((ds.map some++ws.map some)++ls.map λ_=>none) M):bf G (k+1) f (PySem.W.fnX name qual params body scope clos .none .none doc pm none (.ref c) ctv) ps sp:=by
 refine⟨λds M Q E z=>(h ds M Q E z).1,λA outer z args us ds Q E room e0 ck r hs=>?_⟩;obtain⟨hl,hq⟩:=h _ _ _ _ hs;have ho:z.s.heap.get? f=some _:=e0.hok.fz f _ (e0.bs.x f _ hf);refine YI (R:=CR G z (aW Q) E) ?_ λr s q=>q.ret;refine codeAny_call_function room.depth ho rfl S.Uo S.jB rfl (zv e0.bs e0.hok hc hr) (ck _ _ _ _ ?_);refine wpAny_newFunctionEnv S.oQ (λy hy=>S.tI _ (YQ (show (y.1,y.2)∈ps.zip us from hy)).1) (λh' ch dW=>?_) S.kind;have hk:∀b o,z.s.heap.get? b=some o->h'.get? b=some o:=λb o e=>by
  rw[dW.2 b (Xi (Xh e))];exact WZ _ e
 refine⟨(e0.bp.js.keeps e0.bk).keeps hk,codeAny_func ?_⟩;have I:=zu (ls:=ls) (qual:=qual) (f:=f) (cd:=.ref c) (E:=E) (tk:=z.s.toks+(ps.zip us).length) S room.hd e0 hl (List.nodup_append.mp (List.nodup_append.mp nd).1).1 r Tq ch dW;have C:bj m W k ((ps++clos.map (·.1))++ls) scope (oR G ((ps++clos.map (·.1))++ls) qual scope clos f (.ref c) A outer z.s E):=⟨rfl,rfl,nd,rfl,room.deeper _,En⟩;have qg:∀y,loc scope y=true->(oR G ((ps++clos.map (·.1))++ls) qual scope clos f (.ref c) A outer z.s E).fn y=true\/scope.names.lookup y=some .local:=λy hy=>by
  rcases oK hy with e |e
  ·exact .inr e
  ·exact absurd rfl (S.oQ _ (PySem.mem_of_lookup e))
 rw[<- tL]at hq;refine Y6 (gV (s9 C qg n) body _ _ _ (λfl s'=>match fl with |.ret u=>CR G z (aW Q) E (.ok (.ret u)) s' |.next=>CR G z (aW Q) E (.ok (.ret .none)) s' |_=>False) I hq
  ⟨fun τ z1 l J q=>⟨.aj,z1,⟨rfl,l,J.hok,J.os,J.bare⟩,by rw[ab],q⟩,λd τ z1 u l J rd q=>⟨d,z1,⟨rfl,l,J.hok,J.os,J.bare⟩,rd,q⟩,λ_ _ _ _ q=>q,λ_ _ _ _ q=>q⟩) (λfl s' hs=>?_) λe s' hs=>hs.no.elim
 cases fl <;> first |exact hs |exact False.elim hs
end N
end
section
set_option maxHeartbeats 1000000
namespace N
open PySem PySem.Spec PyProof.Rows L2
noncomputable def Wo.at (w:Wo) (e:Fz):Wo:={ w with G:={ w.G with ex:=e } }
theorem Wo.Ok.at {w:Wo} (O:w.Ok) (e:Fz):(w.at e).Ok where
 df:=λi d h=>let ⟨f,fd,h1,h2,h3⟩:=O.df i d h;⟨f,fd,h1,h2,h3⟩
 gv:=λi x h=>let ⟨u,h1,h2⟩:=O.gv i x h;⟨u,h1,λF hF=>(h2 F hF).xe e⟩
 bl:=O.bl
 fl:=O.fl
 mt:=O.mt
 cl:=O.cl
section
variable {X:Cx} {τ:St} {z:Z}
theorem zw {G:Gx}{k:Nat}{f:Addr}{fd:FuncData}{ps:List Str}{sp:Sp}{cls:Value} (hf:G.ex f=some (.dat { cls:=cls,data:=.func fd })) (hc:cls=.type "function") (F:bf G k f fd ps sp) (hb:∀K,bM K fd ps []):cL G k f sp:=by
 subst hc;refine⟨fd,ps,[(f,{ cls:=.type "function",data:=.func fd })],F,by simp [PySem.W.keepIn,List.lookup],hb _,λz _ bs ok a o q=>?_⟩;by_cases y:a=f
 ·subst y;simp [List.lookup]at q;rw[<- q];exact ok.fz a _ (bs.x a _ hf)
 ·have:(a == f)=false:=by simpa using y
  simp [List.lookup,this]at q
theorem JP {clos:e7}{ws:List D} (I:ae X τ z) (len:ws.length=clos.length) (nd:(clos.map (·.1)).Nodup) (h:∀ (i:Nat) x a w,clos[i]?=some (x,a)->ws[i]?=some w->X.env.cells.lookup x=some a/\X.fn x=true/\X.env.scope.names.lookup x=some .cell/\∃ j:Nat,X.N[j]?=some x/\τ[j]?=some (some w)) :
  j7 { X.G with ex:=aT z.F (X.aS z.s.heap) } clos ws:=by
 have cl:∀x c,clos.lookup x=some c->X.env.cells.lookup x=some c:=λx c e=>by
  obtain⟨i,hi,Ua⟩:=List.mem_iff_getElem.mp (PySem.mem_of_lookup e);exact (h i x c (ws[i]'(by rw[len];exact hi)) (by rw[W6 hi,Ua]) (W6 _)).1
 refine⟨len,λi x a w e1 e2=>?_,nd,λx y c e1 e2=>I.ok.inj x y c (cl _ _ e1) (cl _ _ e2)⟩;obtain⟨h1,h2,h3,j,h4,h5⟩:=h i x a w e1 e2;obtain⟨m,hn,hl⟩:=I.loc;obtain⟨u,r,k⟩:=hl j x w h4 h5 (.inr (.inl h3));rcases k with k |⟨_,c,e,o,V7,V8⟩
 ·have q:X.env.scope.names.lookup x=some .local:=k.1;rw[h3]at q;cases q
 ·rw[h1]at e;cases e;refine⟨o,u,?_,V8,(r.up I.cB.d).xe _⟩;show aT z.F (X.aS z.s.heap) a=_;refine dt ?_;unfold Cx.aS;rw[if_neg (I.ju h1),if_pos ⟨x,h2,h1⟩,V7];rfl
end
theorem zx {l:Expr} (hl:bU l=true:=by rfl):∀{as:List Expr},a7 as=true->a7 (as++[l])=true
 |[],_=>by show (bU l && true)=true;rw[hl];rfl
 |a::as,h=>by
  have h':(bU a && a7 as)=true:=h;rw[W7]at h';show (bU a && a7 (as++[l]))=true;rw[h'.1,zx hl h'.2];rfl
theorem JQ {X:Cx}{m:Nm}{W:Wd}{f:Expr->E}{j8:Expr} (JR:bU j8=true) {as:List Expr} (hs:a7 as=true) (g:∀ e∈as,PE X e ((f e).w W m.ai).1) (pos:Pos) (τ:St):∀ (z:Z) (P:List D->Mp->Prop) (R:List Value->Shared->Prop),ae X τ z->(L.of (as.map f)).w W m.ai τ z.M P ->
  (∀ds z1 us,Le z.F z1.F->ae X τ z1->af X.G z1.F ds us->P ds z1.M->N.W X (eval j8 X.env) (λv s=>R (us++[v]) s) z1.s)->N.W X (spliced (backTo pos (starEach (as++[j8]) X.env))) R z.s:=by
 induction as with
 |nil=>
  intro z P R I h k;have h0:P [] z.M:=h;have k0:=k [] z [] Le.rfl I .nil h0;show N.W X (spliced (backTo pos (starEach [j8] X.env))) R z.s;rw[bC JR];refine Yu (Y6 k0 (λv s q=>?_) λ_ _ q=>q);exact Y2 q
 |cons a as ih=>
  intro z P R I h k;have h':(bU a && a7 as)=true:=hs;rw[W7]at h';have h1:((f a).w W m.ai).1 τ z.M λx M1=>(L.of (as.map f)).w W m.ai τ M1 λxs M2=>P (x::xs) M2:=h;show N.W X (spliced (backTo pos (starEach (a::(as++[j8])) X.env))) R z.s;rw[bC h'.1];show N.W X (spliced ((false,eval a X.env)::backTo pos (starEach (as++[j8]) X.env))) R z.s;refine Yu (g a W' τ z _ _ I h1 λx z1 v l1 I1 r1 q1=>?_);refine ih h'.2 (λe he=>g e (W8 _ he)) z1 (λxs M=>P (x::xs) M) (λvs s=>R (v::vs) s) I1 q1 λds z2 us l2 I2 r2 q2=>?_;exact k (x::ds) z2 (v::us) (l1.tr l2) I2 (.cons (r1.up l2.d) r2) q2
theorem JS {w:Wo} (O:w.Ok) {nm:Nm} (hn:w.nm=nm) {k kl n nl:Nat}{ns lps:List Str}{as:List Expr}{params:Arguments}{body:Expr}{scope:Scope}{g:Str}{gp lp Tt rp:Pos}{el:E}{es:L}{sp mh:Sp} (i ig:Nat) (d:Ds) (hd:w.ds[i]?=some d)
  (eP:av d.st=[.Return (some (.Call (.Name g gp) (as++[.Lambda params body scope lp]) [] Tt)) rp])
  (LM:∀f fd q,dA w.G.K q q d.st f fd->w.G.mg d.x=some (.ref f)->∃c T,fd.code=.ref c/\er w.G c T lp (q++".<locals>."++"<lambda>"))
  (l:a8 w) (hl:l.Ok k) (S:aC ns d.ps (ag d.st)) (cg:∀q L f cd,closureFor scope (envOfC q (ag d.st) L f cd)=pure []) (tw:∀q L f cd,defaultsOf params (envOfC q (ag d.st) L f cd)=([],[]))
  (hg:aZ (ag d.st) g=true) (cJ:(g == ("__debug__" : Str))=false) (tM:nm.bV[ig]?=some g) (ch:a7 as=true) (has:L.of (as.map (aR nm n ns (ag d.st)))=es)
  (SL:me lps [] scope) (tN:lps.Nodup) (tO:∀q pm c ctv K,bM K (PySem.W.kla_fn "<lambda>" q params body scope [] pm c ctv) lps []) (eg:aR nm nl lps scope body=el)
  (HL:∀e,Le w.G.ex e->∃ll:a8 (w.at e),ll.Ok kl/\∀ds M Q E,mh ds M Q E->ds.length=lps.length/\(el.w ll.wd nm.ai).1 (ds.map some) M (aW Q))
  (H:∀ds M Q E,sp ds M Q E->ds.length=d.ps.length/\es.w l.wd nm.ai (start ns ds) M λvs M1=>∀e f,Le w.G.ex e->cL (w.at e).G (kl+1) f mh->∃d3,FO (w.at e) ig k d3/\d3 (vs++[.ref f]) M1 (aW Q) X0):FO w i (k+1) sp:=by
 subst hn;obtain⟨f,fd,F⟩:=O.df i d hd;obtain⟨q,Fn⟩:=F.fn;obtain⟨c,T,hc,LK⟩:=LM f fd q Fn F.mg;obtain⟨oc,od,kV,doc,pm,Tg,an,ct,co,rfl,lk,dv⟩:=Fn.ex;obtain rfl:an=.ref c:=hc;have key:bf w.G (k+1) f (PySem.W.fnOf q q (ei d.st) (av d.st) (ag d.st) .none kV doc pm Tg (.ref c) ct) d.ps λds M R E=>∃Q,R=aW Q/\sp ds M Q E:=by
  refine qQ lk dv S (λds M R E ⟨Q,_,z⟩=>(H ds M Q E z).1) λA outer s M ds R E hr ⟨Q,e,z⟩=>?_;subst e;obtain⟨_,hq⟩:=H ds M Q E z;have C:bj w.nm l.wd k ns (ag d.st) (b6 w.G ns q (ag d.st) f (.ref c) A outer s E):=⟨rfl,rfl,S.nd,rfl,hr,hl.env O⟩;rw[eP];refine⟨λen τ M=>es.w l.wd w.nm.ai τ M λvs M1=>∀e f,Le w.G.ex e->cL (w.at e).G (kl+1) f mh->∃d3,FO (w.at e) ig k d3/\d3 (vs++[.ref f]) M1 en.rt X0,?_,hq⟩;refine vJ fun τ z en R I hq KK=>?_;refine wpAny_Return_some ?_
  -- kt SY def
  have mi:=tM;rw[show w.nm.bV=w.ds.map (·.x) from rfl,Xj]at mi;obtain⟨TV,mj,rfl⟩:=Option.map_eq_some_iff.mp mi;obtain⟨Vj,JT,Fg⟩:=O.df ig TV mj;refine XY (ij I (C.aZ hg) Fg.mg cJ ?_);have pa:=iY (X:=b6 w.G ns q (ag d.st) f (.ref c) A outer s E) (f:=aR w.nm n ns (ag d.st)) (W:=l.wd) (m:=w.nm) ch λe _=>(iZ n C e).e;rw[has]at pa;have go:W (b6 w.G ns q (ag d.st) f (.ref c) A outer s E) (spliced (backTo Tt (starEach (as++[.Lambda params body scope lp]) (b6 w.G ns q (ag d.st) f (.ref c) A outer s E).env))) (λvs s1=>w.G.K.In s1.heap/\W (b6 w.G ns q (ag d.st) f (.ref c) A outer s E) (call (.ref Vj) vs) (λv s'=>R (.ret v) s') s1) z.s:=by
   refine JQ (X:=b6 w.G ns q (ag d.st) f (.ref c) A outer s E) (f:=aR w.nm n ns (ag d.st)) (W:=l.wd) (m:=w.nm) rfl ch (λe _=>(iZ n C e).e) Tt τ z _ _ I (by rw[has];exact hq) λds z1 us l1 I1 r1 q1=>?_;refine JF (clos:=[]) I1 LK (tw _ _ _ _) (cg _ _ _ _) rfl λf' c' o' ctv z2 l2 I2 TL h1 h2 h3=>?_;refine⟨I2.bT,?_⟩;have lx:Le w.G.ex (aT z2.F ((b6 w.G ns q (ag d.st) f (.ref c) A outer s E).aS z2.s.heap)):=I2.bs.x.tr I2.cB;have hh:cL (w.at (aT z2.F ((b6 w.G ns q (ag d.st) f (.ref c) A outer s E).aS z2.s.heap))).G (kl+1) f' mh:=by
    obtain⟨ll,tP,hb⟩:=HL _ lx;refine zw (I2.cB f' _ h1) rfl (JN (m:=w.nm) (W:=ll.wd) (k:=kl) (n:=nl) (ws:=[]) (I2.cB f' _ h1) (I2.cB c' _ h2) h3 SL ⟨rfl,(by intro _ _ _ _ e;cases e),List.nodup_nil,(by intro _ _ _ e;cases e)⟩ (by simpa using tN) (tP.env (O.at _)) (by simpa using eg) λds M Q E z=>?_) (λK=>tO _ _ _ _ K);obtain⟨h1,h2⟩:=hb ds M Q E z;exact⟨h1,by simpa using h2⟩
   obtain⟨d3,FG,hs⟩:=q1 _ f' lx hh;obtain⟨tQ,tR,JU,e1,e2,e3⟩:=FG;have ml:w.ds[ig]?=some tQ:=e1;rw[mj]at ml;cases ml;have e4:w.G.mg TV.x=some (.ref tR):=e2.mg;rw[Fg.mg]at e4;cases e4;refine nU (x:=aT z2.F ((b6 w.G ns q (ag d.st) f (.ref c) A outer s E).aS z2.s.heap)) (bc:=[]) (ds:=[]) (vs:=ds++[.ref f']) (Q:=en.rt) e3 C.room e2.b gU fH I2 Le.rfl I2.bT ((r1.up l2.d).append (.cons (by rw[ab]) .nil)) (by rw[Xo,TL];exact hs) λd z3 u l3 I3 r3 q3=>KK.rt d τ z3 u (l1.tr (l2.tr l3)) I3 r3 q3
  cases as with
  |nil=>exact PySem.W.callWith_K (h₀:=w.G.base) I.ok.bp.fu Fg.kp go rfl rfl
  |cons a as=>
   have h':(bU a && a7 as)=true:=ch;rw[W7]at h';exact PySem.W.callWith_K (h₀:=w.G.base) I.ok.bp.fu Fg.kp go (bC h'.1) (eh (zx rfl h'.2))
 refine⟨d,f,_,hd,F,⟨λds M Q E z=>(H ds M Q E z).1,λA outer z args us ds Q E hr e0 hb r hs=>YI (key.eC A outer z args us ds (aW Q) E hr e0 hb r ⟨Q,rfl,hs⟩) λr s q=>q.ret⟩⟩
end N
end
section
set_option maxHeartbeats 1000000
namespace N
open PySem PySem.Spec PyProof.Rows L2
theorem JV {w:Wo} (O:w.Ok) {nm:Nm} (hn:w.nm=nm) {k kp n np j ci:Nat}{ns j9 ls:List Str}{es:List Expr}{e0:Expr}{params:Arguments}{body:List Stmt}{scope:Scope}{name x g:Str}{gp zy Tt rp:Pos}{b:B}{t:L}{sp:Sp}{mm:D->Sp} (i ig:Nat) (d:Ds) (hd:w.ds[i]?=some d)
  (eP:av d.st=[.FunctionDef name params body [] none [] scope none name zy,.Return (some (.Call (.Name g gp) (e0::es) [] Tt)) rp])
  (LM:∀f fd q,dA w.G.K q q d.st f fd->w.G.mg d.x=some (.ref f)->∃c T,fd.code=.ref c/\er w.G c T zy (q++".<locals>."++name))
  (l:a8 w) (hl:l.Ok k) (S:aC ns d.ps (ag d.st)) (hj:ns[j]?=some name) (JW:loc (ag d.st) name=true) (JX:ci≠j) (JY:ns[ci]?=some x) (zB:ci<d.ps.length) (JZ:(ag d.st).names.lookup x=some .cell)
  (tE:∀q L f cd,qualnameIn (envOfC q (ag d.st) L f cd) name name=q++".<locals>."++name)
  (cg:∀q L f cd,closureFor scope (envOfC q (ag d.st) L f cd)=pure [(x,L+1)]) (J0:∀L:Addr,(cellsFrom (L+1) (ag d.st).names []).lookup x=some (L+1)) (tz:params.defaults=[]) (tC:params.kw_defaults=[]) (ha:∀env,annTrees params none env=[])
  (hg:aZ (ag d.st) g=true) (cJ:(g == ("__debug__" : Str))=false) (tM:nm.bV[ig]?=some g) (ch:a7 (e0::es)=true) (has:L.of ((e0::es).map (aR nm n ns (ag d.st)))=t)
  (SL:me j9 [x] scope) (tN:((j9++[x])++ls).Nodup) (tO:∀q clos doc pm c ctv K,bM K (PySem.W.fnX name q params body scope clos .none .none doc pm none c ctv) j9 []) (eg:aF nm np ((j9++[x])++ls) scope body=b)
  (HL:∀e v,Le w.G.ex e->∃ll:a8 (w.at e),ll.Ok kp/\∀ds M Q E,mm v ds M Q E->ds.length=j9.length/\b.w ll.wd nm.ai (a' Q) ((ds.map some++[some v])++ls.map λ_=>none) M)
  (H:∀ds M Q E,sp ds M Q E->ds.length=d.ps.length/\∀f,t.w l.wd nm.ai ((start ns ds).set j (some (.ref f))) M λvs M1=>∀e v,Le w.G.ex e->ds[ci]?=some v->cL (w.at e).G (kp+1) f (mm v)->∃d3,FO (w.at e) ig k d3/\d3 vs M1 (aW Q) X0):FO w i (k+1) sp:=by
 subst hn;obtain⟨f,fd,F⟩:=O.df i d hd;obtain⟨q,Fn⟩:=F.fn;obtain⟨c,T,hc,LK⟩:=LM f fd q Fn F.mg;obtain⟨oc,od,kV,doc,pm,Tg,an,ct,co,rfl,lk,dv⟩:=Fn.ex;obtain rfl:an=.ref c:=hc;have key:bf w.G (k+1) f (PySem.W.fnOf q q (ei d.st) (av d.st) (ag d.st) .none kV doc pm Tg (.ref c) ct) d.ps λds M R E=>∃Q,R=aW Q/\sp ds M Q E:=by
  refine qQ lk dv S (λds M R E ⟨Q,_,z⟩=>(H ds M Q E z).1) λA outer s M ds R E hr ⟨Q,e,z⟩=>?_;subst e;obtain⟨hlen,hq⟩:=H ds M Q E z;have C:bj w.nm l.wd k ns (ag d.st) (b6 w.G ns q (ag d.st) f (.ref c) A outer s E):=⟨rfl,rfl,S.nd,rfl,hr,hl.env O⟩;obtain⟨v,hv⟩:∃v,ds[ci]?=some v:=⟨_,W6 (by rw[hlen];exact zB)⟩;rw[eP];refine⟨λen τ M=>τ[ci]?=some (some v)/\∀f,t.w l.wd w.nm.ai (τ.set j (some (.ref f))) M λvs M1=>∀e v,Le w.G.ex e->ds[ci]?=some v->cL (w.at e).G (kp+1) f (mm v)->∃d3,FO (w.at e) ig k d3/\d3 vs M1 en.rt X0,?_,?_,hq⟩
  case refine_2=>
   unfold start;rw[XO (by rw[W0,hlen];exact zB),Xj,hv];rfl
  intro τ z en R I hq KK;obtain⟨hτ,hq⟩:=hq;refine wpAny_execs_cons (JG (clos:=[(x,s.heap.objs.size+1)]) I (by rw[show qualnameIn (b6 w.G ns q (ag d.st) f (.ref c) A outer s E).env name name=_ from tE _ _ _ _];exact LK) S.nd hj (oK JW) (.inl rfl) tz tC (ha _) (cg _ _ _ _) rfl λf' c' o' zD ctv z1 l1 I1 TL h1 h2 h3=>?_);have mi:=tM;rw[show w.nm.bV=w.ds.map (·.x) from rfl,Xj]at mi;obtain⟨TV,mj,rfl⟩:=Option.map_eq_some_iff.mp mi;obtain⟨Vj,JT,Fg⟩:=O.df ig TV mj;have pa:=iY (X:=b6 w.G ns q (ag d.st) f (.ref c) A outer s E) (f:=aR w.nm n ns (ag d.st)) (W:=l.wd) (m:=w.nm) ch λe _=>(iZ n C e).e;rw[has]at pa;have h':(bU e0 && a7 es)=true:=ch;rw[W7]at h';have pr:∀Rf:Flow->Shared->Prop,(∀u s,R (.ret u) s->Rf (.ret u) s)->W (b6 w.G ns q (ag d.st) f (.ref c) A outer s E) (exec (.Return (some (.Call (.Name TV.x gp) (e0::es) [] Tt)) rp) (b6 w.G ns q (ag d.st) f (.ref c) A outer s E).env) Rf z1.s:=λRf J1=>by
   refine wpAny_Return_some ?_;refine XY (ij I1 (C.aZ hg) Fg.mg cJ ?_);refine PySem.W.callWith_K (h₀:=w.G.base) I1.ok.bp.fu Fg.kp (pa Tt _ z1 _ _ I1 (by rw[TL];exact hq f') λvs z2 us l2 I2 r2 q2=>⟨I2.bT,?_⟩) (bC h'.1) (eh h'.2);have lx:Le w.G.ex (aT z2.F ((b6 w.G ns q (ag d.st) f (.ref c) A outer s E).aS z2.s.heap)):=I2.bs.x.tr I2.cB;have hh:cL (w.at (aT z2.F ((b6 w.G ns q (ag d.st) f (.ref c) A outer s E).aS z2.s.heap))).G (kp+1) f' (mm v):=by
    obtain⟨ll,tP,hb⟩:=HL _ v lx;have lu:=I2.cB f' _ (l2 f' _ h1);rw[show qualnameIn (b6 w.G ns q (ag d.st) f (.ref c) A outer s E).env name name=_ from tE _ _ _ _]at lu h3;have Tq:=JP (clos:=[(x,s.heap.objs.size+1)]) (ws:=[v]) I2 rfl (by simp) λi y a u e1 e2=>by
     cases i with
     |succ i=>cases e1
     |zero=>
      cases e1;cases e2;exact⟨J0 _,rfl,JZ,ci,JY,by rw[List.getElem?_set_ne (Ys JX)];exact hτ⟩
    exact zw lu rfl (JO (m:=w.nm) (W:=ll.wd) (k:=kp) (n:=np) lu (I2.cB c' _ (l2 c' _ h2)) h3 SL Tq tN (tP.env (O.at _)) eg hb) λK=>tO _ _ _ _ _ _ K
   obtain⟨d3,FG,hs⟩:=q2 _ v lx hv hh;obtain⟨tQ,tR,JU,e1,e2,e3⟩:=FG;have ml:w.ds[ig]?=some tQ:=e1;rw[mj]at ml;cases ml;have e4:w.G.mg TV.x=some (.ref tR):=e2.mg;rw[Fg.mg]at e4;cases e4;exact nU (x:=aT z2.F ((b6 w.G ns q (ag d.st) f (.ref c) A outer s E).aS z2.s.heap)) (bc:=[]) (ds:=[]) (Q:=en.rt) e3 C.room e2.b gU fH I2 Le.rfl I2.bT r2 (by rw[Xo];exact hs) λd z3 u l3 I3 r3 q3=>J1 _ _ (KK.rt d _ z3 u (l1.tr (l2.tr l3)) I3 r3 q3)
  exact wpAny_execs_cons (pr _ λu s h=>h)
 refine⟨d,f,_,hd,F,⟨λds M Q E z=>(H ds M Q E z).1,λA outer z args us ds Q E hr e0 hb r hs=>YI (key.eC A outer z args us ds (aW Q) E hr e0 hb r ⟨Q,rfl,hs⟩) λr s q=>q.ret⟩⟩
end N
end
section
set_option maxHeartbeats 1000000
namespace N
open PySem PySem.Spec PyProof.Rows L2
set_option genInjectivity false
set_option genSizeOfSpec false
structure zG where
 g:Str
 gp:Pos
 as:List Expr
 params:Arguments
 body:Expr
 scope:Scope
 lp:Pos
 Tt:Pos
 rp:Pos
structure zH where
 name:Str
 params:Arguments
 body:List Stmt
 scope:Scope
 np:Pos
 g:Str
 gp:Pos
 es:List Expr
 Tt:Pos
 rp:Pos
noncomputable def zI:Stmt->Option (Option Expr×Pos)
 |.Return e p=>some (e,p)
 |_=>none
noncomputable def zJ:Expr->Option (Expr×List Expr×Pos)
 |.Call f as _ p=>some (f,as,p)
 |_=>none
noncomputable def J2:Expr->Option (Arguments×Expr×Scope×Pos)
 |.Lambda a b s p=>some (a,b,s,p)
 |_=>none
noncomputable def J3:Stmt->Option (Str×Arguments×List Stmt×Scope×Pos)
 |.FunctionDef n a b _ _ _ s _ _ p=>some (n,a,b,s,p)
 |_=>none
noncomputable def J4 (b:List Stmt):Option zG:=b.head?.bind λs=>(zI s).bind λr=>r.1.bind λe=>(zJ e).bind λc=>(lS c.1).bind λg=>c.2.1.getLast?.bind λl=>(J2 l).map λq=>
 ⟨g.1,g.2,c.2.1.dropLast,q.1,q.2.1,q.2.2.1,q.2.2.2,c.2.2,r.2⟩
noncomputable def J5 (b:List Stmt):Option zH:=b.head?.bind λd=>(J3 d).bind λq=>b.getLast?.bind λs=>(zI s).bind λr=>r.1.bind λe=>(zJ e).bind λc=>(lS c.1).map λg=>
 ⟨q.1,q.2.1,q.2.2.1,q.2.2.2.1,q.2.2.2.2,g.1,g.2,c.2.1,c.2.2,r.2⟩
end N
end
section
namespace NQ
open PySem N
open L2
inductive Kd where
 |num |word
 |row (fs:List (Str×Kd))
 |ah (k:Kd)
mutual
noncomputable def kD:Kd->D
 |.num=>.tup [.str "num"]
 |.word=>.tup [.str "word"]
 |.row fs=>.tup [.str "row",.tup (bN fs)]
 |.ah k=>.tup [.str "bag",kD k]
noncomputable def bN:List (Str×Kd)->List D
 |[]=>[]
 |(f,k)::r=>.tup [.str f,kD k]::bN r
end
inductive Qn where
 |num (i:Int) |word (s:Str) |var (x:Str) |tab (x:Str) |none (k:Kd)
 |row (fs:List (Str×Qn))
 |at (f:Str) (q:Qn)
 |add (a b:Qn) |mul (a b:Qn) |one (q:Qn) |both (a b:Qn)
 |times (i:Int) (q:Qn)
 |for (x:Str) (a b:Qn) |aP (c q:Qn) |let (x:Str) (a b:Qn)
 |same (a b:Qn) |under (a b:Qn) |and (a b:Qn) |or (a b:Qn) |not (a:Qn)
mutual
noncomputable def qD:Qn->D
 |.num i=>.tup [.str "num",.int i]
 |.word s=>.tup [.str "word",.str s]
 |.var s=>.tup [.str "var",.str s]
 |.tab s=>.tup [.str "table",.str s]
 |.none k=>.tup [.str "none",kD k]
 |.row fs=>.tup [.str "row",.tup (bq fs)]
 |.at f q=>.tup [.str "at",.str f,qD q]
 |.add a b=>.tup [.str "add",qD a,qD b]
 |.mul a b=>.tup [.str "mul",qD a,qD b]
 |.one a=>.tup [.str "one",qD a]
 |.both a b=>.tup [.str "both",qD a,qD b]
 |.times i a=>.tup [.str "times",.int i,qD a]
 |.for x a b=>.tup [.str "for",.str x,qD a,qD b]
 |.aP a b=>.tup [.str "when",qD a,qD b]
 |.let x a b=>.tup [.str "let",.str x,qD a,qD b]
 |.same a b=>.tup [.str "same",qD a,qD b]
 |.under a b=>.tup [.str "under",qD a,qD b]
 |.and a b=>.tup [.str "and",qD a,qD b]
 |.or a b=>.tup [.str "or",qD a,qD b]
 |.not a=>.tup [.str "not",qD a]
noncomputable def bq:List (Str×Qn)->List D
 |[]=>[]
 |(f,q)::r=>.tup [.str f,qD q]::bq r
end
mutual
noncomputable def nq:Qn->Nat
 |.num _=>1 |.word _=>1 |.var _=>1 |.tab _=>1 |.none _=>1
 |.row fs=>1+bR fs
 |.at _ q=>1+nq q
 |.add a b=>1+nq a+nq b
 |.mul a b=>1+nq a+nq b
 |.one a=>1+nq a
 |.both a b=>1+nq a+nq b
 |.times _ a=>1+nq a
 |.for _ a b=>1+nq a+nq b
 |.aP a b=>1+nq a+nq b
 |.let _ a b=>1+nq a+nq b
 |.same a b=>1+nq a+nq b
 |.under a b=>1+nq a+nq b
 |.and a b=>1+nq a+nq b
 |.or a b=>1+nq a+nq b
 |.not a=>1+nq a
noncomputable def bR:List (Str×Qn)->Nat
 |[]=>0
 |(_,q)::r=>nq q+bR r
end
mutual
noncomputable def kz:Kd->Nat
 |.num=>1
 |.word=>1
 |.row fs=>mq fs+1
 |.ah k=>kz k+1
noncomputable def mq:List (Str×Kd)->Nat
 |[]=>0
 |(_,k)::r=>kz k+mq r+1
end
abbrev Sc:=List (Str×Kd)
noncomputable def lk (x:Str):Sc->Option Kd
 |[]=>.none
 |(y,k)::r=>if x=y then some k else lk x r
mutual
noncomputable def kd:Kd->Nat
 |.num=>1
 |.word=>1
 |.row fs=>j' fs+3
 |.ah k=>kd k+1
noncomputable def j':List (Str×Kd)->Nat
 |[]=>0
 |(_,k)::r=>max (kd k) (j' r)
end
mutual
noncomputable def gY:Kd->Bool
 |.num=>true
 |.word=>true
 |.row fs=>oS fs
 |.ah k=>gY k
noncomputable def oS:List (Str×Kd)->Bool
 |[]=>true
 |(f,k)::r=>decide (f≠"table") && gY k && oS r
end
mutual
inductive Ty (S:Str->Option Kd):Sc->Qn->Kd->Prop
 |num {G i}:Ty S G (.num i) .num
 |word {G s}:Ty S G (.word s) .word
 |var {G x k}:lk x G=some k->Ty S G (.var x) k
 |tab {G x k}:S x=some k->Ty S G (.tab x) (.ah k)
 |none {G k}:gY k=true->kz k<900->Ty S G (.none k) (.ah k)
 |row {G fs ks}:fs.length<100->("table" : Str) ∉ ks.map (·.1)->di S G fs ks->Ty S G (.row fs) (.row ks)
 |at {G f q ks k}:(ks.map (·.1)).Nodup->Ty S G q (.row ks)->lk f ks=some k->Ty S G (.at f q) k
 |add {G a b}:Ty S G a .num->Ty S G b .num->Ty S G (.add a b) .num
 |mul {G a b}:Ty S G a .num->Ty S G b .num->Ty S G (.mul a b) .num
 |one {G q k}:Ty S G q k->Ty S G (.one q) (.ah k)
 |both {G a b k}:kz k<900->Ty S G a (.ah k)->Ty S G b (.ah k)->Ty S G (.both a b) (.ah k)
 |times {G i a k}:Ty S G a (.ah k)->Ty S G (.times i a) (.ah k)
 |for {G x a b k l}:kd l<=20/\kz l<900->Ty S G a (.ah l)->Ty S ((x,l)::G) b (.ah k)->Ty S G (.for x a b) (.ah k)
 |aP {G c a k}:bX S G c->Ty S G a (.ah k)->Ty S G (.aP c a) (.ah k)
 |let {G x a b k l}:kd l<=20->Ty S G a l->Ty S ((x,l)::G) b k->Ty S G (.let x a b) k
inductive di (S:Str->Option Kd):Sc->List (Str×Qn)->List (Str×Kd)->Prop
 |nil {G}:di S G [] []
 |cons {G f q k r s}:Ty S G q k->di S G r s->di S G ((f,q)::r) ((f,k)::s)
inductive bX (S:Str->Option Kd):Sc->Qn->Prop
 |gZ {G a b}:Ty S G a .num->Ty S G b .num->bX S G (.same a b)
 |g7 {G a b}:Ty S G a .word->Ty S G b .word->bX S G (.same a b)
 |under {G a b}:Ty S G a .num->Ty S G b .num->bX S G (.under a b)
 |and {G a b}:bX S G a->bX S G b->bX S G (.and a b)
 |or {G a b}:bX S G a->bX S G b->bX S G (.or a b)
 |not {G a}:bX S G a->bX S G (.not a)
end
mutual
theorem e9:∀k,aw (kD k)=true
 |.num=>rfl
 |.word=>rfl
 |.row fs=>by rw[kD,aw,aH,aH,aH,aw,aw,zN fs];rfl
 |.ah k=>by rw[kD,aw,aH,aH,aH,aw,e9 k];rfl
theorem zN:∀fs,aH (bN fs)=true
 |[]=>rfl
 |(f,k)::r=>by rw[bN,aH,aw,aH,aH,aH,aw,e9 k,zN r];rfl
end
mutual
theorem g8:∀k,aO (kD k)<=kd k
 |.num=>by rw[kD,kd];decide
 |.word=>by rw[kD,kd];decide
 |.row fs=>by have:=zO fs;rw[kD,aO,aU,aU,aU,aO,aO,kd];lia
 |.ah k=>by have:=g8 k;rw[kD,aO,aU,aU,aU,aO,kd];lia
theorem zO:∀fs,aU (bN fs)<=j' fs+1
 |[]=>by rw[bN,aU];lia
 |(f,k)::r=>by have:=g8 k;have:=zO r;rw[bN,aU,aO,aU,aU,aU,aO,j'];lia
end
theorem fb {a b:Str}{xs ys:List D} (h:aE (.tup (.str a::xs)) (.tup (.str b::ys))=true):a=b/\bB xs ys=true:=by
 simp only[aE,bB,qv,k4,Option.any_some,W7,beq_iff_eq,Option.some.injEq]at h;exact⟨h.1.symm,h.2⟩
mutual
theorem oT:∀{a b:Kd},aE (kD a) (kD b)=true->a=b
 |.num,b,h=>by cases b <;> first |rfl |(exact absurd (fb h).1 (by decide +kernel))
 |.word,b,h=>by cases b <;> first |rfl |(exact absurd (fb h).1 (by decide +kernel))
 |.row fs,b,h=>by
  cases b with
  |row gs=>
   have h:=(fb h).2;simp only[bB,aE,qv,Option.any_some,W7]at h;rw[zP h.1]
  |num=>exact absurd (fb h).1 (by decide +kernel)
  |word=>exact absurd (fb h).1 (by decide +kernel)
  |ah k=>exact absurd (fb h).1 (by decide +kernel)
 |.ah k,b,h=>by
  cases b with
  |ah l=>
   have h:=(fb h).2;simp only[bB,W7]at h;rw[oT h.1]
  |num=>exact absurd (fb h).1 (by decide +kernel)
  |word=>exact absurd (fb h).1 (by decide +kernel)
  |row k=>exact absurd (fb h).1 (by decide +kernel)
theorem zP:∀{a b:List (Str×Kd)},bB (bN a) (bN b)=true->a=b
 |[],[],_=>rfl
 |[],(_,_)::_,h=>by simp [bN,bB]at h
 |(_,_)::_,[],h=>by simp [bN,bB]at h
 |(f,k)::r,(g,l)::s,h=>by
  rw[bN,bN,bB,W7]at h;obtain⟨e,h1⟩:=fb h.1;simp only[bB,W7]at h1;rw[e,oT h1.1,zP h.2]
end
noncomputable instance:DecidableEq Kd:=λa b=>decidable_of_iff (aE (kD a) (kD b)=true) ⟨oT,λe=>by rw[e];exact gh _ (e9 b)⟩
theorem J6 {a b:Kd}:aE (kD a) (kD b)=decide (a=b):=by
 by_cases h:a=b
 ·subst h;rw[decide_eq_true rfl];exact gh _ (e9 a)
 ·rw[decide_eq_false h];cases z:aE (kD a) (kD b) with
  |false=>rfl
  |true=>exact absurd (oT z) h
theorem oU {k:Kd}{M:Mp}:bZ (kD k) M=kD k:=by cases k <;> rfl
theorem ka {n:Bool}{a b:Kd}{M:Mp}{k:Bool->Prop} (h:kd a<=50) (q:k (decide (a=b))):ej n (kD a) (kD b) M k:=by
 refine .mk ?_ ?_
 ·rw[oU,oU];exact .inl ⟨e9 a,e9 b,W9 (g8 a) (by lia)⟩
 ·rw[oU,oU,J6];exact q
theorem au {n:Bool}{a b:Str}{M:Mp}{k:Bool->Prop} (q:k (decide (a=b))):ej n (.str a) (.str b) M k:=by
 refine .mk (.inl ⟨rfl,rfl,Xk _⟩) ?_;have:aE (.str a) (.str b)=decide (a=b):=by
  show (some b == some a)=decide (a=b);by_cases h:a=b
  ·subst h;simp
  ·rw[decide_eq_false h];exact beq_eq_false_iff_ne.mpr λz=>h (XD z).symm
 exact this ▸ q
theorem bw {n:Bool}{a b:Int}{M:Mp}{k:Bool->Prop} (q:k (decide (a=b))):ej n (.int a) (.int b) M k:=by
 refine .mk (.inl ⟨rfl,rfl,Xk _⟩) ?_;have:aE (.int a) (.int b)=decide (a=b):=by
  show (some b == some a)=decide (a=b);by_cases h:a=b
  ·subst h;simp
  ·rw[decide_eq_false h];exact beq_eq_false_iff_ne.mpr λz=>h (XD z).symm
 exact this ▸ q
theorem a3 {c:Prop} [Decidable c] {a b:Prop} (h:c->a) (g:¬c->b):if c then a else b:=by
 split
 ·exact h ‹_›
 ·exact g ‹_›
theorem l1:1<=sizeLine:=by decide
theorem l2:2<=sizeLine:=by decide
theorem l3:3<=sizeLine:=by decide
theorem l4:4<=sizeLine:=by decide
theorem l5:5<=sizeLine:=by decide
theorem UW {i j:Int} (h:-(2 ^ 64)<j/\j<2 ^ 64):CM i j:=.inl (.inr h)
theorem J7 {i j:Int} (h:-(2 ^ 64)<i/\i<2 ^ 64):CM i j:=.inl (.inl h)
theorem pz {n:Nat}:(0:Int)<((n+1:Nat):Int):=Int.natCast_pos.mpr (Nat.succ_pos n)
theorem oV {n:Bool}{ds:List D}{M:Mp}{k:Bool->Prop} (q:k ds.isEmpty):ej n (.lst ds) (.lst []) M k:=by
 refine .mk (.inr ⟨rfl,rfl⟩) ?_;have:aE (.lst ds) (.lst [])=ds.isEmpty:=by
  show bB ds []=_;cases ds <;> simp [bB]
 exact this ▸ q
noncomputable def cQ (sc:Sc):List D:=sc.map λp=>.tup [.str p.1,kD p.2]
noncomputable abbrev a4 (sc:Sc):D:=.lst (cQ sc)
noncomputable def ax (ms:Sc):List (Key×D):=ms.map λm=>(.inr m.1,kD m.2)
noncomputable def b9 (ms:Sc):D:=.ak (ms.map λm=>.inr m.1) (ms.map λm=>kD m.2)
theorem oX (ms:Sc):(ms.map λm=>(Yr m.1:Key)).zip (ms.map λm=>kD m.2)=ax ms:=by
 unfold ax;induction ms with
 |nil=>rfl
 |cons m ms ih=>rw[Xe,Xe,Yq,ih,Xe]
theorem zQ (ms:Sc):D.ak ((ax ms).map (·.1)) ((ax ms).map (·.2))=b9 ms:=by
 unfold ax b9;rw[Yd,Yd];rfl
theorem oY {x:Str}:∀{a b:Sc},lk x (a++b)=(lk x a).or (lk x b)
 |[],b=>rfl
 |(y,k)::r,b=>by
  rw[YF,lk,lk];split
  ·rfl
  ·exact oY
theorem dZ {x:Str}{k:Kd}:∀{sc:Sc},lk x sc=some k->(x,k)∈sc
 |(y,l)::r,h=>by
  rw[lk]at h;split at h
  ·rename_i e;rw[e,XD h];exact W'
  ·exact W8 _ (dZ h)
theorem tS {x:Str}{k:Kd}:∀{sc:Sc},(sc.map (·.1)).Nodup->(x,k)∈sc->lk x sc=some k
 |(y,l)::r,nd,h=>by
  rw[Xe,Y3]at nd;rw[lk];rcases List.mem_cons.mp h with e |h2
  ·cases e;rw[if_pos rfl]
  ·rw[if_neg,tS nd.2 h2];intro e;exact nd.1 (List.mem_map.mpr ⟨_,h2,e⟩)
theorem zR {G G':Sc}{y:Str}{l:Kd} (g:∀x k,lk x G=some k->lk x G'=some k):∀x k,lk x ((y,l)::G)=some k->lk x ((y,l)::G')=some k:=λx k h=>by
 rw[lk]at h ⊢;split at h
 ·rename_i e;rw[if_pos e];exact h
 ·rename_i e;rw[if_neg e];exact g x k h
theorem fc {x:Str}:∀{ms:Sc},aK (ax ms) (.inr x)=(lk x ms).map kD
 |[]=>rfl
 |(y,l)::r=>by
  have ih:=@fc x r;unfold aK ax at *;rw[Xe,Y4,lk];by_cases e:x=y
  ·subst e;rw[if_pos rfl];simp
  ·have e':¬(Yr y:Key)=Yr x:=λz=>e (Zk z).symm;rw[if_neg e];simp only[e',decide_false];exact ih
theorem l9 {x:Str}:∀{sc:Sc},(lk x sc).isSome=decide (x∈sc.map (·.1))
 |[]=>rfl
 |(y,k)::r=>by
  rw[lk,Xe];by_cases e:x=y
  ·subst e;simp
  ·rw[if_neg e,l9];simp [e]
theorem zU {ms:Sc}{x:Str}{k:Kd} (h:x ∉ ms.map (·.1)):aY (ax ms) (.inr x) (kD k)=ax (ms++[(x,k)]):=by
 unfold aY;rw[if_neg]
 ·unfold ax;simp
 ·intro z;obtain⟨kv,h1,h2⟩:=List.any_eq_true.mp z;unfold ax at h1;obtain⟨m,hm,rfl⟩:=List.mem_map.mp h1;exact h (List.mem_map.mpr ⟨m,hm,Zk (of_decide_eq_true h2)⟩)
theorem zW {α:Type} {xs:List α}{y:α} (h:xs.Nodup) (n:y ∉ xs):(xs++[y]).Nodup:=by
 rw[List.nodup_append];exact⟨h,by simp,λa ha b hb e=>n (by rw[List.mem_singleton.mp hb]at e;rw[<- e];exact ha)⟩
theorem J8 {ms:Sc}{ys:List (Key×D)} (h:ys.Perm (ax ms)):∃out:Sc,ys.map de=cQ out/\out.Perm ms:=by
 have key:∀{ys:List (Key×D)}{kvs:List (Key×D)},ys.Perm kvs->∀ms:Sc,kvs=ax ms->∃out:Sc,ys=ax out/\out.Perm ms:=by
  intro ys kvs p
  induction p with
  |nil=>intro ms e;exact⟨[],rfl,by cases ms with |nil=>exact .nil |cons=>cases e⟩
  |cons x p ih=>intro ms e;cases ms with
   |nil=>cases e
   |cons m ms=>cases e;obtain⟨out,rfl,h⟩:=ih ms rfl;exact⟨m::out,rfl,h.cons _⟩
  |swap x y l=>intro ms e;match ms,e with
   |m::m'::ms,e=>cases e;exact⟨m'::m::ms,rfl,.swap ..⟩
  |trans p q J9 J'=>intro ms e;obtain⟨o,rfl,h⟩:=J' ms e;obtain⟨o',rfl,h'⟩:=J9 o rfl;exact⟨o',rfl,h'.trans h⟩
 obtain⟨out,rfl,h1⟩:=key h ms rfl;exact⟨out,by unfold ax cQ;rw[Yd];rfl,h1⟩
theorem zX {ms:Sc}{M M0:Mp}{q:QK}{t:DE} {τ:St} (ht:∀k,k (b9 ms) M->t τ M0 k) (hl:ms.length<64) (Uy:∀m∈ms,kd m.2<=50) (h:∀out:Sc,out.Perm ms->bQ (cQ out) M q):lM t τ M0 q:=by
 refine ht _ ⟨by rw[W0];exact hl,λk hk=>?_,λd hd=>?_,λys p=>?_⟩
 ·obtain⟨m,_,rfl⟩:=List.mem_map.mp hk;exact⟨_,rfl⟩
 ·obtain⟨m,hm,rfl⟩:=List.mem_map.mp hd;exact⟨e9 _,W9 (g8 _) (Uy m hm)⟩
 ·rw[oX]at p;obtain⟨out,e,p'⟩:=J8 p;rw[e];exact h out p'
theorem et {xs:List D}{r:Int} (h0:0<=r) (h1:r<xs.length):∃d,cf xs r=some d/\d∈xs:=by
 have hn:r.toNat<xs.length:=by lia
 refine⟨xs[r.toNat],?_,List.getElem_mem hn⟩;unfold cf eK;rw[if_pos h0,if_pos h1];exact W6 hn
theorem Ka {a b:D}{c:Bool}:cf [a,b] (if c=true then 1 else 0)=some (if c=true then b else a):=by cases c <;> rfl
theorem Kb {a b:Int}{c:Bool}:cf [D.int a,D.int b] (if c=true then 1 else 0)=some (.int (if c=true then b else a)):=by cases c <;> rfl
theorem Ty.all {S:Str->Option Kd}{P:Sc->Qn->Kd->Prop}{L:Sc->List (Str×Qn)->List (Str×Kd)->Prop}{C:Sc->Qn->Prop}
    (num:∀{G i},P G (.num i) .num) (word:∀{G s},P G (.word s) .word) (var:∀{G x k},lk x G=some k->P G (.var x) k) (tab:∀{G x k},S x=some k->P G (.tab x) (.ah k))
    (none:∀{G k},gY k=true->kz k<900->P G (.none k) (.ah k)) (row:∀{G fs ks},fs.length<100->("table" : Str) ∉ ks.map (·.1)->L G fs ks->P G (.row fs) (.row ks))
    (gr:∀{G f q ks k},(ks.map (·.1)).Nodup->P G q (.row ks)->lk f ks=some k->P G (.at f q) k) (add:∀{G a b},P G a .num->P G b .num->P G (.add a b) .num) (mul:∀{G a b},P G a .num->P G b .num->P G (.mul a b) .num)
    (one:∀{G q k},P G q k->P G (.one q) (.ah k)) (both:∀{G a b k},kz k<900->P G a (.ah k)->P G b (.ah k)->P G (.both a b) (.ah k)) (times:∀{G i a k},P G a (.ah k)->P G (.times i a) (.ah k))
    (tT:∀{G x a b k l},kd l<=20/\kz l<900->P G a (.ah l)->P ((x,l)::G) b (.ah k)->P G (.for x a b) (.ah k)) (aP:∀{G c a k},C G c->P G a (.ah k)->P G (.aP c a) (.ah k)) (tU:∀{G x a b k l},kd l<=20->P G a l->P ((x,l)::G) b k->P G (.let x a b) k)
    (nil:∀{G},L G [] []) (cons:∀{G f q k r s},P G q k->L G r s->L G ((f,q)::r) ((f,k)::s))
    (gZ:∀{G a b},P G a .num->P G b .num->C G (.same a b)) (g7:∀{G a b},P G a .word->P G b .word->C G (.same a b)) (under:∀{G a b},P G a .num->P G b .num->C G (.under a b))
    (and:∀{G a b},C G a->C G b->C G (.and a b)) (or:∀{G a b},C G a->C G b->C G (.or a b)) (not:∀{G a},C G a->C G (.not a)) :
    (∀{G q k},Ty S G q k->P G q k)/\(∀{G q k},di S G q k->L G q k)/\∀{G q},bX S G q->C G q:=
  ⟨λh=>@Ty.rec S (λG q k _=>P G q k) (λG q k _=>L G q k) (λG q _=>C G q) num word var tab none (λl n _ h=>row l n h) (λn _ e h=>gr n h e) (λ_ _=>add) (λ_ _=>mul) (λ_=>one) (λz _ _=>both z) (λ_=>times) (λz _ _=>tT z) (λ_ _=>aP) (λz _ _=>tU z) nil (λ_ _=>cons) (λ_ _=>gZ) (λ_ _=>g7) (λ_ _=>under) (λ_ _=>and) (λ_ _=>or) (λ_=>not) _ _ _ h,
   λh=>@di.rec S (λG q k _=>P G q k) (λG q k _=>L G q k) (λG q _=>C G q) num word var tab none (λl n _ h=>row l n h) (λn _ e h=>gr n h e) (λ_ _=>add) (λ_ _=>mul) (λ_=>one) (λz _ _=>both z) (λ_=>times) (λz _ _=>tT z) (λ_ _=>aP) (λz _ _=>tU z) nil (λ_ _=>cons) (λ_ _=>gZ) (λ_ _=>g7) (λ_ _=>under) (λ_ _=>and) (λ_ _=>or) (λ_=>not) _ _ _ h,
   λh=>@bX.rec S (λG q k _=>P G q k) (λG q k _=>L G q k) (λG q _=>C G q) num word var tab none (λl n _ h=>row l n h) (λn _ e h=>gr n h e) (λ_ _=>add) (λ_ _=>mul) (λ_=>one) (λz _ _=>both z) (λ_=>times) (λz _ _=>tT z) (λ_ _=>aP) (λz _ _=>tU z) nil (λ_ _=>cons) (λ_ _=>gZ) (λ_ _=>g7) (λ_ _=>under) (λ_ _=>and) (λ_ _=>or) (λ_=>not) _ _ h⟩
def tV (G G':Sc):Prop:=∀x k,lk x G=some k->lk x G'=some k
theorem Ty.mono {S S':Str->Option Kd} (s:∀x k,S x=some k->S' x=some k) {G:Sc}{q:Qn}{k:Kd} (h:Ty S G q k) {G':Sc} (g:∀x k,lk x G=some k->lk x G'=some k):Ty S' G' q k:=
 (Ty.all (P:=λG q k=>∀G',tV G G'->Ty S' G' q k) (L:=λG q k=>∀G',tV G G'->di S' G' q k) (C:=λG q=>∀G',tV G G'->bX S' G' q)
  (λ_ _=>.num) (λ_ _=>.word) (λh _ g=>.var (g _ _ h)) (λh _ _=>.tab (s _ _ h)) (λh z _ _=>.none h z) (λl n h _ g=>.row l n (h _ g)) (λn h e _ g=>.at n (h _ g) e) (λh e _ g=>.add (h _ g) (e _ g)) (λh e _ g=>.mul (h _ g) (e _ g)) (λh _ g=>.one (h _ g)) (λz h e _ g=>.both z (h _ g) (e _ g)) (λh _ g=>.times (h _ g))
  (λz h e _ g=>.for z (h _ g) (e _ (zR g))) (λh e _ g=>.aP (h _ g) (e _ g)) (λz h e _ g=>.let z (h _ g) (e _ (zR g))) (λ_ _=>.nil) (λh e _ g=>.cons (h _ g) (e _ g)) (λh e _ g=>.gZ (h _ g) (e _ g)) (λh e _ g=>.g7 (h _ g) (e _ g)) (λh e _ g=>.under (h _ g) (e _ g)) (λh e _ g=>.and (h _ g) (e _ g)) (λh e _ g=>.or (h _ g) (e _ g)) (λh _ g=>.not (h _ g))).1 h G' g
theorem zY {M:Mp}{p:Addr}{o:MO} (h:M p=none):rm (up M p o) p=M:=funext λb=>by
 by_cases e:b=p
 ·rw[e,mY,h]
 ·rw[p6 e,ay e]
theorem zZ {a:Addr}{d:D}:c6 a d (some (.ref a))=some d:=if_pos rfl
theorem Kc {a b:Addr}{d:D} (h:b≠a):c6 a d (some (.ref b))=some (.ref b):=if_neg h
theorem Ke {P:St->Mp->Prop} {τ:St} {M:Mp}{p:Addr}{kvs:List (Key×D)} (h:M p=none) (q:cO P (τ.map (c6 p (.ak (kvs.map (·.1)) (kvs.map (·.2))))) M):cO P τ (up M p (.ak kvs)):=.ak p kvs ao (by rw[zY h];exact q)
theorem Kf {P:St->Mp->Prop} {τ:St} {M:Mp}{p:Addr}{ds:List D} (h:M p=none) (q:cO P (τ.map (c6 p (.lst ds))) M):cO P τ (up M p (.lst ds)):=.lst p ds ao (by rw[zY h];exact q)
theorem mr {A B:Mp} (h:cx A B) {p:Addr}{o:MO} (e:A p=none) (n:o.tF=true):cx A (up B p o):=⟨λa u z=>by rw[ay (cV z e)];exact h.sub a u z,λa b z q=>by
 by_cases hb:b=p
 ·subst hb;rw[ao]at q;cases q;cases n
 ·rw[ay hb]at q;exact h.own a b z q⟩
theorem cx.no {A B:Mp} (h:cx A B) {p:Addr} (e:B p=none):A p=none:=by
 cases z:A p with
 |none=>rfl
 |some o=>rw[h.sub p o z]at e;cases e
theorem z9 {Q:QK}{M M':Mp}{p:Addr}{ds:List D} (hs:cx M M') (hp:M p=none) (h':M' p=some (.lst ds)) (h:Q (.lst ds) M):aW Q (.ref p) M':=⟨M,_,hs,.lst h' hp .rfl,h⟩
theorem kb {Q:QK}{M M':Mp}{d:D} (hs:cx M M') (h:Q d M):aW Q d M':=⟨M,d,hs,.rfl,h⟩
noncomputable def fe:B->S
 |.cons s _=>s
 |.nil=>.pass
noncomputable def Kg:S->B
 |.cond _ _ b=>b
 |_=>.nil
noncomputable def i3:B->B
 |.cons _ r=>r
 |.nil=>.nil
noncomputable def Kh:S->B
 |.cond _ a _=>a
 |_=>.nil
theorem fI {t u:DS}{e:En} {τ:St} {M:Mp} (h:∀N:St->Mp->Prop,(∀ τ M,u e τ M->N τ M)->t { e with nx:=N } τ M):qe t u e τ M:=h _ λ_ _ z=>z
noncomputable def dD (kvs:List (Key×D)):D:=.ak (kvs.map (·.1)) (kvs.map (·.2))
theorem eu:∀kvs:List (Key×D),(kvs.map (·.1)).zip (kvs.map (·.2))=kvs
 |[]=>rfl
 |(k,d)::r=>by rw[Xe,Xe,Yq,eu r]
theorem oZ {kvs:List (Key×D)}{x:Str}{d:D}{M:Mp}{Q:QK} (h:aK kvs (.inr x)=some d) (q:Q d M):aB (dD kvs) (.str x) M Q:=⟨d,by rw[eu];exact h,q⟩
theorem o6 {kvs:List (Key×D)}{x:Str}{M:Mp}{k:Bool->Prop} (q:k (aK kvs (.inr x)).isSome):fC (.str x) (dD kvs) M k:=by
 refine⟨?_⟩;show k (aK ((kvs.map (·.1)).zip (kvs.map (·.2))) (.inr x)).isSome;rw[eu];exact q
structure Wc (C:Addr) (M0:Mp) (x a b:Addr):Prop where
 hx:∃dx,M0 x=some (.ins C dx [("waiting",.ref a),("found",.ref b)])
 ne:a≠b
 xa:x≠a
 xb:x≠b
noncomputable def Wm (M0:Mp) (a b:Addr) (ws fs:List D):Mp:=up (up M0 a (.lst ws)) b (.lst fs)
theorem kc {M:Mp}{p r:Addr}{o o':MO} (h:p≠r):up (up M p o) r o'=up (up M r o') p o:=by
 funext b;unfold up;by_cases h1:b=r
 ·subst h1;rw[if_pos rfl,if_neg (Ys h),if_pos rfl]
 ·rw[if_neg h1,if_neg h1]
section
variable {C:Addr}{M0:Mp}{x a b:Addr}{ws fs:List D}
theorem Wc.gx (h:Wc C M0 x a b):∃dx,Wm M0 a b ws fs x=some (.ins C dx [("waiting",.ref a),("found",.ref b)]):=let ⟨dx,e⟩:=h.hx;⟨dx,by unfold Wm;rw[ay h.xb,ay h.xa];exact e⟩
theorem Wc.ga (h:Wc C M0 x a b):Wm M0 a b ws fs a=some (.lst ws):=by unfold Wm;rw[ay h.ne];exact ao
theorem Wm.gb:Wm M0 a b ws fs b=some (.lst fs):=ao
theorem Wc.pa (h:Wc C M0 x a b) {cR:List D}:up (Wm M0 a b ws fs) a (.lst cR)=Wm M0 a b cR fs:=by unfold Wm;rw[kc (Ys h.ne),N.b8]
theorem Wm.pb {fs':List D}:up (Wm M0 a b ws fs) b (.lst fs')=Wm M0 a b ws fs':=N.b8
theorem br {m:Str}{d e:D} (h1:(m == "waiting")=false) (h2:(m == "found")=false):[(("waiting" : Str),d),("found",e)].lookup m=none:=by simp [List.lookup,h1,h2]
end
theorem ew {d:D}{r:List D}:cf (d::r) 0=some d:=by
 unfold cf eK;rw[if_pos (by decide),if_pos (by rw[Xd];lia)];rfl
theorem o7 {pre:List D}{d:D}:cf (pre++[d]) (-1)=some d:=by
 unfold cf eK;rw[if_neg (by decide)];have:(pre++[d]).length=pre.length+1:=by simp
 rw[this,if_pos (by lia)];show (pre++[d])[((pre.length+1:Nat)+(-1:Int)).toNat]?=some d;rw[show ((pre.length+1:Nat)+(-1:Int)).toNat=pre.length by lia];simp
theorem Ki {M M':Mp} (h:∀c,M c≠none->M' c=M c) (g:∀c e,M' c=some (.own e)->M e≠none->M c=some (.own e)):cx M M':=⟨λc o e=>by rw[h c (by rw[e];exact XH _)];exact e,λe c n q=>g c e q n⟩
end NQ
end
section
namespace K33
open PySem N NQ
open L2
def aa (i:Nat):Stmt:=PySem.Challenge.pw_keptnest_k33_differences_list.main.body.getD i (.Pass ⟨0,0,0,0⟩)
def nm:Nm:=⟨((["under","with_under","knots","tables","folded","unfold","fold","bound","fields_of","alike","fits","kind_of","begin_kinds","found_kind","bind","finish","plain_kind","row_kind","part_kind","number_kind","none_kind","one_kind","both_kind","last_bag_kind","same_kind","under_kind","truth_kind","difference","kind_of_rows","begin_differences"]:List Str)++(["names_some","is_none","total","both_differences","for_differences","made_for","wrap","behind_less_ahead","behind","differences","kinds_of_changes","_law_seed","_law_draw","_law_key","_law_bag","_law_value","_law_kinds","_law_seen","_law_held","_law_small","_law_claim","_law_over","_law_taken","_law_asked","_law_free","_law_stock","_law_names","law"]:List Str)),((["HAVE_MORE","NUMBER","WORD","TRUTH","FINISHED","SUMS","under","with_under","knots","tables","folded","unfold","fold","bound","fields_of","alike","fits","kind_of","begin_kinds","found_kind","bind","finish","plain_kind","row_kind","part_kind","number_kind","none_kind","one_kind","both_kind","last_bag_kind"]:List Str)++(["same_kind","under_kind","truth_kind","difference","kind_of_rows","begin_differences","names_some","is_none","total","both_differences","for_differences","made_for","wrap","behind_less_ahead","behind","differences","kinds_of_changes","_law_seed","_law_draw","_law_key","_law_bag","_law_value","_law_kinds","_law_seen","_law_held","_law_small","_law_claim","_law_over","_law_taken","_law_asked"]:List Str)++(["_law_free","_law_stock","_law_names","law"]:List Str)),((["Walk"]:List Str)),((["__init__","later","tell","take","run"]:List Str))⟩
def bh (s:Stmt) (i:Nat):Stmt:=match s with
 |.ClassDef _ _ _ b _ _ _ _ _ _ _=>b.getD i (.Pass ⟨0,0,0,0⟩)
 |_=>.Pass ⟨0,0,0,0⟩
def ey:List Ds:=([⟨"under",aa 6,["question"]⟩,⟨"with_under",aa 7,["question","parts"]⟩,⟨"knots",aa 8,["question"]⟩,⟨"tables",aa 9,["question"]⟩,⟨"folded",aa 12,["question","told_of"]⟩,⟨"unfold",aa 13,["walk","question","told_of"]⟩,⟨"fold",aa 14,["walk","question","told_of"]⟩,⟨"bound",aa 15,["names","name","meaning"]⟩,⟨"fields_of",aa 17,["row"]⟩,⟨"alike",aa 18,["one","other"]⟩,⟨"fits",aa 19,["whole","kind","rows_of"]⟩,⟨"kind_of",aa 24,["question","kinds","stock"]⟩,⟨"begin_kinds",aa 25,["walk","question","around"]⟩,⟨"found_kind",aa 27,["kinds","name","path"]⟩,⟨"bind",aa 28,["walk","question","around"]⟩,⟨"finish",aa 29,["walk","question","around"]⟩,⟨"plain_kind",aa 30,["question","below"]⟩,⟨"row_kind",aa 31,["question","below"]⟩,⟨"part_kind",aa 32,["question","below"]⟩,⟨"number_kind",aa 33,["question","below"]⟩,⟨"none_kind",aa 34,["question","below"]⟩,⟨"one_kind",aa 35,["question","below"]⟩,⟨"both_kind",aa 36,["question","below"]⟩,⟨"last_bag_kind",aa 37,["question","below"]⟩,⟨"same_kind",aa 38,["question","below"]⟩,⟨"under_kind",aa 39,["question","below"]⟩,⟨"truth_kind",aa 40,["question","below"]⟩,⟨"difference",aa 43,["question","names","kinds","stock"]⟩,⟨"kind_of_rows",aa 44,["question","kinds","stock"]⟩,⟨"begin_differences",aa 45,["walk","question","names"]⟩]:List Ds)++([⟨"names_some",aa 47,["question","names"]⟩,⟨"is_none",aa 48,["question"]⟩,⟨"total",aa 49,["parts"]⟩,⟨"both_differences",aa 50,["walk","question","names"]⟩,⟨"for_differences",aa 51,["walk","question","names"]⟩,⟨"made_for",aa 52,["name","over","inner"]⟩,⟨"wrap",aa 54,["walk","question","names"]⟩,⟨"behind_less_ahead",aa 55,["question","names"]⟩,⟨"behind",aa 56,["question","names"]⟩,⟨"differences",aa 58,["question","rows","kinds","stock"]⟩,⟨"kinds_of_changes",aa 59,["names","stock"]⟩,⟨"_law_seed",aa 62,["cell"]⟩,⟨"_law_draw",aa 63,["seed","most"]⟩,⟨"_law_key",aa 64,["value"]⟩,⟨"_law_bag",aa 65,["counts"]⟩,⟨"_law_value",aa 70,["kind","seed","deep"]⟩,⟨"_law_kinds",aa 71,[]⟩,⟨"_law_seen",aa 73,["scope"]⟩,⟨"_law_held",aa 74,["kind","scope"]⟩,⟨"_law_small",aa 75,["kind","scope","fuel","seed"]⟩,⟨"_law_claim",aa 76,["scope","fuel","seed"]⟩,⟨"_law_over",aa 77,["scope","fuel","seed"]⟩,⟨"_law_taken",aa 78,["kind","scope","fuel","seed"]⟩,⟨"_law_asked",aa 79,["kind","scope","fuel","seed"]⟩,⟨"_law_free",aa 80,[]⟩,⟨"_law_stock",aa 85,["rows"]⟩,⟨"_law_names",aa 86,["seed","mark"]⟩,⟨"law",aa 88,["script"]⟩]:List Ds)
def o8:List Ds:=([⟨"__init__",(bh (aa 11) 0),["self"]⟩,⟨"later",(bh (aa 11) 1),["self","step","question","around"]⟩,⟨"tell",(bh (aa 11) 2),["self","result"]⟩,⟨"take",(bh (aa 11) 3),["self","many"]⟩,⟨"run",(bh (aa 11) 4),["self"]⟩]:List Ds)
noncomputable def pA:zG:=(J4 (av (aa 18))).get (by kernel_rfl)
theorem hA:av (aa 18)=[.Return (some (.Call (.Name pA.g pA.gp) (pA.as++[.Lambda pA.params pA.body pA.scope pA.lp]) [] pA.Tt)) pA.rp]:=by kernel_rfl
noncomputable def pB:zH:=(J5 (av (aa 56))).get (by kernel_rfl)
def pe:List Str:=["num","word","var","table","none","at","times","for","let"]
def ba (w:Wo) (x:Str):Addr:=match w.G.mg x with
 |some (.ref f)=>f
 |_=>0
def bz:List (Str×Str):=[("num","plain_kind"),("word","plain_kind"),("row","row_kind"),("at","part_kind"),("add","number_kind"),("mul","number_kind"),("none","none_kind"),("one","one_kind"),("both","both_kind"),("times","last_bag_kind"),("for","last_bag_kind"),("when","last_bag_kind"),("same","same_kind"),("under","under_kind"),("and","truth_kind"),("or","truth_kind"),("not","truth_kind")]
def Aa (w:Wo) (t:List (Str×Str)):D:=.ak (t.map λp=>.inr p.1) (t.map λp=>.ref (ba w p.2))
structure Lw (w:Wo):Prop where
 ok:w.Ok
 hn:w.nm=nm
 hd:w.ds=ey
 hms:w.ms=o8
 g0:w.gv.getD 0 .aj=.tup (pe.map D.str)
 g1:w.gv.getD 1 .aj=kD .num
 g2:w.gv.getD 2 .aj=kD .word
 g3:w.gv.getD 3 .aj=.tup [.str "truth"]
 gt:w.gv.getD 4 .aj=Aa w bz
 gs:w.gv.getD 5 .aj=Aa w [("both","both_differences"),("for","for_differences")]
 gb:w.gv.getD 18 .aj=.ref (ba w "begin_kinds")
 gd:w.gv.getD 20 .aj=.ref (ba w "bind")
 gf:w.gv.getD 21 .aj=.ref (ba w "finish")
 Vk:w.gv.getD 11 .aj=.ref (ba w "unfold")
 go:w.gv.getD 12 .aj=.ref (ba w "fold")
 gp:w.gv.getD 42 .aj=.ref (ba w "wrap")
 ga:w.gv.getD 35 .aj=.ref (ba w "begin_differences")
 fw:w.fl (w.ca 0) "waiting"
 ff:w.fl (w.ca 0) "found"
 mc:∀i,i<=4->w.mc i=w.ca 0
 Uz:∀f fd q,dA w.G.K q q (aa 18) f fd->w.G.mg "alike"=some (.ref f)->∃c T,fd.code=.ref c/\er w.G c T pA.lp (q++".<locals>."++"<lambda>")
 UA:∀f fd q,dA w.G.K q q (aa 56) f fd->w.G.mg "behind"=some (.ref f)->∃c T,fd.code=.ref c/\er w.G c T pB.np (q++".<locals>."++pB.name)
theorem er.at {G:Gx}{c T:Addr}{p:Pos}{q:Str} (h:er G c T p q) {e:Fz} (l:Le G.ex e):er { G with ex:=e } c T p q:=⟨h.cd,h.bi,h.T4,l _ _ h.tab⟩
theorem Lw.at {w:Wo} (O:Lw w) {e:Fz} (l:Le w.G.ex e):Lw (w.at e):=
  { O with ok := O.ok.at e
           Uz:=λf fd q h1 h2=>let ⟨c,T,h3,h4⟩:=O.Uz f fd q h1 h2;⟨c,T,h3,er.at h4 l⟩
           UA:=λf fd q h1 h2=>let ⟨c,T,h3,h4⟩:=O.UA f fd q h1 h2;⟨c,T,h3,er.at h4 l⟩ }
variable {w:Wo}
def Kj (a b c d:Int):MO:=.lst [.int a,.int b,.int c,.int d]
def Sd (o:MO):Prop:=∃a b c d,o=Kj a b c d
def Ab:Sp:=λds M Q _=>∃p n o,ds=[.ref p,.int n]/\M p=some o/\Sd o/\0<n/\n<2 ^ 200/\∀r o',Sd o'->0<=r->r<n->Q (.int r) (up M p o')
def Kk:B:=.cons (.ret (.op .Mod (.op .FloorDiv (.v 3) (.c (.int 7))) (.v 1))) .nil
def Kl:B:=.cons (.set (.one 3) (.op .Mod (.op .Mult (.op .Mod (.op .Mult (.v 3) (.v 3)) (.c (.int 2147483629))) (.c (.int 40692))) (.c (.int 2147483399)))) Kk
def Ko:B:=.cons (.set (.one 3) (.op .Mod (.op .Mult (.op .Add (.op .Add (.ix (.v 0) (.c (.int 3))) (.op .Mult (.c (.int 7919)) (.ix (.v 0) (.c (.int 2))))) (.c (.int 1))) (.c (.int 48271))) (.c (.int 2147483647)))) Kl
def Kp:B:=.cons (.cond (.and (.cmp .Eq (.ix (.v 0) (.c (.int 1))) (.c (.int 1))) (.cmp .Gt (.ix (.v 0) (.c (.int 0))) (.c (.int 0)))) (.cons (.set (.one 2) (.op .Mod (.ix (.v 0) (.c (.int 0))) (.v 1))) (.cons (.put (.v 0) (.c (.int 0)) (.op .FloorDiv (.ix (.v 0) (.c (.int 0))) (.v 1))) (.cons (.ret (.v 2)) .nil))) .nil) Ko
def Kq:B:=.cons (.put (.v 0) (.c (.int 2)) (.op .Add (.ix (.v 0) (.c (.int 2))) (.c (.int 1)))) Kp
theorem Kr:aC ["seed","most","found","number"] ["seed","most"] (ag (aa 63)):=⟨rfl,rfl,rfl,by decide +kernel,rfl,by decide +kernel,by decide +kernel⟩
theorem Ks:aF nm 40 ["seed","most","found","number"] (ag (aa 63)) (av (aa 63))=Kq:=by kernel_rfl
def Kt:B:=(.cons (.set (.one 1) (.bi .max (.cons (.v 0) (.cons (.op .Sub (.c (.int 0)) (.v 0)) .nil)))) (.cons (.ret (.lst (.cons (.v 1) (.cons (.bi .int (.cons (.cmp .GtE (.v 1) (.op .Pow (.c (.int 10)) (.c (.int 18)))) .nil)) (.cons (.c (.int 0)) (.cons (.op .Mod (.v 0) (.c (.int 1999999943))) .nil)))))) .nil))
theorem Ku:aC ["cell","number"] ["cell"] (ag (aa 62)):=⟨rfl,rfl,rfl,by decide +kernel,rfl,by decide +kernel,by decide +kernel⟩
theorem Kv:aF nm 40 ["cell","number"] (ag (aa 62)) (av (aa 62))=Kt:=by kernel_rfl
theorem Ac (O:Lw w):FO w 42 1 Ab:=by
 refine aJ O.ok O.hn _ ⟨"_law_draw",aa 63,["seed","most"]⟩ (by rw[O.hd];rfl) {} { cs:=trivial } Kr Ks λds M Q _ h=>?_;obtain⟨p,n,o,rfl,hp,⟨a,b,c,d,rfl⟩,h0,h1,h⟩:=h;refine⟨rfl,?_⟩;refine .inl ⟨_,hp,_,rfl,.inl ⟨_,hp,_,rfl,?_⟩⟩;refine (λrest=>(.inl ⟨_,ao,_,rfl,bw (a3 (λe1=>.inl ⟨_,ao,_,rfl,a3 (λe2=>?_) λe2=>rest⟩) λe1=>az (by decide) rest)⟩)) ?_
 ·refine .inl ⟨_,ao,_,rfl,.inl ⟨_,ao,_,rfl,J7 (by decide),UW (by decide),pz,UW ?_,pz,UW (by decide),pz,⟨by decide,by decide⟩,h0,?_⟩⟩
  ·have:=Int.emod_nonneg ((d+7919 * (c+1)+1) * 48271) (b:=2147483647) (by decide);have:=Int.emod_lt_of_pos ((d+7919 * (c+1)+1) * 48271) (b:=2147483647) (by decide);constructor <;> (dsimp only;lia)
  ·exact ar (h _ _ ⟨_,_,_,_,rfl⟩ (Int.emod_nonneg _ (by lia)) (Int.emod_lt_of_pos _ h0))
 ·refine .inl ⟨_,ao,_,rfl,h0,.inl ⟨_,ao,_,rfl,⟨h0,h1⟩,.inl ⟨_,ao,_,rfl,?_⟩⟩⟩;rw[N.b8];exact ar (h _ _ ⟨_,_,_,_,rfl⟩ (Int.emod_nonneg _ (by lia)) (Int.emod_lt_of_pos _ h0))
def Ad:Sp:=λds M Q _=>∃c,ds=[.int c]/\∀p o,M p=none->Sd o->Q (.ref p) (up M p o)
theorem Kw (O:Lw w):FO w 41 1 Ad:=by
 refine aJ O.ok O.hn _ ⟨"_law_seed",aa 62,["cell"]⟩ (by rw[O.hd];rfl) {} { cs:=trivial } Ku Kv λds M Q _ h=>?_;obtain⟨c,rfl,h⟩:=h;refine⟨rfl,?_⟩;exact⟨⟨by decide,by decide,by decide⟩,pz,l4,.inr λp hp=>ar (h p _ hp ⟨_,_,_,_,rfl⟩)⟩
noncomputable def i4:Kd:=.row [("b",.word),("r",.num)]
noncomputable def fJ:Kd:=.row [("a",.num),("b",.word),("t",.ah .num),("z",.word)]
noncomputable def aM:Sc:=[("r",i4),("s",i4),("t",.num),("u",fJ),("v",.ah .word)]
def mu:Sp:=λds M Q _=>ds=[]/\Q (b9 aM) M
variable {w:Wo}
noncomputable def Kx:B:=.cons (.ret (.sv (.cons (.c (.str "r")) (.cons (.c (.str "s")) (.cons (.c (.str "t")) (.cons (.c (.str "u")) (.cons (.c (.str "v")) .nil))))) (.cons (.v 0) (.cons (.v 0) (.cons (.tup (.cons (.c (.str "num")) .nil)) (.cons (.v 1) (.cons (.tup (.cons (.c (.str "bag")) (.cons (.tup (.cons (.c (.str "word")) .nil)) .nil))) .nil))))))) .nil
noncomputable def Ky:B:=.cons (.set (.one 1) (.tup (.cons (.c (.str "row")) (.cons (.tup (.cons (.tup (.cons (.c (.str "a")) (.cons (.tup (.cons (.c (.str "num")) .nil)) .nil))) (.cons (.tup (.cons (.c (.str "b")) (.cons (.tup (.cons (.c (.str "word")) .nil)) .nil))) (.cons (.tup (.cons (.c (.str "t")) (.cons (.tup (.cons (.c (.str "bag")) (.cons (.tup (.cons (.c (.str "num")) .nil)) .nil))) .nil))) (.cons (.tup (.cons (.c (.str "z")) (.cons (.tup (.cons (.c (.str "word")) .nil)) .nil))) .nil))))) .nil)))) Kx
noncomputable def Kz:B:=.cons (.set (.one 0) (.tup (.cons (.c (.str "row")) (.cons (.tup (.cons (.tup (.cons (.c (.str "b")) (.cons (.tup (.cons (.c (.str "word")) .nil)) .nil))) (.cons (.tup (.cons (.c (.str "r")) (.cons (.tup (.cons (.c (.str "num")) .nil)) .nil))) .nil))) .nil)))) Ky
theorem Ae:aC ["level","deep"] [] (ag (aa 71)):=⟨rfl,rfl,rfl,by decide +kernel,rfl,by decide +kernel,by decide +kernel⟩
theorem Af:aF nm 40 ["level","deep"] (ag (aa 71)) (av (aa 71))=Kz:=by kernel_rfl
noncomputable def KC:B:=.cons (.ret (.oy (.v 1))) .nil
noncomputable def KD:B:=.cons (.loop (.many [2,3]) (.seq (.v 0)) (.cons (.cond (.cmp .NotIn (.v 2) (.v 1)) (.cons (.put (.v 1) (.v 2) (.v 3)) .nil) .nil) .nil)) KC
noncomputable def KG:B:=.cons (.set (.one 1) .ox) KD
theorem KH:aC ["scope","found","name","other"] ["scope"] (ag (aa 73)):=⟨rfl,rfl,rfl,by decide +kernel,rfl,by decide +kernel,by decide +kernel⟩
theorem KJ:aF nm 40 ["scope","found","name","other"] (ag (aa 73)) (av (aa 73))=KG:=by kernel_rfl
theorem Ag:cw (ax aM)=ax aM:=by kernel_rfl
theorem pg (O:Lw w):FO w 46 1 mu:=by
 refine aJ O.ok O.hn _ ⟨"_law_kinds",aa 71,[]⟩ (by rw[O.hd];rfl) {} { cs:=trivial } Ae Af λds M Q _ h=>?_;obtain⟨rfl,h⟩:=h;refine⟨rfl,l1,l2,l1,l2,l2,l2,?_⟩;refine⟨l1,l2,l1,l2,l1,l2,l2,l1,l2,l4,l2,?_⟩;refine⟨l1,l1,l2,.inl ?_⟩;have:aW Q (.ak ((cw (ax aM)).map (·.1)) ((cw (ax aM)).map (·.2))) M:=by rw[Ag,zQ];exact ar h
 exact this
def tW:Sp:=λds M Q _=>∃sc,ds=[a4 sc]/\sc.length<64/\(∀m∈sc,kd m.2<=49)/\∀out:Sc,(∀x k,(x,k)∈out ↔ lk x sc=some k)->out.length<=sc.length->(out.map (·.1)).Nodup->Q (a4 out) M
structure KL (ms done:Sc):Prop where
 nd:(ms.map (·.1)).Nodup
 i5:∀x k,(x,k)∈ms ↔ lk x done=some k
 len:ms.length<=done.length
theorem KN {sc:Sc} (hk:∀m∈sc,kd m.2<=49) {x:Str}{k:Kd} (h:lk x sc=some k):kd k<=49:=hk _ (dZ h)
theorem Ah (O:Lw w):FO w 47 1 tW:=by
 refine aJ O.ok O.hn _ ⟨"_law_seen",aa 73,["scope"]⟩ (by rw[O.hd];rfl) {} { cs:=trivial } KH KJ λds M Q _ h=>?_;obtain⟨sc,rfl,hl,hk,h⟩:=h;refine⟨rfl,.inr λp hp=>?_⟩;refine d0 (λxs τ M'=>∃ms done rest u v,xs=cQ rest/\sc=done++rest/\KL ms done/\τ=[some (a4 sc),some (.ref p),u,v]/\M'=up M p (.ak (ax ms))) ?_ ?_ _ _ _ ⟨[],[],sc,none,none,rfl,rfl,⟨.nil,λx k=>by simp [lk],W3 _⟩,rfl,rfl⟩
 ·rintro τ M' ⟨ms,done,rest,u,v,e1,e2,F,rfl,rfl⟩;cases rest with
  |cons _ _=>cases e1
  |nil=>
   rw[Xo]at e2;subst e2;refine⟨trivial,Ke hp (.rfl ?_)⟩;have Uy:∀m∈ms,kd m.2<=50:=λm hm=>Nat.le_succ_of_le (KN hk ((F.i5 m.1 m.2).mp hm));rw[zQ];show lM (eE 1) _ M _;refine zX (ms:=ms) (M:=M) (λk z=>?_) (Xg F.len hl) Uy λout pm=>.inl (ar (h out (λx k=>(pm.mem_iff).trans (F.i5 x k)) (by rw[pm.length_eq];exact F.len) ((pm.map _).nodup_iff.mpr F.nd)));show eE 1 [c6 p (b9 ms) (some (a4 sc)),c6 p (b9 ms) (some (.ref p)),_,_] M k;rw[zZ];exact z
 ·rintro x xs τ M' ⟨ms,done,rest,u,v,e1,e2,F,rfl,rfl⟩;cases rest with
  |nil=>cases e1
  |cons r rest=>
   cases e1;refine⟨trivial,λN hN=>⟨rfl,⟨.inl ⟨_,ao,?_⟩⟩⟩⟩;have hs:sc=(done++[r])++rest:=(by rw[e2];simp);have eW:(aK (ax ms) (.inr r.1)).isSome=decide (r.1∈ms.map (·.1)):=(by rw[fc,Option.isSome_map,NQ.l9]);have key:∀b:Bool,b=decide (r.1∈ms.map (·.1))->(if (!b)=true then qn nS (eE 1) (eE 2) (kD r.2) [some (a4 sc),some (.ref p),some (.str r.1),some (kD r.2)] (up M p (.ak (ax ms))) N else N [some (a4 sc),some (.ref p),some (.str r.1),some (kD r.2)] (up M p (.ak (ax ms)))):=by
    intro b hb;by_cases hx:r.1∈ms.map (·.1)
    ·rw[decide_eq_true hx]at hb;subst hb;refine az (by decide) (hN _ _ ⟨ms,done++[r],rest,_,_,rfl,hs,⟨F.nd,λx k=>?_,by have:=F.len;simp;lia⟩,rfl,rfl⟩)
     rw[F.i5,oY];obtain⟨m,hm,US⟩:=List.mem_map.mp hx;have:=(F.i5 m.1 m.2).mp hm;constructor
     ·intro z;rw[z];rfl
     ·intro z;cases y:lk x done with
      |some k'=>rw[y]at z;exact z
      |none=>
       rw[y]at z;have z:lk x [r]=some k:=z;rw[lk]at z;split at z
       ·rename_i e;rw[e,<- US,this]at y;cases y
       ·cases z
    ·rw[decide_eq_false hx]at hb;subst hb;refine aX rfl (.inr ⟨_,ao,?_,hN _ _ ⟨ms++[(r.1,r.2)],done++[r],rest,_,_,rfl,hs,⟨?_,λx k=>?_,by have:=F.len;simp;lia⟩,rfl,?_⟩⟩)
     ·have:=F.len;have:done.length<=sc.length:=(by rw[e2];simp);unfold ax;rw[W0];exact Xl (by lia:ms.length<64) (by decide)
     ·rw[Xn];exact zW F.nd hx
     ·rw[oY,YR];constructor
      ·rintro (z |z)
       ·rw[(F.i5 x k).mp z];rfl
       ·cases List.mem_singleton.mp z;cases y:lk r.1 done with
        |none=>show lk r.1 [r]=_;rw[lk,if_pos rfl]
        |some k'=>exact absurd (List.mem_map.mpr ⟨_,(F.i5 r.1 k').mpr y,rfl⟩) hx
      ·intro z;cases y:lk x done with
       |some k'=>rw[y]at z;cases z;exact .inl ((F.i5 x _).mpr y)
       |none=>
        rw[y]at z;have z:lk x [r]=some k:=z;rw[lk]at z;split at z
        ·rename_i e;cases z;subst e;exact .inr (List.mem_singleton.mpr rfl)
        ·cases z
     ·rw[_root_.N.b8,zU hx]
   exact key _ eW
variable {w:Wo}
noncomputable def KO:B:=.cons (.ret (.call 44 (.cons (.v 4) .nil))) .nil
noncomputable def KP:B:=.cons (.loop (.one 5) (.lP (.call 42 (.cons (.v 1) (.cons (.op .Sub (.c (.int 4)) (.v 2)) .nil)))) (.cons (.set (.one 6) (.call 45 (.cons (.ix (.v 0) (.c (.int 1))) (.cons (.v 1) (.cons (.c (.int 1)) .nil))))) (.cons (.ex (.mt .append (.v 4) (.cons (.tup (.cons (.v 6) (.cons (.ix (.lst (.cons (.c (.int 1)) (.cons (.c (.int 2)) (.cons (.neg (.c (.int 1))) (.cons (.neg (.c (.int 3))) (.cons (.op .Sub (.call 42 (.cons (.v 1) (.cons (.op .Pow (.c (.int 10)) (.c (.int 9))) .nil))) (.c (.int 3))) .nil)))))) (.call 42 (.cons (.v 1) (.cons (.c (.int 5)) .nil)))) .nil))) .nil))) .nil))) KO
noncomputable def KQ:B:=.cons (.set (.one 4) (.lst .nil)) KP
noncomputable def KR:B:=.cons (.cond (.cmp .Eq (.ix (.v 0) (.c (.int 0))) (.c (.str "row"))) (.cons (.ret (.tup (.cons (.c (.str "row")) (.cons (.bi .tuple (.cons (.lc 2 [2,1] (.many [0,1]) (.seq (.ix (.v 0) (.c (.int 1)))) .aq (.tup (.cons (.v 0) (.cons (.call 45 (.cons (.v 1) (.cons (.v 3) (.cons (.v 2) .nil)))) .nil)))) .nil)) .nil)))) .nil) .nil) KQ
noncomputable def KU:B:=.cons (.cond (.cmp .Eq (.ix (.v 0) (.c (.int 0))) (.c (.str "word"))) (.cons (.ret (.tup (.cons (.c (.str "word")) (.cons (.ix (.lst (.cons (.c (.str "a")) (.cons (.c (.str "r")) (.cons (.c (.str "ab")) (.cons (.c (.str "dt")) .nil))))) (.call 42 (.cons (.v 1) (.cons (.c (.int 4)) .nil)))) .nil)))) .nil) .nil) KR
noncomputable def KW:B:=.cons (.cond (.cmp .Eq (.ix (.v 0) (.c (.int 0))) (.c (.str "num"))) (.cons (.set (.one 3) (.op .Mult (.call 42 (.cons (.v 1) (.cons (.op .Pow (.c (.int 10)) (.c (.int 9))) .nil))) (.op .Pow (.c (.int 10)) (.c (.int 20))))) (.cons (.ret (.tup (.cons (.c (.str "num")) (.cons (.ix (.lst (.cons (.op .Sub (.call 42 (.cons (.v 1) (.cons (.c (.int 5)) .nil))) (.c (.int 2))) (.cons (.v 3) .nil))) (.bi .int (.cons (.cmp .Eq (.call 42 (.cons (.v 1) (.cons (.c (.int 9)) .nil))) (.c (.int 0))) .nil))) .nil)))) .nil)) .nil) KU
theorem KY:aC ["kind","seed","deep","great","counts","k","value"] ["kind","seed","deep"] (ag (aa 70)):=⟨rfl,rfl,rfl,by decide +kernel,rfl,by decide +kernel,by decide +kernel⟩
theorem KZ:aF nm 40 ["kind","seed","deep","great","counts","k","value"] (ag (aa 70)) (av (aa 70))=KW:=by kernel_rfl
def K1:Sp:=λds M Q _=>∃ κ p Ts o,ds=[kD κ,.ref p,Ts]/\(κ=.num\/κ=.word)/\M p=some o/\Sd o/\∀q o',Sd o'->(∀S G,Ty S G q κ)->((∃i,q=.num i)\/∃s,q=.word s)->Q (qD q) (up M p o')
theorem K2 (O:Lw w):FO w 45 2 K1:=by
 refine aJ O.ok O.hn _ ⟨"_law_value",aa 70,["kind","seed","deep"]⟩ (by rw[O.hd];rfl) { cs:=[(42,Ab)] } { cs:=⟨⟨1,W3 _,Ac O⟩,trivial⟩ } KY KZ λds M Q _ h=>?_;obtain⟨κ,p,Ts,o,rfl,hκ,hp,so,h⟩:=h;rcases hκ with rfl |rfl
 ·refine⟨rfl,_,rfl,au (aX (by decide) ⟨⟨by decide,by decide,by decide⟩,p,_,o,rfl,hp,so,by decide,by decide,λr1 o1 s1 g0 g1=>⟨⟨by decide,by decide,by decide⟩,?_⟩⟩)⟩;have g1:r1<1000000000:=g1;refine⟨.inl (.inl ⟨by lia,by lia⟩),p,_,o1,rfl,ao,s1,by decide,by decide,λr2 o2 s2 _ _=>⟨l2,.inl ?_⟩⟩;refine⟨p,_,o2,rfl,ao,s2,by decide,by decide,λr3 o3 s3 _ _=>bw ⟨_,Kb,l2,?_⟩⟩;rw[N.b8,N.b8];exact ar (h (.num _) o3 s3 (λ_ _=>.num) (.inl ⟨_,rfl⟩))
 ·refine⟨rfl,_,rfl,au (az (by decide) ⟨_,rfl,au (aX (by decide) ⟨l4,.inl ⟨p,_,o,rfl,hp,so,by decide,by decide,λr o' s' r0 r1=>?_⟩⟩)⟩)⟩;obtain⟨d,e1,e2⟩:=et (xs:=[.str "a",.str "r",.str "ab",.str "dt"]) r0 r1;obtain⟨s,rfl⟩:∃s,d=.str s:=by simp at e2;rcases e2 with z |z |z |z <;> exact⟨_,z⟩
  exact⟨_,e1,l2,ar (h (.word s) o' s' (λ_ _=>.word) (.inr ⟨_,rfl⟩))⟩
variable {w:Wo}
noncomputable def AK:List Kd:=[.num,.word,i4,fJ,.ah .num,.ah .word,.ah i4,.ah fJ,.ah (.ah .word)]
theorem ph {k:Kd} (h:k∈AK):kz k<900:=(by decide +kernel:∀k∈AK,kz k<900) k h
theorem fg {k:Kd} (h:k∈AK):kd k<=9:=(by decide +kernel:∀k∈AK,kd k<=9) k h
theorem Ai {k:Kd} (h:k∈AK):gY k=true:=(by decide +kernel:∀k∈AK,gY k=true) k h
theorem Aj:∀{fs:List (Str×Kd)},oS fs=true->("table" : Str) ∉ fs.map (·.1)
 |[],_=>by simp
 |(f,k)::r,h=>by
  rw[oS,W7,W7]at h;exact λz=>(List.mem_cons.mp z).elim (λe=>of_decide_eq_true h.1.1 e.symm) (Aj h.2)
noncomputable def Ak:Kd->Bool
 |.row fs=>decide ((∀p∈fs,p.2∈AK)/\(fs.map (·.1)).Nodup/\fs.length<=4)
 |.ah k=>decide (k∈AK)
 |_=>true
theorem Al {k:Kd} (h:k∈AK):Ak k=true:=(by decide +kernel:∀k∈AK,Ak k=true) k h
theorem tX {fs:List (Str×Kd)} (h:.row fs∈AK):(∀p∈fs,p.2∈AK)/\(fs.map (·.1)).Nodup/\fs.length<=4:=of_decide_eq_true (Al h)
theorem gB {k:Kd} (h:.ah k∈AK):k∈AK:=of_decide_eq_true (Al h)
noncomputable def kS (x:Str):Option Kd:=lk x aM
structure d4 (sc:Sc) (m:Nat):Prop where
 TC:∀p∈sc,p.2∈AK
 len:sc.length+m<=40
 UX:∀p∈sc,p.1≠"w"
theorem d4.kd {sc:Sc}{m:Nat} (h:d4 sc m):∀p∈sc,kd p.2<=49:=λp hp=>by have:=fg (h.TC p hp);lia
structure Hq (κ:Kd) (sc:Sc) (q:Qn):Prop where
 ty:Ty kS sc q κ
 is:(∃x,q=.var x)\/∃f x,q=.at f (.var x)
noncomputable def K3:B:=.cons (.ret (.v 2)) .nil
noncomputable def K4:B:=.cons (.loop (.many [3,4]) (.seq (.call 47 (.cons (.v 1) .nil))) (.cons (.cond (.cmp .Eq (.v 4) (.v 0)) (.cons (.ex (.mt .append (.v 2) (.cons (.tup (.cons (.c (.str "var")) (.cons (.v 3) .nil))) .nil))) .nil) .nil) (.cons (.cond (.cmp .Eq (.ix (.v 4) (.c (.int 0))) (.c (.str "row"))) (.cons (.set (.one 2) (.op .Add (.v 2) (.lc 2 [0,3] (.many [0,1]) (.seq (.ix (.v 4) (.c (.int 1)))) (.cmp .Eq (.v 1) (.v 2)) (.tup (.cons (.c (.str "at")) (.cons (.v 0) (.cons (.tup (.cons (.c (.str "var")) (.cons (.v 3) .nil))) .nil))))))) .nil) .nil) .nil))) K3
noncomputable def K5:B:=.cons (.set (.one 2) (.lst .nil)) K4
theorem K6:aC ["kind","scope","ways","name","other"] ["kind","scope"] (ag (aa 74)):=⟨rfl,rfl,rfl,by decide +kernel,rfl,by decide +kernel,by decide +kernel⟩
theorem K7:aF nm 40 ["kind","scope","ways","name","other"] (ag (aa 74)) (av (aa 74))=K5:=by kernel_rfl
def tY:Sp:=λds M Q _=>∃ κ sc m,ds=[kD κ,a4 sc]/\κ∈AK/\d4 sc m/\∀ws:List Qn,(∀q∈ws,Hq κ sc q)->ws.length<=200->Q (.lst (ws.map qD)) M
theorem Am (O:Lw w):FO w 48 2 tY:=by
 refine aJ O.ok O.hn _ ⟨"_law_held",aa 74,["kind","scope"]⟩ (by rw[O.hd];rfl) { cs:=[(47,tW)] } { cs:=⟨⟨1,W3 _,Ah O⟩,trivial⟩ } K6 K7 λds M Q _ h=>?_;obtain⟨κ,sc,m,rfl,hκ,hs,h⟩:=h;refine⟨rfl,Xk _,.inr λp hp=>?_⟩;refine⟨sc,rfl,by have:=hs.len;lia,hs.kd,λout ho lo _=>?_⟩
 refine d0 (λxs τ M'=>∃rest lw ws u v,xs=cQ rest/\(∀p∈rest,lk p.1 sc=some p.2)/\τ=[some (kD κ),some (a4 sc),some (.ref lw),u,v]/\M lw=none/\M' lw=some (.lst (ws.map qD))/\cx M M'/\(∀q∈ws,Hq κ sc q)/\ws.length+5 * rest.length<=200)
  ?_ ?_ _ _ _ ⟨out,p,[],none,none,rfl,λp hp=>(ho p.1 p.2).mp hp,rfl,hp,ao,tG hp rfl,λq hq=>(nomatch hq),by have:=hs.len;simp;lia⟩
 ·rintro τ M' ⟨rest,lw,ws,u,v,e1,hr,rfl,n1,n2,sb,hw,i6⟩;exact⟨trivial,.rfl (z9 sb n1 n2 (h ws hw (by lia)))⟩
 ·rintro x xs τ M' ⟨rest,lw,ws,u,v,e1,hr,rfl,n1,n2,sb,hw,i6⟩;cases rest with
  |nil=>cases e1
  |cons r rest=>
   cases e1;have hlk:=hr r W';have a1:∀p∈rest,lk p.1 sc=some p.2:=λp hp=>hr p (W8 _ hp);have An:r.2∈AK:=hs.TC _ (dZ hlk);refine⟨trivial,λN hN=>⟨rfl,?_⟩⟩;refine fI λN2 mo=>?_;have go:∀(M1:Mp) (g9:List Qn),M1 lw=some (.lst (g9.map qD))->cx M M1->(∀q∈g9,Hq κ sc q)->g9.length<=ws.length+1->N2 [some (kD κ),some (a4 sc),some (.ref lw),some (.str r.1),some (kD r.2)] M1:=by
    intro M1 g9 g1 g2 g4 g5;refine mo _ _ ?_;cases hk:r.2 with
    |row fs=>
     obtain⟨f1,f2,f3⟩:=tX (hk ▸ An);refine⟨_,rfl,au (aX (by decide) ⟨_,rfl,?_⟩)⟩;refine e8 (λxs ys M2=>M2=M1/\∃cr vs,xs=bN cr/\ys=vs.map qD/\(∀p∈cr,p∈fs)/\(∀q∈vs,Hq κ sc q)/\vs.length+cr.length<=4) ?_ ?_ _ _ _ ⟨rfl,fs,[],rfl,rfl,λp h=>h,λq h=>(nomatch h),by simpa using f3⟩
     ·rintro ys M2 ⟨rfl,cr,vs,_,rfl,h2,h3,h4⟩;refine⟨trivial,Xg (by rw[W0];lia:_<=4) (by decide),.inl ?_⟩;refine⟨_,g1,W9 (by simp at i6 ⊢;lia:_<=300) (by decide),.inr λp4 Ao=>?_⟩;refine hN _ _ ⟨rest,p4,g9++vs,_,_,rfl,a1,rfl,cx.no g2 Ao,by rw[ao,Xn],mr g2 (cx.no g2 Ao) rfl,λq hq=>(List.mem_append.mp hq).elim (g4 q) (h3 q),by simp at i6 ⊢;lia⟩
     ·rintro x xs ys M2 ⟨rfl,cr,vs,e1,rfl,h2,h3,h4⟩;cases cr with
      |nil=>cases e1
      |cons g cr=>
       obtain⟨gf,gk⟩:=g;rw[bN]at e1;cases e1;have hm:=h2 _ W';refine⟨trivial,Xg (by rw[W0];lia:_<=4) (by decide),λN4 Ap=>⟨rfl,ka (by have:kd gk<=9:=fg (f1 _ hm);lia) (a3 (λe=>?_) λe=>?_)⟩⟩
       ·have e:=of_decide_eq_true e;have:=Ap (vs.map qD++[qD (.at gf (.var r.1))]) M2 ⟨rfl,cr,vs++[.at gf (.var r.1)],rfl,by rw[Xn];rfl,λp h=>h2 p (W8 _ h),λq hq=>?_,by simp at h4 ⊢;lia⟩
        ·exact⟨l2,l3,this⟩
        ·rcases List.mem_append.mp hq with z |z
         ·exact h3 q z
         ·rw[List.mem_singleton.mp z];exact⟨.at f2 (.var (by rw[hlk,hk])) (by rw[tS f2 hm,e]),.inr ⟨_,_,rfl⟩⟩
       ·exact Ap _ _ ⟨rfl,cr,vs,rfl,rfl,λp h=>h2 p (W8 _ h),h3,by simp at h4 ⊢;lia⟩
    |num=>exact⟨_,rfl,au (az (by decide) (hN _ _ ⟨rest,lw,g9,_,_,rfl,a1,rfl,n1,g1,g2,g4,by simp at i6;lia⟩))⟩
    |word=>exact⟨_,rfl,au (az (by decide) (hN _ _ ⟨rest,lw,g9,_,_,rfl,a1,rfl,n1,g1,g2,g4,by simp at i6;lia⟩))⟩
    |ah k=>exact⟨_,rfl,au (az (by decide) (hN _ _ ⟨rest,lw,g9,_,_,rfl,a1,rfl,n1,g1,g2,g4,by simp at i6;lia⟩))⟩
   refine ka (by have:=fg An;lia) (a3 (λe=>?_) λe=>go M' ws n2 sb hw (by lia))
   have e:=of_decide_eq_true e;refine⟨.inl ⟨rfl,_,n2⟩,l2,_,n2,Xg (by simp at i6 ⊢;lia:_<=200) (by decide),go _ (ws++[.var r.1]) ?_ ?_ ?_ (by simp)⟩
   ·rw[ao,Xn];rfl
   ·exact mr sb n1 rfl
   ·intro q hq;rcases List.mem_append.mp hq with z |z
    ·exact hw q z
    ·rw[List.mem_singleton.mp z];exact⟨.var (by rw[hlk,e]),.inl ⟨_,rfl⟩⟩
variable {w:Wo}
def Hs (M:Mp) (p:Addr):Prop:=∃o,M p=some o/\Sd o
def Sx (M:Mp) (p:Addr) (X:Mp):Prop:=∃o,Sd o/\X=up M p o
theorem Aq {M:Mp}{p:Addr}{o:MO} (h:M p=some o):up M p o=M:=funext λb=>by
 by_cases e:b=p
 ·rw[e,ao,h]
 ·rw[ay e]
theorem Sx.rfl {M:Mp}{p:Addr} (h:Hs M p):Sx M p M:=let ⟨o,h1,h2⟩:=h;⟨o,h2,(Aq h1).symm⟩
theorem Sx.hs {M X:Mp}{p:Addr} (h:Sx M p X):Hs X p:=let ⟨o,h1,h2⟩:=h;⟨o,by rw[h2];exact ao,h1⟩
theorem Sx.tr {M X Y:Mp}{p:Addr} (h:Sx M p X) (g:Sx X p Y):Sx M p Y:=by
 obtain⟨o,h1,rfl⟩:=h;obtain⟨o',h2,rfl⟩:=g;exact⟨o',h2,N.b8⟩
theorem Sx.ne {M X:Mp}{p a:Addr} (h:Sx M p X) (n:a≠p):X a=M a:=by obtain⟨o,_,rfl⟩:=h;exact ay n
def g':Sp:=λds M Q _=>∃p n,ds=[.ref p,.int n]/\Hs M p/\0<n/\n<2 ^ 200/\∀r X,Sx M p X->0<=r->r<n->Q (.int r) X
theorem i7 (O:Lw w):FO w 42 1 g':=(Ac O).imp λds M Q E ⟨p,n,e,⟨o,h1,h2⟩,h3,h4,h⟩=>⟨p,n,o,e,h1,h2,h3,h4,λr o' s=>h r _ ⟨o',s,rfl⟩⟩
def Ar:Sp:=λds M Q _=>∃ κ p Ts,ds=[kD κ,.ref p,Ts]/\(κ=.num\/κ=.word)/\Hs M p/\∀q X,Sx M p X->(∀S G,Ty S G q κ)->((∃i,q=.num i)\/∃s,q=.word s)->Q (qD q) X
theorem K8 (O:Lw w):FO w 45 2 Ar:=(K2 O).imp λds M Q E ⟨κ,p,Ts,e,h0,⟨o,h1,h2⟩,h⟩=>⟨κ,p,Ts,o,e,h0,h1,h2,λq o' s=>h q _ ⟨o',s,rfl⟩⟩
mutual
noncomputable def dq:Qn->Nat
 |.num _=>1 |.word _=>1 |.var _=>1 |.tab _=>1
 |.none k=>1+kd k
 |.row fs=>3+bA fs
 |.at _ q=>1+dq q
 |.add a b=>1+max (dq a) (dq b)
 |.mul a b=>1+max (dq a) (dq b)
 |.one a=>1+dq a
 |.both a b=>1+max (dq a) (dq b)
 |.times _ a=>1+dq a
 |.for _ a b=>9+max (dq a) (dq b)
 |.aP a b=>1+max (dq a) (dq b)
 |.let _ a b=>1+max (dq a) (dq b)
 |.same a b=>1+max (dq a) (dq b)
 |.under a b=>1+max (dq a) (dq b)
 |.and a b=>1+max (dq a) (dq b)
 |.or a b=>1+max (dq a) (dq b)
 |.not a=>1+dq a
noncomputable def bA:List (Str×Qn)->Nat
 |[]=>0
 |(_,q)::r=>max (dq q) (bA r)
end
mutual
noncomputable def zk:Kd->Nat
 |.num=>2 |.word=>2
 |.row fs=>1+pj fs
 |.ah k=>1+zk k
noncomputable def pj:List (Str×Kd)->Nat
 |[]=>0
 |(_,k)::r=>zk k+pj r
end
mutual
noncomputable def Tu:Kd->Nat
 |.num=>2 |.word=>2
 |.row fs=>3+pq fs
 |.ah k=>max (1+Tu k) (1+kd k)
noncomputable def pq:List (Str×Kd)->Nat
 |[]=>0
 |(_,k)::r=>max (Tu k) (pq r)
end
noncomputable def zf:Nat->Nat
 | 0=>14
 |f+1=>5 * zf f+40
noncomputable def nB (f:Int) (k:Kd):Nat:=if f<=0 then zk k else zf f.toNat
noncomputable def dB (f:Int) (k:Kd):Nat:=if f<=0 then Tu k else 9 * f.toNat+9
theorem pv {k:Kd} (h:k∈AK):2<=zk k/\zk k<=14/\2<=Tu k/\Tu k<=9/\1<=kd k:=by
 have:∀k∈AK,2<=zk k/\zk k<=14/\2<=Tu k/\Tu k<=9/\1<=kd k:=by decide +kernel
 exact this k h
theorem i8:∀f,14<=zf f
 | 0=>W3 _
 |f+1=>by have:=i8 f;rw[zf];lia
theorem tZ {f g:Nat} (h:f<=g):zf f<=zf g:=by
 induction h with
 |refl=>exact W3 _
 |step _ ih=>rw[zf];lia
theorem fK {f:Int}{k:Kd} (h:k∈AK):2<=nB f k/\nB f k<=zf f.toNat/\2<=dB f k/\dB f k<=9 * f.toNat+9:=by
 obtain⟨h1,h2,h3,h4,_⟩:=pv h;have:=i8 f.toNat;unfold nB dB;split
 ·lia
 ·exact⟨by lia,W3 _,by lia,W3 _⟩
structure GQ (f:Int) (κ:Kd) (sc:Sc) (q:Qn):Prop where
 ty:Ty kS sc q κ
 n:nq q<=nB f κ
 d:dq q<=dB f κ
def Rk (n:Nat) (f:Int) (κ:Kd) (t:Nat):Prop:=20 * f.toNat+2 * kd κ+t<=n
noncomputable def Tv:Kd->Nat
 |.ah _=>0
 |_=>2
theorem t4 {k:Kd}:Tv k<=2:=by cases k <;> simp [Tv]
theorem d4.dj {sc:Sc}{m k:Nat} (h:d4 sc m) (hk:k<=m):d4 sc k:=⟨h.TC,by have:=h.len;lia,h.UX⟩
def hB (n:Nat):Sp:=λds M Q _=>∃ κ sc f p,ds=[kD κ,a4 sc,.int f,.ref p]/\κ∈AK/\Rk n f κ 1/\d4 sc f.toNat/\Hs M p/\∀q X,Sx M p X->GQ f κ sc q->Q (qD q) X
def fh (n:Nat):Sp:=λds M Q _=>∃ κ sc f p,ds=[kD κ,a4 sc,.int f,.ref p]/\κ∈AK/\Rk n f κ (Tv κ)/\d4 sc f.toNat/\Hs M p/\∀q X,Sx M p X->GQ f κ sc q->Q (qD q) X
theorem K9 {f:Int}{k:Kd} (h:k∈AK):∀{q:Qn}{sc:Sc},GQ (f-1) k sc q->GQ f k sc q:=λ{q sc} g=>by
 have z:=tZ (show (f-1).toNat<=f.toNat by lia);obtain⟨h1,h2,h3,h4,_⟩:=pv h;have K':=i8 f.toNat;refine⟨g.ty,W9 g.n ?_,W9 g.d ?_⟩
 ·unfold nB;split <;> split <;> lia
 ·unfold dB;split <;> split <;> lia
noncomputable def sB (f:Int):List (Str×Kd)->Nat
 |[]=>0
 |(_,k)::r=>nB f k+sB f r
noncomputable def mB (f:Int):List (Str×Kd)->Nat
 |[]=>0
 |(_,k)::r=>max (dB f k) (mB f r)
theorem As {f:Int}{x:Str}{k:Kd}:∀{a:List (Str×Kd)},sB f (a++[(x,k)])=sB f a+nB f k
 |[]=>by simp [sB]
 |(_,l)::r=>by rw[YF,sB,sB,As];lia
theorem Au {f:Int}{x:Str}{k:Kd}:∀{a:List (Str×Kd)},mB f (a++[(x,k)])=max (mB f a) (dB f k)
 |[]=>by simp [mB]
 |(_,l)::r=>by rw[YF,mB,mB,Au,Nat.max_assoc]
theorem Av {x:Str}{k:Qn}:∀{a:List (Str×Qn)},bR (a++[(x,k)])=bR a+nq k
 |[]=>by simp [bR]
 |(_,l)::r=>by rw[YF,bR,bR,Av];lia
theorem Aw {x:Str}{k:Qn}:∀{a:List (Str×Qn)},bA (a++[(x,k)])=max (bA a) (dq k)
 |[]=>by simp [bA]
 |(_,l)::r=>by rw[YF,bA,bA,Aw,Nat.max_assoc]
theorem Ax {x:Str}{k:Qn}:∀{a:List (Str×Qn)},bq (a++[(x,k)])=bq a++[.tup [.str x,qD k]]
 |[]=>by simp [bq]
 |(_,l)::r=>by rw[YF,bq,bq,Ax];rfl
theorem Ay {S:Str->Option Kd}{G:Sc}{x:Str}{q:Qn}{k:Kd} (h:Ty S G q k):∀{a:List (Str×Qn)}{b:List (Str×Kd)},di S G a b->di S G (a++[(x,q)]) (b++[(x,k)])
 |_,_,.nil=>.cons h .nil
 |_,_,.cons t r=>.cons t (Ay h r)
theorem px:∀{a:List (Str×Qn)},(bq a).length=a.length
 |[]=>by rw[bq];rfl
 |(_,_)::r=>by rw[bq,Xd,Xd,px]
theorem t6 {S:Str->Option Kd}{G:Sc}:∀{a:List (Str×Qn)}{b:List (Str×Kd)},di S G a b->a.length=b.length
 |_,_,.nil=>rfl
 |_,_,.cons _ r=>by rw[Xd,Xd,t6 r]
theorem La {f:Int}{fs:List (Str×Kd)} (h:.row fs∈AK):1+sB (f-1) fs<=nB f (.row fs)/\3+mB (f-1) fs<=dB f (.row fs):=by
 obtain⟨f1,_,f3⟩:=tX h;by_cases hf:f<=0
 ·have key:∀ fs:List (Str×Kd),sB (f-1) fs=pj fs/\mB (f-1) fs=pq fs:=by
   intro fs
   induction fs with
   |nil=>exact⟨rfl,rfl⟩
   |cons p r ih=>
    obtain⟨x,k⟩:=p;rw[sB,mB,pj,pq,ih.1,ih.2];unfold nB dB;rw[if_pos (by lia),if_pos (by lia)];exact⟨rfl,rfl⟩
  unfold nB dB;rw[if_pos hf,if_pos hf,zk,Tu,(key fs).1,(key fs).2];exact⟨W3 _,W3 _⟩
 ·have key:∀ fs:List (Str×Kd),(∀ p∈fs,p.2∈AK)->sB (f-1) fs<=fs.length * zf (f-1).toNat/\mB (f-1) fs<=9 * (f-1).toNat+9:=by
   intro fs
   induction fs with
   |nil=>exact λ_=>⟨by rw[sB];lia,by rw[mB];lia⟩
   |cons p r ih=>
    intro hp;obtain⟨x,k⟩:=p;have:=ih λp h=>hp p (W8 _ h);have hb:=fK (f:=f-1) (k:=k) (hp (x,k) W');rw[sB,mB,Xd,Nat.succ_mul];lia
  obtain⟨k1,k2⟩:=key fs f1;have k3:fs.length * zf (f-1).toNat<=4 * zf (f-1).toNat:=Nat.mul_le_mul_right _ f3;obtain⟨g,hg⟩:∃g:Nat,f=(g:Int)+1:=⟨(f-1).toNat,by lia⟩;subst hg;unfold nB dB;rw[if_neg hf,if_neg hf,show ((g:Int)+1).toNat=g+1 from rfl,zf];have:((g:Int)+1-1).toNat=g:=by lia
  rw[this]at k1 k2 k3;lia
theorem Az {gf:Str}{gk:Kd}:∀{fs:List (Str×Kd)},(gf,gk)∈fs->kd gk<=j' fs
 |(y,l)::r,z=>by
  rw[j'];rcases List.mem_cons.mp z with z |z
  ·cases z;lia
  ·have:=Az z;lia
noncomputable def Lb:B:=.cons (.ret (.call 45 (.cons (.v 0) (.cons (.v 3) (.cons (.c (.int 1)) .nil))))) .nil
noncomputable def Lc:B:=.cons (.cond (.and (.cmp .Eq (.ix (.v 0) (.c (.int 0))) (.c (.str "num"))) (.and (.cmp .Gt (.v 2) (.c (.int 0))) (.cmp .Eq (.call 42 (.cons (.v 3) (.cons (.c (.int 3)) .nil))) (.c (.int 0))))) (.cons (.set (.one 5) (.call 49 (.cons (.v 0) (.cons (.v 1) (.cons (.op .Sub (.v 2) (.c (.int 1))) (.cons (.v 3) .nil)))))) (.cons (.ret (.tup (.cons (.ix (.lst (.cons (.c (.str "add")) (.cons (.c (.str "mul")) .nil))) (.call 42 (.cons (.v 3) (.cons (.c (.int 2)) .nil)))) (.cons (.v 5) (.cons (.call 49 (.cons (.v 0) (.cons (.v 1) (.cons (.op .Sub (.v 2) (.c (.int 1))) (.cons (.v 3) .nil))))) .nil))))) .nil)) .nil) Lb
noncomputable def Ld:B:=.cons (.cond (.cmp .Eq (.ix (.v 0) (.c (.int 0))) (.c (.str "row"))) (.cons (.ret (.tup (.cons (.c (.str "row")) (.cons (.bi .tuple (.cons (.lc 2 [2,1,3] (.many [0,1]) (.seq (.ix (.v 0) (.c (.int 1)))) .aq (.tup (.cons (.v 0) (.cons (.call 53 (.cons (.v 1) (.cons (.v 3) (.cons (.op .Sub (.v 2) (.c (.int 1))) (.cons (.v 4) .nil))))) .nil)))) .nil)) .nil)))) .nil) .nil) Lc
noncomputable def Lf:B:=.cons (.cond (.cmp .Eq (.ix (.v 0) (.c (.int 0))) (.c (.str "bag"))) (.cons (.ret (.call 53 (.cons (.v 0) (.cons (.v 1) (.cons (.op .Sub (.v 2) (.c (.int 1))) (.cons (.v 3) .nil)))))) .nil) .nil) Ld
noncomputable def AA:B:=.cons (.cond (.and (.cmp .NotEq (.v 4) (.lst .nil)) (.cmp .Gt (.call 42 (.cons (.v 3) (.cons (.c (.int 4)) .nil))) (.c (.int 0)))) (.cons (.ret (.ix (.v 4) (.call 42 (.cons (.v 3) (.cons (.bi .len (.cons (.v 4) .nil)) .nil))))) .nil) .nil) Lf
noncomputable def Lg:B:=.cons (.set (.one 4) (.call 48 (.cons (.v 0) (.cons (.v 1) .nil)))) AA
theorem Lh:aC ["kind","scope","fuel","seed","ways","one"] ["kind","scope","fuel","seed"] (ag (aa 75)):=⟨rfl,rfl,rfl,by decide +kernel,rfl,by decide +kernel,by decide +kernel⟩
theorem Li:aF nm 40 ["kind","scope","fuel","seed","ways","one"] (ag (aa 75)) (av (aa 75))=Lg:=by kernel_rfl
noncomputable abbrev UY (n:Nat):a8 w:={ cs:=[(48,tY),(42,g'),(53,fh n),(49,hB n),(45,Ar)] }
theorem Lj (O:Lw w) {n:Nat} (hs:FO w 49 (n+4) (hB n)) (ha:FO w 53 (n+4) (fh n)):FO w 49 (n+5) (hB (n+1)):=by
 refine aJ O.ok O.hn _ ⟨"_law_small",aa 75,["kind","scope","fuel","seed"]⟩ (by rw[O.hd];rfl) (UY n) { cs:=⟨⟨2,by lia,Am O⟩,⟨1,by lia,i7 O⟩,⟨n+4,W3 _,ha⟩,⟨n+4,W3 _,hs⟩,⟨2,by lia,K8 O⟩,trivial⟩ } Lh Li λds M Q _ h=>?_;obtain⟨κ,sc,f,p,rfl,hκ,rk,am,hp,h⟩:=h;have nb:=fK (f:=f) hκ;have fin:∀X q,Sx M p X->GQ f κ sc q->aW Q (qD q) X:=λX q u g=>ar (h q X u g);refine⟨rfl,κ,sc,_,rfl,hκ,am,λws hw lw=>?_⟩;show B.w (UY (w:=w) n).wd nm.ai AA (a' Q) [some (kD κ),some (a4 sc),some (.int f),some (.ref p),some (.lst (ws.map qD)),none] M;refine fI λN2 mo=>?_;have go:∀X,Sx M p X->N2 [some (kD κ),some (a4 sc),some (.int f),some (.ref p),some (.lst (ws.map qD)),none] X:=by
  intro X u;refine mo _ _ ?_;cases κ with
  |ah k=>
   exact⟨_,rfl,au (aX (by decide) ⟨.ah k,sc,f-1,p,rfl,hκ,by unfold Rk at rk ⊢;rw[Tv];lia,am.dj (by lia),u.hs,λq Y u2 g=>fin _ q (u.tr u2) (K9 hκ g)⟩)⟩
  |row fs=>
   obtain⟨f1,f2,f3⟩:=tX hκ;refine⟨_,rfl,au (az (by decide) ⟨_,rfl,au (aX (by decide) ⟨_,rfl,?_⟩)⟩)⟩;refine e8 (λxs ys Y=>∃cr qs pre,xs=bN cr/\fs=pre++cr/\ys=bq qs/\di kS sc qs pre/\bR qs<=sB (f-1) pre/\bA qs<=mB (f-1) pre/\Sx M p Y) ?_ ?_ _ _ _ ⟨fs,[],[],rfl,rfl,rfl,.nil,W3 _,W3 _,u⟩
   ·rintro ys Y ⟨cr,qs,pre,e1,e2,rfl,t1,t2,t3,uY⟩;cases cr with
    |cons g cr=>obtain⟨gf,gk⟩:=g;rw[bN]at e1;cases e1
    |nil=>
     rw[Xo]at e2;subst e2;have ln:(bq qs).length<=4:=(by rw[px,t6 t1];exact f3);obtain⟨b1,b2⟩:=La (f:=f) hκ;refine⟨trivial,Xg ln (by decide),.inl ⟨l2,fin _ (.row qs) uY ⟨.row (by rw[px]at ln;lia) (Aj (by have:=Ai hκ;rw[gY]at this;exact this)) t1,by rw[nq];lia,by rw[dq];lia⟩⟩⟩
   ·rintro x xs ys Y ⟨cr,qs,pre,e1,e2,rfl,t1,t2,t3,uY⟩;cases cr with
    |nil=>cases e1
    |cons g cr=>
     obtain⟨gf,gk⟩:=g;rw[bN]at e1;cases e1;have hm:(gf,gk)∈fs:=(by rw[e2];simp);have Lk:=f1 _ hm;have ln:(bq qs).length<=4:=(by rw[px,t6 t1];rw[e2]at f3;simp at f3;lia);have kk:kd gk+3<=kd (.row fs):=by rw[kd];have:=Az hm;lia
     refine⟨trivial,Xg ln (by decide),λN4 h4=>⟨rfl,gk,sc,f-1,p,rfl,Lk,by have:=@t4 gk;unfold Rk at rk ⊢;lia,am.dj (by lia),uY.hs,λq Z u3 g=>?_⟩⟩
     have:=h4 (bq qs++[.tup [.str gf,qD q]]) _ ⟨cr,qs++[(gf,q)],pre++[(gf,gk)],rfl,by rw[e2];simp,by rw[Ax],Ay g.ty t1,by rw[Av,As];have:=g.n;lia,by rw[Aw,Au];have:=g.d;lia,uY.tr u3⟩
     exact⟨l2,this⟩
  |num=>
   have gv:∀X,Sx M p X->B.w (UY (w:=w) n).wd nm.ai (.cons (.ret (.call 45 (.cons (.v 0) (.cons (.v 3) (.cons (.c (.int 1)) .nil))))) .nil) (a' Q) [some (kD .num),some (a4 sc),some (.int f),some (.ref p),some (.lst (ws.map qD)),none] X:=λX u=>
    ⟨.num,p,_,rfl,.inl rfl,u.hs,λq Y u2 ty lit=>fin _ q (u.tr u2) ⟨ty _ _,by rcases lit with ⟨i,rfl⟩ |⟨i,rfl⟩ <;> (rw[nq];lia),by rcases lit with ⟨i,rfl⟩ |⟨i,rfl⟩ <;> (rw[dq];lia)⟩⟩
   refine⟨_,rfl,au (az (by decide) ⟨_,rfl,au (az (by decide) ⟨_,rfl,au (aX (by decide) (a3 (λe1=>?_) λe1=>az (by decide) (gv X u)))⟩)⟩)⟩;have fp:0<f:=of_decide_eq_true e1;refine⟨p,3,rfl,u.hs,by decide,by decide,λr1 X1 u1 _ _=>bw (a3 (λe2=>?_) λe2=>gv _ (u.tr u1))⟩;have AB:Rk n (f-1) .num 1:=(by unfold Rk at rk ⊢;lia);refine⟨.num,sc,f-1,p,rfl,hκ,AB,am.dj (by lia),u1.hs,λqa X2 u2 ga=>?_⟩;refine⟨l2,.inl ⟨p,2,rfl,u2.hs,by decide,by decide,λr2 X3 u3 mv i9=>?_⟩⟩;obtain⟨d,e3,e4⟩:=et (xs:=[.str "add",.str "mul"]) mv i9;refine⟨d,e3,?_⟩;refine⟨.num,sc,f-1,p,rfl,hκ,AB,am.dj (by lia),u3.hs,λqb X4 u4 gb=>⟨l3,?_⟩⟩;have UB:1+nq qa+nq qb<=nB f .num/\1+max (dq qa) (dq qb)<=dB f .num:=by
    have h1:=ga.n;have h2:=gb.n;have h3:=ga.d;have h4:=gb.d
    have hb:=fK (f:=f-1) (k:=.num) hκ;obtain⟨g,hg⟩:∃g:Nat,f=(g:Int)+1:=⟨(f-1).toNat,by lia⟩;subst hg;rw[show ((g:Int)+1-1).toNat=g by lia]at hb;unfold nB dB;rw[if_neg (by lia),if_neg (by lia),show ((g:Int)+1).toNat=g+1 from rfl,zf];lia
   have uu:=(((u.tr u1).tr u2).tr u3).tr u4;simp only[XI,Xq,or_false]at e4;rcases e4 with rfl |rfl
   ·exact fin _ (.add qa qb) uu ⟨.add ga.ty gb.ty,by rw[nq];exact UB.1,by rw[dq];exact UB.2⟩
   ·exact fin _ (.mul qa qb) uu ⟨.mul ga.ty gb.ty,by rw[nq];exact UB.1,by rw[dq];exact UB.2⟩
  |word=>
   refine⟨_,rfl,au (az (by decide) ⟨_,rfl,au (az (by decide) ⟨_,rfl,au (az (by decide) ?_)⟩)⟩)⟩;exact az (by decide) ⟨.word,p,_,rfl,.inr rfl,u.hs,λq Y u2 ty lit=>fin _ q (u.tr u2) ⟨ty _ _,by rcases lit with ⟨i,rfl⟩ |⟨i,rfl⟩ <;> (rw[nq];lia),by rcases lit with ⟨i,rfl⟩ |⟨i,rfl⟩ <;> (rw[dq];lia)⟩⟩
 refine⟨Xk _,.inl (oV (a3 (λe1=>?_) λe1=>az (by decide) (go M (.rfl hp))))⟩;have AC:0<ws.length:=by
  cases ws with
  |nil=>simp at e1
  |cons _ _=>simp
 refine⟨p,4,rfl,hp,by decide,by decide,λr1 X1 u1 _ _=>a3 (λe2=>?_) λe2=>go _ u1⟩;refine⟨p,_,rfl,u1.hs,by rw[W0];lia,?_,λr X2 u2 r0 AD=>?_⟩
 ·rw[W0];exact Int.lt_of_le_of_lt (by lia:_<=(200:Int)) (by decide)
 rw[W0]at AD;obtain⟨d,e3,e4⟩:=et (xs:=ws.map qD) r0 (by rw[W0];exact AD);obtain⟨q,hq,rfl⟩:=List.mem_map.mp e4;have hq':=hw q hq;refine⟨_,e3,fin _ q (u1.tr u2) ⟨hq'.ty,?_,?_⟩⟩
 ·rcases hq'.is with ⟨x,rfl⟩ |⟨f,x,rfl⟩
  ·rw[nq];lia
  ·rw[nq,nq];lia
 ·rcases hq'.is with ⟨x,rfl⟩ |⟨f,x,rfl⟩
  ·rw[dq];lia
  ·rw[dq,dq];lia
variable {w:Wo}
def ke (n:Nat):Sp:=λds M Q _=>∃sc f p,ds=[a4 sc,.int f,.ref p]/\0<=f/\f<=1/\f.toNat+4<=n/\d4 sc 0/\Hs M p/\∀q X,Sx M p X->bX kS sc q->nq q<=8+9 * f.toNat->dq q<=7+f.toNat->Q (qD q) X
noncomputable def t7:B:=.cons (.ret (.tup (.cons (.v 6) (.cons (.v 4) (.cons (.call 49 (.cons (.v 5) (.cons (.v 0) (.cons (.c (.int 0)) (.cons (.v 2) .nil))))) .nil))))) .nil
noncomputable def Ll:B:=.cons (.set (.one 6) (.ix (.lst (.cons (.c (.str "same")) (.cons (.c (.str "under")) .nil))) (.bi .int (.cons (.and (.cmp .Eq (.v 5) (.tup (.cons (.c (.str "num")) .nil))) (.cmp .Gt (.v 3) (.c (.int 3)))) .nil)))) t7
noncomputable def AE:B:=.cons (.cond (.and (.cmp .Eq (.v 5) (.tup (.cons (.c (.str "num")) .nil))) (.cmp .Eq (.call 42 (.cons (.v 2) (.cons (.c (.int 8)) .nil))) (.c (.int 0)))) (.cons (.set (.one 4) (.ix (.lst (.cons (.tup (.cons (.c (.str "at")) (.cons (.c (.str "a")) (.cons (.tup (.cons (.c (.str "row")) (.cons (.tup (.cons (.tup (.cons (.c (.str "a")) (.cons (.v 4) .nil))) (.cons (.tup (.cons (.c (.str "b")) (.cons (.tup (.cons (.c (.str "table")) (.cons (.c (.str "t")) .nil))) .nil))) .nil))) .nil))) .nil)))) (.cons (.tup (.cons (.c (.str "let")) (.cons (.c (.str "w")) (.cons (.tup (.cons (.c (.str "table")) (.cons (.c (.str "u")) .nil))) (.cons (.v 4) .nil))))) .nil))) (.op .Mod (.v 3) (.c (.int 2))))) .nil) .nil) Ll
noncomputable def Lm:B:=.cons (.set (.one 4) (.call 49 (.cons (.v 5) (.cons (.v 0) (.cons (.c (.int 0)) (.cons (.v 2) .nil)))))) AE
noncomputable def Ln:B:=.cons (.set (.one 5) (.ix (.lst (.cons (.tup (.cons (.c (.str "num")) .nil)) (.cons (.tup (.cons (.c (.str "num")) .nil)) (.cons (.tup (.cons (.c (.str "word")) .nil)) .nil)))) (.call 42 (.cons (.v 2) (.cons (.c (.int 3)) .nil))))) Lm
noncomputable def Lo:B:=.cons (.cond (.and (.cmp .Gt (.v 1) (.c (.int 0))) (.cmp .Eq (.v 3) (.c (.int 1)))) (.cons (.set (.one 4) (.call 50 (.cons (.v 0) (.cons (.op .Sub (.v 1) (.c (.int 1))) (.cons (.v 2) .nil))))) (.cons (.ret (.tup (.cons (.ix (.lst (.cons (.c (.str "and")) (.cons (.c (.str "or")) .nil))) (.call 42 (.cons (.v 2) (.cons (.c (.int 2)) .nil)))) (.cons (.v 4) (.cons (.call 50 (.cons (.v 0) (.cons (.op .Sub (.v 1) (.c (.int 1))) (.cons (.v 2) .nil)))) .nil))))) .nil)) .nil) Ln
noncomputable def AF:B:=.cons (.cond (.and (.cmp .Gt (.v 1) (.c (.int 0))) (.cmp .Eq (.v 3) (.c (.int 0)))) (.cons (.ret (.tup (.cons (.c (.str "not")) (.cons (.call 50 (.cons (.v 0) (.cons (.op .Sub (.v 1) (.c (.int 1))) (.cons (.v 2) .nil)))) .nil)))) .nil) .nil) Lo
noncomputable def Lq:B:=.cons (.set (.one 3) (.call 42 (.cons (.v 2) (.cons (.c (.int 6)) .nil)))) AF
theorem Lr:aC ["scope","fuel","seed","way","one","kind","word"] ["scope","fuel","seed"] (ag (aa 76)):=⟨rfl,rfl,rfl,by decide +kernel,rfl,by decide +kernel,by decide +kernel⟩
theorem Ls:aF nm 40 ["scope","fuel","seed","way","one","kind","word"] (ag (aa 76)) (av (aa 76))=Lq:=by kernel_rfl
noncomputable abbrev Ub (n:Nat):a8 w:={ cs:=[(42,g'),(49,hB n),(50,ke n)] }
theorem Lu (O:Lw w) {n:Nat} (hs:FO w 49 (n+4) (hB n)) (hc:FO w 50 (n+4) (ke n)):FO w 50 (n+5) (ke (n+1)):=by
 refine aJ O.ok O.hn _ ⟨"_law_claim",aa 76,["scope","fuel","seed"]⟩ (by rw[O.hd];rfl) (Ub n) { cs:=⟨⟨1,by lia,i7 O⟩,⟨n+4,W3 _,hs⟩,⟨n+4,W3 _,hc⟩,trivial⟩ } Lr Ls λds M Q _ h=>?_;obtain⟨sc,f,p,rfl,f0,f1,rk,am,hp,h⟩:=h;have fin:∀X q,Sx M p X->bX kS sc q->nq q<=8+9 * f.toNat->dq q<=7+f.toNat->aW Q (qD q) X:=λX q u g1 g2 g3=>ar (h q X u g1 g2 g3);refine⟨rfl,p,6,rfl,hp,by decide,by decide,λcS X u1 w0 w1=>?_⟩;show B.w (Ub (w:=w) n).wd nm.ai AF (a' Q) [some (a4 sc),some (.int f),some (.ref p),some (.int cS),none,none,none] X;refine fI λN2 mo=>?_;have g2:N2 [some (a4 sc),some (.int f),some (.ref p),some (.int cS),none,none,none] X:=by
  refine mo _ _ (fI λN3 t8=>?_);have g3:N3 [some (a4 sc),some (.int f),some (.ref p),some (.int cS),none,none,none] X:=by
   refine t8 _ _ ?_;refine⟨l1,l1,l1,l3,.inl ⟨p,3,rfl,u1.hs,by decide,by decide,λr X2 u2 r0 r1=>?_⟩⟩;obtain⟨d,e3,e4⟩:=et (xs:=[kD .num,kD .num,kD .word]) r0 r1;refine⟨d,e3,?_⟩;obtain⟨κ,rfl,hκ⟩:∃ κ,d=kD κ/\(κ=.num\/κ=.word):=by
    simp only[XI,Xq,or_false]at e4;rcases e4 with z |z |z
    ·exact⟨_,z,.inl rfl⟩
    ·exact⟨_,z,.inl rfl⟩
    ·exact⟨_,z,.inr rfl⟩
   have k1:κ∈AK/\kd κ=1/\zk κ=2/\Tu κ=2:=(by rcases hκ with rfl |rfl <;> decide +kernel);have TX:∀{q},GQ 0 κ sc q->nq q<=2/\dq q<=2:=λg=>by
    have h1:=g.n;have h2:=g.d
    unfold nB at h1;unfold dB at h2;rw[if_pos (by lia)]at h1 h2;lia
   refine⟨κ,sc,0,p,rfl,k1.1,by unfold Rk;lia,am,u2.hs,λq1 X3 u3 g=>?_⟩;show B.w (Ub (w:=w) n).wd nm.ai AE (a' Q) [some (a4 sc),some (.int f),some (.ref p),some (.int cS),some (qD q1),some (kD κ),none] X3;have uu:=(u1.tr u2).tr u3;refine fI λN4 Lv=>?_;have g4:∀(X:Mp) (qa:Qn),Sx M p X->Ty kS sc qa κ->nq qa<=5->dq qa<=6->N4 [some (a4 sc),some (.int f),some (.ref p),some (.int cS),some (qD qa),some (kD κ),none] X:=by
    intro X qa u ty hn hd;refine Lv _ _ ?_;have t9:∀s,(s="same"\/s="under"/\κ=.num)->B.w (Ub (w:=w) n).wd nm.ai t7 (a' Q) [some (a4 sc),some (.int f),some (.ref p),some (.int cS),some (qD qa),some (kD κ),some (.str s)] X:=by
     intro s dL;refine⟨κ,sc,0,p,rfl,k1.1,by unfold Rk;lia,am,u.hs,λqb Y u4 gb=>⟨l3,?_⟩⟩;have S2:=TX gb;rcases dL with rfl |⟨rfl,e⟩
     ·refine fin _ (.same qa qb) (u.tr u4) ?_ (by rw[nq];lia) (by rw[dq];lia);rcases hκ with rfl |rfl
      ·exact .gZ ty gb.ty
      ·exact .g7 ty gb.ty
     ·subst e;exact fin _ (.under qa qb) (u.tr u4) (.under ty gb.ty) (by rw[nq];lia) (by rw[dq];lia)
    refine⟨l2,.inl ⟨l1,ka (a:=κ) (b:=.num) (by lia) ?_⟩⟩;refine a3 (λe=>?_) λe=>⟨.str "same",rfl,t9 _ (.inl rfl)⟩;refine⟨_,Ka,?_⟩;show B.w (Ub (w:=w) n).wd nm.ai t7 (a' Q) [some (a4 sc),some (.int f),some (.ref p),some (.int cS),some (qD qa),some (kD κ),some (if decide (3<cS)=true then .str "under" else .str "same")] X
    split
    ·exact t9 _ (.inr ⟨rfl,of_decide_eq_true e⟩)
    ·exact t9 _ (.inl rfl)
   refine⟨l1,ka (a:=κ) (b:=.num) (by lia) (a3 (λe1=>?_) λe1=>az (by decide) (g4 _ q1 uu g.ty (by have:=TX g;lia) (by have:=TX g;lia)))⟩
   have e1:=of_decide_eq_true e1;subst e1;refine⟨p,8,rfl,u3.hs,by decide,by decide,λr4 X4 u4 _ _=>bw (a3 (λe2=>?_) λe2=>g4 _ q1 (uu.tr u4) g.ty (by have:=TX g;lia) (by have:=TX g;lia))⟩
   refine⟨l2,l2,l2,l2,l2,l3,l2,l4,l2,.inl ?_⟩;obtain⟨d,UZ,TY⟩:=et (xs:=[qD (.at "a" (.row [("a",q1),("b",.tab "t")])),qD (.let "w" (.tab "u") q1)]) (Int.emod_nonneg cS (b:=2) (by decide)) (Int.emod_lt_of_pos cS (b:=2) (by decide));refine⟨(by decide:(0:Int)<2),d,UZ,?_⟩;have WS:=TX g;rcases List.mem_cons.mp TY with rfl |TY
   ·exact g4 _ _ (uu.tr u4) (.at (ks:=[("a",.num),("b",.ah .num)]) (by decide +kernel) (.row (show 2<100 by decide) (by decide +kernel) (.cons g.ty (.cons (.tab (by decide +kernel)) .nil))) (by decide +kernel)) (by rw[nq,nq,bR,bR,bR,nq];lia) (by rw[dq,dq,bA,bA,bA,dq];lia)
   ·cases List.mem_singleton.mp TY;refine g4 _ _ (uu.tr u4) (.let (l:=.ah fJ) (by decide +kernel) (.tab (by decide +kernel)) (Ty.mono (λ_ _ z=>z) g.ty λx k hx=>?_)) (by rw[nq,nq];lia) (by rw[dq,dq];lia);rw[lk,if_neg]
    ·exact hx
    ·rintro rfl;exact am.UX _ (dZ hx) rfl
  refine a3 (λe1=>bw (a3 (λe2=>?_) λe2=>g3)) λe1=>az (by decide) g3;have fp:0<f:=of_decide_eq_true e1;refine⟨sc,f-1,p,rfl,by lia,by lia,by lia,am,u1.hs,λqa Xa ua ta na da=>?_⟩;refine⟨l2,.inl ⟨p,2,rfl,ua.hs,by decide,by decide,λr2 X2 u2 mv i9=>?_⟩⟩;obtain⟨d,e3,e4⟩:=et (xs:=[.str "and",.str "or"]) mv i9;refine⟨d,e3,?_⟩;refine⟨sc,f-1,p,rfl,by lia,by lia,by lia,am,u2.hs,λqb Xb ub tb nb db=>⟨l3,?_⟩⟩;have uu:=((u1.tr ua).tr u2).tr ub;simp only[XI,Xq,or_false]at e4;rcases e4 with rfl |rfl
  ·exact fin _ (.and qa qb) uu (.and ta tb) (by rw[nq];lia) (by rw[dq];lia)
  ·exact fin _ (.or qa qb) uu (.or ta tb) (by rw[nq];lia) (by rw[dq];lia)
 refine a3 (λe1=>bw (a3 (λe2=>?_) λe2=>g2)) λe1=>az (by decide) g2;have fp:0<f:=of_decide_eq_true e1;exact⟨sc,f-1,p,rfl,by lia,by lia,by lia,am,u1.hs,λq X2 u2 ty hn hd=>⟨l2,fin _ (.not q) (u1.tr u2) (.not ty) (by rw[nq];lia) (by rw[dq];lia)⟩⟩
variable {w:Wo}
noncomputable def kf (f:Str):D:=.tup [.str f,.tup [.str "num",.int 1]]
theorem AG {sc:Sc}:∀fs:List Str,∃ps ks,bq ps=fs.map kf/\di kS sc ps ks/\bR ps=fs.length/\bA ps<=1/\ks.map (·.1)=fs/\ps.length=fs.length
 |[]=>⟨[],[],by rw[bq];rfl,.nil,by rw[bR];rfl,by rw[bA];lia,rfl,rfl⟩
 |f::fs=>by
  obtain⟨ps,ks,h1,h2,h3,h4,h5,h6⟩:=AG (sc:=sc) fs;exact⟨(f,.num 1)::ps,(f,.num)::ks,by rw[bq,h1,qD];rfl,.cons .num h2,by rw[bR,nq,h3,Xd];lia,by rw[bA,dq];lia,by rw[Xe,h5],by rw[Xd,Xd,h6]⟩
theorem tk {sc:Sc}{q:Qn} {κ:Kd} (ty:Ty kS sc q κ):∀ (fs:List Str) (j:Nat) (x:Str),fs[j]?=some x->fs.Nodup ->
  ∃ps ks,bq ps=(fs.map kf).set j (.tup [.str x,qD q])/\di kS sc ps ks/\lk x ks=some κ/\bR ps<=fs.length+nq q/\bA ps<=max 1 (dq q)/\ks.map (·.1)=fs/\ps.length=fs.length
 |[],_,_,h,_=>nomatch h
 |f::fs,0,x,h,_=>by
  cases h;obtain⟨ps,ks,h1,h2,h3,h4,h5,h6⟩:=AG (sc:=sc) fs;exact⟨(f,q)::ps,(f,κ)::ks,by rw[bq,h1];rfl,.cons ty h2,by rw[lk,if_pos rfl],by rw[bR,h3,Xd];lia,by rw[bA];lia,by rw[Xe,h5],by rw[Xd,Xd,h6]⟩
 |f::fs,j+1,x,h,nd=>by
  rw[Y3]at nd;have h:fs[j]?=some x:=h;obtain⟨ps,ks,h1,h2,h3,h4,h5,h6,V9⟩:=tk ty fs j x h nd.2;refine⟨(f,.num 1)::ps,(f,.num)::ks,by rw[bq,h1,qD];rfl,.cons .num h2,?_,by rw[bR,nq,Xd];lia,by rw[bA,dq];lia,by rw[Xe,h6],by rw[Xd,Xd,V9]⟩;rw[lk,if_neg,h3];rintro rfl;exact nd.1 (XN h)
def pC (n:Nat):Sp:=λds M Q _=>∃ κ sc f p,ds=[kD κ,a4 sc,.int f,.ref p]/\κ∈AK/\0<f/\20 * f.toNat+1<=n/\d4 sc f.toNat/\Hs M p/\∀q X,Sx M p X->GQ f κ sc q->Q (qD q) X
theorem AH {f:Int} (hf:0<f) {κ:Kd} (h:κ∈AK):nB f κ=5 * zf (f-1).toNat+40/\dB f κ=9 * (f-1).toNat+18:=by
 obtain⟨g,hg⟩:∃g:Nat,f=(g:Int)+1:=⟨(f-1).toNat,by lia⟩;subst hg;rw[show ((g:Int)+1-1).toNat=g by lia];unfold nB dB;rw[if_neg (by lia),if_neg (by lia),show ((g:Int)+1).toNat=g+1 from rfl,zf];exact⟨rfl,by lia⟩
noncomputable def Lx:B:=.cons (.ret (.tup (.cons (.c (.str "at")) (.cons (.ix (.v 4) (.v 5)) (.cons (.tup (.cons (.c (.str "row")) (.cons (.bi .tuple (.cons (.v 6) .nil)) .nil))) .nil))))) .nil
noncomputable def Ly:B:=.cons (.put (.v 6) (.v 5) (.tup (.cons (.ix (.v 4) (.v 5)) (.cons (.call 53 (.cons (.v 0) (.cons (.v 1) (.cons (.op .Sub (.v 2) (.c (.int 1))) (.cons (.v 3) .nil))))) .nil)))) Lx
noncomputable def Lz:B:=.cons (.set (.one 6) (.lc 1 [] (.one 0) (.seq (.v 4)) .aq (.tup (.cons (.v 0) (.cons (.tup (.cons (.c (.str "num")) (.cons (.c (.int 1)) .nil))) .nil))))) Ly
noncomputable def AI:B:=.cons (.set (.one 5) (.call 42 (.cons (.v 3) (.cons (.bi .len (.cons (.v 4) .nil)) .nil)))) Lz
noncomputable def LA:B:=.cons (.set (.one 4) (.sl (.lst (.cons (.c (.str "a")) (.cons (.c (.str "c")) (.cons (.c (.str "t")) (.cons (.c (.str "u")) (.cons (.c (.str "w")) .nil)))))) .aq (.op .Add (.c (.int 1)) (.call 42 (.cons (.v 3) (.cons (.c (.int 5)) .nil)))))) AI
theorem LB:aC ["kind","scope","fuel","seed","fields","place","parts"] ["kind","scope","fuel","seed"] (ag (aa 78)):=⟨rfl,rfl,rfl,by decide +kernel,rfl,by decide +kernel,by decide +kernel⟩
theorem LC:aF nm 40 ["kind","scope","fuel","seed","fields","place","parts"] (ag (aa 78)) (av (aa 78))=LA:=by kernel_rfl
noncomputable abbrev Vl (n:Nat):a8 w:={ cs:=[(42,g'),(53,fh n)] }
theorem LD (O:Lw w) {n:Nat} (ha:FO w 53 (n+4) (fh n)):FO w 52 (n+5) (pC (n+1)):=by
 refine aJ O.ok O.hn _ ⟨"_law_taken",aa 78,["kind","scope","fuel","seed"]⟩ (by rw[O.hd];rfl) (Vl n) { cs:=⟨⟨1,by lia,i7 O⟩,⟨n+4,W3 _,ha⟩,trivial⟩ } LB LC λds M Q _ h=>?_;obtain⟨κ,sc,f,p,rfl,hκ,f0,rk,am,hp,h⟩:=h;refine⟨rfl,l5,.inl ⟨p,5,rfl,hp,by decide,by decide,λr X1 u1 r0 r1=>.inl ?_⟩⟩;obtain⟨fs,e1,nd,nt,c1,c2⟩:∃fs:List Str,cE [.str "a",.str "c",.str "t",.str "u",.str "w"] none (some (1+r))=fs.map D.str/\fs.Nodup/\("table" : Str) ∉ fs/\1<=fs.length/\fs.length<=5:=by
  have:r=0\/r=1\/r=2\/r=3\/r=4:=by have r1:r<5:=r1;lia
  rcases this with rfl |rfl |rfl |rfl |rfl
  ·exact⟨["a"],by rfl,by decide +kernel,by decide +kernel,by decide,by decide⟩
  ·exact⟨["a","c"],by rfl,by decide +kernel,by decide +kernel,by decide,by decide⟩
  ·exact⟨["a","c","t"],by rfl,by decide +kernel,by decide +kernel,by decide,by decide⟩
  ·exact⟨["a","c","t","u"],by rfl,by decide +kernel,by decide +kernel,by decide,by decide⟩
  ·exact⟨["a","c","t","u","w"],by rfl,by decide +kernel,by decide +kernel,by decide,by decide⟩
 have key:∀d,d=fs.map D.str->B.w (Vl (w:=w) n).wd nm.ai AI (a' Q) [some (kD κ),some (a4 sc),some (.int f),some (.ref p),some (.lst d),none,none] X1:=?_
 ·exact key _ e1
 rintro _ rfl;refine⟨p,_,rfl,u1.hs,?_,?_,λj X2 u2 U0 j1=>?_⟩
 ·rw[W0];lia
 ·rw[W0];exact Int.lt_of_le_of_lt (by lia:_<=(5:Int)) (by decide)
 rw[W0]at j1;have jn:j.toNat<fs.length:=by lia
 have hx:fs[j.toNat]?=some fs[j.toNat]:=W6 jn;generalize fs[j.toNat]=x at hx;have AJ:cf (fs.map D.str) j=some (.str x):=by
  unfold cf eK;rw[if_pos U0,if_pos (by rw[W0];exact j1)];show (fs.map D.str)[j.toNat]?=_;rw[Xj,hx];rfl
 refine gX (M:=X2) D.str kf fs ?_ (Xg c2 (by decide)) (λz _ N hN=>?_) ?_
 ·exact trivial
 ·exact⟨l2,l2,hN⟩
 refine .inr λl6 hE=>?_;have q6:up X2 l6 (.lst (fs.map kf)) l6=some (.lst (fs.map kf)):=ao;have hs2:=u2.hs;have U1:p≠l6:=by obtain⟨o,e,_⟩:=hs2;exact cV e hE
 refine⟨_,AJ,κ,sc,f-1,p,rfl,hκ,?_,am.dj (by lia),?_,λq Y u7 g=>⟨l2,?_⟩⟩
 ·have:=fg hκ;have:=@t4 κ;unfold Rk;lia
 ·obtain⟨o,e,s⟩:=hs2;exact⟨o,by rw[ay U1];exact e,s⟩
 obtain⟨ps,ks,t1,t2,t3,WT,t5,Vm,WU⟩:=tk g.ty fs j.toNat x hx nd;have q7:Y l6=some (.lst (fs.map kf)):=by rw[u7.ne (Ys U1)];exact ao
 refine .inl ⟨_,q7,j.toNat,?_,?_⟩
 ·unfold eK;rw[if_pos U0,if_pos (by rw[W0];exact j1)]
 rw[<- t1];refine⟨_,AJ,_,ao,l2,l3,?_⟩;obtain⟨b1,b2⟩:=AH f0 hκ;obtain⟨g1,g2,g3,g4⟩:=fK (f:=f-1) hκ;have WV:=g.n;have gd:=g.d;obtain⟨Vn,s7,rfl⟩:=u7;refine kb (M:=up X2 p Vn) ?_ (h (.at x (.row ps)) _ ((u1.tr u2).tr ⟨Vn,s7,rfl⟩) ⟨.at (by rw[Vm];exact nd) (.row (by lia) (by rw[Vm];exact nt) t2) t3,by rw[nq,nq,b1];lia,by rw[dq,dq,b2];lia⟩);refine⟨λa u e=>?_,λa b e q=>?_⟩
 ·by_cases ha:a=l6
  ·subst ha;rw[ay (Ys U1),hE]at e;cases e
  ·rw[ay ha];by_cases hb:a=p
   ·subst hb;rw[ao]at e ⊢;exact e
   ·rw[ay hb]at e ⊢;rw[ay ha];exact e
 ·by_cases hb:b=l6
  ·subst hb;rw[ao]at q;cases q
  ·rw[ay hb]at q;by_cases hc:b=p
   ·subst hc;rw[ao]at q ⊢;exact q
   ·rw[ay hc]at q ⊢;rw[ay hb]at q;exact q
variable {w:Wo}
noncomputable def iD (v:Qn×Kd):D:=.tup [qD v.1,kD (.ah v.2)]
structure Iv (sc:Sc) (v:Qn×Kd):Prop where
 ty:Ty kS sc v.1 (.ah v.2)
 TC:.ah v.2∈AK
 n:nq v.1<=2
 d:dq v.1<=2
def pD (n:Nat):Sp:=λds M Q _=>∃sc f p,ds=[a4 sc,.int f,.ref p]/\20 * f.toNat+1<=n/\d4 sc f.toNat/\Hs M p/\∀q k X,Sx M p X->.ah k∈AK->Ty kS sc q (.ah k)->nq q<=zf f.toNat->dq q<=9 * f.toNat+9->Q (.tup [qD q,kD (.ah k)]) X
noncomputable def LF:B:=.cons (.ret (.tup (.cons (.tup (.cons (.c (.str "table")) (.cons (.v 4) .nil))) (.cons (.v 5) .nil)))) .nil
noncomputable def LG:B:=.cons (.cond (.and (.cmp .Gt (.v 1) (.c (.int 0))) (.cmp .Eq (.call 42 (.cons (.v 2) (.cons (.c (.int 4)) .nil))) (.c (.int 0)))) (.cons (.ret (.tup (.cons (.call 53 (.cons (.v 5) (.cons (.v 0) (.cons (.op .Sub (.v 1) (.c (.int 1))) (.cons (.v 2) .nil))))) (.cons (.v 5) .nil)))) .nil) .nil) LF
noncomputable def AL:B:=.cons (.cond (.and (.cmp .NotEq (.v 8) (.lst .nil)) (.cmp .Eq (.call 42 (.cons (.v 2) (.cons (.c (.int 3)) .nil))) (.c (.int 0)))) (.cons (.ret (.ix (.v 8) (.call 42 (.cons (.v 2) (.cons (.bi .len (.cons (.v 8) .nil)) .nil))))) .nil) .nil) LG
noncomputable def LH:B:=.cons (.loop (.many [6,7]) (.seq (.call 47 (.cons (.v 0) .nil))) (.cons (.cond (.cmp .Eq (.v 7) (.ix (.v 3) (.c (.str "u")))) (.cons (.ex (.mt .append (.v 8) (.cons (.tup (.cons (.tup (.cons (.c (.str "at")) (.cons (.c (.str "t")) (.cons (.tup (.cons (.c (.str "var")) (.cons (.v 6) .nil))) .nil)))) (.cons (.tup (.cons (.c (.str "bag")) (.cons (.tup (.cons (.c (.str "num")) .nil)) .nil))) .nil))) .nil))) .nil) .nil) .nil)) AL
noncomputable def LI:B:=.cons (.set (.one 8) (.lc 2 [] (.many [0,1]) (.seq (.call 47 (.cons (.v 0) .nil))) (.cmp .Eq (.ix (.v 1) (.c (.int 0))) (.c (.str "bag"))) (.tup (.cons (.tup (.cons (.c (.str "var")) (.cons (.v 0) .nil))) (.cons (.v 1) .nil))))) LH
noncomputable def LJ:B:=.cons (.set (.one 5) (.tup (.cons (.c (.str "bag")) (.cons (.ix (.v 3) (.v 4)) .nil)))) LI
noncomputable def LL:B:=.cons (.set (.one 4) (.ix (.lst (.cons (.c (.str "r")) (.cons (.c (.str "s")) (.cons (.c (.str "t")) (.cons (.c (.str "u")) (.cons (.c (.str "v")) .nil)))))) (.call 42 (.cons (.v 2) (.cons (.c (.int 5)) .nil))))) LJ
noncomputable def LN:B:=.cons (.set (.one 3) (.call 46 .nil)) LL
theorem LO:aC ["scope","fuel","seed","kinds","name","kind","spare","other","inner"] ["scope","fuel","seed"] (ag (aa 77)):=⟨rfl,rfl,rfl,by decide +kernel,rfl,by decide +kernel,by decide +kernel⟩
theorem LP:aF nm 40 ["scope","fuel","seed","kinds","name","kind","spare","other","inner"] (ag (aa 77)) (av (aa 77))=LN:=by kernel_rfl
noncomputable abbrev Vo (n:Nat):a8 w:={ cs:=[(42,g'),(46,mu),(47,tW),(53,fh n)] }
theorem LQ (O:Lw w) {n:Nat} (ha:FO w 53 (n+4) (fh n)):FO w 51 (n+5) (pD (n+1)):=by
 refine aJ O.ok O.hn _ ⟨"_law_over",aa 77,["scope","fuel","seed"]⟩ (by rw[O.hd];rfl) (Vo n) { cs:=⟨⟨1,by lia,i7 O⟩,⟨1,by lia,pg O⟩,⟨1,by lia,Ah O⟩,⟨n+4,W3 _,ha⟩,trivial⟩ } LO LP λds M Q _ h=>?_;obtain⟨sc,f,p,rfl,rk,am,hp,h⟩:=h;refine⟨rfl,rfl,l5,.inl ⟨p,5,rfl,hp,by decide,by decide,λr X1 u1 r0 r1=>?_⟩⟩;obtain⟨d,e1,e2⟩:=et (xs:=[.str "r",.str "s",.str "t",.str "u",.str "v"]) r0 r1;obtain⟨x,κ,rfl,hx,hκ⟩:∃x κ,d=.str x/\kS x=some κ/\.ah κ∈AK:=by
  simp only[XI,Xq,or_false]at e2;rcases e2 with z |z |z |z |z
  ·exact⟨"r",i4,z,by decide +kernel,by decide +kernel⟩
  ·exact⟨"s",i4,z,by decide +kernel,by decide +kernel⟩
  ·exact⟨"t",.num,z,by decide +kernel,by decide +kernel⟩
  ·exact⟨"u",fJ,z,by decide +kernel,by decide +kernel⟩
  ·exact⟨"v",.ah .word,z,by decide +kernel,by decide +kernel⟩
 refine⟨_,e1,?_⟩;have LR:aK ((aM.map λm=>(Yr m.1:Key)).zip (aM.map λm=>kD m.2)) (.inr x)=some (kD κ):=by
  rw[oX,fc];unfold kS at hx;rw[hx];rfl
 refine⟨_,LR,l2,?_⟩;refine⟨sc,rfl,by have:=am.len;lia,am.kd,λout ho lo _=>?_⟩
 have ls:=am.len;refine e8 (λxs ys M'=>M'=X1/\∃rest vs,xs=cQ rest/\ys=vs.map iD/\(∀p∈rest,lk p.1 sc=some p.2)/\(∀v∈vs,Iv sc v)/\vs.length+rest.length<=40) ?_ ?_ _ _ _ ⟨rfl,out,[],rfl,rfl,λp hp=>(ho _ _).mp hp,λv hv=>(nomatch hv),by simp;lia⟩
 ·rintro ys M' ⟨rfl,rest,vs,e1,rfl,hr,hv,hE⟩;refine⟨trivial,Xg (by rw[W0];lia:_<=40) (by decide),.inr λlw uc=>?_⟩;have AM:lw≠p:=by obtain⟨o,e,_⟩:=u1.hs;exact Ys (cV e uc)
  have S3:M lw=none:=by rw[<- u1.ne AM];exact uc
  refine⟨sc,rfl,by lia,am.kd,λout ho lo _=>?_⟩;refine d0 (λxs τ M2=>∃rest vs u v,xs=cQ rest/\(∀p∈rest,lk p.1 sc=some p.2)/\τ=[some (a4 sc),some (.int f),some (.ref p),some (b9 aM),some (.str x),some (kD (.ah κ)),u,v,some (.ref lw)]/\M2=up M' lw (.lst (vs.map iD))/\(∀v∈vs,Iv sc v)/\vs.length+rest.length<=80)
   ?_ ?_ _ _ _ ⟨out,vs,none,none,rfl,λp hp=>(ho _ _).mp hp,rfl,rfl,hv,by lia⟩
  ·rintro τ M2 ⟨rest,vs,u,v,e1,hr,rfl,rfl,hv,hE⟩;refine⟨trivial,Kf uc (.rfl ?_)⟩;have key:∀ τ,τ=[some (a4 sc),some (.int f),some (.ref p),some (b9 aM),some (.str x),some (kD (.ah κ)),c6 lw (.lst (vs.map iD)) u,c6 lw (.lst (vs.map iD)) v,some (.lst (vs.map iD))]->B.w (Vo (w:=w) n).wd nm.ai AL (a' Q) τ M':=?_
   ·refine key _ ?_;show [_,_,c6 lw (.lst (vs.map iD)) (some (.ref p)),_,_,_,_,_,c6 lw (.lst (vs.map iD)) (some (.ref lw))]=_;rw[Kc (Ys AM),zZ];rfl
   generalize c6 lw (.lst (vs.map iD)) u=u';generalize c6 lw (.lst (vs.map iD)) v=v';rintro _ rfl;refine fI λN5 LS=>?_;have go:∀X,Sx M p X->N5 [some (a4 sc),some (.int f),some (.ref p),some (b9 aM),some (.str x),some (kD (.ah κ)),u',v',some (.lst (vs.map iD))] X:=by
    intro X uX;refine LS _ _ (fI λN6 LU=>?_);have tb:∀X,Sx M p X->N6 [some (a4 sc),some (.int f),some (.ref p),some (b9 aM),some (.str x),some (kD (.ah κ)),u',v',some (.lst (vs.map iD))] X:=by
     intro X uX;exact LU _ _ ⟨l2,l2,ar (h (.tab x) κ X uX hκ (.tab hx) (by have:=i8 f.toNat;rw[nq];lia) (by rw[dq];lia))⟩
    refine a3 (λe1=>⟨p,4,rfl,uX.hs,by decide,by decide,λr4 X4 u4 _ _=>bw (a3 (λe2=>?_) λe2=>tb _ (uX.tr u4))⟩) λe1=>az (by decide) (tb X uX);have fp:0<f:=of_decide_eq_true e1;refine⟨.ah κ,sc,f-1,p,rfl,hκ,?_,am.dj (by lia),u4.hs,λq X6 u6 g=>⟨l2,ar (h q κ X6 ((uX.tr u4).tr u6) hκ g.ty ?_ ?_)⟩⟩
    ·have:=fg hκ;unfold Rk;rw[Tv];lia
    ·have:=(fK (f:=f-1) hκ).2.1;have:=tZ (show (f-1).toNat<=f.toNat by lia);exact W9 g.n (by lia)
    ·have:=(fK (f:=f-1) hκ).2.2.2;exact W9 g.d (by lia)
   refine⟨Xk _,.inl (oV (a3 (λe1=>?_) λe1=>az (by decide) (go M' u1)))⟩;have AC:0<vs.length:=by
    cases vs with
    |nil=>simp at e1
    |cons _ _=>simp
   refine⟨p,3,rfl,u1.hs,by decide,by decide,λVd X6 u6 _ _=>bw (a3 (λe2=>?_) λe2=>go _ (u1.tr u6))⟩;refine⟨p,_,rfl,u6.hs,by rw[W0];lia,?_,λr7 X7 u7 LV LW=>?_⟩
   ·rw[W0];exact Int.lt_of_le_of_lt (by lia:_<=(80:Int)) (by decide)
   obtain⟨d,e3,e4⟩:=et LV LW;obtain⟨q,hq,rfl⟩:=List.mem_map.mp e4;have hq':=hv q hq;have:=i8 f.toNat;exact⟨_,e3,ar (h q.1 q.2 X7 ((u1.tr u6).tr u7) hq'.TC hq'.ty (by have:=hq'.n;lia) (by have:=hq'.d;lia))⟩
  ·rintro y xs τ M2 ⟨rest,vs,u,v,e1,hr,rfl,rfl,hv,hE⟩;cases rest with
   |nil=>cases e1
   |cons g rest=>
    obtain⟨gf,gk⟩:=g;cases e1;have hg:=hr _ W';have a1:∀p∈rest,lk p.1 sc=some p.2:=λp hp=>hr p (W8 _ hp);rw[Xd]at hE;have AN:kd gk<=9:=fg (am.TC _ (dZ hg));have LX:aK ((aM.map λm=>(Yr m.1:Key)).zip (aM.map λm=>kD m.2)) (.inr "u")=some (kD fJ):=by
     rw[oX,fc];rfl
    refine⟨trivial,λN hN=>⟨rfl,_,LX,ka (by show kd gk<=50;lia) (a3 (λe=>?_) λe=>hN _ _ ⟨rest,vs,_,_,rfl,a1,rfl,rfl,hv,by lia⟩)⟩⟩;have e:gk=fJ:=of_decide_eq_true e;subst e;refine⟨.inl ⟨rfl,_,ao⟩,l2,l3,l1,l2,l2,_,ao,Xg (by rw[W0];lia:_<=80) (by decide),hN _ _ ⟨rest,vs++[(.at "t" (.var gf),.num)],_,_,rfl,a1,rfl,by rw[_root_.N.b8,Xn];rfl,λv iC=>?_,by simp;lia⟩⟩;rcases List.mem_append.mp iC with z |z
    ·exact hv v z
    ·rw[List.mem_singleton.mp z];exact⟨.at (by decide +kernel) (.var hg) rfl,(by decide +kernel:Kd.ah .num∈AK),by rw[nq,nq];lia,by rw[dq,dq];lia⟩
 ·rintro y xs ys M' ⟨rfl,rest,vs,e1,rfl,hr,hv,hE⟩;cases rest with
  |nil=>cases e1
  |cons g rest=>
   obtain⟨gf,gk⟩:=g;cases e1;have hg:=hr _ W';have a1:∀p∈rest,lk p.1 sc=some p.2:=λp hp=>hr p (W8 _ hp);rw[Xd]at hE;refine⟨trivial,Xg (by rw[W0];lia:_<=40) (by decide),λN hN=>⟨rfl,?_⟩⟩;cases gk with
   |ah k=>
    refine⟨_,rfl,au (aX (by decide) ⟨l2,l2,?_⟩)⟩;have:=hN (vs.map iD++[iD (.var gf,k)]) _ ⟨rfl,rest,vs++[(.var gf,k)],rfl,by rw[Xn];rfl,a1,λv iC=>?_,by simp;lia⟩
    ·exact this
    ·rcases List.mem_append.mp iC with z |z
     ·exact hv v z
     ·rw[List.mem_singleton.mp z];exact⟨.var hg,am.TC _ (dZ hg),by rw[nq];lia,by rw[dq];lia⟩
   |num=>exact⟨_,rfl,au (az (by decide) (hN _ _ ⟨rfl,rest,vs,rfl,rfl,a1,hv,by lia⟩))⟩
   |word=>exact⟨_,rfl,au (az (by decide) (hN _ _ ⟨rfl,rest,vs,rfl,rfl,a1,hv,by lia⟩))⟩
   |row fs=>exact⟨_,rfl,au (az (by decide) (hN _ _ ⟨rfl,rest,vs,rfl,rfl,a1,hv,by lia⟩))⟩
variable {w:Wo}
structure Wy (κ:Kd) (sc:Sc) (q:Qn):Prop where
 ty:Ty kS sc q κ
 n:nq q<=2
 d:dq q<=2
theorem Hq.V' {κ:Kd} {sc:Sc}{q:Qn} (h:Hq κ sc q):Wy κ sc q:=by
 refine⟨h.ty,?_,?_⟩
 ·rcases h.is with ⟨x,rfl⟩ |⟨f,x,rfl⟩
  ·rw[nq];lia
  ·rw[nq,nq];lia
 ·rcases h.is with ⟨x,rfl⟩ |⟨f,x,rfl⟩
  ·rw[dq];lia
  ·rw[dq,dq];lia
theorem LY {k:Kd}{f:Int}{sc:Sc}{q:Qn} (h:.ah k∈AK) (g:GQ 0 k sc q):GQ f (.ah k) sc (.one q):=by
 have h1:=g.n;have h2:=g.d
 unfold nB at h1;unfold dB at h2;rw[if_pos (by lia)]at h1 h2;obtain⟨Ti,a2,To,Tp,_⟩:=pv (gB h);refine⟨.one g.ty,?_,?_⟩
 ·rw[nq];unfold nB;split
  ·rw[zk];lia
  ·obtain⟨g,hg⟩:∃g:Nat,f=(g:Int)+1:=⟨(f-1).toNat,by lia⟩;subst hg;have:=i8 g;rw[show ((g:Int)+1).toNat=g+1 from rfl,zf];lia
 ·rw[dq];unfold dB;split
  ·rw[Tu];lia
  ·lia
theorem AO {k:Kd}{f:Int}{sc:Sc} (h:.ah k∈AK):GQ f (.ah k) sc (.none k):=by
 have:=fK (f:=f) h;have hk:=fg (gB h);refine⟨.none (by have:=Ai h;rw[gY]at this;exact this) (ph (gB h)),by rw[nq];lia,?_⟩
 rw[dq];unfold dB;split
 ·rw[Tu];lia
 ·lia
noncomputable def LZ:B:=.cons (.ret (.tup (.cons (.c (.str "for")) (.cons (.v 4) (.cons (.v 10) (.cons (.call 53 (.cons (.v 0) (.cons (.op .Add (.lst (.cons (.tup (.cons (.v 4) (.cons (.ix (.v 5) (.c (.int 1))) .nil))) .nil)) (.v 1)) (.cons (.op .Sub (.v 2) (.c (.int 1))) (.cons (.v 3) .nil))))) .nil)))))) .nil
noncomputable def L0:B:=.cons (.set (.many [10,5]) (.call 51 (.cons (.v 1) (.cons (.op .Sub (.v 2) (.c (.int 1))) (.cons (.v 3) .nil))))) LZ
noncomputable def L3:B:=.cons (.cond (.cmp .Eq (.v 8) (.c (.int 6))) (.cons (.set (.one 5) (.ix (.lst (.cons (.tup (.cons (.c (.str "num")) .nil)) (.cons (.tup (.cons (.c (.str "bag")) (.cons (.tup (.cons (.c (.str "num")) .nil)) .nil))) .nil))) (.call 42 (.cons (.v 3) (.cons (.c (.int 2)) .nil))))) (.cons (.set (.one 9) (.call 53 (.cons (.v 5) (.cons (.v 1) (.cons (.op .Sub (.v 2) (.c (.int 2))) (.cons (.v 3) .nil)))))) (.cons (.ret (.tup (.cons (.c (.str "let")) (.cons (.v 4) (.cons (.v 9) (.cons (.call 53 (.cons (.v 0) (.cons (.op .Add (.lst (.cons (.tup (.cons (.v 4) (.cons (.v 5) .nil))) .nil)) (.v 1)) (.cons (.op .Sub (.v 2) (.c (.int 1))) (.cons (.v 3) .nil))))) .nil)))))) .nil))) .nil) L0
noncomputable def L4:B:=.cons (.set (.one 4) (.ix (.lst (.cons (.c (.str "t")) (.cons (.c (.str "s")) (.cons (.c (.str "z")) .nil)))) (.call 42 (.cons (.v 3) (.cons (.c (.int 3)) .nil))))) L3
noncomputable def AP:B:=.cons (.cond (.and (.cmp .Eq (.v 8) (.c (.int 8))) (.cmp .Eq (.call 42 (.cons (.v 3) (.cons (.c (.int 2)) .nil))) (.c (.int 0)))) (.cons (.ret (.tup (.cons (.c (.str "none")) (.cons (.ix (.v 0) (.c (.int 1))) .nil)))) .nil) .nil) L4
noncomputable def L5:B:=.cons (.cond (.cmp .Eq (.v 8) (.c (.int 7))) (.cons (.ret (.call 52 (.cons (.v 0) (.cons (.v 1) (.cons (.v 2) (.cons (.v 3) .nil)))))) .nil) .nil) AP
noncomputable def L6:B:=.cons (.cond (.cmp .Eq (.v 8) (.c (.int 5))) (.cons (.ret (.tup (.cons (.c (.str "one")) (.cons (.call 49 (.cons (.ix (.v 0) (.c (.int 1))) (.cons (.v 1) (.cons (.op .Sub (.v 2) (.c (.int 1))) (.cons (.v 3) .nil))))) .nil)))) .nil) .nil) L5
noncomputable def L7:B:=.cons (.cond (.cmp .Eq (.v 8) (.c (.int 4))) (.cons (.ret (.tup (.cons (.c (.str "when")) (.cons (.call 50 (.cons (.v 1) (.cons (.c (.int 1)) (.cons (.v 3) .nil)))) (.cons (.call 53 (.cons (.v 0) (.cons (.v 1) (.cons (.op .Sub (.v 2) (.c (.int 1))) (.cons (.v 3) .nil))))) .nil))))) .nil) .nil) L6
noncomputable def L8:B:=.cons (.cond (.cmp .Eq (.v 8) (.c (.int 3))) (.cons (.ret (.tup (.cons (.c (.str "times")) (.cons (.op .Sub (.call 42 (.cons (.v 3) (.cons (.c (.int 7)) .nil))) (.c (.int 3))) (.cons (.call 53 (.cons (.v 0) (.cons (.v 1) (.cons (.op .Sub (.v 2) (.c (.int 1))) (.cons (.v 3) .nil))))) .nil))))) .nil) .nil) L7
noncomputable def L9:B:=.cons (.cond (.cmp .Eq (.v 8) (.c (.int 2))) (.cons (.ret (.tup (.cons (.c (.str "both")) (.cons (.call 53 (.cons (.v 0) (.cons (.v 1) (.cons (.op .Sub (.v 2) (.c (.int 1))) (.cons (.v 3) .nil))))) (.cons (.call 53 (.cons (.v 0) (.cons (.v 1) (.cons (.op .Sub (.v 2) (.c (.int 1))) (.cons (.v 3) .nil))))) .nil))))) .nil) .nil) L8
noncomputable def ud:B:=.cons (.cond (.or (.cmp .LtE (.v 2) (.c (.int 0))) (.cmp .Lt (.v 8) (.c (.int 2)))) (.cons (.cond (.and (.cmp .Eq (.v 7) (.lst .nil)) (.cmp .Eq (.call 42 (.cons (.v 3) (.cons (.c (.int 2)) .nil))) (.c (.int 0)))) (.cons (.ret (.tup (.cons (.c (.str "one")) (.cons (.call 49 (.cons (.ix (.v 0) (.c (.int 1))) (.cons (.v 1) (.cons (.c (.int 0)) (.cons (.v 3) .nil))))) .nil)))) .nil) .nil) (.cons (.cond (.cmp .Eq (.v 7) (.lst .nil)) (.cons (.ret (.tup (.cons (.c (.str "none")) (.cons (.ix (.v 0) (.c (.int 1))) .nil)))) .nil) .nil) (.cons (.ret (.ix (.v 7) (.call 42 (.cons (.v 3) (.cons (.bi .len (.cons (.v 7) .nil)) .nil))))) .nil))) .nil) L9
noncomputable def AQ:B:=.cons (.set (.one 8) (.call 42 (.cons (.v 3) (.cons (.c (.int 12)) .nil)))) ud
noncomputable def L':B:=.cons (.set (.one 7) (.op .Add (.op .Add (.call 48 (.cons (.v 0) (.cons (.v 1) .nil))) (.v 6)) (.v 6))) AQ
noncomputable def Ma:B:=.cons (.set (.one 6) (.lc 2 [0] (.many [0,1]) (.seq (.oy (.call 46 .nil))) (.cmp .Eq (.tup (.cons (.c (.str "bag")) (.cons (.v 1) .nil))) (.v 2)) (.tup (.cons (.c (.str "table")) (.cons (.v 0) .nil))))) L'
noncomputable def Mb:B:=.cons (.cond (.cmp .NotEq (.ix (.v 0) (.c (.int 0))) (.c (.str "bag"))) (.cons (.ret (.call 49 (.cons (.v 0) (.cons (.v 1) (.cons (.v 2) (.cons (.v 3) .nil)))))) .nil) .nil) Ma
theorem Mc:aC ["kind","scope","fuel","seed","name","other","named","ways","way","bound_v","over"] ["kind","scope","fuel","seed"] (ag (aa 79)):=⟨rfl,rfl,rfl,by decide +kernel,rfl,by decide +kernel,by decide +kernel⟩
theorem Md:aF nm 40 ["kind","scope","fuel","seed","name","other","named","ways","way","bound_v","over"] (ag (aa 79)) (av (aa 79))=Mb:=by kernel_rfl
noncomputable abbrev TZ (n:Nat):a8 w:={ cs:=[(42,g'),(46,mu),(48,tY),(49,hB n),(50,ke n),(51,pD n),(52,pC n),(53,fh n)] }
theorem Me (O:Lw w) {n:Nat} (hs:FO w 49 (n+4) (hB n)) (hc:FO w 50 (n+4) (ke n)) (ho:FO w 51 (n+4) (pD n)) (ht:FO w 52 (n+4) (pC n)) (ha:FO w 53 (n+4) (fh n)):FO w 53 (n+5) (fh (n+1)):=by
 refine aJ O.ok O.hn _ ⟨"_law_asked",aa 79,["kind","scope","fuel","seed"]⟩ (by rw[O.hd];rfl) (TZ n) { cs:=⟨⟨1,by lia,i7 O⟩,⟨1,by lia,pg O⟩,⟨2,by lia,Am O⟩,⟨n+4,W3 _,hs⟩,⟨n+4,W3 _,hc⟩,⟨n+4,W3 _,ho⟩,⟨n+4,W3 _,ht⟩,⟨n+4,W3 _,ha⟩,trivial⟩ } Mc Md λds M Q _ h=>?_;obtain⟨κ,sc,f,p,rfl,hκ,rk,am,hp,h⟩:=h;have fin:∀(X:Mp) (q:Qn),Sx M p X->GQ f κ sc q->aW Q (qD q) X:=λX q u g=>ar (h q X u g);cases κ with
 |num=>exact⟨rfl,_,rfl,au (aX (by decide) ⟨_,sc,f,p,rfl,hκ,by unfold Rk at rk ⊢;rw[Tv]at rk <;> first |lia |(intro k;exact nofun),am,hp,λq X u g=>fin X q u g⟩)⟩
 |word=>exact⟨rfl,_,rfl,au (aX (by decide) ⟨_,sc,f,p,rfl,hκ,by unfold Rk at rk ⊢;rw[Tv]at rk <;> first |lia |(intro k;exact nofun),am,hp,λq X u g=>fin X q u g⟩)⟩
 |row fs=>exact⟨rfl,_,rfl,au (aX (by decide) ⟨_,sc,f,p,rfl,hκ,by unfold Rk at rk ⊢;rw[Tv]at rk <;> first |lia |(intro k;exact nofun),am,hp,λq X u g=>fin X q u g⟩)⟩
 |ah k=>
 have hk:=gB hκ;have Uy:kd (.ah k)=kd k+1:=by rw[kd]
 unfold Rk at rk;rw[Tv]at rk;refine⟨rfl,_,rfl,au (az (by decide) ?_)⟩;show lM (E.w (TZ (w:=w) n).wd nm.ai (.call 46 .nil)).1 [some (kD (.ah k)),some (a4 sc),some (.int f),some (.ref p),none,none,none,none,none,none,none] M _;refine zX (ms:=aM) (M:=M) (λk z=>⟨rfl,z⟩) (by decide) (by decide +kernel) λout pm=>.inl ?_;refine e8 (λxs ys M'=>M'=M/\∃rest vs,xs=cQ rest/\ys=vs.map qD/\(∀p∈rest,p∈aM)/\(∀v∈vs,Wy (.ah k) sc v)/\vs.length+rest.length<=5) ?_ ?_ _ _ _ ⟨rfl,out,[],rfl,rfl,λp hp=>pm.mem_iff.mp hp,λv hv=>(nomatch hv),by have:aM.length=5:=rfl;have:=pm.length_eq;simp;lia⟩
 ·rintro ys M' ⟨rfl,rest,vs,e1,rfl,_,hv,lv⟩;refine⟨trivial,Xg (by rw[W0];lia:_<=5) (by decide),.inl ?_⟩;have S4:vs.length<=5:=by lia
  refine⟨.ah k,sc,_,rfl,hκ,am,λws hw lw=>⟨W9 (by simp;lia:_<=300) (by decide),.inl ⟨W9 (by simp;lia:_<=300) (by decide),.inl ?_⟩⟩⟩;have key:∀(d:List D) (ws:List Qn),d=ws.map qD->(∀q∈ws,Wy (.ah k) sc q)->ws.length<=300->B.w (TZ (w:=w) n).wd nm.ai AQ (a' Q) [some (kD (.ah k)),some (a4 sc),some (.int f),some (.ref p),none,none,some (.lst (vs.map qD)),some (.lst d),none,none,none] M':=?_
  ·refine key _ (ws++vs++vs) (by rw[Xn,Xn]) ?_ ?_
   ·intro q hq;rcases List.mem_append.mp hq with z |z
    ·rcases List.mem_append.mp z with z |z
     ·exact (hw q z).V'
     ·exact hv q z
    ·exact hv q z
   ·simp;lia
  clear lw hw ws;rintro _ ws rfl hw lw;refine⟨p,12,rfl,hp,by decide,by decide,λcS Y u2 _ _=>?_⟩;show B.w (TZ (w:=w) n).wd nm.ai ud (a' Q) [some (kD (.ah k)),some (a4 sc),some (.int f),some (.ref p),none,none,some (.lst (vs.map qD)),some (.lst (ws.map qD)),some (.int cS),none,none] Y;refine fI λN to=>?_;have io:B.w (TZ (w:=w) n).wd nm.ai (Kh (fe ud)) { a' Q with nx:=N } [some (kD (.ah k)),some (a4 sc),some (.int f),some (.ref p),none,none,some (.lst (vs.map qD)),some (.lst (ws.map qD)),some (.int cS),none,none] Y:=by
   refine fI λN3 t8=>?_;have go:∀X,Sx M' p X->N3 [some (kD (.ah k)),some (a4 sc),some (.int f),some (.ref p),none,none,some (.lst (vs.map qD)),some (.lst (ws.map qD)),some (.int cS),none,none] X:=by
    intro X uX;refine t8 _ _ ⟨Xk _,.inl (oV (a3 (λe=>⟨_,rfl,l2,fin _ (.none k) uX (AO hκ)⟩) λe=>?_))⟩;have AC:0<ws.length:=by
     cases ws with
     |nil=>simp at e
     |cons _ _=>simp
    refine⟨p,_,rfl,uX.hs,by rw[W0];lia,?_,λr X2 u3 r0 r1=>?_⟩
    ·rw[W0];exact Int.lt_of_le_of_lt (by lia:_<=(300:Int)) (by decide)
    obtain⟨d,e3,e4⟩:=et r0 r1;obtain⟨q,hq,rfl⟩:=List.mem_map.mp e4;have hq':=hw q hq;have nb:=fK (f:=f) hκ;exact⟨_,e3,fin _ q (uX.tr u3) ⟨hq'.ty,by have:=hq'.n;lia,by have:=hq'.d;lia⟩⟩
   refine⟨Xk _,.inl (oV (a3 (λe=>⟨p,2,rfl,u2.hs,by decide,by decide,λr X3 u3 _ _=>bw (a3 (λe2=>?_) λe2=>go _ (u2.tr u3))⟩) λe=>az (by decide) (go Y u2)))⟩;exact⟨_,rfl,k,sc,0,p,rfl,hk,by unfold Rk;lia,am.dj (Xk _),u3.hs,λq X4 u4 g=>⟨l2,fin _ (.one q) ((u2.tr u3).tr u4) (LY hκ g)⟩⟩
  have Mf:0<f->N [some (kD (.ah k)),some (a4 sc),some (.int f),some (.ref p),none,none,some (.lst (vs.map qD)),some (.lst (ws.map qD)),some (.int cS),none,none] Y:=by
   intro fp;refine to _ _ ?_;obtain⟨b1,b2⟩:=AH fp hκ;have i':∀{κ'} {g:Int},κ'∈AK->g<=f-1->Rk n g κ' (Tv κ'):=λ{κ' g} h1 h2=>by have:=fg h1;have:=@t4 κ';unfold Rk;lia
   have ck:∀{κ' AR q} {g:Int},κ'∈AK->g<=f-1->GQ g κ' AR q->nq q<=zf (f-1).toNat/\dq q<=9 * (f-1).toNat+9:=λ{κ' AR q g} h1 h2 h3=>by
    have:=fK (f:=g) h1;have:=tZ (show g.toNat<=(f-1).toNat by lia);have:=h3.n;have:=h3.d
    lia
   have K':=i8 (f-1).toNat;refine bw (a3 (λ_=>?w2) λ_=>bw (a3 (λ_=>?w3) λ_=>bw (a3 (λ_=>?Wa) λ_=>bw (a3 (λ_=>?Wb) λ_=>bw (a3 (λ_=>?w7) λ_=>?_)))))
   case w2=>
    refine⟨.ah k,sc,f-1,p,rfl,hκ,i' hκ (Yi _),am.dj (by lia),u2.hs,λqa Xa ua ga=>⟨.ah k,sc,f-1,p,rfl,hκ,i' hκ (Yi _),am.dj (by lia),ua.hs,λqb Xb ub gb=>⟨l3,fin _ (.both qa qb) ((u2.tr ua).tr ub) ⟨.both (ph (gB hκ)) ga.ty gb.ty,?_,?_⟩⟩⟩⟩
    ·have:=ck hκ (Yi _) ga;have:=ck hκ (Yi _) gb;rw[nq,b1];lia
    ·have:=ck hκ (Yi _) ga;have:=ck hκ (Yi _) gb;rw[dq,b2];lia
   case w3=>
    refine⟨p,7,rfl,u2.hs,by decide,by decide,λr X3 u3 _ _=>⟨.ah k,sc,f-1,p,rfl,hκ,i' hκ (Yi _),am.dj (by lia),u3.hs,λqa Xa ua ga=>⟨l3,fin _ (.times (r-3) qa) ((u2.tr u3).tr ua) ⟨.times ga.ty,?_,?_⟩⟩⟩⟩
    ·have:=ck hκ (Yi _) ga;rw[nq,b1];lia
    ·have:=ck hκ (Yi _) ga;rw[dq,b2];lia
   case Wa=>
    refine⟨sc,1,p,rfl,by decide,by decide,by lia,am.dj (Xk _),u2.hs,λc Xc Vp tc Vq Uc=>⟨.ah k,sc,f-1,p,rfl,hκ,i' hκ (Yi _),am.dj (by lia),Vp.hs,λqa Xa ua ga=>⟨l3,fin _ (.aP c qa) ((u2.tr Vp).tr ua) ⟨.aP tc ga.ty,?_,?_⟩⟩⟩⟩
    ·have Vq:nq c<=17:=Vq;have:=ck hκ (Yi _) ga;rw[nq,b1];lia
    ·have Uc:dq c<=8:=Uc;have:=ck hκ (Yi _) ga;rw[dq,b2];lia
   case Wb=>
    refine⟨_,rfl,k,sc,f-1,p,rfl,hk,by unfold Rk;lia,am.dj (by lia),u2.hs,λqa Xa ua ga=>⟨l2,fin _ (.one qa) (u2.tr ua) ⟨.one ga.ty,?_,?_⟩⟩⟩
    ·have:=ck hk (Yi _) ga;rw[nq,b1];lia
    ·have:=ck hk (Yi _) ga;rw[dq,b2];lia
   case w7=>
    exact⟨.ah k,sc,f,p,rfl,hκ,fp,by lia,am,u2.hs,λqa Xa ua ga=>fin _ qa (u2.tr ua) ga⟩
   show B.w (TZ (w:=w) n).wd nm.ai AP (a' Q) [some (kD (.ah k)),some (a4 sc),some (.int f),some (.ref p),none,none,some (.lst (vs.map qD)),some (.lst (ws.map qD)),some (.int cS),none,none] Y;refine fI λN8 Mg=>?_;have go:∀X,Sx M' p X->N8 [some (kD (.ah k)),some (a4 sc),some (.int f),some (.ref p),none,none,some (.lst (vs.map qD)),some (.lst (ws.map qD)),some (.int cS),none,none] X:=by
    intro X uX;refine Mg _ _ ?_;refine⟨l3,.inl ⟨p,3,rfl,uX.hs,by decide,by decide,λr Z uZ r0 r1=>?_⟩⟩;obtain⟨d,e3,e4⟩:=et (xs:=[.str "t",.str "s",.str "z"]) r0 r1;obtain⟨x,rfl,hx⟩:∃x:Str,d=.str x/\x≠"w":=by
     simp only[XI,Xq,or_false]at e4;rcases e4 with z |z |z
     ·exact⟨_,z,by decide +kernel⟩
     ·exact⟨_,z,by decide +kernel⟩
     ·exact⟨_,z,by decide +kernel⟩
    refine⟨_,e3,?_⟩;have AS:=uX.tr uZ;have ext:∀{κ':Kd},κ'∈AK->d4 ((x,κ')::sc) (f-1).toNat:=λ{κ'} h4=>by
     refine⟨λq hq=>?_,?_,λq hq=>?_⟩
     ·rcases List.mem_cons.mp hq with rfl |hq
      ·exact h4
      ·exact am.TC q hq
     ·have:=am.len;rw[Xd];lia
     ·rcases List.mem_cons.mp hq with rfl |hq
      ·exact hx
      ·exact am.UX q hq
    have sl:([D.tup [.str x,kD .num]].length+(cQ sc).length)<=sizeLine:=W9 (by have:=am.len;unfold cQ;simp;lia:_<=300) (by decide)
    refine bw (a3 (λ_=>?_) λ_=>?_)
    ·refine⟨l1,l1,l2,l2,.inl ⟨p,2,rfl,uZ.hs,by decide,by decide,λr X3 u3 r0 r1=>?_⟩⟩;obtain⟨d,UZ,TY⟩:=et (xs:=[kD .num,kD (.ah .num)]) r0 r1;obtain⟨κ',rfl,hκ'⟩:∃ κ',d=kD κ'/\κ'∈AK:=by
      simp only[XI,Xq,or_false]at TY;rcases TY with z |z
      ·exact⟨_,z,by decide +kernel⟩
      ·exact⟨_,z,by decide +kernel⟩
     refine⟨_,UZ,?_⟩;refine⟨κ',sc,f-2,p,rfl,hκ',i' hκ' (by lia),am.dj (by lia),u3.hs,λqa Xa ua ga=>⟨l2,l1,.inl ⟨sl,.inl ⟨.ah k,(x,κ')::sc,f-1,p,rfl,hκ,i' hκ (Yi _),ext hκ',ua.hs,λqb Xb ub gb=>⟨l4,fin _ (.let x qa qb) (((AS.tr u3).tr ua).tr ub) ⟨.let (W9 (fg hκ') (by decide)) ga.ty gb.ty,?_,?_⟩⟩⟩⟩⟩⟩
     ·have:=ck hκ' (by lia) ga;have:=ck hκ (Yi _) gb;rw[nq,b1];lia
     ·have:=ck hκ' (by lia) ga;have:=ck hκ (Yi _) gb;rw[dq,b2];lia
    ·refine⟨sc,f-1,p,rfl,by lia,am.dj (by lia),uZ.hs,λqa κ' Xa ua hκ' ty S5 S6=>⟨rfl,_,rfl,l2,l1,.inl ⟨sl,.inl ⟨.ah k,(x,κ')::sc,f-1,p,rfl,hκ,i' hκ (Yi _),ext (gB hκ'),ua.hs,λqb Xb ub gb=>⟨l4,fin _ (.for x qa qb) ((AS.tr ua).tr ub) ⟨.for ⟨W9 (fg (gB hκ')) (by decide),ph (gB hκ')⟩ ty gb.ty,?_,?_⟩⟩⟩⟩⟩⟩
     ·have:=ck hκ (Yi _) gb;rw[nq,b1];lia
     ·have:=ck hκ (Yi _) gb;rw[dq,b2];lia
   refine bw (a3 (λ_=>⟨p,2,rfl,u2.hs,by decide,by decide,λr X3 u3 _ _=>bw (a3 (λ_=>⟨_,rfl,l2,fin _ (.none k) (u2.tr u3) (AO hκ)⟩) λ_=>go _ (u2.tr u3))⟩) λ_=>az (by decide) (go Y u2))
  exact a3 (λe1=>aX rfl io) λe1=>a3 (λe2=>io) λe2=>Mf (by have:=of_decide_eq_false (Bool.eq_false_iff.mpr e1);lia)
 ·rintro y xs ys M' ⟨rfl,rest,vs,e1,rfl,hr,hv,lv⟩;cases rest with
  |nil=>cases e1
  |cons g rest=>
   obtain⟨gf,gk⟩:=g;cases e1;have hg:=hr _ W';have a1:∀p∈rest,p∈aM:=λp hp=>hr p (W8 _ hp);rw[Xd]at lv;have AN:kd (.ah gk)<=50:=(by decide +kernel:∀p∈aM,kd (.ah p.2)<=50) _ hg;refine⟨trivial,Xg (by rw[W0];lia:_<=5) (by decide),λN hN=>⟨rfl,l2,ka (a:=.ah gk) (b:=.ah k) AN (a3 (λe=>⟨l2,?_⟩) λe=>hN _ _ ⟨rfl,rest,vs,rfl,rfl,a1,hv,by lia⟩)⟩⟩;have e:Kd.ah gk=.ah k:=of_decide_eq_true e;cases e;have:=hN (vs.map qD++[qD (.tab gf)]) _ ⟨rfl,rest,vs++[.tab gf],rfl,by rw[Xn];rfl,a1,λv iC=>?_,by simp;lia⟩
   ·exact this
   ·rcases List.mem_append.mp iC with z |z
    ·exact hv v z
    ·rw[List.mem_singleton.mp z];exact⟨.tab (tS (by decide +kernel) hg),by rw[nq];lia,by rw[dq];lia⟩
structure Mh (w:Wo) (n:Nat):Prop where
 s:FO w 49 (n+4) (hB n)
 c:FO w 50 (n+4) (ke n)
 o:FO w 51 (n+4) (pD n)
 t:FO w 52 (n+4) (pC n)
 a:FO w 53 (n+4) (fh n)
theorem AU (O:Lw w):∀n,Mh w n
 | 0=>by
  have no:∀i d sp,ey[i]?=some d->(∀ds M Q E,¬sp ds M Q E)->FO w i 4 sp:=λi d sp h g=>FO.imp (tm O.ok (by rw[O.hd];exact h) (cs:=[]) trivial) λds M Q E z=>(g ds M Q E z).elim;refine⟨no _ _ _ rfl ?_,no _ _ _ rfl ?_,no _ _ _ rfl ?_,no _ _ _ rfl ?_,no _ _ _ rfl ?_⟩
  ·rintro ds M Q E ⟨κ,sc,f,p,_,_,rk,_⟩;unfold Rk at rk;lia
  ·rintro ds M Q E ⟨sc,f,p,_,_,_,rk,_⟩;lia
  ·rintro ds M Q E ⟨sc,f,p,_,rk,_⟩;lia
  ·rintro ds M Q E ⟨κ,sc,f,p,_,_,_,rk,_⟩;lia
  ·rintro ds M Q E ⟨κ,sc,f,p,_,hκ,rk,_⟩;have:=(pv hκ).2.2.2.2;unfold Rk at rk;lia
 |n+1=>let g:=AU O n;⟨Lj O g.s g.a,Lu O g.s g.c,LQ O g.a,LD O g.a,Me O g.s g.c g.o g.t g.a⟩
variable {w:Wo}
noncomputable def us:Qn->List Qn
 |.row fs=>fs.map (·.2)
 |.at _ q=>[q]
 |.add a b=>[a,b] |.mul a b=>[a,b]
 |.one q=>[q]
 |.both a b=>[a,b]
 |.times _ q=>[q]
 |.for _ a b=>[a,b] |.aP a b=>[a,b] |.let _ a b=>[a,b]
 |.same a b=>[a,b] |.under a b=>[a,b] |.and a b=>[a,b] |.or a b=>[a,b]
 |.not q=>[q]
 |_=>[]
theorem AV (O:Lw w) {s:Str}{b:Bool}{M:Mp}{k:Bool->Prop} (hb:dT (.str s) (pe.map D.str)=b) (h:k b):fC (.str s) (w.gv.getD 0 .aj) M k:=by
 rw[O.g0];refine⟨⟨rfl,by decide +kernel,by decide +kernel,?_⟩⟩;rw[hb];exact h
noncomputable def Mi:B:=(.cons (.cond (.cmp .Eq (.ix (.v 0) (.c (.int 0))) (.c (.str "row"))) (.cons (.ret (.bi .tuple (.cons (.lc 2 [] (.many [0,1]) (.seq (.ix (.v 0) (.c (.int 1)))) .aq (.v 1)) .nil))) .nil) .nil) (.cons (.ret (.ite (.cmp .In (.ix (.v 0) (.c (.int 0))) (.g 0)) (.sl (.v 0) (.c (.int 2)) .aq) (.sl (.v 0) (.c (.int 1)) .aq))) .nil))
theorem Mj:aC ["question"] ["question"] (ag (aa 6)):=⟨rfl,rfl,rfl,by decide +kernel,rfl,by decide +kernel,by decide +kernel⟩
theorem Ml:aF nm 40 ["question"] (ag (aa 6)) (av (aa 6))=Mi:=by kernel_rfl
def kg:Sp:=λds M Q _=>∃q,ds=[qD q]/\(us q).length<100/\Q (.tup ((us q).map qD)) M
theorem mw:∀fs:List (Str×Qn),bq fs=fs.map λp=>.tup [.str p.1,qD p.2]
 |[]=>by rw[bq];rfl
 |(f,q)::r=>by rw[bq,mw r];rfl
theorem mx:∀fs:List (Str×Kd),bN fs=fs.map λp=>.tup [.str p.1,kD p.2]
 |[]=>by rw[bN];rfl
 |(f,q)::r=>by rw[bN,mx r];rfl
theorem my (O:Lw w):FO w 0 1 kg:=by
 refine aJ O.ok O.hn _ ⟨"under",aa 6,["question"]⟩ (by rw[O.hd];rfl) {} { cs:=trivial } Mj Ml λds M Q _ h=>?_;obtain⟨q,rfl,hl,h⟩:=h;cases q with
 |row fs=>
  refine⟨rfl,_,rfl,au (aX (by decide) ⟨_,rfl,?_⟩)⟩;show cK (λ_=>True) (.many [0,1]) gn _ _ _ (bq fs) [] M;rw[mw];have hl:fs.length<100:=by simpa [us] using hl
  refine gX (λp:Str×Qn=>.tup [.str p.1,qD p.2]) (λp=>qD p.2) fs ?_ (XR hl (by decide)) (λp _ N hN=>?_) ?_
  ·exact trivial
  ·exact⟨rfl,hN⟩
  ·refine .inl (ar ?_);rw[us,Yd]at h;exact h
 |_=>
  refine⟨rfl,_,rfl,au (az (by decide) ⟨_,rfl,?_⟩)⟩;dsimp only[E.w,jI]
  first
  |exact AV O (b:=true) (by decide +kernel) (aX rfl (ar h))
  |exact AV O (b:=false) (by decide +kernel) (az (by decide) (ar h))
noncomputable def Mm:B:=(.cons (.ex (.mt .append (.fld (.v 0) "waiting") (.cons (.tup (.cons (.v 1) (.cons (.v 2) (.cons (.v 3) .nil)))) .nil))) .nil)
theorem Mn:aC ["self","step","question","around"] ["self","step","question","around"] (ag (bh (aa 11) 1)):=⟨rfl,rfl,rfl,by decide +kernel,rfl,by decide +kernel,by decide +kernel⟩
theorem Mo:aF nm 40 ["self","step","question","around"] (ag (bh (aa 11) 1)) (av (bh (aa 11) 1))=Mm:=by kernel_rfl
noncomputable def Mq:B:=(.cons (.ex (.mt .append (.fld (.v 0) "found") (.cons (.v 1) .nil))) .nil)
theorem Mr:aC ["self","result"] ["self","result"] (ag (bh (aa 11) 2)):=⟨rfl,rfl,rfl,by decide +kernel,rfl,by decide +kernel,by decide +kernel⟩
theorem Ms:aF nm 40 ["self","result"] (ag (bh (aa 11) 2)) (av (bh (aa 11) 2))=Mq:=by kernel_rfl
noncomputable def Mu:B:=(.cons (.set (.one 2) (.lc 1 [0] (.one 0) (.lP (.v 1)) .aq (.mt .pop (.fld (.v 1) "found") .nil))) (.cons (.ret (.rev (.v 2))) .nil))
theorem Mv:aC ["self","many","taken"] ["self","many"] (ag (bh (aa 11) 3)):=⟨rfl,rfl,rfl,by decide +kernel,rfl,by decide +kernel,by decide +kernel⟩
theorem Mw:aF nm 40 ["self","many","taken"] (ag (bh (aa 11) 3)) (av (bh (aa 11) 3))=Mu:=by kernel_rfl
noncomputable def My:B:=(.cons (.oA (.v 0) "waiting" (.lst .nil)) (.cons (.oA (.v 0) "found" (.lst .nil)) .nil))
theorem Mz:aC ["self"] ["self"] (ag (bh (aa 11) 0)):=⟨rfl,rfl,rfl,by decide +kernel,rfl,by decide +kernel,by decide +kernel⟩
theorem MA:aF nm 40 ["self"] (ag (bh (aa 11) 0)) (av (bh (aa 11) 0))=My:=by kernel_rfl
def fL (w:Wo):Sp:=λds M Q _=>∃x a b dx s q r xs,ds=[.ref x,s,q,r]/\M x=some (.ins (w.ca 0) dx [("waiting",.ref a),("found",.ref b)])/\M a=some (.lst xs)/\xs.length<sizeLine/\Q .aj (up M a (.lst (xs++[.tup [s,q,r]])))
theorem ja (O:Lw w):dh w 1 1 (fL w):=by
 refine i0 O.ok O.hn _ ⟨"later",(bh (aa 11) 1),["self","step","question","around"]⟩ (by rw[O.hms];rfl) {} { cs:=trivial } Mn Mo λds M Q _ h=>?_;obtain⟨x,a,b,dx,s,q,r,xs,rfl,hx,ha,hl,h⟩:=h;exact⟨rfl,_,_,_,hx,_,O.fw,rfl,.inl ⟨rfl,_,ha⟩,l3,_,ha,hl,ar h⟩
def ez (w:Wo):Sp:=λds M Q _=>∃x a b dx d xs,ds=[.ref x,d]/\M x=some (.ins (w.ca 0) dx [("waiting",.ref a),("found",.ref b)])/\M b=some (.lst xs)/\xs.length<sizeLine/\Q .aj (up M b (.lst (xs++[d])))
theorem jb (O:Lw w):dh w 2 1 (ez w):=by
 refine i0 O.ok O.hn _ ⟨"tell",(bh (aa 11) 2),["self","result"]⟩ (by rw[O.hms];rfl) {} { cs:=trivial } Mr Ms λds M Q _ h=>?_;obtain⟨x,a,b,dx,d,xs,rfl,hx,hb,hl,h⟩:=h;exact⟨rfl,_,_,_,hx,_,O.ff,rfl,.inl ⟨rfl,_,hb⟩,_,hb,hl,ar h⟩
def jc (w:Wo):Sp:=λds M Q _=>∃x a b dx n fs ks,ds=[.ref x,.int n]/\M x=some (.ins (w.ca 0) dx [("waiting",.ref a),("found",.ref b)])/\M b=some (.lst (fs++ks))/\(ks.length:Int)=n/\n<1000/\Q (.lst ks) (up M b (.lst fs))
theorem kh (O:Lw w):dh w 3 1 (jc w):=by
 refine i0 O.ok O.hn _ ⟨"take",(bh (aa 11) 3),["self","many"]⟩ (by rw[O.hms];rfl) {} { cs:=trivial } Mv Mw λds M Q _ h=>?_;obtain⟨x,a,b,dx,n,fs,ks,rfl,hx,hb,hn,hl,h⟩:=h;have MB:x≠b:=by rintro rfl;rw[hx]at hb;cases hb
 refine⟨rfl,Int.le_trans (by decide) (by lia:0<=n),Int.lt_trans hl (by decide),?_⟩;refine e8 (λxs ys M'=>xs.length<=ks.length/\M'=up M b (.lst (fs++ks.take xs.length))/\ys=(ks.drop xs.length).reverse) ?_ ?_ _ _ _ ⟨?_,?_,?_⟩
 ·rintro ys M' ⟨_,rfl,rfl⟩;refine⟨trivial,Xg (by simp;lia:_<=1000) (by decide),.inl (.inl ?_)⟩;have e1:ks.drop ([]:List D).length=ks:=rfl;rw[e1,List.reverse_reverse];have e2:fs++ks.take ([]:List D).length=fs:=by simp
  rw[e2];exact ar h
 ·rintro d xs ys M' ⟨h1,rfl,rfl⟩;rw[Xd]at h1 ⊢;refine⟨trivial,Xg (by simp;lia:_<=1000) (by decide),λN hN=>?_⟩;have be:xs.length<ks.length:=by lia
  refine⟨_,dx,[("waiting",.ref a),("found",.ref b)],by rw[ay MB];exact hx,.ref b,O.ff,rfl,.inl ⟨rfl,_,ao⟩,_,ao,ks[xs.length],?_,?_⟩
  ·have:(fs++ks.take (xs.length+1)).length-1=fs.length+xs.length:=(by simp;lia);rw[this,XB (by lia),Nat.add_sub_cancel_left,List.getElem?_take,if_pos (by lia),W6 be]
  ·have e1:(fs++ks.take (xs.length+1)).dropLast=fs++ks.take xs.length:=by
    rw[List.take_succ,W6 be,Option.toList_some,<- Xy,List.dropLast_concat]
   rw[e1,_root_.N.b8];refine hN _ _ ⟨by lia,rfl,?_⟩;rw[List.drop_eq_getElem_cons be,YA]
 ·unfold fy;simp;lia
 ·have:(fy 0 n.toNat).length=ks.length:=by unfold fy;simp;lia
  rw[this,List.take_length,Aq hb]
 ·have:(fy 0 n.toNat).length=ks.length:=by unfold fy;simp;lia
  rw[this,List.drop_length];rfl
def pE (w:Wo):Sp:=λds M Q _=>∃x dx,ds=[.ref x]/\M x=some (.ins (w.ca 0) dx [])/\∀a b,M a=none->M b=none->a≠b->Q .aj (Wm (up M x (.ins (w.ca 0) dx [("waiting",.ref a),("found",.ref b)])) a b [] [])
theorem ue (O:Lw w):dh w 0 1 (pE w):=by
 refine i0 O.ok O.hn _ ⟨"__init__",(bh (aa 11) 0),["self"]⟩ (by rw[O.hms];rfl) {} { cs:=trivial } Mz MA λds M Q _ h=>?_;obtain⟨x,dx,rfl,hx,h⟩:=h;refine⟨rfl,Xk _,.inr λa ha=>?_⟩;have na:x≠a:=cV hx ha;refine⟨_,dx,[],by rw[ay na];exact hx,O.fw,by decide,Xk _,.inr λb hb=>?_⟩;have nb:x≠b:=by rintro rfl;rw[ao]at hb;cases hb
 rw[ay (Ys nb)]at hb;have Vr:a≠b:=by rintro rfl;rw[ao]at hb;cases hb
 rw[ay (Ys Vr)]at hb;refine⟨_,dx,[("waiting",.ref a)],by rw[ay nb];exact ao,O.ff,(show 1<1000 by decide),ar ?_⟩;have e:=h a b ha hb Vr;have z:Wm (up M x (.ins (w.ca 0) dx [("waiting",.ref a),("found",.ref b)])) a b [] []=up (up (up (up M a (.lst [])) x (.ins (w.ca 0) dx [("waiting",.ref a)])) b (.lst [])) x (.ins (w.ca 0) dx [("waiting",.ref a),("found",.ref b)]):=by
  unfold Wm;rw[kc (p:=b) (r:=x) (Ys nb),_root_.N.b8,kc (p:=a) (r:=x) (Ys na)]
 rw[z]at e;exact e
variable {w:Wo}
def dk (f:Qn->List D->D->Prop):Sp:=λds M Q _=>∃q ks d,ds=[qD q,.lst ks]/\f q ks d/\Q d M
noncomputable def MC:B:=(.cons (.ret (.tup (.cons (.c (.str "bag")) (.cons (.ix (.v 0) (.c (.int 1))) .nil)))) .nil)
theorem MD:aC ["question","below"] ["question","below"] (ag (aa 34)):=⟨rfl,rfl,rfl,by decide +kernel,rfl,by decide +kernel,by decide +kernel⟩
theorem ME:aF nm 40 ["question","below"] (ag (aa 34)) (av (aa 34))=MC:=by kernel_rfl
noncomputable def MF:B:=(.cons (.ret (.tup (.cons (.ix (.v 0) (.c (.int 0))) .nil))) .nil)
theorem MG:aC ["question","below"] ["question","below"] (ag (aa 30)):=⟨rfl,rfl,rfl,by decide +kernel,rfl,by decide +kernel,by decide +kernel⟩
theorem MH:aF nm 40 ["question","below"] (ag (aa 30)) (av (aa 30))=MF:=by kernel_rfl
noncomputable def MI:B:=(.cons (.ret (.tup (.cons (.c (.str "bag")) (.cons (.ix (.v 1) (.c (.int 0))) .nil)))) .nil)
theorem MJ:aC ["question","below"] ["question","below"] (ag (aa 35)):=⟨rfl,rfl,rfl,by decide +kernel,rfl,by decide +kernel,by decide +kernel⟩
theorem MK:aF nm 40 ["question","below"] (ag (aa 35)) (av (aa 35))=MI:=by kernel_rfl
noncomputable def ML:B:=(.cons (.ret (.g 3)) .nil)
theorem MM:aC ["question","below"] ["question","below"] (ag (aa 40)):=⟨rfl,rfl,rfl,by decide +kernel,rfl,by decide +kernel,by decide +kernel⟩
theorem MN:aF nm 40 ["question","below"] (ag (aa 40)) (av (aa 40))=ML:=by kernel_rfl
theorem MP (O:Lw w):FO w 20 1 (dk λq _ d=>∃k,q=.none k/\d=kD (.ah k)):=by
 refine aJ O.ok O.hn _ ⟨"none_kind",aa 34,["question","below"]⟩ (by rw[O.hd];rfl) {} { cs:=trivial } MD ME λds M Q _ h=>?_;obtain⟨q,ks,d,rfl,⟨k,rfl,rfl⟩,h⟩:=h;exact⟨rfl,_,rfl,l2,ar h⟩
theorem MQ (O:Lw w):FO w 16 1 (dk λq _ d=>(∃i,q=.num i)/\d=kD .num\/(∃s,q=.word s)/\d=kD .word):=by
 refine aJ O.ok O.hn _ ⟨"plain_kind",aa 30,["question","below"]⟩ (by rw[O.hd];rfl) {} { cs:=trivial } MG MH λds M Q _ h=>?_;obtain⟨q,ks,d,rfl,⟨⟨i,rfl⟩,rfl⟩ |⟨⟨i,rfl⟩,rfl⟩,h⟩:=h
 ·exact⟨rfl,_,rfl,l1,ar h⟩
 ·exact⟨rfl,_,rfl,l1,ar h⟩
theorem MR (O:Lw w):FO w 21 1 (dk λ_ ks d=>∃k,ks=[kD k]/\d=kD (.ah k)):=by
 refine aJ O.ok O.hn _ ⟨"one_kind",aa 35,["question","below"]⟩ (by rw[O.hd];rfl) {} { cs:=trivial } MJ MK λds M Q _ h=>?_;obtain⟨q,ks,d,rfl,⟨k,rfl,rfl⟩,h⟩:=h;exact⟨rfl,_,rfl,l2,ar h⟩
theorem MS (O:Lw w):FO w 26 1 (dk λ_ _ d=>d=.tup [.str "truth"]):=by
 refine aJ O.ok O.hn _ ⟨"truth_kind",aa 40,["question","below"]⟩ (by rw[O.hd];rfl) {} { cs:=trivial } MM MN λds M Q _ h=>?_;obtain⟨q,ks,d,rfl,rfl,h⟩:=h;refine⟨rfl,ar ?_⟩;show Q (w.gv.getD 3 .aj) M;rw[O.g3];exact h
noncomputable def MT:B:=(.cons (.ret (.ite (.cmp .Eq (.ix (.ix (.v 1) (.neg (.c (.int 1)))) (.c (.int 0))) (.c (.str "bag"))) (.ix (.v 1) (.neg (.c (.int 1)))) (.c .aj))) .nil)
theorem MU:aC ["question","below"] ["question","below"] (ag (aa 37)):=⟨rfl,rfl,rfl,by decide +kernel,rfl,by decide +kernel,by decide +kernel⟩
theorem MV:aF nm 40 ["question","below"] (ag (aa 37)) (av (aa 37))=MT:=by kernel_rfl
noncomputable def MW:B:=(.cons (.ret (.ite (.cmp .Eq (.v 1) (.lst (.cons (.g 1) (.cons (.g 1) .nil)))) (.g 1) (.c .aj))) .nil)
theorem MX:aC ["question","below"] ["question","below"] (ag (aa 33)):=⟨rfl,rfl,rfl,by decide +kernel,rfl,by decide +kernel,by decide +kernel⟩
theorem MY:aF nm 40 ["question","below"] (ag (aa 33)) (av (aa 33))=MW:=by kernel_rfl
noncomputable def MZ:B:=(.cons (.ret (.ite (.cmp .Eq (.v 1) (.lst (.cons (.g 1) (.cons (.g 1) .nil)))) (.g 3) (.c .aj))) .nil)
theorem M4:aC ["question","below"] ["question","below"] (ag (aa 39)):=⟨rfl,rfl,rfl,by decide +kernel,rfl,by decide +kernel,by decide +kernel⟩
theorem M5:aF nm 40 ["question","below"] (ag (aa 39)) (av (aa 39))=MZ:=by kernel_rfl
noncomputable def M6:B:=(.cons (.ret (.ite (.cmp .In (.v 1) (.tup (.cons (.lst (.cons (.g 1) (.cons (.g 1) .nil))) (.cons (.lst (.cons (.g 2) (.cons (.g 2) .nil))) .nil)))) (.g 3) (.c .aj))) .nil)
theorem M7:aC ["question","below"] ["question","below"] (ag (aa 38)):=⟨rfl,rfl,rfl,by decide +kernel,rfl,by decide +kernel,by decide +kernel⟩
theorem M8:aF nm 40 ["question","below"] (ag (aa 38)) (av (aa 38))=M6:=by kernel_rfl
noncomputable def M9:B:=.cons (.ret (.v 3)) .nil
noncomputable def Na:B:=.cons (.put (.v 3) (.v 1) (.v 2)) M9
noncomputable def Nb:B:=.cons (.set (.one 3) (.bi .dict (.cons (.v 0) .nil))) Na
theorem Nc:aC ["names","name","meaning","more"] ["names","name","meaning"] (ag (aa 15)):=⟨rfl,rfl,rfl,by decide +kernel,rfl,by decide +kernel,by decide +kernel⟩
theorem Nd:aF nm 40 ["names","name","meaning","more"] (ag (aa 15)) (av (aa 15))=Nb:=by kernel_rfl
noncomputable def Nf:B:=(.cons (.ret (.lc 2 [] (.many [0,1]) (.seq (.ix (.v 0) (.c (.int 1)))) .aq (.v 0))) .nil)
theorem Ng:aC ["row"] ["row"] (ag (aa 17)):=⟨rfl,rfl,rfl,by decide +kernel,rfl,by decide +kernel,by decide +kernel⟩
theorem Nh:aF nm 40 ["row"] (ag (aa 17)) (av (aa 17))=Nf:=by kernel_rfl
noncomputable def Ni:B:=(.cons (.ret (.tup (.cons (.c (.str "row")) (.cons (.bi .tuple (.cons (.lc 2 [] (.many [0,1]) (.zip (.ix (.v 0) (.c (.int 1))) (.v 1)) .aq (.tup (.cons (.ix (.v 0) (.c (.int 0))) (.cons (.v 1) .nil)))) .nil)) .nil)))) .nil)
theorem Nj:aC ["question","below"] ["question","below"] (ag (aa 31)):=⟨rfl,rfl,rfl,by decide +kernel,rfl,by decide +kernel,by decide +kernel⟩
theorem Nk:aF nm 40 ["question","below"] (ag (aa 31)) (av (aa 31))=Ni:=by kernel_rfl
noncomputable def Nn:B:=(.cons (.cond (.cmp .NotEq (.ix (.ix (.v 1) (.c (.int 0))) (.c (.int 0))) (.c (.str "row"))) (.cons (.ret (.c .aj)) .nil) .nil) (.cons (.ret (.mt .get (.bi .dict (.cons (.ix (.ix (.v 1) (.c (.int 0))) (.c (.int 1))) .nil)) (.cons (.ix (.v 0) (.c (.int 1))) .nil))) .nil))
theorem Np:aC ["question","below"] ["question","below"] (ag (aa 32)):=⟨rfl,rfl,rfl,by decide +kernel,rfl,by decide +kernel,by decide +kernel⟩
theorem Nq:aF nm 40 ["question","below"] (ag (aa 32)) (av (aa 32))=Nn:=by kernel_rfl
theorem AW (O:Lw w):FO w 23 1 (dk λ_ ks d=>∃pre k,ks=pre++[kD (.ah k)]/\d=kD (.ah k)):=by
 refine aJ O.ok O.hn _ ⟨"last_bag_kind",aa 37,["question","below"]⟩ (by rw[O.hd];rfl) {} { cs:=trivial } MU MV λds M Q _ h=>?_;obtain⟨q,ks,d,rfl,⟨pre,k,rfl,rfl⟩,h⟩:=h;exact⟨rfl,_,o7,_,rfl,au (aX (by decide) ⟨_,o7,ar h⟩)⟩
theorem AX {n:Bool}{a b:Kd}{M:Mp}{k:Bool->Prop} (ha:kd a<=50) (hb:kd b<=50) (q:k true):ej n (.lst [kD a,kD b]) (.lst [kD a,kD b]) M k:=by
 have h1:=g8 a;have h2:=g8 b;have ok:aw (.lst [kD a,kD b])=true:=by rw[aw,aH,aH,aH,e9,e9];rfl
 refine .mk (.inl ⟨ok,ok,?_⟩) ?_
 ·show aO (.lst [kD a,kD b])<=100;rw[aO,aU,aU,aU];lia
 ·show k (aE (.lst [kD a,kD b]) (.lst [kD a,kD b]));rw[gh _ ok];exact q
theorem Nu (O:Lw w):FO w 19 1 (dk λ_ ks d=>ks=[kD .num,kD .num]/\d=kD .num):=by
 refine aJ O.ok O.hn _ ⟨"number_kind",aa 33,["question","below"]⟩ (by rw[O.hd];rfl) {} { cs:=trivial } MX MY λds M Q _ h=>?_;obtain⟨q,ks,d,rfl,⟨rfl,rfl⟩,h⟩:=h;refine⟨rfl,l2,.inl ?_⟩;show ej false (.lst [kD .num,kD .num]) (.lst [w.gv.getD 1 .aj,w.gv.getD 1 .aj]) M _;rw[O.g1];refine AX (by decide) (by decide) (aX rfl (ar ?_));show Q (w.gv.getD 1 .aj) M;rw[O.g1];exact h
theorem Nw (O:Lw w):FO w 25 1 (dk λ_ ks d=>ks=[kD .num,kD .num]/\d=.tup [.str "truth"]):=by
 refine aJ O.ok O.hn _ ⟨"under_kind",aa 39,["question","below"]⟩ (by rw[O.hd];rfl) {} { cs:=trivial } M4 M5 λds M Q _ h=>?_;obtain⟨q,ks,d,rfl,⟨rfl,rfl⟩,h⟩:=h;refine⟨rfl,l2,.inl ?_⟩;show ej false (.lst [kD .num,kD .num]) (.lst [w.gv.getD 1 .aj,w.gv.getD 1 .aj]) M _;rw[O.g1];refine AX (by decide) (by decide) (aX rfl (ar ?_));show Q (w.gv.getD 3 .aj) M;rw[O.g3];exact h
theorem Nx (O:Lw w):FO w 24 1 (dk λ_ ks d=>(ks=[kD .num,kD .num]\/ks=[kD .word,kD .word])/\d=.tup [.str "truth"]):=by
 refine aJ O.ok O.hn _ ⟨"same_kind",aa 38,["question","below"]⟩ (by rw[O.hd];rfl) {} { cs:=trivial } M7 M8 λds M Q _ h=>?_;obtain⟨q,ks,d,rfl,⟨hk,rfl⟩,h⟩:=h;have key:fC (.lst ks) (.tup [.lst [kD .num,kD .num],.lst [kD .word,kD .word]]) M λb=>if b=true then aW Q (w.gv.getD 3 .aj) M else aW Q .aj M:=by
  refine⟨⟨?_,by decide +kernel,by decide +kernel,?_⟩⟩
  ·rcases hk with rfl |rfl <;> decide +kernel
  ·have e:dT (.lst ks) [.lst [kD .num,kD .num],.lst [kD .word,kD .word]]=true:=(by rcases hk with rfl |rfl <;> decide +kernel);rw[e];refine aX rfl (ar ?_);rw[O.g3];exact h
 refine⟨rfl,l2,.inl ⟨l2,.inl ⟨l2,?_⟩⟩⟩;show fC (.lst ks) (.tup [.lst [w.gv.getD 1 .aj,w.gv.getD 1 .aj],.lst [w.gv.getD 2 .aj,w.gv.getD 2 .aj]]) M _;rw[O.g1,O.g2];exact key
def AY:Sp:=λds M Q _=>∃kvs x d,ds=[dD kvs,.str x,d]/\kvs.length<1000/\Q (dD (aY kvs (.inr x) d)) M
theorem Ny (O:Lw w):FO w 7 1 AY:=by
 refine aJ O.ok O.hn _ ⟨"bound",aa 15,["names","name","meaning"]⟩ (by rw[O.hd];rfl) {} { cs:=trivial } Nc Nd λds M Q _ h=>?_;obtain⟨kvs,x,d,rfl,hl,h⟩:=h;refine⟨rfl,.inl (.inr λp hp=>.inr ⟨_,ao,?_,?_⟩)⟩
 ·rw[eu];exact XR hl (by decide)
 ·rw[N.b8,eu];exact tH hp h
def AZ:Sp:=λds M Q _=>∃fs,ds=[kD (.row fs)]/\fs.length<1000/\Q (.lst (fs.map λp=>.str p.1)) M
theorem Nz (O:Lw w):FO w 8 1 AZ:=by
 refine aJ O.ok O.hn _ ⟨"fields_of",aa 17,["row"]⟩ (by rw[O.hd];rfl) {} { cs:=trivial } Ng Nh λds M Q _ h=>?_;obtain⟨fs,rfl,hl,h⟩:=h;refine⟨rfl,_,rfl,?_⟩;show cK (λ_=>True) (.many [0,1]) gn _ _ _ (bN fs) [] M;rw[mx];refine gX (λp:Str×Kd=>.tup [.str p.1,kD p.2]) (λp=>.str p.1) fs ?_ (XR hl (by decide)) (λp _ N hN=>?_) ?_
 ·exact trivial
 ·exact⟨rfl,hN⟩
 ·exact .inl (ar h)
theorem pF {α β:Type} (f:α->D) (g:β->D):∀(as:List α) (bs:List β),List.zipWith (λx y=>D.tup [x,y]) (as.map f) (bs.map g)=(as.zip bs).map λp=>.tup [f p.1,g p.2]
 |[],_=>by simp
 |_::_,[]=>by simp
 |a::as,b::bs=>by rw[Xe,Xe,List.zipWith_cons_cons,pF f g as bs,Yq,Xe]
theorem NA (fs:List (Str×Qn)):∀ κs:List Kd,(fs.zip κs).map (λp=>(p.1.1,p.2))=(fs.map (·.1)).zip κs:=fun κs=>by
 rw[List.zip_map_left];rfl
theorem NB (O:Lw w):FO w 17 1 (dk λq ks d=>∃fs κs,q=.row fs/\ks=κs.map kD/\κs.length=fs.length/\fs.length<100/\d=kD (.row ((fs.map (·.1)).zip κs))):=by
 refine aJ O.ok O.hn _ ⟨"row_kind",aa 31,["question","below"]⟩ (by rw[O.hd];rfl) {} { cs:=trivial } Nj Nk λds M Q _ h=>?_;obtain⟨q,ks,d,rfl,⟨fs,κs,rfl,rfl,hl,hf,rfl⟩,h⟩:=h;refine⟨rfl,_,rfl,?_⟩;show cK (λM=>True/\True) (.many [0,1]) gn _ _ _ (List.zipWith (λx y=>D.tup [x,y]) (bq fs) (κs.map kD)) [] M;rw[mw,pF];refine gX (λp:(Str×Qn)×Kd=>.tup [.tup [.str p.1.1,qD p.1.2],kD p.2]) (λp=>.tup [.str p.1.1,kD p.2]) (fs.zip κs) ?_ (XR (by rw[YS];lia:_<100) (by decide)) (λp _ N hN=>?_) ?_
 ·exact⟨trivial,trivial⟩
 ·exact⟨rfl,_,rfl,l2,hN⟩
 ·refine .inl ⟨l2,ar ?_⟩;rw[kD,mx,<- NA,Yd]at h;exact h
theorem A0:∀{fs pre:Sc},((pre++fs).map (·.1)).Nodup->(ax fs).foldl (λal kv=>aY al kv.1 kv.2) (ax pre)=ax (pre++fs)
 |[],pre,_=>by rw[Xo];rfl
 |(x,k)::r,pre,nd=>by
  have nx:x ∉ pre.map (·.1):=by
   rw[Xn,Xe]at nd;exact λz=>(List.nodup_append.mp nd).2.2 x z x W' rfl
  show (ax r).foldl _ (aY (ax pre) (.inr x) (kD k))=_;rw[zU nx,A0 (by simpa using nd)];simp
theorem uf {fs:Sc} (nd:(fs.map (·.1)).Nodup):cw (ax fs)=ax fs:=A0 (pre:=[]) nd
theorem NC (fs:Sc):bN fs=(ax fs).map de:=by unfold ax;rw[mx,Yd];rfl
theorem ND (O:Lw w):FO w 18 1 (dk λq ks d=>∃f q' fs κ,q=.at f q'/\ks=[kD (.row fs)]/\(fs.map (·.1)).Nodup/\lk f fs=some κ/\d=kD κ):=by
 refine aJ O.ok O.hn _ ⟨"part_kind",aa 32,["question","below"]⟩ (by rw[O.hd];rfl) {} { cs:=trivial } Np Nq λds M Q _ h=>?_;obtain⟨q,ks,d,rfl,⟨f,q',fs,κ,rfl,rfl,nd,hk,rfl⟩,h⟩:=h;refine⟨rfl,_,rfl,_,rfl,au (az (by decide) ⟨_,rfl,_,rfl,.inr ⟨ax fs,NC fs,.inl ?_⟩⟩)⟩;refine⟨rfl,_,rfl,ar ?_⟩;rw[uf nd,eu,fc,hk];exact h
variable {w:Wo}
theorem FO.cm {i k:Nat}{sp:Sp}{d:Ds} (h:FO w i k sp) (hd:w.ds[i]?=some d):cL w.G k (ba w d.x) sp:=by
 obtain⟨d',f,fd,h1,D,F⟩:=h;rw[hd]at h1;cases h1;have e:ba w d.x=f:=by unfold ba;rw[D.mg]
 rw[e];exact⟨fd,d.ps,w.G.K,F,D.kp,D.b,λz m b o=>m.fu.keeps λa ob q=>o.fz a _ (b.b a ob q)⟩
noncomputable def wd:Qn->Str
 |.num _=>"num" |.word _=>"word" |.var _=>"var" |.tab _=>"table" |.none _=>"none" |.row _=>"row" |.at _ _=>"at"
 |.add _ _=>"add" |.mul _ _=>"mul" |.one _=>"one" |.both _ _=>"both" |.times _ _=>"times" |.for _ _ _=>"for"
 |.aP _ _=>"when" |.let _ _ _=>"let" |.same _ _=>"same" |.under _ _=>"under" |.and _ _=>"and" |.or _ _=>"or" |.not _=>"not"
theorem dH (q:Qn):∃r,qD q=.tup (.str (wd q)::r):=by cases q <;> exact⟨_,rfl⟩
noncomputable def fM:List (Str×(Qn->List D->D->Prop)):=[
 ("plain_kind",λq _ d=>(∃i,q=.num i)/\d=kD .num\/(∃s,q=.word s)/\d=kD .word),
 ("row_kind",λq ks d=>∃fs κs,q=.row fs/\ks=κs.map kD/\κs.length=fs.length/\fs.length<100/\d=kD (.row ((fs.map (·.1)).zip κs))),
 ("part_kind",λq ks d=>∃f q' fs κ,q=.at f q'/\ks=[kD (.row fs)]/\(fs.map (·.1)).Nodup/\lk f fs=some κ/\d=kD κ),
 ("number_kind",λ_ ks d=>ks=[kD .num,kD .num]/\d=kD .num),
 ("none_kind",λq _ d=>∃k,q=.none k/\d=kD (.ah k)),
 ("one_kind",λ_ ks d=>∃k,ks=[kD k]/\d=kD (.ah k)),
 ("both_kind",λ_ ks d=>∃k,kz k<900/\ks=[kD (.ah k),kD (.ah k)]/\d=kD (.ah k)),
 ("last_bag_kind",λ_ ks d=>∃pre k,ks=pre++[kD (.ah k)]/\d=kD (.ah k)),
 ("same_kind",λ_ ks d=>(ks=[kD .num,kD .num]\/ks=[kD .word,kD .word])/\d=.tup [.str "truth"]),
 ("under_kind",λ_ ks d=>ks=[kD .num,kD .num]/\d=.tup [.str "truth"]),
 ("truth_kind",λ_ _ d=>d=.tup [.str "truth"])]
def A2 (w:Wo) (f:Addr) (sp:Sp):Prop:=∃p∈fM,f=ba w p.1/\sp=dk p.2
def mz (q:Qn) (ks:List D) (d:D):Prop:=(∃ds,d=.tup ds)/\∃p∈fM,(wd q,p.1)∈bz/\p.2 q ks d
theorem ug {s g:Str}:∀{t:List (Str×Str)},(t.map (·.1)).Nodup->(s,g)∈t->aK ((t.map λp=>(Yr p.1:Key)).zip (t.map λp=>D.ref (ba w p.2))) (.inr s)=some (.ref (ba w g))
 |(x,y)::r,nd,h=>by
  rw[Xe,Y3]at nd;rw[Xe,Xe,Yq];unfold aK;rw[Y4];rcases List.mem_cons.mp h with e |h
  ·cases e;simp
  ·have:¬x=s:=λe=>nd.1 (e ▸ List.mem_map.mpr ⟨_,h,rfl⟩);have e':¬(Yr x:Key)=Yr s:=λz=>this (Zk z);simp only[e',decide_false];exact ug nd.2 h
theorem A3:(bz.map (·.1)).Nodup:=by decide +kernel
def A4 (w:Wo):Sp:=λds M Q _=>∃M0 x a b ws q r fs ks d,ds=[.ref x,qD q,r]/\M=Wm M0 a b ws (fs++ks)/\Wc (w.ca 0) M0 x a b/\ks.length=(if wd q="for" then 1 else (us q).length)/\(us q).length<100/\fs.length<1000000/\mz q ks d/\Q .aj (Wm M0 a b ws (fs++[d]))
noncomputable def NF:B:=.cons (.ex (.aV 2 (.v 0) (.cons (.v 5) .nil))) .nil
noncomputable def A5:B:=.cons (.cond (.cmp .Is (.v 5) (.c .aj)) (.cons .dead .nil) .nil) NF
noncomputable def A6:B:=.cons (.set (.one 5) (.app (.ix (.g 4) (.v 3)) (.cons (.v 1) (.cons (.aV 3 (.v 0) (.cons (.v 4) .nil)) .nil)))) A5
noncomputable def NG:B:=.cons (.set (.one 4) (.ite (.cmp .Eq (.v 3) (.c (.str "for"))) (.c (.int 1)) (.bi .len (.cons (.call 0 (.cons (.v 1) .nil)) .nil)))) A6
noncomputable def NI:B:=.cons (.set (.one 3) (.ix (.v 1) (.c (.int 0)))) NG
theorem NJ:aC ["walk","question","around","word","many","kind"] ["walk","question","around"] (ag (aa 29)):=⟨rfl,rfl,rfl,by decide +kernel,rfl,by decide +kernel,by decide +kernel⟩
theorem NK:aF nm 40 ["walk","question","around","word","many","kind"] (ag (aa 29)) (av (aa 29))=NI:=by kernel_rfl
noncomputable abbrev UC (w:Wo):a8 w:={ cs:=[(0,kg)],ms:=[(2,ez w),(3,jc w)],ca:=A2 w }
theorem NL (O:Lw w) (hF:∀p∈fM,cL w.G 5 (ba w p.1) (dk p.2)):FO w 15 6 (A4 w):=by
 refine aJ O.ok O.hn _ ⟨"finish",aa 29,["walk","question","around"]⟩ (by rw[O.hd];rfl) (UC w) { cs:=⟨⟨1,by decide,my O⟩,trivial⟩,ms:=⟨⟨1,by decide,jb O⟩,⟨1,by decide,kh O⟩,trivial⟩,ca:=?_ } NJ NK λds M Q _ h=>?_
 ·rintro f sp ⟨p,hp,rfl,rfl⟩;exact hF p hp
 obtain⟨M0,x,a,b,ws,q,r,fs,ks,d,rfl,rfl,W,hl,hu,em,⟨⟨dd,No⟩,p,hp,ht,hd⟩,h⟩:=h;obtain⟨rr,e⟩:=dH q;obtain⟨dx,hx⟩:=W.gx (ws:=ws) (fs:=fs++ks);obtain⟨AT,cU⟩:=W.gx (ws:=ws) (fs:=fs);have hlk:ks.length<100:=by rw[hl];split <;> lia
 refine⟨rfl,?_⟩;rw[e];refine⟨_,ew,?_⟩;have go:∀n:Int,(ks.length:Int)=n->B.w (UC w).wd nm.ai A6 (a' Q) [some (.ref x),some (.tup (.str (wd q)::rr)),some r,some (.str (wd q)),some (.int n),none] (Wm M0 a b ws (fs++ks)):=by
  intro n hn;show aB (w.gv.getD 4 .aj) (.str (wd q)) (Wm M0 a b ws (fs++ks)) λx1 M1=>rM x1 λf=>∃sp,A2 w f sp/\L.w (UC w).wd nm.ai (.cons (.v 1) (.cons (.aV 3 (.v 0) (.cons (.v 4) .nil)) .nil)) [some (.ref x),some (.tup (.str (wd q)::rr)),some r,some (.str (wd q)),some (.int n),none] M1 λds M2=>sp ds M2 (λd M3=>cq (.one 5) d [some (.ref x),some (.tup (.str (wd q)::rr)),some r,some (.str (wd q)),some (.int n),none] M3 (B.w (UC w).wd nm.ai A5 (a' Q))) X0;rw[O.gt];refine⟨_,ug A3 ht,?_⟩;refine⟨_,⟨p,hp,rfl,rfl⟩,_,dx,_,hx,(O.mc _ (by decide)).symm,br (by decide +kernel) (by decide +kernel),x,a,b,dx,n,fs,ks,rfl,hx,Wm.gb,hn,by lia,?_⟩;rw[Wm.pb];refine⟨q,ks,d,by rw[e],hd,?_⟩;subst No;refine⟨_,AT,_,cU,(O.mc _ (by decide)).symm,br (by decide +kernel) (by decide +kernel),x,a,b,AT,_,fs,rfl,cU,Wm.gb,XR em (by decide),?_⟩;rw[Wm.pb];exact ar h
 refine au (a3 (λz=>go 1 ?_) λz=>?_)
 ·have z:=of_decide_eq_true z;rw[hl,if_pos z];rfl
 ·refine⟨q,by rw[e];rfl,hu,go _ ?_⟩;have z:¬wd q="for":=λy=>z (decide_eq_true y);rw[hl,if_neg z,W0]
noncomputable def NM:B:=(.cons (.cond (.cmp .NotIn (.v 1) (.v 0)) (.cons .dead .nil) .nil) (.cons (.ret (.ix (.v 0) (.v 1))) .nil))
theorem NN:aC ["kinds","name","path"] ["kinds","name","path"] (ag (aa 27)):=⟨rfl,rfl,rfl,by decide +kernel,rfl,by decide +kernel,by decide +kernel⟩
theorem NO:aF nm 40 ["kinds","name","path"] (ag (aa 27)) (av (aa 27))=NM:=by kernel_rfl
theorem NP {a:Addr}{kvs:List (Key×D)}{x:Str}{M:Mp}{k:Bool->Prop} (h:M a=some (.ak kvs)) (q:k (aK kvs (.inr x)).isSome):fC (.str x) (.ref a) M k:=⟨.inl ⟨_,h,q⟩⟩
def hH (v:D) (kvs:List (Key×D)) (M:Mp):Prop:=v=dD kvs\/∃p,v=.ref p/\M p=some (.ak kvs)
theorem hH.up {v:D}{kvs:List (Key×D)}{M M':Mp} (h:hH v kvs M) (l:∀a o,M a=some o->M' a=some o):hH v kvs M':=h.imp id λ⟨p,e,q⟩=>⟨p,e,l _ _ q⟩
def A7:Sp:=λds M Q _=>∃v kvs x p d,ds=[v,.str x,p]/\hH v kvs M/\aK kvs (.inr x)=some d/\Q d M
theorem NR (O:Lw w):FO w 13 1 A7:=by
 refine aJ O.ok O.hn _ ⟨"found_kind",aa 27,["kinds","name","path"]⟩ (by rw[O.hd];rfl) {} { cs:=trivial } NN NO λds M Q _ h=>?_;obtain⟨v,kvs,x,p,d,rfl,hc,hv,h⟩:=h;rcases hc with rfl |⟨a,rfl,ha⟩
 ·refine⟨rfl,o6 ?_⟩;rw[hv];exact oZ hv (ar h)
 ·have hs:(aK kvs (.inr x)).isSome=true:=by rw[hv];rfl
  refine⟨rfl,NP ha ?_⟩;rw[hs];exact .inr ⟨_,ha,d,hv,ar h⟩
noncomputable def bb (w:Wo) (i:Nat) (q:Qn) (r:D):D:=.tup [w.gv.getD i .aj,qD q,r]
noncomputable def a5 (K:List (Key×D)) (S:D) (ps:List D):D:=.tup [dD K,S,.tup ps]
noncomputable def A8:B:=.cons (.ex (.aV 1 (.v 0) (.cons (.g 18) (.cons (.ix (.v 1) (.c (.int 3))) (.cons (.tup (.cons (.call 7 (.cons (.v 3) (.cons (.ix (.v 1) (.c (.int 1))) (.cons (.v 6) .nil)))) (.cons (.v 4) (.cons (.op .Add (.v 5) (.tup (.cons (.c (.int 1)) .nil))) .nil)))) .nil))))) .nil
noncomputable def NS:B:=.cons (.cond (.cmp .Eq (.ix (.v 1) (.c (.int 0))) (.c (.str "for"))) (.cons (.cond (.cmp .NotEq (.ix (.v 6) (.c (.int 0))) (.c (.str "bag"))) (.cons .dead .nil) .nil) (.cons (.set (.one 6) (.ix (.v 6) (.c (.int 1)))) (.cons (.ex (.aV 1 (.v 0) (.cons (.g 21) (.cons (.v 1) (.cons (.v 2) .nil))))) .nil))) .nil) A8
noncomputable def NT:B:=.cons (.set (.one 6) (.ix (.aV 3 (.v 0) (.cons (.c (.int 1)) .nil)) (.c (.int 0)))) NS
noncomputable def NU:B:=.cons (.set (.many [3,4,5]) (.v 2)) NT
theorem NV:aC ["walk","question","around","kinds","stock","path","kind"] ["walk","question","around"] (ag (aa 28)):=⟨rfl,rfl,rfl,by decide +kernel,rfl,by decide +kernel,by decide +kernel⟩
theorem NW:aF nm 40 ["walk","question","around","kinds","stock","path","kind"] (ag (aa 28)) (av (aa 28))=NU:=by kernel_rfl
def A9 (w:Wo):Sp:=λds M Q _=>∃ M0 x a b ws fs K S ps q y qa qb k,ds=[.ref x,qD q,a5 K S ps]/\ps.length<1000000/\ws.length<1000000/\K.length<1000/\Wc (w.ca 0) M0 x a b /\
  ((q=.for y qa qb/\M=Wm M0 a b ws (fs++[kD (.ah k)])/\Q .aj (Wm M0 a b (ws++[bb w 21 q (a5 K S ps),bb w 18 qb (a5 (aY K (.inr y) (kD k)) S (ps++[.int 1]))]) fs)) \/
   (q=.let y qa qb/\M=Wm M0 a b ws (fs++[kD k])/\Q .aj (Wm M0 a b (ws++[bb w 18 qb (a5 (aY K (.inr y) (kD k)) S (ps++[.int 1]))]) fs)))
noncomputable abbrev Uj (w:Wo):a8 w:={ cs:=[(7,AY)],ms:=[(1,fL w),(3,jc w)] }
theorem NX (O:Lw w):FO w 14 2 (A9 w):=by
 refine aJ O.ok O.hn _ ⟨"bind",aa 28,["walk","question","around"]⟩ (by rw[O.hd];rfl) (Uj w) { cs:=⟨⟨1,by decide,Ny O⟩,trivial⟩,ms:=⟨⟨1,by decide,ja O⟩,⟨1,by decide,kh O⟩,trivial⟩ } NV NW λds M Q _ h=>?_;obtain⟨M0,x,a,b,ws,fs,K,S,ps,q,y,qa,qb,k,rfl,hp,hw,gl,W,h⟩:=h;have m4:w.ca 0=w.mc 3:=(O.mc _ (by decide)).symm;have m2:w.ca 0=w.mc 1:=(O.mc _ (by decide)).symm;have tail:∀ (d:D) (cR:List D),cR.length<1000001->Q .aj (Wm M0 a b (cR++[bb w 18 qb (a5 (aY K (.inr y) d) S (ps++[.int 1]))]) fs)->∀ z z2 q', q'=.tup [z,.str y,z2,qD qb] ->
   B.w (Uj w).wd nm.ai A8 (a' Q) [some (.ref x),some q',some (a5 K S ps),some (dD K),some S,some (.tup ps),some d] (Wm M0 a b cR fs):=by
  rintro d cR NE h z z2 q' rfl;obtain⟨dx,hx⟩:=W.gx (ws:=cR) (fs:=fs);refine⟨_,dx,_,hx,m2,br (by decide +kernel) (by decide +kernel),_,rfl,_,rfl,K,y,d,rfl,gl,l1,W9 (by simp;lia:_<=1000001) (by decide),l3,?_⟩;refine⟨x,a,b,dx,_,_,_,cR,rfl,hx,W.ga,Xl NE (by decide),?_⟩;rw[W.pa];exact ar h
 rcases h with ⟨rfl,rfl,h⟩ |⟨rfl,rfl,h⟩
 ·obtain⟨dx,hx⟩:=W.gx (ws:=ws) (fs:=fs++[kD (.ah k)]);obtain⟨dy,hy⟩:=W.gx (ws:=ws) (fs:=fs);refine⟨rfl,rfl,_,dx,_,hx,m4,br (by decide +kernel) (by decide +kernel),x,a,b,dx,1,fs,[kD (.ah k)],rfl,hx,Wm.gb,rfl,by decide,?_⟩;rw[Wm.pb];refine⟨_,rfl,_,rfl,au (aX (by decide) ⟨_,rfl,au (az (by decide) ⟨_,rfl,?_⟩)⟩)⟩;refine⟨_,dy,_,hy,m2,br (by decide +kernel) (by decide +kernel),x,a,b,dy,_,_,_,ws,rfl,hy,W.ga,Xl hw (by decide),?_⟩;rw[W.pa];refine tail (kD k) _ (by simp;lia) ?_ _ _ _ rfl;rw[Xy];exact h
 ·obtain⟨dx,hx⟩:=W.gx (ws:=ws) (fs:=fs++[kD k]);refine⟨rfl,rfl,_,dx,_,hx,m4,br (by decide +kernel) (by decide +kernel),x,a,b,dx,1,fs,[kD k],rfl,hx,Wm.gb,rfl,by decide,?_⟩;rw[Wm.pb];refine⟨_,rfl,_,rfl,au (az (by decide) ?_)⟩;exact tail (kD k) ws (by lia) h _ _ _ rfl
variable {w:Wo}
noncomputable def dm (w:Wo) (K:List (Key×D)) (S:D) (ps:List D):Nat->List Qn->List D
 |_,[]=>[]
 |i,q::r=>bb w 18 q (a5 K S (ps++[.int i]))::dm w K S ps (i+1) r
theorem uh {K:List (Key×D)}{S:D}{ps:List D}:∀{r:List Qn}{i:Nat},(dm w K S ps i r).length=r.length
 |[],_=>by rw[dm];rfl
 |q::r,i=>by rw[dm,Xd,Xd,uh]
structure Pl (q:Qn):Prop where
 v:∀y,q≠.var y
 t:∀y,q≠.tab y
 f:wd q≠"for"
 l:wd q≠"let"
def Ba (w:Wo):Sp:=λds M Q _=>∃ M0 x a b ws fs K S ps q,ds=[.ref x,qD q,a5 K S ps]/\M=Wm M0 a b ws fs/\Wc (w.ca 0) M0 x a b/\ps.length<1000000/\ws.length<1000000/\fs.length<1000000/\(us q).length<100 /\
  ((∃y d,q=.var y/\aK K (.inr y)=some d/\Q .aj (Wm M0 a b ws (fs++[d]))) \/
   (∃y d,q=.tab y/\(∃kvs,hH S kvs (Wm M0 a b ws fs)/\aK kvs (.inr y)=some d)/\Q .aj (Wm M0 a b ws (fs++[.tup [.str "bag",d]]))) \/
   (∃y qa qb,(q=.for y qa qb\/q=.let y qa qb)/\Q .aj (Wm M0 a b (ws++[bb w 20 q (a5 K S ps),bb w 18 qa (a5 K S (ps++[.int 0]))]) fs)) \/
   (Pl q/\Q .aj (Wm M0 a b (ws++[bb w 21 q (a5 K S ps)]++(dm w K S ps 0 (us q)).reverse) fs)))
theorem NY {q:Qn} (h:∀y,q≠.var y):wd q≠"var":=by cases q <;> first |exact absurd rfl (h _) |(rw[wd];decide)
theorem ui {q:Qn} (h:∀y,q≠.tab y):wd q≠"table":=by cases q <;> first |exact absurd rfl (h _) |(rw[wd];decide)
theorem NZ {q:Qn} (h1:wd q≠"for") (h2:wd q≠"let"):dT (.str (wd q)) [D.str "for",D.str "let"]=false:=by
 cases q <;> first |exact absurd rfl h1 |exact absurd rfl h2 |(rw[wd];decide +kernel)
theorem dp {z y:Str}{p r:Prop} (n:z≠y) (h:r):if decide (z=y)=true then p else r:=by
 rw[if_neg];exact h;exact λe=>n (of_decide_eq_true e)
theorem Bb {s:Str}{M:Mp}{k:Bool->Prop}{b:Bool} (hb:dT (.str s) [D.str "for",D.str "let"]=b) (q:k b):fC (.str s) (.tup [.str "for",.str "let"]) M k:=by
 refine⟨⟨rfl,rfl,by decide +kernel,?_⟩⟩;rw[hb];exact q
theorem Bc {ds:List D}{d:D}:gH (ds++[d])=gH ds++[.tup [.int ds.length,d]]:=by
 unfold gH;rw[List.mapIdx_append];simp
noncomputable def uj:B:=(.cons (.set (.many [3,4,5]) (.v 2)) (.cons (.cond (.cmp .Eq (.ix (.v 1) (.c (.int 0))) (.c (.str "var"))) (.cons (.ex (.aV 2 (.v 0) (.cons (.call 13 (.cons (.v 3) (.cons (.ix (.v 1) (.c (.int 1))) (.cons (.v 5) .nil)))) .nil))) .nil) (.cons (.cond (.cmp .Eq (.ix (.v 1) (.c (.int 0))) (.c (.str "table"))) (.cons (.ex (.aV 2 (.v 0) (.cons (.tup (.cons (.c (.str "bag")) (.cons (.call 13 (.cons (.v 4) (.cons (.ix (.v 1) (.c (.int 1))) (.cons (.v 5) .nil)))) .nil))) .nil))) .nil) (.cons (.cond (.cmp .In (.ix (.v 1) (.c (.int 0))) (.tup (.cons (.c (.str "for")) (.cons (.c (.str "let")) .nil)))) (.cons (.ex (.aV 1 (.v 0) (.cons (.g 20) (.cons (.v 1) (.cons (.v 2) .nil))))) (.cons (.ex (.aV 1 (.v 0) (.cons (.g 18) (.cons (.ix (.v 1) (.c (.int 2))) (.cons (.tup (.cons (.v 3) (.cons (.v 4) (.cons (.op .Add (.v 5) (.tup (.cons (.c (.int 0)) .nil))) .nil)))) .nil))))) .nil)) (.cons (.ex (.aV 1 (.v 0) (.cons (.g 21) (.cons (.v 1) (.cons (.v 2) .nil))))) (.cons (.loop (.many [6,7]) (.oz (.sx (.call 0 (.cons (.v 1) .nil)))) (.cons (.ex (.aV 1 (.v 0) (.cons (.g 18) (.cons (.v 7) (.cons (.tup (.cons (.v 3) (.cons (.v 4) (.cons (.op .Add (.v 5) (.tup (.cons (.v 6) .nil))) .nil)))) .nil))))) .nil)) .nil))) .nil)) .nil)) .nil))
theorem N0:aC ["walk","question","around","kinds","stock","path","place","part"] ["walk","question","around"] (ag (aa 25)):=⟨rfl,rfl,rfl,by decide +kernel,rfl,by decide +kernel,by decide +kernel⟩
theorem N1:aF nm 40 ["walk","question","around","kinds","stock","path","place","part"] (ag (aa 25)) (av (aa 25))=uj:=by kernel_rfl
noncomputable abbrev U2 (w:Wo):a8 w:={ cs:=[(0,kg),(13,A7)],ms:=[(1,fL w),(2,ez w)] }
theorem N7 (O:Lw w):FO w 12 2 (Ba w):=by
  refine aJ O.ok O.hn _ ⟨"begin_kinds",aa 25,["walk","question","around"]⟩ (by rw[O.hd];rfl) (U2 w) { cs:=⟨⟨1,by decide,my O⟩,⟨1,by decide,NR O⟩,trivial⟩,ms:=⟨⟨1,by decide,ja O⟩,⟨1,by decide,jb O⟩,trivial⟩ } N0 N1 λds M Q _ h=>?_;obtain⟨M0,x,a,b,ws,fs,K,S,ps,q,rfl,rfl,W,lG,ki,em,hu,h⟩:=h;have m3:w.ca 0=w.mc 2:=(O.mc _ (by decide)).symm;have m2:w.ca 0=w.mc 1:=(O.mc _ (by decide)).symm;obtain⟨dx,hx⟩:=W.gx (ws:=ws) (fs:=fs);rcases h with ⟨y,d,rfl,hv,h⟩ |⟨y,d,rfl,⟨kvs,hc,hv⟩,h⟩ |⟨y,qa,qb,hq,h⟩ |⟨pl,h⟩
  · refine⟨rfl,rfl,_,rfl,au (aX (by decide) ⟨_,dx,_,hx,m3,br (by decide +kernel) (by decide +kernel),_,rfl,_,K,y,_,d,rfl,.inl rfl,hv,x,a,b,dx,d,fs,rfl,hx,Wm.gb,XR em (by decide),?_⟩)⟩;rw[Wm.pb];exact ar h
  · refine⟨rfl,rfl,_,rfl,au (az (by decide) ⟨_,rfl,au (aX (by decide) ⟨_,dx,_,hx,m3,br (by decide +kernel) (by decide +kernel),_,rfl,_,kvs,y,_,d,rfl,hc,hv,l2,x,a,b,dx,_,fs,rfl,hx,Wm.gb,XR em (by decide),?_⟩)⟩)⟩;rw[Wm.pb];exact ar h
  · have go : ∀ z, z = .tup [.str (wd q), .str y, qD qa, qD qb] → (wd q = "for" ∨ wd q = "let") → Q .aj (Wm M0 a b (ws ++ [.tup [w.gv.getD 20 .aj, z, a5 K S ps], bb w 18 qa (a5 K S (ps ++ [.int 0]))]) fs) →
        ([D.ref x,z,a5 K S ps]).length=3/\B.w (U2 w).wd nm.ai uj (a' Q) [some (.ref x),some z,some (a5 K S ps),none,none,none,none,none] (Wm M0 a b ws fs):=by
      rintro z rfl hz h;have nv:wd q≠"var":=(by rcases hz with e |e <;> rw[e] <;> decide);have nt:wd q≠"table":=(by rcases hz with e |e <;> rw[e] <;> decide);have We:dT (.str (wd q)) [D.str "for",D.str "let"]=true:=(by rcases hz with e |e <;> rw[e] <;> decide +kernel);refine⟨rfl,rfl,_,rfl,au (dp nv ⟨_,rfl,au (dp nt ⟨_,rfl,l2,Bb We (aX rfl ?_)⟩)⟩)⟩;refine⟨_,dx,_,hx,m2,br (by decide +kernel) (by decide +kernel),x,a,b,dx,_,_,_,ws,rfl,hx,W.ga,XR ki (by decide),?_⟩;rw[W.pa];obtain⟨dy,hy⟩:=W.gx (ws:=ws++[.tup [w.gv.getD 20 .aj,.tup [.str (wd q),.str y,qD qa,qD qb],a5 K S ps]]) (fs:=fs);refine⟨_,dy,_,hy,m2,br (by decide +kernel) (by decide +kernel),_,rfl,l1,W9 (by simp;lia:_<=1000001) (by decide),l3,?_⟩;refine⟨x,a,b,dy,_,_,_,_,rfl,hy,W.ga,Xg (by simp;lia:_<=1000001) (by decide),?_⟩;rw[W.pa,Xy];exact ar h
    rcases hq with rfl |rfl
    · exact go _ rfl (.inl rfl) h
    · exact go _ rfl (.inr rfl) h
  · obtain⟨r,e⟩:=dH q;have nf:=NZ pl.f pl.l;have nl:(us q).length<sizeLine:=XR hu (by decide);have go:∀ z,z=qD q->([D.ref x,z,a5 K S ps]).length=3/\B.w (U2 w).wd nm.ai uj (a' Q) [some (.ref x),some z,some (a5 K S ps),none,none,none,none,none] (Wm M0 a b ws fs):=by
      intro z hz;have hz':z=.tup (.str (wd q)::r):=hz.trans e;subst hz';refine⟨rfl,rfl,_,ew,au (dp (NY pl.v) ⟨_,ew,au (dp (ui pl.t) ⟨_,ew,l2,Bb nf (az (by decide) ?_)⟩)⟩)⟩;refine⟨_,dx,_,hx,m2,br (by decide +kernel) (by decide +kernel),x,a,b,dx,_,_,_,ws,rfl,hx,W.ga,XR ki (by decide),?_⟩;rw[W.pa];have N9:D.tup [w.gv.getD 21 .aj,.tup (.str (wd q)::r),a5 K S ps]=bb w 21 q (a5 K S ps):=(by unfold bb;rw[e]);refine⟨q,by rw[e];rfl,hu,by simpa using nl,.inl ?_⟩;refine d0 (λxs τ M'=>∃ rest done v6 v7,us q=rest++done/\xs=(gH (rest.map qD)).reverse/\τ=[some (.ref x),some (.tup (.str (wd q)::r)),some (a5 K S ps),some (dD K),some S,some (.tup ps),v6,v7] /\
        M'=Wm M0 a b (ws++[bb w 21 q (a5 K S ps)]++(dm w K S ps rest.length done).reverse) fs/\done.length<100) ?_ ?_ _ _ _ ⟨us q,[],none,none,by simp,rfl,rfl,?_,by simp⟩
      · rintro τ M' ⟨rest,done,v6,v7,e1,e2,rfl,rfl,_⟩;have:rest=[]:=by
          rcases Za rest with z |⟨r',q',z⟩
          · exact z
          · subst z;rw[YX,Xn,Xe,Yc,Bc,List.reverse_append]at e2;simp at e2
        subst this;rw[List.nil_append]at e1;rw[e1]at h;exact⟨trivial,.rfl (ar h)⟩
      · rintro y xs τ M' ⟨rest,done,v6,v7,e1,e2,rfl,rfl,hd⟩;refine⟨trivial,?_⟩;rcases Za rest with z | ⟨r',q',z⟩
        · subst z;cases e2
        subst z;rw[YX]at e1 e2;rw[YX];rw[Xn,Xe,Yc,Bc,List.reverse_append]at e2;cases e2;have hlen:(us q).length=r'.length+1+done.length:=(by rw[e1];simp;lia);obtain⟨dy,hy⟩:=W.gx (ws:=ws++[bb w 21 q (a5 K S ps)]++(dm w K S ps (r'++[q']).length done).reverse) (fs:=fs);refine λN hN=>⟨rfl,_,dy,_,hy,m2,br (by decide +kernel) (by decide +kernel),l1,W9 (by simp;lia:_<=1000001) (by decide),l3,?_⟩;refine⟨x,a,b,dy,_,_,_,_,rfl,hy,W.ga,Xg (?_:_<=2000000) (by decide),hN _ _ ⟨r',q'::done,_,_,by rw[e1];simp,rfl,rfl,?_,by rw[Xd];lia⟩⟩
        · rw[Xf,Xf,Y5,uh];simp;lia
        · rw[W.pa];have Wf:dm w K S ps r'.length (q'::done)=bb w 18 q' (a5 K S (ps++[.int r'.length]))::dm w K S ps (r'.length+1) done:=(by rw[dm]);rw[Wf,YA,<- Xy,Xf,W0];rfl
      · rw[<- N9,dm,List.reverse_nil,Xo];rfl
    exact go _ rfl
variable {w:Wo}
noncomputable def Oa:B:=.cons (.ret (.c (.bl true))) .nil
noncomputable def Bd:B:=.cons (.j3 (.v 3) (.cons (.set (.many [4,5]) (.mt .pop (.v 3) .nil)) (.cons (.cond (.cmp .NotEq (.ix (.v 4) (.c (.int 0))) (.ix (.v 5) (.c (.int 0)))) (.cons (.ret (.c (.bl false))) .nil) .nil) (.cons (.cond (.cmp .Eq (.ix (.v 4) (.c (.int 0))) (.c (.str "row"))) (.cons (.cond (.cmp .NotEq (.call 8 (.cons (.v 4) .nil)) (.call 8 (.cons (.v 5) .nil))) (.cons (.ret (.c (.bl false))) .nil) .nil) (.cons (.ex (.mt .extend (.v 3) (.cons (.lc 2 [] (.many [0,1]) (.zip (.ix (.v 4) (.c (.int 1))) (.ix (.v 5) (.c (.int 1)))) .aq (.tup (.cons (.ix (.v 0) (.c (.int 1))) (.cons (.ix (.v 1) (.c (.int 1))) .nil)))) .nil))) .nil)) .nil) (.cons (.cond (.cmp .Eq (.ix (.v 4) (.c (.int 0))) (.c (.str "bag"))) (.cons (.ex (.mt .extend (.v 3) (.cons (.lc 1 [5] (.one 0) (.seq (.app (.v 2) (.cons (.v 4) .nil))) .aq (.tup (.cons (.v 0) (.cons (.ix (.v 1) (.c (.int 1))) .nil)))) .nil))) .nil) .nil) .nil))))) Oa
noncomputable def Ob:B:=.cons (.set (.one 3) (.lst (.cons (.tup (.cons (.v 0) (.cons (.v 1) .nil))) .nil))) Bd
theorem Oc:aC ["whole","kind","rows_of","waiting","part","wanted"] ["whole","kind","rows_of"] (ag (aa 19)):=⟨rfl,rfl,rfl,by decide +kernel,rfl,by decide +kernel,by decide +kernel⟩
theorem Od:aF nm 40 ["whole","kind","rows_of","waiting","part","wanted"] (ag (aa 19)) (av (aa 19))=Ob:=by kernel_rfl
def uk:Sp:=λas M Q _=>∃x y,as=[.tup [x,y]]/\Q (.lst [y]) M
def Oe (f:Addr):Sp:=λds M Q _=>∃k,ds=[kD k,kD k,.ref f]/\kz k<1000/\Q (.bl true) M
noncomputable abbrev U3 (w:Wo) (f:Addr):a8 w:={ cs:=[(8,AZ)],ca:=λg sp=>g=f/\sp=uk }
noncomputable def pr (k:Kd):D:=.tup [kD k,kD k]
noncomputable def bY:List Kd->Nat
 |[]=>0
 |k::r=>kz k+bY r
theorem pG:∀{a b:List Kd},bY (a++b)=bY a+bY b
 |[],b=>by rw[List.nil_append,bY];lia
 |k::a,b=>by rw[YF,bY,bY,pG];lia
theorem Of (k:Kd):1<=kz k:=by cases k <;> (rw[kz];try lia)
theorem um:∀a:List Kd,a.length<=bY a
 |[]=>Xk _
 |k::r=>by have:=Of k;have:=um r;rw[bY,Xd];lia
theorem uo:∀fs:List (Str×Kd),bY (fs.map (·.2))+fs.length=mq fs
 |[]=>by rw[mq];rfl
 |(_,k)::r=>by have:=uo r;rw[Xe,bY,mq,Xd];show kz k+_+_=_;lia
theorem Og {fs:List (Str×Kd)} (h:kz (.row fs)<1000):fs.length<1000:=by
 have:=uo fs;rw[kz]at h;lia
noncomputable def uq:S->B
 |.j3 _ b=>b
 |_=>.nil
theorem Be:∀fs:List (Str×Kd),aH (fs.map λp=>D.str p.1)=true/\aU (fs.map λp=>D.str p.1)=0
 |[]=>⟨rfl,rfl⟩
 |(x,k)::r=>by obtain⟨h1,h2⟩:=Be r;rw[Xe,aH,aU,h1,h2];exact⟨rfl,rfl⟩
theorem Oh {n:Bool}{fs:List (Str×Kd)}{M:Mp}{k:Bool->Prop} (q:k true):ej n (.lst (fs.map λp=>D.str p.1)) (.lst (fs.map λp=>D.str p.1)) M k:=by
 obtain⟨h1,h2⟩:=Be fs;have ok:aw (.lst (fs.map λp=>D.str p.1))=true:=by rw[aw];exact h1
 refine .mk (.inl ⟨ok,ok,?_⟩) ?_
 ·show aO (.lst _)<=100;rw[aO,h2];decide
 ·show k (aE (.lst _) (.lst _));rw[gh _ ok];exact q
theorem Bf (O:Lw w) {e:En}{wa f:Addr}{TB d1:D}{M0:Mp} (hn:∀ v4 v5 ws,e.nx [some TB,some d1,some (.ref f),some (.ref wa),v4,v5] (up M0 wa (.lst ws))) :
  ∀(n:Nat) (ws:List Kd) v4 v5,bY ws<n->bY ws<1000->il (E.w (U3 w f).wd nm.ai (.v 3)).2 (B.w (U3 w f).wd nm.ai (uq (fe Bd))) e n [some TB,some d1,some (.ref f),some (.ref wa),v4,v5] (up M0 wa (.lst (ws.map pr)))
 | 0,ws,v4,v5,h,_=>by lia
 |n+1,ws,v4,v5,h,hz=>by
  rcases Za ws with z |⟨r,k,z⟩
  ·subst z;exact .inl ⟨_,ao,hn _ _ _⟩
  subst z;rw[YX]at h hz ⊢;rw[pG,bY,bY]at h hz;have cT:(!((r++[k]).map pr).isEmpty)=true:=by simp
  refine .inl ⟨_,ao,?_⟩;rw[cT];refine⟨.inl ⟨rfl,_,ao⟩,_,ao,pr k,by simp,rfl,?_⟩;have e1:up (up M0 wa (.lst ((r++[k]).map pr))) wa (.lst ((r++[k]).map pr).dropLast)=up M0 wa (.lst (r.map pr)):=by rw[_root_.N.b8,Xn,Xe,Yc,List.dropLast_concat]
  rw[e1];have fin:=λ(rr:List Kd) v4 v5 (h1:bY rr+1<=kz k+bY r)=>Bf O hn n rr v4 v5 (by lia) (by lia);cases k with
  |num=>exact⟨_,rfl,_,rfl,au (az (by decide) ⟨_,rfl,au (az (by decide) ⟨_,rfl,au (az (by decide) (fin r _ _ (by rw[kz];lia)))⟩)⟩)⟩
  |word=>exact⟨_,rfl,_,rfl,au (az (by decide) ⟨_,rfl,au (az (by decide) ⟨_,rfl,au (az (by decide) (fin r _ _ (by rw[kz];lia)))⟩)⟩)⟩
  |ah k'=>
   refine⟨_,rfl,_,rfl,au (az (by decide) ⟨_,rfl,au (az (by decide) ⟨_,rfl,au (aX (by decide) ?_)⟩)⟩)⟩;refine⟨.inl ⟨rfl,_,ao⟩,_,⟨rfl,rfl⟩,_,_,rfl,trivial,by decide,_,rfl,l2,trivial,(by show 1<sizeLine;decide),.inl ⟨_,ao,?_,?_⟩⟩
   ·have:=um r;refine W9 (?_:_<=2000) (by decide);simp;lia
   ·have:=fin (r++[k']) (some (kD (.ah k'))) (some (kD (.ah k'))) (by rw[pG,bY,bY,kz];lia);rw[Xn]at this;rw[_root_.N.b8];exact this
  |row fs=>
   have hl:=Og (fs:=fs) (by lia);refine⟨_,rfl,_,rfl,au (az (by decide) ⟨_,rfl,au (aX (by decide) ⟨fs,rfl,hl,fs,rfl,hl,Oh (az (by decide) ?_)⟩)⟩)⟩;refine⟨.inl ⟨rfl,_,ao⟩,_,rfl,_,rfl,?_⟩;show cK (λM=>True/\True) (.many [0,1]) gn _ _ _ (List.zipWith (λx y=>D.tup [x,y]) (bN fs) (bN fs)) [] _;rw[mx,pF];refine gX (λp:(Str×Kd)×(Str×Kd)=>.tup [.tup [.str p.1.1,kD p.1.2],.tup [.str p.2.1,kD p.2.2]]) (λp=>.tup [kD p.1.2,kD p.2.2]) (fs.zip fs) ?_ (XR (by rw[YS];lia:_<1000) (by decide)) (λp _ N hN=>?_) ?_
   ·exact⟨trivial,trivial⟩
   ·exact⟨rfl,_,rfl,_,rfl,l2,hN⟩
   ·refine .inl ⟨_,ao,?_,?_⟩
    ·have:=um r;refine W9 (?_:_<=3000) (by decide);simp;lia
    ·have e2:(fs.zip fs).map (λp=>D.tup [kD p.1.2,kD p.2.2])=(fs.map (·.2)).map pr:=by
      clear fin e1 cT h hz hl
      induction fs with
      |nil=>rfl
      |cons g fs ih=>rw[Yq,Xe,ih];rfl
     rw[e2,_root_.N.b8,<- Xn];exact⟨_,rfl,au (az (by decide) (fin (r++fs.map (·.2)) _ _ (by have:=uo fs;rw[pG,kz];lia)))⟩
theorem Oi (O:Lw w) {f:Addr} (hf:cL w.G 1 f uk):FO w 10 2 (Oe f):=by
 refine aJ O.ok O.hn _ ⟨"fits",aa 19,["whole","kind","rows_of"]⟩ (by rw[O.hd];rfl) (U3 w f) { cs:=⟨⟨1,by decide,Nz O⟩,trivial⟩,ca:=?_ } Oc Od λds M Q _ h=>?_
 ·rintro g sp ⟨rfl,rfl⟩;exact hf
 obtain⟨k,rfl,hz,h⟩:=h;refine⟨rfl,l2,l1,.inr λwa Oj=>⟨1000,?_⟩⟩;refine Bf O (λv4 v5 ws=>?_) 1000 [k] none none (by rw[bY,bY];lia) (by rw[bY,bY];lia);exact JJ Oj rfl h
theorem Ol:aC ["one","other"] ["one","other"] (ag (aa 18)):=⟨rfl,rfl,rfl,by decide +kernel,rfl,by decide +kernel,by decide +kernel⟩
def Bh:Sp:=λds M Q _=>∃k,ds=[kD k,kD k]/\kz k<1000/\Q (.bl true) M
theorem Om (O:Lw w):FO w 9 3 Bh:=by
 refine JS O.ok O.hn (kl:=0) (n:=30) (nl:=30) (ns:=["one","other"]) (lps:=["bag"]) (es:=.cons (.v 0) (.cons (.v 1) .nil)) (el:=.lst (.cons (.ix (.v 0) (.c (.int 1))) .nil)) (mh:=uk) 9 10 ⟨"alike",aa 18,["one","other"]⟩ (by rw[O.hd];rfl) hA (λf fd q=>O.Uz f fd q) {} { cs:=trivial } Ol
  (λ_ _ _ _=>rfl) (λ_ _ _ _=>rfl) (by kernel_rfl) (by kernel_rfl) (by kernel_rfl) (by kernel_rfl) (by kernel_rfl) ⟨by kernel_rfl,by kernel_rfl,by kernel_rfl,by decide +kernel,by decide +kernel,by decide +kernel,by decide +kernel⟩ (by decide +kernel) (λq pm c ctv K=>bM.all λus h=>?_) (by kernel_rfl) (λe l=>⟨{},{ cs:=trivial },λds M Q E hs=>?_⟩) λds M Q E hs=>?_
 ·match us,h with
  |[_],_=>rfl
 ·obtain⟨x,y,rfl,q⟩:=hs;exact⟨rfl,_,rfl,(by show 1<=sizeLine;decide),.inl (ar q)⟩
 ·obtain⟨k,rfl,hz,q⟩:=hs;exact⟨rfl,λe f l hh=>⟨_,Oi (O.at l) hh,k,rfl,hz,ar q⟩⟩
noncomputable def Oo:B:=(.cons (.ret (.ite (.call 9 (.cons (.ix (.v 1) (.c (.int 0))) (.cons (.ix (.v 1) (.c (.int 1))) .nil))) (.call 23 (.cons (.v 0) (.cons (.v 1) .nil))) (.c .aj))) .nil)
theorem Oq:aC ["question","below"] ["question","below"] (ag (aa 36)):=⟨rfl,rfl,rfl,by decide +kernel,rfl,by decide +kernel,by decide +kernel⟩
theorem Ot:aF nm 40 ["question","below"] (ag (aa 36)) (av (aa 36))=Oo:=by kernel_rfl
noncomputable abbrev Ou (w:Wo):a8 w:={ cs:=[(9,Bh),(23,dk λ_ ks d=>∃pre k,ks=pre++[kD (.ah k)]/\d=kD (.ah k))] }
theorem Ov (O:Lw w):FO w 22 4 (dk λ_ ks d=>∃k,kz k<900/\ks=[kD (.ah k),kD (.ah k)]/\d=kD (.ah k)):=by
 refine aJ O.ok O.hn _ ⟨"both_kind",aa 36,["question","below"]⟩ (by rw[O.hd];rfl) (Ou w) { cs:=⟨⟨3,by decide,Om O⟩,⟨1,by decide,AW O⟩,trivial⟩ } Oq Ot λds M Q _ h=>?_;obtain⟨q,ks,d,rfl,⟨k,hz,rfl,rfl⟩,h⟩:=h;exact⟨rfl,_,rfl,_,rfl,.ah k,rfl,by rw[kz];lia,q,_,_,rfl,⟨[kD (.ah k)],k,rfl,rfl⟩,ar h⟩
theorem Ow (O:Lw w):∀p∈fM,cL w.G 5 (ba w p.1) (dk p.2):=by
 intro p hp;unfold fM at hp;simp only[XI,Xq,or_false]at hp;rcases hp with rfl |rfl |rfl |rfl |rfl |rfl |rfl |rfl |rfl |rfl |rfl
 ·exact FO.cm ((MQ O).mono (by decide)) (d:=⟨"plain_kind",aa 30,["question","below"]⟩) (by rw[O.hd];rfl)
 ·exact FO.cm ((NB O).mono (by decide)) (d:=⟨"row_kind",aa 31,["question","below"]⟩) (by rw[O.hd];rfl)
 ·exact FO.cm ((ND O).mono (by decide)) (d:=⟨"part_kind",aa 32,["question","below"]⟩) (by rw[O.hd];rfl)
 ·exact FO.cm ((Nu O).mono (by decide)) (d:=⟨"number_kind",aa 33,["question","below"]⟩) (by rw[O.hd];rfl)
 ·exact FO.cm ((MP O).mono (by decide)) (d:=⟨"none_kind",aa 34,["question","below"]⟩) (by rw[O.hd];rfl)
 ·exact FO.cm ((MR O).mono (by decide)) (d:=⟨"one_kind",aa 35,["question","below"]⟩) (by rw[O.hd];rfl)
 ·exact FO.cm ((Ov O).mono (by decide)) (d:=⟨"both_kind",aa 36,["question","below"]⟩) (by rw[O.hd];rfl)
 ·exact FO.cm ((AW O).mono (by decide)) (d:=⟨"last_bag_kind",aa 37,["question","below"]⟩) (by rw[O.hd];rfl)
 ·exact FO.cm ((Nx O).mono (by decide)) (d:=⟨"same_kind",aa 38,["question","below"]⟩) (by rw[O.hd];rfl)
 ·exact FO.cm ((Nw O).mono (by decide)) (d:=⟨"under_kind",aa 39,["question","below"]⟩) (by rw[O.hd];rfl)
 ·exact FO.cm ((MS O).mono (by decide)) (d:=⟨"truth_kind",aa 40,["question","below"]⟩) (by rw[O.hd];rfl)
variable {w:Wo}
noncomputable def Bj:B:=(.cons (.j3 (.fld (.v 0) "waiting") (.cons (.set (.many [1,2,3]) (.mt .pop (.fld (.v 0) "waiting") .nil)) (.cons (.ex (.app (.v 1) (.cons (.v 0) (.cons (.v 2) (.cons (.v 3) .nil))))) .nil))) (.cons (.ret (.mt .pop (.fld (.v 0) "found") .nil)) .nil))
theorem ur:aC ["self","step","question","around"] ["self"] (ag (bh (aa 11) 4)):=⟨rfl,rfl,rfl,by decide +kernel,rfl,by decide +kernel,by decide +kernel⟩
theorem uv:aF nm 40 ["self","step","question","around"] (ag (bh (aa 11) 4)) (av (bh (aa 11) 4))=Bj:=by kernel_rfl
noncomputable abbrev Ud (w:Wo) (ca:Addr->Sp->Prop):a8 w:={ ca:=ca }
def Lp (w:Wo) (ca:Addr->Sp->Prop) (e:En) (n:Nat) (x:Addr) (M:Mp):Prop:=∀u v z,il (E.w (Ud w ca).wd nm.ai (.fld (.v 0) "waiting")).2 (B.w (Ud w ca).wd nm.ai (uq (fe Bj))) e n [some (.ref x),u,v,z] M
theorem b0 (O:Lw w) {ca:Addr->Sp->Prop}{e:En}{n:Nat}{M0:Mp}{x a b:Addr}{ws fs:List D}{f:Addr}{sp:Sp}{qd r:D} (hc:ca f sp) (W:Wc (w.ca 0) M0 x a b)
  (h:∀Q:QK,(∀d M',Lp w ca e n x M'->Q d M')->sp [.ref x,qd,r] (Wm M0 a b ws fs) Q X0):Lp w ca e (n+1) x (Wm M0 a b (ws++[.tup [.ref f,qd,r]]) fs):=by
 intro u v z;obtain⟨dx,hx⟩:=W.gx (ws:=ws++[.tup [.ref f,qd,r]]) (fs:=fs);refine⟨_,dx,_,hx,.ref a,O.fw,rfl,.inl ⟨_,W.ga,?_⟩⟩;have cT:(!(ws++[D.tup [.ref f,qd,r]]).isEmpty)=true:=by simp
 rw[cT];refine⟨_,dx,_,hx,.ref a,O.fw,rfl,.inl ⟨rfl,_,W.ga⟩,_,W.ga,.tup [.ref f,qd,r],by simp,rfl,sp,hc,?_⟩;rw[List.dropLast_concat,W.pa];exact h _ λd M' z=>z _ _ _
theorem uw (O:Lw w) {ca:Addr->Sp->Prop}{e:En}{n:Nat}{M0:Mp}{x a b:Addr}{fs:List D} (W:Wc (w.ca 0) M0 x a b) (h:∀u v z,e.nx [some (.ref x),u,v,z] (Wm M0 a b [] fs)):Lp w ca e (n+1) x (Wm M0 a b [] fs):=by
 intro u v z;obtain⟨dx,hx⟩:=W.gx (ws:=[]) (fs:=fs);exact⟨_,dx,_,hx,.ref a,O.fw,rfl,.inl ⟨_,W.ga,h u v z⟩⟩
mutual
noncomputable def Nt:Qn->Nat
 |.var _=>1 |.tab _=>1
 |.for _ a b=>3+Nt a+Nt b
 |.let _ a b=>2+Nt a+Nt b
 |.row fs=>2+Nr fs
 |.at _ q=>2+Nt q
 |.add a b=>2+Nt a+Nt b
 |.mul a b=>2+Nt a+Nt b
 |.one q=>2+Nt q
 |.both a b=>2+Nt a+Nt b
 |.times _ q=>2+Nt q
 |.aP a b=>2+Nt a+Nt b
 |.same a b=>2+Nt a+Nt b
 |.under a b=>2+Nt a+Nt b
 |.and a b=>2+Nt a+Nt b
 |.or a b=>2+Nt a+Nt b
 |.not q=>2+Nt q
 |.num _=>2 |.word _=>2 |.none _=>2
noncomputable def Nr:List (Str×Qn)->Nat
 |[]=>0
 |(_,q)::r=>Nt q+Nr r
end
noncomputable def Nl:List Qn->Nat
 |[]=>0
 |q::r=>Nt q+Nl r
theorem Bk:∀fs:List (Str×Qn),Nl (fs.map (·.2))=Nr fs
 |[]=>by rw[Nr];rfl
 |(x,q)::r=>by rw[Nr,<- Bk r];rfl
theorem Ox {q:Qn} (h1:∀y,q≠.var y) (h2:∀y,q≠.tab y) (h3:wd q≠"for") (h4:wd q≠"let"):Nt q=2+Nl (us q):=by
 cases q with
 |var y=>exact absurd rfl (h1 y)
 |tab y=>exact absurd rfl (h2 y)
 | «for»=>exact absurd rfl h3
 | «let»=>exact absurd rfl h4
 |row fs=>rw[Nt,us,Bk]
 |_=>simp [Nt,us,Nl] <;> lia
theorem fN {a k:Key}{v:D}{r:List (Key×D)}:aK ((a,v)::r) k=if a=k then some v else aK r k:=by
 unfold aK;rw[Y4];by_cases h:a=k
 ·simp [h]
 ·simp [h]
theorem ux {k k':Key}{d:D} (h:k'≠k):∀r:List (Key×D),aK (r.map λkv=>if kv.1=k then (kv.1,d) else kv) k'=aK r k'
 |[]=>rfl
 |(a,v)::r=>by
  rw[Xe];by_cases e:a=k
  ·rw[if_pos e,fN,fN,if_neg (λz=>h (by rw[<- z,e])),if_neg (λz=>h (by rw[<- z,e])),ux h r]
  ·rw[if_neg e,fN,fN,ux h r]
theorem Bl {k:Key}{d:D}:∀r:List (Key×D),(r.any λkv=>decide (kv.1=k))=true->aK (r.map λkv=>if kv.1=k then (kv.1,d) else kv) k=some d
 |[],h=>by cases h
 |(a,v)::r,h=>by
  rw[Xe];by_cases e:a=k
  ·rw[if_pos e,fN,if_pos e]
  ·rw[if_neg e,fN,if_neg e];rw[Zh,decide_eq_false e,Bool.false_or]at h;exact Bl r h
theorem Bm {kvs:List (Key×D)}{k k':Key}{d:D}:aK (aY kvs k d) k'=if k'=k then some d else aK kvs k':=by
 unfold aY;by_cases h:(kvs.any λkv=>decide (kv.1=k))=true
 ·rw[if_pos h];by_cases e:k'=k
  ·subst e;rw[if_pos rfl,Bl kvs h]
  ·rw[if_neg e,ux e]
 ·rw[if_neg h]
  induction kvs with
  |nil=>
   rw[List.nil_append,fN];by_cases e:k'=k
   ·rw[if_pos e,if_pos e.symm]
   ·rw[if_neg e,if_neg (Ys e)]
  |cons p r ih=>
   obtain⟨a,v⟩:=p;have h':¬a=k/\¬(r.any λkv=>decide (kv.1=k))=true:=by
    rw[Zh]at h;exact⟨λz=>h (by simp [z]),λz=>h (by rw[z,Bool.or_true])⟩
   rw[YF,fN,fN,ih h'.2];by_cases e:k'=k
   ·subst e;rw[if_neg h'.1,if_pos rfl,if_pos rfl]
   ·rw[if_neg e,if_neg e]
theorem Bn {kvs:List (Key×D)}{k:Key}{d:D}:(aY kvs k d).length<=kvs.length+1:=by
 unfold aY;split <;> simp
mutual
noncomputable def dn:Qn->Nat
 |.var _=>1 |.tab _=>1 |.num _=>1 |.word _=>1 |.none _=>1
 |.for _ a b=>1+max (dn a) (dn b)
 |.let _ a b=>1+max (dn a) (dn b)
 |.row fs=>1+kj fs
 |.at _ q=>1+dn q
 |.add a b=>1+max (dn a) (dn b)
 |.mul a b=>1+max (dn a) (dn b)
 |.one q=>1+dn q
 |.both a b=>1+max (dn a) (dn b)
 |.times _ q=>1+dn q
 |.aP a b=>1+max (dn a) (dn b)
 |.same a b=>1+max (dn a) (dn b)
 |.under a b=>1+max (dn a) (dn b)
 |.and a b=>1+max (dn a) (dn b)
 |.or a b=>1+max (dn a) (dn b)
 |.not q=>1+dn q
noncomputable def kj:List (Str×Qn)->Nat
 |[]=>0
 |(_,q)::r=>max (dn q) (kj r)
end
noncomputable def fP:List Qn->Nat
 |[]=>0
 |q::r=>max (dn q) (fP r)
theorem Bo:∀fs:List (Str×Qn),fP (fs.map (·.2))=kj fs
 |[]=>by rw[kj];rfl
 |(x,q)::r=>by rw[kj,<- Bo r];rfl
theorem uy (q:Qn):dn q=1+fP (us q):=by
 cases q with
 |row fs=>rw[dn,us,Bo]
 |_=>simp [dn,us,fP]
mutual
inductive Tk (S:Str->Option Kd):Sc->Qn->D->Prop
 |var {G y k}:lk y G=some k->Tk S G (.var y) (kD k)
 |tab {G y k}:S y=some k->Tk S G (.tab y) (kD (.ah k))
 |for {G y a b k l}:Tk S G a (kD (.ah l))->Tk S ((y,l)::G) b (kD (.ah k))->Tk S G (.for y a b) (kD (.ah k))
 |let {G y a b l d}:Tk S G a (kD l)->Tk S ((y,l)::G) b d->Tk S G (.let y a b) d
 |c7 {G q ks d}:Pl q->hO S G (us q) ks->mz q ks d->(us q).length<100->Tk S G q d
inductive hO (S:Str->Option Kd):Sc->List Qn->List D->Prop
 |nil {G}:hO S G [] []
 |cons {G q r d s}:Tk S G q d->hO S G r s->hO S G (q::r) (d::s)
end
theorem hO.len {S:Str->Option Kd}:∀{G:Sc}{qs:List Qn}{ks:List D},hO S G qs ks->ks.length=qs.length
 |_,_,_,.nil=>rfl
 |_,_,_,.cons _ r=>by rw[Xd,Xd,r.len]
def d5 (K:List (Key×D)) (G:Sc):Prop:=∀y k,lk y G=some k->aK K (.inr y)=some (kD k)
def km (v:D) (S:Str->Option Kd) (M:Mp):Prop:=∀y k,S y=some k->∃kvs,hH v kvs M/\aK kvs (.inr y)=some (kD k)
def uz (v:D) (S:Str->Option Kd) (M0:Mp) (a b:Addr):Prop:=∀ws fs,km v S (Wm M0 a b ws fs)
theorem d5.put {K:List (Key×D)}{G:Sc}{y:Str}{l:Kd} (h:d5 K G):d5 (aY K (.inr y) (kD l)) ((y,l)::G):=λz k e=>by
 rw[Bm];rw[lk]at e;by_cases c:z=y
 ·rw[if_pos c]at e;cases e;rw[if_pos (by rw[c])]
 ·rw[if_neg c]at e;rw[if_neg (λx=>c (Zk x))];exact h z k e
structure Vs (n m:Nat) (ps ws fs:List D) (K:List (Key×D)):Prop where
 p:ps.length+(n+103 * m)<1000000
 w:ws.length+(n+103 * m)<1000000
 f:fs.length+(n+103 * m)<1000000
 k:K.length+m<1000
theorem mC (O:Lw w) {q:Qn}{r:D}:bb w 18 q r=.tup [.ref (ba w "begin_kinds"),qD q,r]:=by unfold bb;rw[O.gb]
theorem fW (O:Lw w) {q:Qn}{r:D}:bb w 20 q r=.tup [.ref (ba w "bind"),qD q,r]:=by unfold bb;rw[O.gd]
theorem Oy (O:Lw w) {q:Qn}{r:D}:bb w 21 q r=.tup [.ref (ba w "finish"),qD q,r]:=by unfold bb;rw[O.gf]
def jd (w:Wo) (f:Addr) (sp:Sp):Prop:=(f=ba w "begin_kinds"/\sp=Ba w)\/(f=ba w "bind"/\sp=A9 w)\/(f=ba w "finish"/\sp=A4 w)
theorem Oz {y:Str}{a b:Qn}{k:Kd}:mz (.for y a b) [kD (.ah k)] (kD (.ah k)):=by
 have hm:((("last_bag_kind" : Str),λ(_:Qn) (ks:List D) (d:D)=>∃pre k,ks=pre++[kD (.ah k)]/\d=kD (.ah k)):Str×(Qn->List D->D->Prop))∈fM:=by
  unfold fM
  iterate 7 refine W8 _ ?_
  exact W'
 exact⟨⟨_,rfl⟩,_,hm,(by decide +kernel:(("for" : Str),("last_bag_kind" : Str))∈bz),[],k,rfl,rfl⟩
section
variable {e:En}{n:Nat}{M0:Mp}{x a b:Addr}{ws fs:List D}{K:List (Key×D)}{S':D}{ps:List D}
theorem Bp (O:Lw w) {ks:List D}{q:Qn}{r d:D} (W:Wc (w.ca 0) M0 x a b) (hk:ks.length=if wd q="for" then 1 else (us q).length) (hu:(us q).length<100) (hf:fs.length<1000000) (F:mz q ks d)
  (k:Lp w (jd w) e n x (Wm M0 a b ws (fs++[d]))):Lp w (jd w) e (n+1) x (Wm M0 a b (ws++[bb w 21 q r]) (fs++ks)):=by
 rw[Oy O];exact b0 O (.inr (.inr ⟨rfl,rfl⟩)) W λQ hQ=>⟨M0,x,a,b,ws,q,r,fs,ks,d,rfl,rfl,W,hk,hu,hf,F,hQ _ _ k⟩
end
def Bq (w:Wo) (S:Str->Option Kd) (G:Sc) (q:Qn) (d:D):Prop:=∀ {e:En}{n:Nat}{M0:Mp}{x a b:Addr}{ws fs:List D}{K:List (Key×D)}{S':D}{ps:List D},Wc (w.ca 0) M0 x a b->d5 K G->uz S' S M0 a b->Vs 0 (dn q) ps ws fs K ->
  Lp w (jd w) e n x (Wm M0 a b ws (fs++[d]))->Lp w (jd w) e (n+Nt q) x (Wm M0 a b (ws++[bb w 18 q (a5 K S' ps)]) fs)
def OA (w:Wo) (S:Str->Option Kd) (G:Sc) (qs:List Qn) (ks:List D):Prop:=∀ {e:En}{n i:Nat}{M0:Mp}{x a b:Addr}{ws fs:List D}{K:List (Key×D)}{S':D}{ps:List D},Wc (w.ca 0) M0 x a b->d5 K G->uz S' S M0 a b->Vs (1+qs.length) (fP qs) ps ws fs K ->
  Lp w (jd w) e n x (Wm M0 a b ws (fs++ks))->Lp w (jd w) e (n+Nl qs) x (Wm M0 a b (ws++(dm w K S' ps i qs).reverse) fs)
theorem OB (O:Lw w) {S:Str->Option Kd}{G:Sc}{q:Qn}{d:D} (t:Tk S G q d):Bq w S G q d:=by
 refine @Tk.rec S (λG q d _=>Bq w S G q d) (λG qs ks _=>OA w S G qs ks) ?_ ?_ ?_ ?_ ?_ ?_ ?_ _ _ _ t
 ·intro G y k h e n M0 x a b ws fs K S' ps W rg rs B k';rw[Nt];have b1:=B.p;have b2:=B.w;have Tj:=B.f
  rw[mC O];exact b0 O (.inl ⟨rfl,rfl⟩) W λQ hQ=>⟨M0,x,a,b,ws,fs,K,S',ps,_,rfl,rfl,W,by lia,by lia,by lia,(by decide:0<100),.inl ⟨y,_,rfl,rg _ _ h,hQ _ _ k'⟩⟩
 ·intro G y k h e n M0 x a b ws fs K S' ps W rg rs B k';rw[Nt];have b1:=B.p;have b2:=B.w;have Tj:=B.f
  rw[mC O];exact b0 O (.inl ⟨rfl,rfl⟩) W λQ hQ=>⟨M0,x,a,b,ws,fs,K,S',ps,_,rfl,rfl,W,by lia,by lia,by lia,(by decide:0<100),.inr (.inl ⟨y,_,rfl,rs _ _ _ _ h,hQ _ _ k'⟩)⟩
 ·intro G y qa qb k l _ _ t1 t2 e n M0 x a b ws fs K S' ps W rg rs B k';have b1:=B.p;have b2:=B.w;have Tj:=B.f;have b4:=B.k
  rw[Nt];rw[dn]at b1 b2 Tj b4;rw[mC O,show n+(3+Nt qa+Nt qb)=(n+1+Nt qb+1+Nt qa)+1 by lia];refine b0 O (.inl ⟨rfl,rfl⟩) W λQ hQ=>⟨M0,x,a,b,ws,fs,K,S',ps,_,rfl,rfl,W,by lia,by lia,by lia,(by decide:2<100),.inr (.inr (.inl ⟨y,qa,qb,.inl rfl,hQ _ _ ?_⟩))⟩;rw[show ws++[bb w 20 (.for y qa qb) (a5 K S' ps),bb w 18 qa (a5 K S' (ps++[.int 0]))]=(ws++[bb w 20 (.for y qa qb) (a5 K S' ps)])++[bb w 18 qa (a5 K S' (ps++[.int 0]))] by simp];refine t1 W rg rs ⟨by simp;lia,by simp;lia,by lia,by lia⟩ ?_;rw[fW O];have pl:=@Bn K (.inr y) (kD l);refine b0 O (.inr (.inl ⟨rfl,rfl⟩)) W λQ hQ=>⟨M0,x,a,b,ws,fs,K,S',ps,_,y,qa,qb,l,rfl,by lia,by lia,by lia,W,.inl ⟨rfl,rfl,hQ _ _ ?_⟩⟩;rw[show ws++[bb w 21 (.for y qa qb) (a5 K S' ps),bb w 18 qb (a5 (aY K (.inr y) (kD l)) S' (ps++[.int 1]))]=(ws++[bb w 21 (.for y qa qb) (a5 K S' ps)])++[bb w 18 qb (a5 (aY K (.inr y) (kD l)) S' (ps++[.int 1]))] by simp];refine t2 W rg.put rs ⟨by simp;lia,by simp;lia,by lia,by lia⟩ ?_;exact Bp O W (by rw[if_pos (show wd (.for y qa qb)="for" from rfl)];rfl) (by decide:2<100) (by lia) Oz k'
 ·intro G y qa qb l d _ _ t1 t2 e n M0 x a b ws fs K S' ps W rg rs B k';have b1:=B.p;have b2:=B.w;have Tj:=B.f;have b4:=B.k
  rw[Nt];rw[dn]at b1 b2 Tj b4;rw[mC O,show n+(2+Nt qa+Nt qb)=(n+Nt qb+1+Nt qa)+1 by lia];refine b0 O (.inl ⟨rfl,rfl⟩) W λQ hQ=>⟨M0,x,a,b,ws,fs,K,S',ps,_,rfl,rfl,W,by lia,by lia,by lia,(by decide:2<100),.inr (.inr (.inl ⟨y,qa,qb,.inr rfl,hQ _ _ ?_⟩))⟩;rw[show ws++[bb w 20 (.let y qa qb) (a5 K S' ps),bb w 18 qa (a5 K S' (ps++[.int 0]))]=(ws++[bb w 20 (.let y qa qb) (a5 K S' ps)])++[bb w 18 qa (a5 K S' (ps++[.int 0]))] by simp];refine t1 W rg rs ⟨by simp;lia,by simp;lia,by lia,by lia⟩ ?_;rw[fW O];have pl:=@Bn K (.inr y) (kD l);refine b0 O (.inr (.inl ⟨rfl,rfl⟩)) W λQ hQ=>⟨M0,x,a,b,ws,fs,K,S',ps,_,y,qa,qb,l,rfl,by lia,by lia,by lia,W,.inr ⟨rfl,rfl,hQ _ _ ?_⟩⟩;exact t2 W rg.put rs ⟨by simp;lia,by lia,by lia,by lia⟩ k'
 ·intro G q ks d p ht F hu t e n M0 x a b ws fs K S' ps W rg rs B k';have hN:=Ox p.v p.t p.f p.l;have hb:=uy q;have b1:=B.p;have b2:=B.w;have Tj:=B.f;have b4:=B.k
  rw[hN];rw[hb]at b1 b2 Tj b4;rw[mC O,show n+(2+Nl (us q))=(n+1+Nl (us q))+1 by lia];refine b0 O (.inl ⟨rfl,rfl⟩) W λQ hQ=>⟨M0,x,a,b,ws,fs,K,S',ps,q,rfl,rfl,W,by lia,by lia,by lia,hu,.inr (.inr (.inr ⟨p,hQ _ _ ?_⟩))⟩;refine t W rg rs ⟨by lia,by simp;lia,by lia,by lia⟩ ?_;exact Bp O W (by rw[if_neg p.f,ht.len]) hu (by lia) F k'
 ·intro G e n i M0 x a b ws fs K S' ps W rg rs B k';rw[dm,List.reverse_nil,Xo];rw[Xo]at k';exact k'
 ·intro G q r d s _ S7 t ts e n i M0 x a b ws fs K S' ps W rg rs B k';have b1:=B.p;have b2:=B.w;have Tj:=B.f;have b4:=B.k
  rw[Nl];rw[fP,Xd]at b1 b2 Tj;rw[fP]at b4;have S8:(dm w K S' ps (i+1) r).length=r.length:=uh;rw[dm,YA,<- Xy,show n+(Nt q+Nl r)=n+Nl r+Nt q by lia];refine t W rg rs ⟨by simp;lia,by simp;lia,by lia,by lia⟩ ?_;refine ts W rg rs ⟨by lia,by lia,by simp;lia,by lia⟩ ?_;rw[Xy];exact k'
def Br (w:Wo):Sp:=λds M Q _=>∃M0 x a b K S' S G q d,ds=[.ref x]/\M=Wm M0 a b [bb w 18 q (a5 K S' [])] []/\Wc (w.ca 0) M0 x a b/\d5 K G/\uz S' S M0 a b/\Tk S G q d/\dn q<500/\K.length<500/\Q d (Wm M0 a b [] [])
theorem OD (O:Lw w):dh w 4 7 (Br w):=by
 refine i0 O.ok O.hn _ ⟨"run",(bh (aa 11) 4),["self"]⟩ (by rw[O.hms];rfl) (Ud w (jd w)) { cs:=trivial,ca:=?_ } ur uv λds M Q _ h=>?_
 ·rintro f sp (⟨rfl,rfl⟩ |⟨rfl,rfl⟩ |⟨rfl,rfl⟩)
  ·exact FO.cm ((N7 O).mono (by decide)) (d:=⟨"begin_kinds",aa 25,["walk","question","around"]⟩) (by rw[O.hd];rfl)
  ·exact FO.cm ((NX O).mono (by decide)) (d:=⟨"bind",aa 28,["walk","question","around"]⟩) (by rw[O.hd];rfl)
  ·exact FO.cm (NL O (Ow O)) (d:=⟨"finish",aa 29,["walk","question","around"]⟩) (by rw[O.hd];rfl)
 obtain⟨M0,x,a,b,K,S',S,G,q,d,rfl,rfl,W,rg,rs,t,hn,gl,h⟩:=h;refine⟨rfl,1+Nt q,?_⟩;refine OB O t (ws:=[]) (fs:=[]) (n:=1) W rg rs ⟨by simp;lia,by simp;lia,by simp;lia,by lia⟩ (uw O W λ_ _ _=>?_) _ _ _;obtain⟨dx,hx⟩:=W.gx (ws:=[]) (fs:=[]++[d]);refine⟨_,dx,_,hx,.ref b,O.ff,rfl,.inl ⟨rfl,_,Wm.gb⟩,_,Wm.gb,d,rfl,?_⟩;rw[Wm.pb];exact ar h
theorem pH {C x dx a b:Addr}{M:Mp}{UD i1:List (Str×D)}{ws fs:List D} (h1:M x=none) (h2:M dx=none) (h3:up (up M dx (.own x)) x (.ins C dx UD) a=none) (h4:up (up M dx (.own x)) x (.ins C dx UD) b=none) (n1:dx≠x) (n2:a≠b):cx M (Wm (up (up (up M dx (.own x)) x (.ins C dx UD)) x (.ins C dx i1)) a b ws fs)/\Wc C (up (up (up M dx (.own x)) x (.ins C dx UD)) x (.ins C dx [("waiting",.ref a),("found",.ref b)])) x a b:=by
 have xa:x≠a:=by rintro rfl;rw[ao]at h3;cases h3
 have xb:x≠b:=by rintro rfl;rw[ao]at h4;cases h4
 have da:dx≠a:=by rintro rfl;rw[ay n1,ao]at h3;cases h3
 have db:dx≠b:=by rintro rfl;rw[ay n1,ao]at h4;cases h4
 rw[ay (Ys xa),ay (Ys da)]at h3;rw[ay (Ys xb),ay (Ys db)]at h4;refine⟨Ki (λc hc=>?_) λc e q cT=>?_,⟨dx,ao⟩,n2,xa,xb⟩
 ·unfold Wm;rw[ay,ay,ay,ay,ay]
  ·rintro rfl;exact hc h2
  ·rintro rfl;exact hc h1
  ·rintro rfl;exact hc h1
  ·rintro rfl;exact hc h3
  ·rintro rfl;exact hc h4
 ·unfold Wm at q;by_cases Vt:c=b
  ·subst Vt;rw[ao]at q;cases q
  rw[ay Vt]at q;by_cases ca:c=a
  ·subst ca;rw[ao]at q;cases q
  rw[ay ca]at q;by_cases U4:c=x
  ·subst U4;rw[ao]at q;cases q
  rw[ay U4,ay U4]at q;by_cases cd:c=dx
  ·subst cd;rw[ao]at q;cases q;exact absurd h1 cT
  rw[ay cd]at q;exact q
noncomputable def OE:B:=.cons (.ret (.aV 4 (.v 3) .nil)) .nil
noncomputable def OF:B:=.cons (.ex (.aV 1 (.v 3) (.cons (.g 18) (.cons (.v 0) (.cons (.tup (.cons (.v 1) (.cons (.v 2) (.cons (.tup .nil) .nil)))) .nil))))) OE
noncomputable def OG:B:=.cons (.set (.one 3) (.new 0 .nil)) OF
theorem OH:aC ["question","kinds","stock","walk"] ["question","kinds","stock"] (ag (aa 24)):=⟨rfl,rfl,rfl,by decide +kernel,rfl,by decide +kernel,by decide +kernel⟩
theorem OI:aF nm 40 ["question","kinds","stock","walk"] (ag (aa 24)) (av (aa 24))=OG:=by kernel_rfl
def Bt:Sp:=λds M Q _=>∃K S' S G q d,ds=[qD q,dD K,S']/\d5 K G/\km S' S M/\Tk S G q d/\dn q<500/\K.length<500/\Q d M
noncomputable abbrev Wg (w:Wo):a8 w:={ ms:=[(1,fL w),(4,Br w)],ci:=[(0,0,pE w)] }
theorem OJ (O:Lw w):FO w 11 8 Bt:=by
 refine aJ O.ok O.hn _ ⟨"kind_of",aa 24,["question","kinds","stock"]⟩ (by rw[O.hd];rfl) (Wg w) { cs:=trivial,ms:=⟨⟨1,by decide,ja O⟩,⟨7,by decide,OD O⟩,trivial⟩,ci:=⟨⟨O.mc _ (by decide),by rw[O.hms];rfl,1,by decide,ue O⟩,trivial⟩ } OH OI λds M Q _ h=>?_;obtain⟨K,S',S,G,q,d,rfl,rg,rs,t,hn,gl,h⟩:=h;have m2:w.ca 0=w.mc 1:=(O.mc _ (by decide)).symm;have m5:w.ca 0=w.mc 4:=(O.mc _ (by decide)).symm;refine⟨rfl,λx dx hx kn nd=>⟨x,dx,rfl,ao,λa b ha hb ne=>⟨rfl,?_⟩⟩⟩;obtain⟨sb,W⟩:=pH (i1:=[("waiting",.ref a),("found",.ref b)]) (ws:=[]) (fs:=[]) hx kn ha hb nd ne;obtain⟨dy,hy⟩:=W.gx (ws:=[]) (fs:=[]);refine⟨_,dy,_,hy,m2,br (by decide +kernel) (by decide +kernel),Xk _,l3,x,a,b,dy,_,_,_,[],rfl,hy,W.ga,by decide,?_⟩;rw[W.pa];obtain⟨Ue,hz⟩:=W.gx (ws:=[]++[.tup [w.gv.getD 18 .aj,qD q,.tup [dD K,S',.tup []]]]) (fs:=[]);exact⟨_,Ue,_,hz,m5,br (by decide +kernel) (by decide +kernel),_,x,a,b,K,S',S,G,q,d,rfl,rfl,W,rg,λws fs y k e=>let ⟨kvs,h1,h2⟩:=rs y k e;⟨kvs,h1.up (pH (ws:=ws) (fs:=fs) hx kn ha hb nd ne).1.sub,h2⟩,t,hn,gl,kb sb h⟩
variable {w:Wo}
noncomputable def tD:D:=.tup [.str "truth"]
section
variable {S:Str->Option Kd}{G:Sc}
theorem OL {i:Nat}{p:Str×(Qn->List D->D->Prop)} (h:fM[i]?=some p):p∈fM:=XN h
theorem bV {q:Qn}{ks ds:List D} (i:Nat) {p:Str×(Qn->List D->D->Prop)} (h:fM[i]?=some p) (hp:p.2 q ks (.tup ds)) (ht:bz.any (λx=>decide (x=(wd q,p.1)))=true:=by rw[wd];decide +kernel):mz q ks (.tup ds):=by
 refine⟨⟨ds,rfl⟩,p,OL h,?_,hp⟩;obtain⟨x,hx,e⟩:=List.any_eq_true.mp ht;rw[<- of_decide_eq_true e];exact hx
theorem pl {q:Qn} (h:wd q≠"var":=by rw[wd];decide) (h2:wd q≠"table":=by rw[wd];decide) (h3:wd q≠"for":=by rw[wd];decide) (h4:wd q≠"let":=by rw[wd];decide):Pl q:=⟨λy e=>h (by rw[e];rfl),λy e=>h2 (by rw[e];rfl),h3,h4⟩
theorem n0:0<100:=by decide
theorem n1:1<100:=by decide
theorem n2:2<100:=by decide
theorem OO {i:Int}:Tk S G (.num i) (kD .num):=.c7 pl .nil (bV 0 rfl (.inl ⟨⟨i,rfl⟩,rfl⟩)) n0
theorem OP {i:Str}:Tk S G (.word i) (kD .word):=.c7 pl .nil (bV 0 rfl (.inr ⟨⟨i,rfl⟩,rfl⟩)) n0
theorem OQ {k:Kd}:Tk S G (.none k) (kD (.ah k)):=.c7 pl .nil (bV 4 rfl ⟨k,rfl,rfl⟩) n0
theorem OR {q:Qn}{k:Kd} (h:Tk S G q (kD k)):Tk S G (.one q) (kD (.ah k)):=.c7 pl (.cons h .nil) (bV 5 rfl ⟨k,rfl,rfl⟩) n1
theorem OU {a b:Qn}{k:Kd} (hz:kz k<900) (h:Tk S G a (kD (.ah k))) (h':Tk S G b (kD (.ah k))):Tk S G (.both a b) (kD (.ah k)):=.c7 pl (.cons h (.cons h' .nil)) (bV 6 rfl ⟨k,hz,rfl,rfl⟩) n2
theorem OV {i:Int}{q:Qn}{k:Kd} (h:Tk S G q (kD (.ah k))):Tk S G (.times i q) (kD (.ah k)):=.c7 pl (.cons h .nil) (bV 7 rfl ⟨[],k,rfl,rfl⟩) n1
theorem OW {a b:Qn}{k:Kd} (h:Tk S G a tD) (h':Tk S G b (kD (.ah k))):Tk S G (.aP a b) (kD (.ah k)):=.c7 pl (.cons h (.cons h' .nil)) (bV 7 rfl ⟨[tD],k,rfl,rfl⟩) n2
theorem OX {a b:Qn} (h:Tk S G a (kD .num)) (h':Tk S G b (kD .num)):Tk S G (.add a b) (kD .num):=.c7 pl (.cons h (.cons h' .nil)) (bV 3 rfl ⟨rfl,rfl⟩) n2
theorem OY {a b:Qn} (h:Tk S G a (kD .num)) (h':Tk S G b (kD .num)):Tk S G (.mul a b) (kD .num):=.c7 pl (.cons h (.cons h' .nil)) (bV 3 rfl ⟨rfl,rfl⟩) n2
theorem Bu {a b:Qn}{k:Kd} (hk:k=.num\/k=.word) (h:Tk S G a (kD k)) (h':Tk S G b (kD k)):Tk S G (.same a b) tD:=.c7 pl (.cons h (.cons h' .nil)) (bV 8 rfl ⟨hk.imp (λe=>by rw[e]) (λe=>by rw[e]),rfl⟩) n2
theorem OZ {a b:Qn} (h:Tk S G a (kD .num)) (h':Tk S G b (kD .num)):Tk S G (.under a b) tD:=.c7 pl (.cons h (.cons h' .nil)) (bV 9 rfl ⟨rfl,rfl⟩) n2
theorem O0 {a b:Qn} (h:Tk S G a tD) (h':Tk S G b tD):Tk S G (.and a b) tD:=.c7 pl (.cons h (.cons h' .nil)) (bV 10 rfl rfl) n2
theorem O3 {a b:Qn} (h:Tk S G a tD) (h':Tk S G b tD):Tk S G (.or a b) tD:=.c7 pl (.cons h (.cons h' .nil)) (bV 10 rfl rfl) n2
theorem O4 {a:Qn} (h:Tk S G a tD):Tk S G (.not a) tD:=.c7 pl (.cons h .nil) (bV 10 rfl rfl) n1
theorem O5 {f:Str}{q:Qn}{fs:List (Str×Kd)}{k:Kd} (nd:(fs.map (·.1)).Nodup) (hf:lk f fs=some k) (h:Tk S G q (kD (.row fs))):Tk S G (.at f q) (kD k):=by
 have key:∀x,x=kD k->Tk S G (.at f q) x:=by
  intro x hx;obtain⟨ds,e⟩:∃ds,x=.tup ds:=by rw[hx];cases k <;> exact⟨_,by rw[kD]⟩
  subst e;exact .c7 pl (.cons h .nil) (bV 2 rfl ⟨f,q,fs,k,rfl,rfl,nd,hf,hx⟩) (by show 1<100;decide)
 exact key _ rfl
theorem O6 {fs:List (Str×Qn)} {κs:List Kd} (hl:fs.length<100) (hk:κs.length=fs.length) (h:hO S G (fs.map (·.2)) (κs.map kD)):Tk S G (.row fs) (kD (.row ((fs.map (·.1)).zip κs))):=by
 rw[kD];exact .c7 pl h (bV 1 rfl ⟨fs,κs,rfl,rfl,hk,hl,by rw[kD]⟩) (by show (fs.map (·.2)).length<100;simpa using hl)
end
section
variable {S:Str->Option Kd}
theorem O7 {G:Sc}{q:Qn}{k:Kd}:Ty S G q k->Tk S G q (kD k):=
 (Ty.all (P:=λG q k=>Tk S G q (kD k)) (L:=λG fs ks=>∃ κs:List Kd,κs.length=fs.length/\ks=(fs.map (·.1)).zip κs/\hO S G (fs.map (·.2)) (κs.map kD)) (C:=λG q=>Tk S G q tD)
  OO OP .var .tab (λ_ _=>OQ) (λl _ h=>by
   obtain⟨κs,e1,e2,e3⟩:=h;rw[e2];exact O6 l e1 e3) (λn h e=>O5 n e h) OX OY OR OU OV (λ_=>.for) OW (λ_=>.let) ⟨[],rfl,rfl,.nil⟩ (λ{_ _ _ k _ _} h e=>by
   obtain⟨κs,e1,e2,e3⟩:=e;exact⟨k::κs,by rw[Xd,Xd,e1],by rw[e2];rfl,.cons h e3⟩)
  (Bu (.inl rfl)) (Bu (.inr rfl)) OZ O0 O3 O4).1
end
theorem j1 {m a:Nat} (h:m<=a):1+m<=1+a:=Nat.add_le_add_left h 1
theorem Ug {m n a b:Nat} (h:m<=a) (e:n<=b):max m n<=max a b:=Nat.max_le.mpr ⟨W9 h (Ym ..),W9 e (XW ..)⟩
theorem j2 {m n a b:Nat} (h:m<=a) (e:n<=b):1+max m n<=1+max a b:=j1 (Ug h e)
mutual
theorem bD:∀q:Qn,dn q<=dq q
 |.row fs=>Nat.add_le_add (by decide) (Bv fs)
 |.at _ a=>j1 (bD a) |.one a=>j1 (bD a) |.times _ a=>j1 (bD a) |.not a=>j1 (bD a)
 |.add a b=>j2 (bD a) (bD b) |.mul a b=>j2 (bD a) (bD b) |.both a b=>j2 (bD a) (bD b) |.for _ a b=>Nat.add_le_add (by decide) (Ug (bD a) (bD b)) |.aP a b=>j2 (bD a) (bD b) |.let _ a b=>j2 (bD a) (bD b)
 |.same a b=>j2 (bD a) (bD b) |.under a b=>j2 (bD a) (bD b) |.and a b=>j2 (bD a) (bD b) |.or a b=>j2 (bD a) (bD b)
 |.num _=>W3 _ |.word _=>W3 _ |.var _=>W3 _ |.tab _=>W3 _ |.none _=>Xv ..
theorem Bv:∀fs:List (Str×Qn),kj fs<=bA fs
 |[]=>W3 _
 |(_,q)::r=>Ug (bD q) (Bv r)
end
variable {w:Wo}
mutual
noncomputable def aI:Qn->List Str
 |.tab x=>[x]
 |.row fs=>ko fs
 |.at _ q=>aI q
 |.one q=>aI q
 |.times _ q=>aI q
 |.not q=>aI q
 |.add a b=>aI a++aI b
 |.mul a b=>aI a++aI b
 |.both a b=>aI a++aI b
 |.for _ a b=>aI a++aI b
 |.aP a b=>aI a++aI b
 |.let _ a b=>aI a++aI b
 |.same a b=>aI a++aI b
 |.under a b=>aI a++aI b
 |.and a b=>aI a++aI b
 |.or a b=>aI a++aI b
 |.num _=>[] |.word _=>[] |.var _=>[] |.none _=>[]
noncomputable def ko:List (Str×Qn)->List Str
 |[]=>[]
 |(_,q)::r=>aI q++ko r
end
mutual
def wq:Qn->Prop
 |.row fs=>fs.length<100/\mD fs
 |.at _ q=>wq q
 |.one q=>wq q
 |.times _ q=>wq q
 |.not q=>wq q
 |.add a b=>wq a/\wq b
 |.mul a b=>wq a/\wq b
 |.both a b=>wq a/\wq b
 |.for _ a b=>wq a/\wq b
 |.aP a b=>wq a/\wq b
 |.let _ a b=>wq a/\wq b
 |.same a b=>wq a/\wq b
 |.under a b=>wq a/\wq b
 |.and a b=>wq a/\wq b
 |.or a b=>wq a/\wq b
 |.num _=>True |.word _=>True |.var _=>True |.none _=>True |.tab _=>True
def mD:List (Str×Qn)->Prop
 |[]=>True
 |(_,q)::r=>wq q/\mD r
end
noncomputable def bE:List Qn->Nat
 |[]=>0
 |q::r=>nq q+bE r
theorem uA:∀{a b:List Qn},bE (a++b)=bE a+bE b
 |[],b=>by rw[List.nil_append,bE];lia
 |q::r,b=>by rw[YF,bE,bE,uA];lia
theorem Bw:∀fs:List (Str×Qn),bE (fs.map (·.2))=bR fs
 |[]=>by rw[bR];rfl
 |(x,q)::r=>by rw[bR,<- Bw r];rfl
theorem hR (q:Qn):nq q=1+bE (us q):=by
 cases q with
 |row fs=>rw[nq,us,Bw]
 |_=>simp [nq,us,bE,Nat.add_assoc]
theorem Bx:∀fs:List (Str×Qn),(fs.map (·.2)).flatMap aI=ko fs
 |[]=>by rw[ko];rfl
 |(x,q)::r=>by rw[ko,<- Bx r];rfl
theorem O8 {q:Qn} (h:∀x,q≠.tab x):aI q=(us q).flatMap aI:=by
 cases q with
 |tab x=>exact absurd rfl (h x)
 |row fs=>rw[aI,us,Bx]
 |_=>simp [aI,us]
theorem By:∀fs:List (Str×Qn),mD fs->∀p∈fs.map (·.2),wq p
 |[],_,p,h=>by cases h
 |(x,q)::r,hw,p,h=>by
  rw[mD]at hw;rcases List.mem_cons.mp h with e |h
  ·rw[e];exact hw.1
  ·exact By r hw.2 p h
theorem pI {q:Qn} (h:wq q):(us q).length<100/\∀p∈us q,wq p:=by
 cases q with
 |row fs=>rw[wq]at h;rw[us];exact⟨by simpa using h.1,By fs h.2⟩
 |_=>simp [us] <;> simpa [wq] using h
structure Fq (S:Str->Option Kd) (q:Qn):Prop where
 w:wq q
 t:∀x∈aI q,∃l,S x=some l
section
variable {S:Str->Option Kd}
theorem f2 {a b:Qn} (h:Fq S a) (e:Fq S b):(wq a/\wq b)/\∀x∈aI a++aI b,∃l,S x=some l:=⟨⟨h.w,e.w⟩,λx z=>(List.mem_append.mp z).elim (h.t x) (e.t x)⟩
theorem fi {q a b:Qn} (hw:wq q=(wq a/\wq b)) (ht:aI q=aI a++aI b) (h:Fq S a) (e:Fq S b):Fq S q:=⟨hw ▸ (f2 h e).1,ht ▸ (f2 h e).2⟩
theorem Bz {G:Sc}{q:Qn}{k:Kd}:Ty S G q k->Fq S q:=
 (Ty.all (P:=λ_ q _=>Fq S q) (L:=λ_ fs _=>mD fs/\∀x∈ko fs,∃l,S x=some l) (C:=λ_ q=>Fq S q)
  ⟨Zg,λ_ z=>nomatch z⟩ ⟨Zg,λ_ z=>nomatch z⟩ (λ_=>⟨Zg,λ_ z=>nomatch z⟩) (λh=>⟨Zg,λx z=>by rw[List.mem_singleton.mp z];exact⟨_,h⟩⟩) (λ_ _=>⟨Zg,λ_ z=>nomatch z⟩) (λl _ h=>⟨⟨l,h.1⟩,h.2⟩) (λ_ h _=>⟨h.w,h.t⟩)
  (fi rfl rfl) (fi rfl rfl) (λh=>⟨h.w,h.t⟩) (λ_=>fi rfl rfl) (λh=>⟨h.w,h.t⟩) (λ_=>fi rfl rfl) (fi rfl rfl) (λ_=>fi rfl rfl) ⟨Zg,λ_ z=>nomatch z⟩ (λh e=>⟨⟨h.w,e.1⟩,λx z=>(List.mem_append.mp z).elim (h.t x) (e.2 x)⟩)
  (fi rfl rfl) (fi rfl rfl) (fi rfl rfl) (fi rfl rfl) (fi rfl rfl) (λh=>⟨h.w,h.t⟩)).1
end
theorem uB {x:Str}{p:Qn}:x∈aI p ↔ (p=.tab x\/x∈(us p).flatMap aI):=by
 by_cases h:∃y,p=.tab y
 ·obtain⟨y,rfl⟩:=h;simp [aI,us,eq_comm]
 ·rw[O8 λy e=>h ⟨y,e⟩];exact⟨.inr,λz=>z.elim (λe=>absurd ⟨x,e⟩ h) id⟩
theorem uC:∀l:List Qn,l.length<=bE l
 |[]=>W3 _
 |q::r=>by have:=uC r;rw[bE,hR,Xd];lia
noncomputable def O9:B:=.cons (.ret (.v 1)) .nil
noncomputable def BA:B:=.cons (.j3 (.v 2) (.cons (.set (.one 3) (.mt .pop (.v 2) .nil)) (.cons (.ex (.mt .append (.v 1) (.cons (.v 3) .nil))) (.cons (.ex (.mt .extend (.v 2) (.cons (.call 0 (.cons (.v 3) .nil)) .nil))) .nil)))) O9
noncomputable def Pa:B:=.cons (.set (.one 2) (.lst (.cons (.v 0) .nil))) BA
noncomputable def Pb:B:=.cons (.set (.one 1) (.lst .nil)) Pa
theorem Pc:aC ["question","found","waiting","part"] ["question"] (ag (aa 8)):=⟨rfl,rfl,rfl,by decide +kernel,rfl,by decide +kernel,by decide +kernel⟩
theorem Pd:aF nm 40 ["question","found","waiting","part"] (ag (aa 8)) (av (aa 8))=Pb:=by kernel_rfl
def BB:Sp:=λds M Q _=>∃q,ds=[qD q]/\wq q/\nq q<1000000/\∀kl:List Qn,(∀x,Qn.tab x∈kl ↔ x∈aI q)->kl.length<=nq q->Q (.lst (kl.map qD)) M
noncomputable abbrev uD (w:Wo):a8 w:={ cs:=[(0,kg)] }
theorem Pe {M:Mp}{q0:Qn}{a b:Addr}{e:En} (hq:nq q0<1000000) (ne:a≠b) (h:∀ v (kl:List Qn),(∀ x,Qn.tab x∈kl ↔ x∈aI q0)->kl.length<=nq q0->e.nx [some (qD q0),some (.ref a),some (.ref b),v] (Wm M a b (kl.map qD) [])) :
  ∀(n:Nat) (ws kl:List Qn) v,bE ws=n->(∀p∈ws,wq p)->(∀x,(Qn.tab x∈kl\/x∈ws.flatMap aI) ↔ x∈aI q0)->kl.length+n<=nq q0 ->
   il (E.w (uD w).wd nm.ai (.v 2)).2 (B.w (uD w).wd nm.ai (uq (fe BA))) e (n+1) [some (qD q0),some (.ref a),some (.ref b),v] (Wm M a b (kl.map qD) (ws.map qD)):=by
 have ga:∀{ws fs:List D},Wm M a b ws fs a=some (.lst ws):=by intro ws fs;unfold Wm;rw[ay ne];exact ao
 have pa:∀{ws fs cR:List D},up (Wm M a b ws fs) a (.lst cR)=Wm M a b cR fs:=by intro ws fs cR;unfold Wm;rw[kc (Ys ne),_root_.N.b8]
 intro n
 induction n with
 |zero=>
  intro ws kl v e1 hw ht hl;have:ws=[]:=by
   cases ws with
   |nil=>rfl
   |cons p r=>rw[bE,hR]at e1;lia
  subst this;exact .inl ⟨_,Wm.gb,h v kl (λx=>by have:=ht x;simpa using this) (by lia)⟩
 |succ n ih=>
  intro ws kl v e1 hw ht hl;rcases Za ws with rfl |⟨init,p,rfl⟩
  ·cases e1
  rw[YX]at e1 hw ht ⊢;have wp:=pI (hw p (by simp));rw[uA,bE,bE,hR p]at e1;have hn:(!((init++[p]).map qD).isEmpty)=true:=by simp
  refine .inl ⟨_,Wm.gb,?_⟩;rw[hn];have bl:=uC (us p);have bi:=uC init;refine⟨.inl ⟨rfl,_,Wm.gb⟩,_,Wm.gb,qD p,by simp,?_⟩;rw[Wm.pb,Xn,Xe,Yc,List.dropLast_concat];refine⟨.inl ⟨rfl,_,ga⟩,_,ga,Xg (by rw[W0];lia:_<=1000000) (by decide),?_⟩;rw[pa];refine⟨.inl ⟨rfl,_,Wm.gb⟩,p,rfl,wp.1,_,Wm.gb,W9 (by rw[W0,W0];lia:_<=2000000) (by decide),?_⟩;have TJ:kl.map qD++[qD p]=(kl++[p]).map qD:=by simp
  rw[Wm.pb,<- Xn,TJ];refine ih (init++us p) (kl++[p]) _ (by rw[uA];lia) (λr hr=>?_) (λx=>?_) (by rw[Xf,Yl];lia)
  ·rcases List.mem_append.mp hr with z |z
   ·exact hw r (Yx _ z)
   ·exact wp.2 r z
  ·rw[<- ht x,List.flatMap_append,List.flatMap_append,YR,YR,YR,List.mem_singleton,List.flatMap_cons,List.flatMap_nil,Xo,uB (p:=p)];constructor
   ·rintro ((z |z) |z |z)
    ·exact .inl z
    ·exact .inr (.inr (.inl z.symm))
    ·exact .inr (.inl z)
    ·exact .inr (.inr (.inr z))
   ·rintro (z |z |z |z)
    ·exact .inl (.inl z)
    ·exact .inr (.inl z)
    ·exact .inl (.inr z.symm)
    ·exact .inr (.inr z)
theorem Pf (O:Lw w):FO w 2 2 BB:=by
 refine aJ O.ok O.hn _ ⟨"knots",aa 8,["question"]⟩ (by rw[O.hd];rfl) (uD w) { cs:=⟨⟨1,by decide,my O⟩,trivial⟩ } Pc Pd λds M Q _ h=>?_;obtain⟨q,rfl,hw,hn,h⟩:=h;refine⟨rfl,Xk _,.inr λa ha=>⟨l1,.inr λb hb=>⟨nq q+1,?_⟩⟩⟩;have ne:a≠b:=by rintro rfl;rw[ao]at hb;cases hb
 rw[ay (Ys ne)]at hb;refine Pe (M:=M) hn ne ?_ (nq q) [q] [] _ (by rw[bE,bE];lia) (λp hp=>by rw[List.mem_singleton.mp hp];exact hw) (λx=>by simp) (by simp);intro v kl e2 e3;refine z9 (M:=M) ?_ ha (by unfold Wm;rw[ay ne];exact ao) (h kl e2 e3);exact mr (mr .rfl ha rfl) hb rfl
noncomputable def tn:Qn->Option Str
 |.tab x=>some x
 |_=>none
theorem BC {kl:List Qn}{x:Str}:x∈kl.filterMap tn ↔ Qn.tab x∈kl:=by
 rw[List.mem_filterMap];constructor
 ·rintro⟨g,h1,h2⟩;cases g <;> cases h2;exact h1
 ·exact λh=>⟨_,h,rfl⟩
noncomputable def Pg:B:=(.cons (.ret (.sset (.lc 1 [] (.one 0) (.seq (.call 2 (.cons (.v 0) .nil))) (.cmp .Eq (.ix (.v 0) (.c (.int 0))) (.c (.str "table"))) (.ix (.v 0) (.c (.int 1)))))) .nil)
theorem Ph:aC ["question"] ["question"] (ag (aa 9)):=⟨rfl,rfl,rfl,by decide +kernel,rfl,by decide +kernel,by decide +kernel⟩
theorem Pj:aF nm 40 ["question"] (ag (aa 9)) (av (aa 9))=Pg:=by kernel_rfl
def BD:Sp:=λds M Q _=>∃(q:Qn) (N:List Str),ds=[qD q]/\wq q/\nq q<1000000/\N.length<64/\(∀x∈aI q,x∈N)/\∀ys:List Str,ys.Nodup->(∀x,x∈ys ↔ x∈aI q)->Q (.lst (ys.map D.str)) M
theorem Pk (O:Lw w):FO w 3 3 BD:=by
 refine aJ O.ok O.hn _ ⟨"tables",aa 9,["question"]⟩ (by rw[O.hd];rfl) { cs:=[(2,BB)] } { cs:=⟨⟨2,by decide,Pf O⟩,trivial⟩ } Ph Pj λds M Q _ h=>?_;obtain⟨q,N,rfl,hw,hn,hN,hs,h⟩:=h;refine⟨rfl,q,rfl,hw,hn,λkl hk hl=>?_⟩;refine e8 (λxs ys M'=>M'=M/\∃rest pre,xs=rest.map qD/\kl=pre++rest/\ys=(pre.filterMap tn).map D.str) ?_ ?_ _ _ _ ⟨rfl,kl,[],rfl,rfl,rfl⟩
 ·rintro ys M' ⟨rfl,rest,pre,e1,e2,rfl⟩;have:rest=[]:=by simpa using e1.symm
  subst this;rw[Xo]at e2;subst e2;have ln:(kl.filterMap tn).length<=kl.length:=List.length_filterMap_le ..;exact⟨trivial,Xg (by rw[W0];lia:_<=1000000) (by decide),.inl ⟨kl.filterMap tn,N,rfl,hN,λx hx=>hs x ((hk x).mp (BC.mp hx)),λys nd hy _=>.inl (ar (h ys nd λx=>(hy x).trans (BC.trans (hk x))))⟩⟩
 ·rintro x xs ys M' ⟨rfl,rest,pre,e1,e2,rfl⟩;cases rest with
  |nil=>cases e1
  |cons g rest=>
   cases e1;have ln:(pre.filterMap tn).length<=pre.length:=List.length_filterMap_le ..;have lp:pre.length<=kl.length:=(by rw[e2];simp);refine⟨trivial,Xg (by rw[W0];lia:_<=1000000) (by decide),λN' ev=>?_⟩;by_cases hg:∃x,g=.tab x
   ·obtain⟨x,rfl⟩:=hg;exact⟨_,rfl,au (aX (by decide) ⟨_,rfl,ev _ _ ⟨rfl,rest,pre++[.tab x],rfl,by rw[e2];simp,by rw[List.filterMap_append,Xn];rfl⟩⟩)⟩
   ·obtain⟨r,hr⟩:=dH g;have hd:=ui λx e=>hg ⟨x,e⟩;have ht:tn g=none:=by cases g <;> first |rfl |exact absurd ⟨_,rfl⟩ hg
    rw[hr];exact⟨_,ew,au (dp hd (ev _ _ ⟨rfl,rest,pre++[g],rfl,by rw[e2];simp,by rw[List.filterMap_append,List.filterMap_cons,ht,List.filterMap_nil,Xo]⟩))⟩
abbrev Nv:=List (Str×Str)
noncomputable def aL (nv:Nv):List (Key×D):=nv.map λp=>(.inr p.1,.str p.2)
noncomputable def bO (x:Str):Nv->Option Str
 |[]=>none
 |(y,z)::r=>if y=x then some z else bO x r
theorem kq {x:Str}:∀{nv:Nv},aK (aL nv) (.inr x)=(bO x nv).map D.str
 |[]=>rfl
 |(y,z)::r=>by
  show aK ((.inr y,.str z)::aL r) (.inr x)=_;rw[fN,bO];by_cases e:y=x
  ·rw[if_pos (by rw[e]),if_pos e];rfl
  ·rw[if_neg (λh=>e (Zk h)),if_neg e,kq]
noncomputable def hs (nv:Nv) (q:Qn):Bool:=(aI q).any λx=>(bO x nv).isSome
noncomputable def Pm:B:=(.cons (.ret (.bi .any (.cons (.lc 1 [1] (.one 0) (.seq (.call 3 (.cons (.v 0) .nil))) .aq (.cmp .In (.v 0) (.v 1))) .nil))) .nil)
theorem Pn:aC ["question","names"] ["question","names"] (ag (aa 47)):=⟨rfl,rfl,rfl,by decide +kernel,rfl,by decide +kernel,by decide +kernel⟩
theorem Po:aF nm 40 ["question","names"] (ag (aa 47)) (av (aa 47))=Pm:=by kernel_rfl
def BE:Sp:=λds M Q _=>∃(q:Qn) (N:List Str) (nv:Nv),ds=[qD q,dD (aL nv)]/\wq q/\nq q<1000000/\N.length<64/\(∀x∈aI q,x∈N)/\Q (.bl (hs nv q)) M
theorem BF:∀{ys N:List Str},ys.Nodup->(∀x∈ys,x∈N)->ys.length<=N.length
 |[],N,_,_=>Xk _
 |y::ys,N,nd,h=>by
  rw[Y3]at nd;have hy:=h y W';have:=BF (N:=N.erase y) nd.2 λx hx=>(List.mem_erase_of_ne (by rintro rfl;exact nd.1 hx)).mpr (h x (W8 _ hx));rw[List.length_erase_of_mem hy]at this;have:=List.length_pos_of_mem hy;rw[Xd];lia
theorem Pp (O:Lw w):FO w 30 4 BE:=by
 refine aJ O.ok O.hn _ ⟨"names_some",aa 47,["question","names"]⟩ (by rw[O.hd];rfl) { cs:=[(3,BD)] } { cs:=⟨⟨3,by decide,Pk O⟩,trivial⟩ } Pn Po λds M Q _ h=>?_;obtain⟨q,N,nv,rfl,hw,hn,hN,ht,h⟩:=h;refine⟨rfl,q,N,rfl,hw,hn,hN,ht,λys nd hy=>?_⟩;have ly:=BF nd (N:=N) λx hx=>ht x ((hy x).mp hx);refine gX (M:=M) D.str (λx=>D.bl (bO x nv).isSome) ys ?_ (Xg (by lia:_<=64) (by decide)) (λy _ N' ev=>?_) ?_
 ·exact trivial
 ·refine o6 ?_;rw[kq,Option.isSome_map];exact ev
 ·refine .inl ⟨ys.map λx=>(bO x nv).isSome,by rw[Yd];rfl,ar ?_⟩;have:((ys.map λx=>(bO x nv).isSome).any id)=hs nv q:=by
   rw[List.any_map];unfold hs;rw[Yv,List.any_eq_true,List.any_eq_true];constructor
   ·rintro⟨x,h1,h2⟩;exact⟨x,(hy x).mp h1,h2⟩
   ·rintro⟨x,h1,h2⟩;exact⟨x,(hy x).mpr h1,h2⟩
  show Q (.bl ((ys.map λx=>(bO x nv).isSome).any id)) M;rw[this];exact h
variable {w:Wo}
noncomputable def oD:Option Qn->D
 |none=>.aj
 |some q=>qD q
noncomputable def d6:Qn->Bool
 |.none _=>true
 |_=>false
noncomputable def mE:Option Qn->Bool
 |none=>true
 |some q=>d6 q
noncomputable def Pq:Option Qn->Qn->Qn
 |none,q=>q
 |some s,q=>.both s q
noncomputable def cG:Option Qn->List (Option Qn)->Option Qn
 |s,[]=>s
 |s,none::r=>cG s r
 |s,some q::r=>cG (some (Pq s q)) r
noncomputable def mf (x:Str):Option Qn->Option Qn->Option Qn
 |some a,some b=>if d6 a ||d6 b then none else some (.for x a b)
 |_,_=>none
theorem mF (q:Qn):d6 q=decide (wd q="none"):=by
 cases q with
 |none k=>rfl
 |_=>exact (decide_eq_false (by rw[wd];decide +kernel)).symm
noncomputable def Pr:B:=(.cons (.ret (.or (.cmp .Is (.v 0) (.c .aj)) (.cmp .Eq (.ix (.v 0) (.c (.int 0))) (.c (.str "none"))))) .nil)
theorem Pt:aC ["question"] ["question"] (ag (aa 48)):=⟨rfl,rfl,rfl,by decide +kernel,rfl,by decide +kernel,by decide +kernel⟩
theorem Pu:aF nm 40 ["question"] (ag (aa 48)) (av (aa 48))=Pr:=by kernel_rfl
def BG:Sp:=λds M Q _=>∃o,ds=[oD o]/\Q (.bl (mE o)) M
theorem Pw (O:Lw w):FO w 31 1 BG:=by
 refine aJ O.ok O.hn _ ⟨"is_none",aa 48,["question"]⟩ (by rw[O.hd];rfl) {} { cs:=trivial } Pt Pu λds M Q _ h=>?_;obtain⟨o,rfl,h⟩:=h;cases o with
 |none=>exact⟨rfl,ar h⟩
 |some q=>
  have h:Q (.bl (d6 q)) M:=h;rw[mF]at h;obtain⟨r,hr⟩:=dH q;have e:oD (some q)=.tup (.str (wd q)::r):=hr;rw[e];exact⟨rfl,_,ew,au (ar h)⟩
noncomputable def Px:B:=.cons (.ret (.v 1)) .nil
noncomputable def Py:B:=.cons (.loop (.one 2) (.seq (.lc 1 [] (.one 0) (.seq (.v 0)) (.cmp .IsNot (.v 0) (.c .aj)) (.v 0))) (.cons (.set (.one 1) (.ite (.cmp .Is (.v 1) (.c .aj)) (.v 2) (.tup (.cons (.c (.str "both")) (.cons (.v 1) (.cons (.v 2) .nil)))))) .nil)) Px
noncomputable def Pz:B:=.cons (.set (.one 1) (.c .aj)) Py
theorem PB:aC ["parts","summed","part"] ["parts"] (ag (aa 49)):=⟨rfl,rfl,rfl,by decide +kernel,rfl,by decide +kernel,by decide +kernel⟩
theorem PC:aF nm 40 ["parts","summed","part"] (ag (aa 49)) (av (aa 49))=Pz:=by kernel_rfl
def uE:Sp:=λds M Q _=>∃ps:List (Option Qn),ds=[.lst (ps.map oD)]/\ps.length<100/\Q (oD (cG none ps)) M
theorem uF:∀{ps:List (Option Qn)}{s:Option Qn},cG s ps=cG s ((ps.filterMap id).map some)
 |[],s=>rfl
 |none::r,s=>by rw[cG,List.filterMap_cons];exact uF
 |some q::r,s=>by rw[cG,List.filterMap_cons];show _=cG s (some q::_);rw[cG];exact uF
theorem BH (O:Lw w):FO w 32 1 uE:=by
 refine aJ O.ok O.hn _ ⟨"total",aa 49,["parts"]⟩ (by rw[O.hd];rfl) {} { cs:=trivial } PB PC λds M Q _ h=>?_;obtain⟨ps,rfl,hl,h⟩:=h;rw[uF]at h;have ln:(ps.filterMap id).length<=ps.length:=List.length_filterMap_le ..;refine⟨rfl,?_⟩;refine e8 (λxs ys M'=>M'=M/\∃rest pre,xs=rest.map oD/\ps=pre++rest/\ys=(pre.filterMap id).map qD) ?_ ?_ _ _ _ ⟨rfl,ps,[],rfl,rfl,rfl⟩
 ·rintro ys M' ⟨rfl,rest,pre,e1,e2,rfl⟩;have:rest=[]:=by simpa using e1.symm
  subst this;rw[Xo]at e2;subst e2;refine⟨trivial,Xg (by rw[W0];lia:_<=100) (by decide),.inl ?_⟩;generalize ps.filterMap id=qs at h;refine d0 (λxs τ X=>X=M'/\∃(rest:List Qn) (s:Option Qn) (v:Option D),xs=rest.map qD/\τ=[some (.lst (ps.map oD)),some (oD s),v]/\Q (oD (cG s (rest.map some))) M') ?_ ?_ _ _ _ ⟨rfl,qs,none,_,rfl,rfl,h⟩
  ·rintro τ X ⟨rfl,rest,s,v,e1,rfl,h⟩;have:rest=[]:=(by simpa using e1.symm);subst this;exact⟨trivial,.rfl (ar h)⟩
  ·rintro x xs τ X ⟨rfl,rest,s,v,e1,rfl,h⟩;cases rest with
   |nil=>cases e1
   |cons q rest=>
    cases e1;refine⟨trivial,λN hN=>?_⟩;cases s with
    |none=>exact hN _ _ ⟨rfl,rest,some q,_,rfl,rfl,h⟩
    |some t=>
     obtain⟨r,hr⟩:=dH t;have fin:N [some (.lst (ps.map oD)),some (oD (some (.both t q))),some (qD q)] X:=hN _ _ ⟨rfl,rest,some (.both t q),_,rfl,rfl,h⟩;have e:oD (some t)=.tup (.str (wd t)::r):=hr;have e2:oD (some (.both t q))=.tup [.str "both",.tup (.str (wd t)::r),qD q]:=(by rw[<- hr];rfl);rw[e2]at fin;rw[e];exact⟨l3,fin⟩
 ·rintro x xs ys M' ⟨rfl,rest,pre,e1,e2,rfl⟩;cases rest with
  |nil=>cases e1
  |cons o rest=>
   cases e1;have S9:(pre.filterMap id).length<=pre.length:=List.length_filterMap_le ..;have lp:pre.length<=ps.length:=(by rw[e2];simp);refine⟨trivial,Xg (by rw[W0];lia:_<=100) (by decide),λN hN=>?_⟩;cases o with
   |none=>exact hN _ _ ⟨rfl,rest,pre++[none],rfl,by rw[e2];simp,by simp⟩
   |some t=>
    obtain⟨r,hr⟩:=dH t;have fin:N ((pre.filterMap id).map qD++[qD t]) M':=hN _ _ ⟨rfl,rest,pre++[some t],rfl,by rw[e2];simp,by simp⟩;have e:oD (some t)=.tup (.str (wd t)::r):=hr;rw[hr]at fin;rw[e];exact fin
noncomputable def PD:B:=(.cons (.ret (.ite (.or (.call 31 (.cons (.v 1) .nil)) (.call 31 (.cons (.v 2) .nil))) (.c .aj) (.tup (.cons (.c (.str "for")) (.cons (.v 0) (.cons (.v 1) (.cons (.v 2) .nil))))))) .nil)
theorem PH:aC ["name","over","inner"] ["name","over","inner"] (ag (aa 52)):=⟨rfl,rfl,rfl,by decide +kernel,rfl,by decide +kernel,by decide +kernel⟩
theorem PJ:aF nm 40 ["name","over","inner"] (ag (aa 52)) (av (aa 52))=PD:=by kernel_rfl
def BI:Sp:=λds M Q _=>∃x a b,ds=[.str x,oD a,oD b]/\Q (oD (mf x a b)) M
theorem BJ {x:Str}{a b:Option Qn} (h:mE a=true\/mE b=true):mf x a b=none:=by
 cases a with
 |none=>rfl
 |some a=>
  cases b with
  |none=>rfl
  |some b=>rw[mf,if_pos];simpa [mE] using h
theorem PK (O:Lw w):FO w 35 2 BI:=by
 refine aJ O.ok O.hn _ ⟨"made_for",aa 52,["name","over","inner"]⟩ (by rw[O.hd];rfl) { cs:=[(31,BG)] } { cs:=⟨⟨1,by decide,Pw O⟩,trivial⟩ } PH PJ λds M Q _ h=>?_;obtain⟨x,a,b,rfl,h⟩:=h;refine⟨rfl,a,rfl,a3 (λe=>?_) λe=>⟨b,rfl,?_⟩⟩
 ·rw[BJ (.inl e)]at h;exact aX rfl (ar h)
 ·refine a3 (λe'=>?_) λe'=>?_
  ·rw[BJ (.inr e')]at h;exact ar h
  ·cases a with
   |none=>exact absurd rfl e
   |some a=>
    cases b with
    |none=>exact absurd rfl e'
    |some b=>
     rw[mf,if_neg (by simp only[mE]at e e';simp [e,e'])]at h;exact⟨l4,ar h⟩
noncomputable def PM:B:=(.cons (.ex (.aV 2 (.v 0) (.cons (.call 32 (.cons (.aV 3 (.v 0) (.cons (.c (.int 2)) .nil)) .nil)) .nil))) .nil)
theorem PN:aC ["walk","question","names"] ["walk","question","names"] (ag (aa 50)):=⟨rfl,rfl,rfl,by decide +kernel,rfl,by decide +kernel,by decide +kernel⟩
theorem PQ:aF nm 40 ["walk","question","names"] (ag (aa 50)) (av (aa 50))=PM:=by kernel_rfl
noncomputable def PR:B:=.cons (.ex (.aV 2 (.v 0) (.cons (.call 32 (.cons (.lst (.cons (.call 35 (.cons (.v 3) (.cons (.v 6) (.cons (.v 5) .nil)))) (.cons (.call 35 (.cons (.v 3) (.cons (.v 4) (.cons (.v 7) .nil)))) (.cons (.call 35 (.cons (.v 3) (.cons (.v 6) (.cons (.v 7) .nil)))) .nil)))) .nil)) .nil))) .nil
noncomputable def PU:B:=.cons (.set (.many [6,7]) (.aV 3 (.v 0) (.cons (.c (.int 2)) .nil))) PR
noncomputable def PV:B:=.cons (.set (.many [3,4,5]) (.sl (.v 1) (.c (.int 1)) .aq)) PU
theorem PX:aC ["walk","question","names","name","over","inner","more_over","more_inner"] ["walk","question","names"] (ag (aa 51)):=⟨rfl,rfl,rfl,by decide +kernel,rfl,by decide +kernel,by decide +kernel⟩
theorem PY:aF nm 40 ["walk","question","names","name","over","inner","more_over","more_inner"] (ag (aa 51)) (av (aa 51))=PV:=by kernel_rfl
noncomputable def PZ:B:=(.cons (.set (.one 3) (.ix (.aV 3 (.v 0) (.cons (.c (.int 1)) .nil)) (.c (.int 0)))) (.cons (.ex (.aV 2 (.v 0) (.cons (.ite (.cmp .Is (.v 3) (.c .aj)) (.c .aj) (.op .Add (.sl (.v 1) .aq (.neg (.c (.int 1)))) (.tup (.cons (.v 3) .nil)))) .nil))) .nil))
theorem P0:aC ["walk","question","names","inner"] ["walk","question","names"] (ag (aa 54)):=⟨rfl,rfl,rfl,by decide +kernel,rfl,by decide +kernel,by decide +kernel⟩
theorem P1:aF nm 40 ["walk","question","names","inner"] (ag (aa 54)) (av (aa 54))=PZ:=by kernel_rfl
def BK (w:Wo):Sp:=λds M Q _=>∃M0 x a b ws fs p q qd nr,ds=[.ref x,qd,nr]/\M=Wm M0 a b ws (fs++[oD p,oD q])/\Wc (w.ca 0) M0 x a b/\fs.length<1000000/\Q .aj (Wm M0 a b ws (fs++[oD (cG none [p,q])]))
theorem P2 (O:Lw w):FO w 33 2 (BK w):=by
 refine aJ O.ok O.hn _ ⟨"both_differences",aa 50,["walk","question","names"]⟩ (by rw[O.hd];rfl) { cs:=[(32,uE)],ms:=[(2,ez w),(3,jc w)] } { cs:=⟨⟨1,by decide,BH O⟩,trivial⟩,ms:=⟨⟨1,by decide,jb O⟩,⟨1,by decide,kh O⟩,trivial⟩ } PN PQ λds M Q _ h=>?_;obtain⟨M0,x,a,b,ws,fs,p,q,qd,nr,rfl,rfl,W,em,h⟩:=h;have m3:w.ca 0=w.mc 2:=(O.mc _ (by decide)).symm;have m4:w.ca 0=w.mc 3:=(O.mc _ (by decide)).symm;obtain⟨dx,hx⟩:=W.gx (ws:=ws) (fs:=fs++[oD p,oD q]);obtain⟨dy,hy⟩:=W.gx (ws:=ws) (fs:=fs);refine⟨rfl,_,dx,_,hx,m3,br (by decide +kernel) (by decide +kernel),_,dx,_,hx,m4,br (by decide +kernel) (by decide +kernel),x,a,b,dx,2,fs,[oD p,oD q],rfl,hx,Wm.gb,rfl,by decide,?_⟩;rw[Wm.pb];refine⟨[p,q],rfl,(by decide:2<100),x,a,b,dy,_,fs,rfl,hy,Wm.gb,XR em (by decide),?_⟩;rw[Wm.pb];exact ar h
def BL (w:Wo):Sp:=λds M Q _=>∃M0 x a b ws fs y qa qb p q nr,ds=[.ref x,qD (.for y qa qb),nr]/\M=Wm M0 a b ws (fs++[oD p,oD q])/\Wc (w.ca 0) M0 x a b/\fs.length<1000000/\Q .aj (Wm M0 a b ws (fs++[oD (cG none [mf y p (some qb),mf y (some qa) q,mf y p q])]))
theorem P4 (O:Lw w):FO w 34 3 (BL w):=by
 refine aJ O.ok O.hn _ ⟨"for_differences",aa 51,["walk","question","names"]⟩ (by rw[O.hd];rfl) { cs:=[(32,uE),(35,BI)],ms:=[(2,ez w),(3,jc w)] } { cs:=⟨⟨1,by decide,BH O⟩,⟨2,by decide,PK O⟩,trivial⟩,ms:=⟨⟨1,by decide,jb O⟩,⟨1,by decide,kh O⟩,trivial⟩ } PX PY λds M Q _ h=>?_;obtain⟨M0,x,a,b,ws,fs,y,qa,qb,p,q,nr,rfl,rfl,W,em,h⟩:=h;have m3:w.ca 0=w.mc 2:=(O.mc _ (by decide)).symm;have m4:w.ca 0=w.mc 3:=(O.mc _ (by decide)).symm;obtain⟨dx,hx⟩:=W.gx (ws:=ws) (fs:=fs++[oD p,oD q]);obtain⟨dy,hy⟩:=W.gx (ws:=ws) (fs:=fs);refine⟨rfl,rfl,_,dx,_,hx,m4,br (by decide +kernel) (by decide +kernel),x,a,b,dx,2,fs,[oD p,oD q],rfl,hx,Wm.gb,rfl,by decide,?_⟩;rw[Wm.pb];refine⟨rfl,_,dy,_,hy,m3,br (by decide +kernel) (by decide +kernel),y,p,some qb,rfl,y,some qa,q,rfl,y,p,q,rfl,l3,.inl ⟨[mf y p (some qb),mf y (some qa) q,mf y p q],rfl,(by decide:3<100),x,a,b,dy,_,fs,rfl,hy,Wm.gb,XR em (by decide),?_⟩⟩;rw[Wm.pb];exact ar h
def Wr (q:Qn) (f:Qn->Qn):Prop:=(∃i r,q=.times i r/\f=.times i)\/(∃c r,q=.aP c r/\f=.aP c)\/∃y r s,q=.let y r s/\f=.let y r
def BM (w:Wo):Sp:=λds M Q _=>∃M0 x a b ws fs q f o nr,ds=[.ref x,qD q,nr]/\Wr q f/\M=Wm M0 a b ws (fs++[oD o])/\Wc (w.ca 0) M0 x a b/\fs.length<1000000/\Q .aj (Wm M0 a b ws (fs++[oD (o.map f)]))
theorem P5 (O:Lw w):FO w 36 2 (BM w):=by
 refine aJ O.ok O.hn _ ⟨"wrap",aa 54,["walk","question","names"]⟩ (by rw[O.hd];rfl) { cs:=[],ms:=[(2,ez w),(3,jc w)] } { cs:=trivial,ms:=⟨⟨1,by decide,jb O⟩,⟨1,by decide,kh O⟩,trivial⟩ } P0 P1 λds M Q _ h=>?_;obtain⟨M0,x,a,b,ws,fs,q,f,o,nr,rfl,wr,rfl,W,em,h⟩:=h;have m3:w.ca 0=w.mc 2:=(O.mc _ (by decide)).symm;have m4:w.ca 0=w.mc 3:=(O.mc _ (by decide)).symm;obtain⟨dx,hx⟩:=W.gx (ws:=ws) (fs:=fs++[oD o]);obtain⟨dy,hy⟩:=W.gx (ws:=ws) (fs:=fs);refine⟨rfl,_,dx,_,hx,m4,br (by decide +kernel) (by decide +kernel),x,a,b,dx,1,fs,[oD o],rfl,hx,Wm.gb,rfl,by decide,?_⟩;rw[Wm.pb];refine⟨_,rfl,_,dy,_,hy,m3,br (by decide +kernel) (by decide +kernel),?_⟩;have fin:∀d,d=oD (o.map f)->ez w [.ref x,d] (Wm M0 a b ws fs) (λ_ M1=>(a' Q).nx [some (.ref x),some (qD q),some nr,some (oD o)] M1) X0:=by
  rintro d rfl;refine⟨x,a,b,dy,_,fs,rfl,hy,Wm.gb,XR em (by decide),?_⟩;rw[Wm.pb];exact ar h
 cases o with
 |none=>exact fin .aj rfl
 |some t=>
  obtain⟨r,hr⟩:=dH t;have e:oD (some t)=.tup (.str (wd t)::r):=hr;have fin:∀d,d=qD (f t)->ez w [.ref x,d] (Wm M0 a b ws fs) (λ_ M1=>(a' Q).nx [some (.ref x),some (qD q),some nr,some (oD (some t))] M1) X0:=fin;rw[e]at fin ⊢;rcases wr with ⟨i,s,rfl,rfl⟩ |⟨c,s,rfl,rfl⟩ |⟨y,s,u,rfl,rfl⟩
  ·exact⟨l1,l3,fin _ (by rw[qD,hr];rfl)⟩
  ·exact⟨l1,l3,fin _ (by rw[qD,hr];rfl)⟩
  ·exact⟨l1,l4,fin _ (by rw[qD,hr];rfl)⟩
variable {w:Wo}
mutual
noncomputable def aD (nv:Nv):Qn->Qn
 |.tab x=>match bO x nv with
  |some y=>.both (.tab x) (.tab y)
  |none=>.tab x
 |.row fs=>.row (fQ nv fs)
 |.at f q=>.at f (aD nv q)
 |.one q=>.one (aD nv q)
 |.times i q=>.times i (aD nv q)
 |.not q=>.not (aD nv q)
 |.add a b=>.add (aD nv a) (aD nv b)
 |.mul a b=>.mul (aD nv a) (aD nv b)
 |.both a b=>.both (aD nv a) (aD nv b)
 |.for y a b=>.for y (aD nv a) (aD nv b)
 |.aP a b=>.aP (aD nv a) (aD nv b)
 |.let y a b=>.let y (aD nv a) (aD nv b)
 |.same a b=>.same (aD nv a) (aD nv b)
 |.under a b=>.under (aD nv a) (aD nv b)
 |.and a b=>.and (aD nv a) (aD nv b)
 |.or a b=>.or (aD nv a) (aD nv b)
 |.num i=>.num i |.word s=>.word s |.var s=>.var s |.none k=>.none k
noncomputable def fQ (nv:Nv):List (Str×Qn)->List (Str×Qn)
 |[]=>[]
 |(f,q)::r=>(f,aD nv q)::fQ nv r
end
noncomputable def hU (nv:Nv) (q:Qn):Qn:=.both (aD nv q) (.times (-1) q)
theorem uG (nv:Nv):∀fs:List (Str×Qn),fQ nv fs=fs.map λp=>(p.1,aD nv p.2)
 |[]=>by rw[fQ];rfl
 |(f,q)::r=>by rw[fQ,uG nv r];rfl
theorem z0:decide (((0:Nat):Int)=0)=true:=rfl
theorem z1:¬decide (((1:Nat):Int)=0)=true:=by decide
theorem z2:¬decide (((2:Nat):Int)=0)=true:=by decide
noncomputable def P6:B:=.cons (.ret (.op .Add (.sl (.v 0) .aq (.neg (.bi .len (.cons (.v 1) .nil)))) (.bi .tuple (.cons (.v 1) .nil)))) .nil
noncomputable def P7:B:=.cons (.cond (.cmp .Eq (.bi .len (.cons (.v 1) .nil)) (.c (.int 0))) (.cons (.ret (.v 0)) .nil) .nil) P6
noncomputable def P8:B:=.cons (.cond (.cmp .Eq (.ix (.v 0) (.c (.int 0))) (.c (.str "row"))) (.cons (.ret (.tup (.cons (.c (.str "row")) (.cons (.bi .tuple (.cons (.lc 2 [] (.many [0,1]) (.zip (.ix (.v 0) (.c (.int 1))) (.v 1)) .aq (.tup (.cons (.ix (.v 0) (.c (.int 0))) (.cons (.v 1) .nil)))) .nil)) .nil)))) .nil) .nil) P7
theorem P9:aC ["question","parts"] ["question","parts"] (ag (aa 7)):=⟨rfl,rfl,rfl,by decide +kernel,rfl,by decide +kernel,by decide +kernel⟩
theorem P':aF nm 40 ["question","parts"] (ag (aa 7)) (av (aa 7))=P8:=by kernel_rfl
def pJ:Sp:=λds M Q _=>∃q nv,ds=[qD q,.lst (((us q).map (aD nv)).map qD)]/\(∀x,q=.tab x->bO x nv=none)/\(us q).length<100/\Q (qD (aD nv q)) M
theorem Qa (O:Lw w):FO w 1 1 pJ:=by
 refine aJ O.ok O.hn _ ⟨"with_under",aa 7,["question","parts"]⟩ (by rw[O.hd];rfl) {} { cs:=trivial } P9 P' λds M Q _ h=>?_;obtain⟨q,nv,rfl,ht,hl,h⟩:=h;cases q with
 |row fs=>
  refine⟨rfl,_,rfl,au (aX (by decide) ⟨_,rfl,?_⟩)⟩;have e:(((us (.row fs)).map (aD nv)).map qD)=fs.map λp=>qD (aD nv p.2):=by rw[us,Yd,Yd];rfl
  have hf:fs.length<100:=by simpa [us] using hl
  rw[aD,qD,uG,mw,Yd]at h;have key:∀ds,ds=(fs.map λp=>qD (aD nv p.2))->cK (λM=>True/\True) (.many [0,1]) gn (E.w ({}:a8 w).wd nm.ai (.tup (.cons (.ix (.v 0) (.c (.int 0))) (.cons (.v 1) .nil)))).1 [none,none] (λys M2=>bQ ys M2 λd M3=>qZ [d] M3 λd Wh=>2<=sizeLine/\aW Q (.tup [.str "row",d]) Wh) (List.zipWith (λx y=>D.tup [x,y]) (bq fs) ds) [] M:=by
   rintro _ rfl;rw[mw,pF];have TN:fs.zip fs=fs.map λp=>(p,p):=by
    clear h hf hl e ht
    induction fs with
    |nil=>rfl
    |cons p r ih=>rw[Yq,ih];rfl
   rw[TN,Yd];refine gX (λp:Str×Qn=>.tup [.tup [.str p.1,qD p.2],qD (aD nv p.2)]) (λp=>.tup [.str p.1,qD (aD nv p.2)]) fs ⟨trivial,trivial⟩ (XR hf (by decide)) (λp _ N hN=>?_) ?_
   ·exact⟨rfl,_,rfl,l2,hN⟩
   ·exact .inl ⟨l2,ar h⟩
  exact key _ e
 |tab x=>
  have hx:=ht x rfl;have e:aD nv (.tab x)=.tab x:=by rw[aD,hx]
  rw[e]at h;exact⟨rfl,_,rfl,au (az (by decide) (bw (aX z0 (ar h))))⟩
 |num i=>exact⟨rfl,_,rfl,au (az (by decide) (bw (aX z0 (ar h))))⟩
 |word s=>exact⟨rfl,_,rfl,au (az (by decide) (bw (aX z0 (ar h))))⟩
 |var s=>exact⟨rfl,_,rfl,au (az (by decide) (bw (aX z0 (ar h))))⟩
 |none k=>exact⟨rfl,_,rfl,au (az (by decide) (bw (aX z0 (ar h))))⟩
 | «at» f q=>exact⟨rfl,_,rfl,au (az (by decide) (bw (az z1 ⟨l3,ar h⟩)))⟩
 |one q=>exact⟨rfl,_,rfl,au (az (by decide) (bw (az z1 ⟨l2,ar h⟩)))⟩
 |times i q=>exact⟨rfl,_,rfl,au (az (by decide) (bw (az z1 ⟨l3,ar h⟩)))⟩
 |not q=>exact⟨rfl,_,rfl,au (az (by decide) (bw (az z1 ⟨l2,ar h⟩)))⟩
 | «for» y a b=>exact⟨rfl,_,rfl,au (az (by decide) (bw (az z2 ⟨l4,ar h⟩)))⟩
 | «let» y a b=>exact⟨rfl,_,rfl,au (az (by decide) (bw (az z2 ⟨l4,ar h⟩)))⟩
 |_=>exact⟨rfl,_,rfl,au (az (by decide) (bw (az z2 ⟨l3,ar h⟩)))⟩
noncomputable def uH:B:=(.cons (.cond (.and (.cmp .Eq (.ix (.v 0) (.c (.int 0))) (.c (.str "table"))) (.cmp .In (.ix (.v 0) (.c (.int 1))) (.v 2))) (.cons (.ret (.tup (.cons (.c (.str "both")) (.cons (.v 0) (.cons (.tup (.cons (.c (.str "table")) (.cons (.ix (.v 2) (.ix (.v 0) (.c (.int 1)))) .nil))) .nil))))) .nil) .nil) (.cons (.ret (.call 1 (.cons (.v 0) (.cons (.v 1) .nil)))) .nil))
def mG (v:D):Sp:=λds M Q _=>∃q nv,v=dD (aL nv)/\ds=[qD q,.lst (((us q).map (aD nv)).map qD)]/\(us q).length<100/\Q (qD (aD nv q)) M
theorem Qb {q:Qn}{nv:Nv}{M:Mp}{Q:QK} (hl:(us q).length<100) (h:Q (qD (aD nv q)) M):B.w ({ cs:=[(1,pJ)] }:a8 w).wd nm.ai uH (a' Q) [some (qD q),some (.lst (((us q).map (aD nv)).map qD)),some (dD (aL nv))] M:=by
 by_cases hq:∃x,q=.tab x
 ·obtain⟨x,rfl⟩:=hq;refine⟨_,rfl,au (aX (by decide) ⟨_,rfl,o6 ?_⟩)⟩;rw[kq,Option.isSome_map];cases e:bO x nv with
  |none=>exact⟨.tab x,nv,rfl,λy z=>by cases z;exact e,hl,ar h⟩
  |some y=>
   rw[aD,e]at h;exact⟨_,rfl,oZ (d:=.str y) (by rw[kq,e];rfl) ⟨l2,l3,ar h⟩⟩
 ·obtain⟨r,e⟩:=dH q;have hd:=ui λx z=>hq ⟨x,z⟩;have key:∀ z,z=qD q->B.w ({ cs:=[(1,pJ)] }:a8 w).wd nm.ai uH (a' Q) [some z,some (.lst (((us q).map (aD nv)).map qD)),some (dD (aL nv))] M:=by
   intro z hz;have hz':=hz.trans e;subst hz';exact⟨_,ew,au (dp hd ⟨q,nv,by rw[e];rfl,λy z=>absurd ⟨y,z⟩ hq,hl,ar h⟩)⟩
  exact key _ rfl
noncomputable def uI (w:Wo) (q:Qn) (r:D):D:=.tup [w.gv.getD 11 .aj,qD q,r]
noncomputable def Uh (w:Wo) (q:Qn) (r:D):D:=.tup [w.gv.getD 12 .aj,qD q,r]
noncomputable def Qc:B:=(.cons (.ex (.aV 1 (.v 0) (.cons (.g 12) (.cons (.v 1) (.cons (.v 2) .nil))))) (.cons (.loop (.one 3) (.oz (.call 0 (.cons (.v 1) .nil))) (.cons (.ex (.aV 1 (.v 0) (.cons (.g 11) (.cons (.v 3) (.cons (.v 2) .nil))))) .nil)) .nil))
theorem Qd:aC ["walk","question","told_of","part"] ["walk","question","told_of"] (ag (aa 13)):=⟨rfl,rfl,rfl,by decide +kernel,rfl,by decide +kernel,by decide +kernel⟩
theorem Qe:aF nm 40 ["walk","question","told_of","part"] (ag (aa 13)) (av (aa 13))=Qc:=by kernel_rfl
noncomputable def Qf:B:=(.cons (.ex (.aV 2 (.v 0) (.cons (.app (.v 2) (.cons (.v 1) (.cons (.aV 3 (.v 0) (.cons (.bi .len (.cons (.call 0 (.cons (.v 1) .nil)) .nil)) .nil)) .nil))) .nil))) .nil)
theorem Qg:aC ["walk","question","told_of"] ["walk","question","told_of"] (ag (aa 14)):=⟨rfl,rfl,rfl,by decide +kernel,rfl,by decide +kernel,by decide +kernel⟩
theorem Qh:aF nm 40 ["walk","question","told_of"] (ag (aa 14)) (av (aa 14))=Qf:=by kernel_rfl
noncomputable def Qi:B:=.cons (.ret (.aV 4 (.v 2) .nil)) .nil
noncomputable def Qj:B:=.cons (.ex (.aV 1 (.v 2) (.cons (.g 11) (.cons (.v 0) (.cons (.v 1) .nil))))) Qi
noncomputable def Qk:B:=.cons (.set (.one 2) (.new 0 .nil)) Qj
theorem Ql:aC ["question","told_of","walk"] ["question","told_of"] (ag (aa 12)):=⟨rfl,rfl,rfl,by decide +kernel,rfl,by decide +kernel,by decide +kernel⟩
theorem Qm:aF nm 40 ["question","told_of","walk"] (ag (aa 12)) (av (aa 12))=Qk:=by kernel_rfl
def BN (w:Wo):Sp:=λds M Q _=>∃M0 x a b ws fs q r,ds=[.ref x,qD q,r]/\M=Wm M0 a b ws fs/\Wc (w.ca 0) M0 x a b/\ws.length<1000000/\(us q).length<100/\Q .aj (Wm M0 a b (ws++[Uh w q r]++((us q).map λp=>uI w p r).reverse) fs)
theorem Qo (O:Lw w):FO w 5 2 (BN w):=by
 refine aJ O.ok O.hn _ ⟨"unfold",aa 13,["walk","question","told_of"]⟩ (by rw[O.hd];rfl) { cs:=[(0,kg)],ms:=[(1,fL w)] } { cs:=⟨⟨1,by decide,my O⟩,trivial⟩,ms:=⟨⟨1,by decide,ja O⟩,trivial⟩ } Qd Qe λds M Q _ h=>?_;obtain⟨M0,x,a,b,ws,fs,q,r,rfl,rfl,W,ki,hu,h⟩:=h;have m2:w.ca 0=w.mc 1:=(O.mc _ (by decide)).symm;obtain⟨dx,hx⟩:=W.gx (ws:=ws) (fs:=fs);refine⟨rfl,_,dx,_,hx,m2,br (by decide +kernel) (by decide +kernel),x,a,b,dx,_,_,_,ws,rfl,hx,W.ga,XR ki (by decide),?_⟩;rw[W.pa];refine⟨q,rfl,hu,?_⟩;refine d0 (λxs τ M'=>∃rest done v,us q=rest++done/\xs=(rest.map qD).reverse/\τ=[some (.ref x),some (qD q),some r,v]/\M'=Wm M0 a b (ws++[Uh w q r]++(done.map λp=>uI w p r).reverse) fs) ?_ ?_ _ _ _ ⟨us q,[],none,by simp,rfl,rfl,by rw[Yc,List.reverse_nil,Xo];rfl⟩
 ·rintro τ M' ⟨rest,done,v,e1,e2,rfl,rfl⟩;have:rest=[]:=by
   have:=congrArg YZ e2;simpa using this.symm
  subst this;rw[List.nil_append]at e1;rw[e1]at h;exact⟨trivial,.rfl (ar h)⟩
 ·rintro y xs τ M' ⟨rest,done,v,e1,e2,rfl,rfl⟩;refine⟨trivial,?_⟩;rcases Za rest with z |⟨r',q',z⟩
  ·subst z;cases e2
  subst z;rw[YX]at e1 e2;rw[Xn,Xe,Yc,List.reverse_append]at e2;cases e2;have hlen:(us q).length=r'.length+1+done.length:=by rw[e1];simp;lia
  obtain⟨dy,hy⟩:=W.gx (ws:=ws++[Uh w q r]++(done.map λp=>uI w p r).reverse) (fs:=fs);refine λN hN=>⟨_,dy,_,hy,m2,br (by decide +kernel) (by decide +kernel),x,a,b,dy,_,_,_,_,rfl,hy,W.ga,Xg (by simp;lia:_<=2000000) (by decide),hN _ _ ⟨r',q'::done,_,by rw[e1];simp,rfl,rfl,?_⟩⟩;rw[W.pa,Xe,YA,<- Xy];rfl
def BO (w:Wo) (f:Addr) (nv:Nv):Sp:=λds M Q _=>∃M0 x a b ws fs q,ds=[.ref x,qD q,.ref f]/\M=Wm M0 a b ws (fs++((us q).map (aD nv)).map qD)/\Wc (w.ca 0) M0 x a b/\fs.length<1000000/\(us q).length<100/\Q .aj (Wm M0 a b ws (fs++[qD (aD nv q)]))
theorem Qp (O:Lw w) {f:Addr}{nv:Nv} (hf:cL w.G 2 f (mG (dD (aL nv)))):FO w 6 3 (BO w f nv):=by
 refine aJ O.ok O.hn _ ⟨"fold",aa 14,["walk","question","told_of"]⟩ (by rw[O.hd];rfl) { cs:=[(0,kg)],ms:=[(2,ez w),(3,jc w)],ca:=λg sp=>g=f/\sp=mG (dD (aL nv)) } { cs:=⟨⟨1,by decide,my O⟩,trivial⟩,ms:=⟨⟨1,by decide,jb O⟩,⟨1,by decide,kh O⟩,trivial⟩,ca:=?_ } Qg Qh λds M Q _ h=>?_
 ·rintro g sp ⟨rfl,rfl⟩;exact hf
 obtain⟨M0,x,a,b,ws,fs,q,rfl,rfl,W,em,hu,h⟩:=h;have m3:w.ca 0=w.mc 2:=(O.mc _ (by decide)).symm;have m4:w.ca 0=w.mc 3:=(O.mc _ (by decide)).symm;obtain⟨dx,hx⟩:=W.gx (ws:=ws) (fs:=fs++((us q).map (aD nv)).map qD);obtain⟨dy,hy⟩:=W.gx (ws:=ws) (fs:=fs);refine⟨rfl,_,dx,_,hx,m3,br (by decide +kernel) (by decide +kernel),_,⟨rfl,rfl⟩,_,dx,_,hx,m4,br (by decide +kernel) (by decide +kernel),q,rfl,hu,x,a,b,dx,_,fs,((us q).map (aD nv)).map qD,rfl,hx,Wm.gb,by simp,by simp;lia,?_⟩;rw[Wm.pb];refine⟨q,nv,rfl,rfl,hu,x,a,b,dy,_,fs,rfl,hy,Wm.gb,XR em (by decide),?_⟩;rw[Wm.pb];exact ar h
def mH (w:Wo) (f:Addr) (nv:Nv) (g:Addr) (sp:Sp):Prop:=(g=ba w "unfold"/\sp=BN w)\/(g=ba w "fold"/\sp=BO w f nv)
theorem Qq (O:Lw w) {q:Qn}{r:D}:uI w q r=.tup [.ref (ba w "unfold"),qD q,r]:=by unfold uI;rw[O.Vk]
theorem Qr (O:Lw w) {q:Qn}{r:D}:Uh w q r=.tup [.ref (ba w "fold"),qD q,r]:=by unfold Uh;rw[O.go]
theorem BP (O:Lw w) {f:Addr}{nv:Nv}{M0:Mp}{x a b:Addr} (W:Wc (w.ca 0) M0 x a b) {e:En}:∀ (m:Nat) (q:Qn),nq q<=m->wq q->∀ {n:Nat}{ws fs:List D},ws.length+110 * dn q<900000->fs.length+110 * dn q<900000 ->
  Lp w (mH w f nv) e n x (Wm M0 a b ws (fs++[qD (aD nv q)]))->Lp w (mH w f nv) e (n+2 * nq q) x (Wm M0 a b (ws++[uI w q (.ref f)]) fs)
 | 0,q,h,_,_,_,_,_,_,_=>by rw[hR]at h;lia
 |m+1,q,h,hw,n,ws,fs,lw,lf,k=>by
  obtain⟨hu,ki⟩:=pI hw;have hd:=uy q;rw[hR]at h ⊢;rw[show n+2 * (1+bE (us q))=(n+1+2 * bE (us q))+1 by lia,Qq O];refine b0 O (.inl ⟨rfl,rfl⟩) W λQ hQ=>⟨M0,x,a,b,ws,fs,q,_,rfl,rfl,W,by lia,hu,hQ _ _ ?_⟩;have list:∀ (qs:List Qn),bE qs<=m->(∀ p∈qs,wq p)->∀ {n:Nat}{ws fs:List D},ws.length+qs.length+110 * fP qs<900000->fs.length+qs.length+110 * fP qs<900000 ->
    Lp w (mH w f nv) e n x (Wm M0 a b ws (fs++(qs.map (aD nv)).map qD))->Lp w (mH w f nv) e (n+2 * bE qs) x (Wm M0 a b (ws++(qs.map λp=>uI w p (.ref f)).reverse) fs):=by
   intro qs
   induction qs with
   |nil=>intro _ _ n ws fs _ _ k;rw[Yc,Yc,Xo]at k;rw[Yc,List.reverse_nil,Xo];exact k
   |cons p r ih=>
    intro hm BQ n ws fs lw lf k;rw[bE]at hm;rw[fP,Xd]at lw lf;have n1:=hR p;rw[Xe,YA,<- Xy,bE,show n+2 * (nq p+bE r)=(n+2 * bE r)+2 * nq p by lia];refine BP O W m p (by lia) (BQ p W') (by simp;lia) (by lia) ?_;refine ih (by lia) (λz hz=>BQ z (W8 _ hz)) (by lia) (by simp;lia) ?_;rw[Xy];exact k
  refine list (us q) (by lia) ki (by simp;lia) (by lia) ?_;rw[Qr O];exact b0 O (.inr ⟨rfl,rfl⟩) W λQ hQ=>⟨M0,x,a,b,ws,fs,q,rfl,rfl,W,by lia,hu,hQ _ _ k⟩
def BR (w:Wo) (f:Addr) (nv:Nv):Sp:=λds M Q _=>∃M0 x a b q,ds=[.ref x]/\M=Wm M0 a b [uI w q (.ref f)] []/\Wc (w.ca 0) M0 x a b/\wq q/\dn q<500/\Q (qD (aD nv q)) (Wm M0 a b [] [])
theorem Qs (O:Lw w) {f:Addr}{nv:Nv} (hf:cL w.G 2 f (mG (dD (aL nv)))):dh w 4 4 (BR w f nv):=by
 refine i0 O.ok O.hn _ ⟨"run",(bh (aa 11) 4),["self"]⟩ (by rw[O.hms];rfl) (Ud w (mH w f nv)) { cs:=trivial,ca:=?_ } ur uv λds M Q _ h=>?_
 ·rintro g sp (⟨rfl,rfl⟩ |⟨rfl,rfl⟩)
  ·exact FO.cm ((Qo O).mono (by decide)) (d:=⟨"unfold",aa 13,["walk","question","told_of"]⟩) (by rw[O.hd];rfl)
  ·exact FO.cm (Qp O hf) (d:=⟨"fold",aa 14,["walk","question","told_of"]⟩) (by rw[O.hd];rfl)
 obtain⟨M0,x,a,b,q,rfl,rfl,W,hw,hd,h⟩:=h;refine⟨rfl,1+2 * nq q,?_⟩;refine BP O W (nq q) q (W3 _) hw (ws:=[]) (fs:=[]) (n:=1) (by simp;lia) (by simp;lia) (uw O W λ_ _ _=>?_) _ _ _;obtain⟨dx,hx⟩:=W.gx (ws:=[]) (fs:=[]++[qD (aD nv q)]);refine⟨_,dx,_,hx,.ref b,O.ff,rfl,.inl ⟨rfl,_,Wm.gb⟩,_,Wm.gb,qD (aD nv q),rfl,?_⟩;rw[Wm.pb];exact ar h
def Qt (f:Addr) (nv:Nv):Sp:=λds M Q _=>∃q,ds=[qD q,.ref f]/\wq q/\dn q<500/\Q (qD (aD nv q)) M
theorem Qu (O:Lw w) {f:Addr}{nv:Nv} (hf:cL w.G 2 f (mG (dD (aL nv)))):FO w 4 5 (Qt f nv):=by
 refine aJ O.ok O.hn _ ⟨"folded",aa 12,["question","told_of"]⟩ (by rw[O.hd];rfl) { ms:=[(1,fL w),(4,BR w f nv)],ci:=[(0,0,pE w)] } { cs:=trivial,ms:=⟨⟨1,by decide,ja O⟩,⟨4,by decide,Qs O hf⟩,trivial⟩,ci:=⟨⟨O.mc _ (by decide),by rw[O.hms];rfl,1,by decide,ue O⟩,trivial⟩ } Ql Qm λds M Q _ h=>?_;obtain⟨q,rfl,hw,hd,h⟩:=h;have m2:w.ca 0=w.mc 1:=(O.mc _ (by decide)).symm;have m5:w.ca 0=w.mc 4:=(O.mc _ (by decide)).symm;refine⟨rfl,λx dx hx kn nd=>⟨x,dx,rfl,ao,λa b ha hb ne=>⟨rfl,?_⟩⟩⟩;obtain⟨sb,W⟩:=pH (i1:=[("waiting",.ref a),("found",.ref b)]) (ws:=[]) (fs:=[]) hx kn ha hb nd ne;obtain⟨dy,hy⟩:=W.gx (ws:=[]) (fs:=[]);refine⟨_,dy,_,hy,m2,br (by decide +kernel) (by decide +kernel),x,a,b,dy,_,_,_,[],rfl,hy,W.ga,by decide,?_⟩;rw[W.pa];obtain⟨Ue,hz⟩:=W.gx (ws:=[]++[.tup [w.gv.getD 11 .aj,qD q,.ref f]]) (fs:=[]);exact⟨_,Ue,_,hz,m5,br (by decide +kernel) (by decide +kernel),_,x,a,b,q,rfl,rfl,W,hw,hd,kb sb h⟩
noncomputable def Qv:Expr:=pB.es.headD (.Name "" ⟨0,0,0,0⟩)
theorem Qw:av (aa 56)=[.FunctionDef pB.name pB.params pB.body [] none [] pB.scope none pB.name pB.np,.Return (some (.Call (.Name pB.g pB.gp) (Qv::pB.es.tail) [] pB.Tt)) pB.rp]:=by kernel_rfl
theorem Qx:aC ["question","names","put"] ["question","names"] (ag (aa 56)):=⟨rfl,rfl,rfl,by decide +kernel,rfl,by decide +kernel,by decide +kernel⟩
def BS:Sp:=λds M Q _=>∃q nv,ds=[qD q,dD (aL nv)]/\wq q/\dn q<500/\Q (qD (aD nv q)) M
theorem Qy (O:Lw w):FO w 38 6 BS:=by
 refine JV O.ok O.hn (kp:=1) (n:=40) (np:=40) (j:=2) (ci:=1) (ns:=["question","names","put"]) (j9:=["part","below"]) (ls:=[]) (x:="names") (b:=uH) (t:=.cons (.v 0) (.cons (.v 2) .nil)) (mm:=mG) 38 4 ⟨"behind",aa 56,["question","names"]⟩ (by rw[O.hd];rfl) Qw (λf fd q=>O.UA f fd q) {} { cs:=trivial } Qx (by kernel_rfl) (by kernel_rfl) (by decide) rfl (by decide) (by kernel_rfl)
  (λ_ _ _ _=>rfl) (λ_ _ _ _=>rfl) (λ_=>rfl) (by kernel_rfl) (by kernel_rfl) (λ_=>by kernel_rfl) (by kernel_rfl) (by kernel_rfl) (by kernel_rfl) (by kernel_rfl) (by kernel_rfl) ⟨by kernel_rfl,by kernel_rfl,by kernel_rfl,by decide +kernel,by decide +kernel,by decide +kernel,by decide +kernel⟩ (by decide +kernel) (λq clos doc pm c ctv K=>bM.all λus h=>?_) (by kernel_rfl) (λe v l=>⟨{ cs:=[(1,pJ)] },{ cs:=⟨⟨1,by decide,Qa (O.at l)⟩,trivial⟩ },λds M Q E hs=>?_⟩) λds M Q E hs=>?_
 ·match us,h with
  |[_,_],_=>rfl
 ·obtain⟨q,nv,rfl,rfl,hu,h⟩:=hs;exact⟨rfl,Qb (w:=w.at e) hu h⟩
 ·obtain⟨q,nv,rfl,hw,hd,h⟩:=hs;exact⟨rfl,λf e v l TQ hh=>by
   cases TQ;exact⟨_,Qu (O.at l) hh,q,rfl,hw,hd,ar h⟩⟩
noncomputable def Qz:B:=(.cons (.ret (.tup (.cons (.c (.str "both")) (.cons (.call 38 (.cons (.v 0) (.cons (.v 1) .nil))) (.cons (.tup (.cons (.c (.str "times")) (.cons (.neg (.c (.int 1))) (.cons (.v 0) .nil)))) .nil))))) .nil)
theorem QA:aC ["question","names"] ["question","names"] (ag (aa 55)):=⟨rfl,rfl,rfl,by decide +kernel,rfl,by decide +kernel,by decide +kernel⟩
theorem QB:aF nm 40 ["question","names"] (ag (aa 55)) (av (aa 55))=Qz:=by kernel_rfl
def BU:Sp:=λds M Q _=>∃q nv,ds=[qD q,dD (aL nv)]/\wq q/\dn q<500/\Q (qD (hU nv q)) M
theorem QC (O:Lw w):FO w 37 7 BU:=by
 refine aJ O.ok O.hn _ ⟨"behind_less_ahead",aa 55,["question","names"]⟩ (by rw[O.hd];rfl) { cs:=[(38,BS)] } { cs:=⟨⟨6,by decide,Qy O⟩,trivial⟩ } QA QB λds M Q _ h=>?_;obtain⟨q,nv,rfl,hw,hd,h⟩:=h;exact⟨rfl,q,nv,rfl,hw,hd,l3,l3,ar h⟩
variable {w:Wo}
theorem BV {W:Wd}{mn:List Str}{s:S}{r:B}{e:En} {τ:St} {M:Mp} (h:S.w W mn s { e with nx:=B.w W mn r e } τ M):B.w W mn (.cons s r) e τ M:=by cases r <;> exact h
section
variable {e:En} {τ:St} {M0:Mp}{x a b:Addr}{ws fs:List D}
theorem uJ (O:Lw w) {c:a8 w} (hm:gy c.ms 2=some (ez w)) {f:E}{r:B}{d:D} (W:Wc (w.ca 0) M0 x a b) (h0:∀ k:QK,k (.ref x) (Wm M0 a b ws fs)->eE 0 τ (Wm M0 a b ws fs) k) (hl:fs.length<1000000) (hf:∀ k:QK,k d (Wm M0 a b ws fs)->(f.w c.wd nm.ai).1 τ (Wm M0 a b ws fs) k) (h:B.w c.wd nm.ai r e τ (Wm M0 a b ws (fs++[d]))) :
  B.w c.wd nm.ai (.cons (.ex (.aV 2 (.v 0) (.cons f .nil))) r) e τ (Wm M0 a b ws fs):=by
 refine BV ?_;show ng (sC ((gy c.ms 2).map λsp=>(w.mc 2,sp)) (nm.ai.getD 2 "") (eE 0) (fv (f.w c.wd nm.ai).1 eF)) { e with nx:=B.w c.wd nm.ai r e } τ (Wm M0 a b ws fs);rw[hm];obtain⟨dx,hx⟩:=W.gx (ws:=ws) (fs:=fs);refine h0 (λo M1=>cD o M1 λ_ C' _ fs=>C'=w.mc 2/\fs.lookup (nm.ai.getD 2 "")=none/\fv (f.w c.wd nm.ai).1 eF τ M1 λds M2=>ez w (o::(ds++[])) M2 (λ_ M3=>B.w c.wd nm.ai r e τ M3) X0) ⟨_,dx,_,hx,(O.mc _ (by decide)).symm,br (by decide +kernel) (by decide +kernel),hf _ ⟨x,a,b,dx,d,fs,rfl,hx,Wm.gb,XR hl (by decide),?_⟩⟩;rw[Wm.pb];exact h
theorem eA (O:Lw w) {c:a8 w} (hm:gy c.ms 1=some (fL w)) {f g i:E}{rr:B}{d s r:D} (W:Wc (w.ca 0) M0 x a b) (h0:∀ k:QK,k (.ref x) (Wm M0 a b ws fs)->eE 0 τ (Wm M0 a b ws fs) k) (hl:ws.length<1000010) (hf:∀ k:QK,k d (Wm M0 a b ws fs)->(f.w c.wd nm.ai).1 τ (Wm M0 a b ws fs) k) (hg:∀ k:QK,k s (Wm M0 a b ws fs)->(g.w c.wd nm.ai).1 τ (Wm M0 a b ws fs) k) (hi:∀ k:QK,k r (Wm M0 a b ws fs)->(i.w c.wd nm.ai).1 τ (Wm M0 a b ws fs) k)
  (h:B.w c.wd nm.ai rr e τ (Wm M0 a b (ws++[.tup [d,s,r]]) fs)):B.w c.wd nm.ai (.cons (.ex (.aV 1 (.v 0) (.cons f (.cons g (.cons i .nil))))) rr) e τ (Wm M0 a b ws fs):=by
 refine BV ?_;show ng (sC ((gy c.ms 1).map λsp=>(w.mc 1,sp)) (nm.ai.getD 1 "") (eE 0) (fv (f.w c.wd nm.ai).1 (fv (g.w c.wd nm.ai).1 (fv (i.w c.wd nm.ai).1 eF)))) { e with nx:=B.w c.wd nm.ai rr e } τ (Wm M0 a b ws fs);rw[hm];obtain⟨dx,hx⟩:=W.gx (ws:=ws) (fs:=fs);refine h0 (λo M1=>cD o M1 λ_ C' _ fs=>C'=w.mc 1/\fs.lookup (nm.ai.getD 1 "")=none/\fv (f.w c.wd nm.ai).1 (fv (g.w c.wd nm.ai).1 (fv (i.w c.wd nm.ai).1 eF)) τ M1 λds M2=>fL w (o::(ds++[])) M2 (λ_ M3=>B.w c.wd nm.ai rr e τ M3) X0) ⟨_,dx,_,hx,(O.mc _ (by decide)).symm,br (by decide +kernel) (by decide +kernel),hf _ (hg _ (hi _ ⟨x,a,b,dx,d,s,r,ws,rfl,hx,W.ga,XR hl (by decide),?_⟩))⟩;rw[W.pa];exact h
end
def Wl (nv:Nv) (q:Qn) (f:Qn->Qn) (r:Qn):Prop:=(∃i,q=.times i r/\f=.times i)\/(∃c,q=.aP c r/\f=.aP c)\/∃y s,q=.let y s r/\f=.let y s/\hs nv s=false
noncomputable def uK:B:=(.cons (.set (.one 3) (.ix (.v 1) (.c (.int 0)))) (.cons (.cond (.not (.call 30 (.cons (.v 1) (.cons (.v 2) .nil)))) (.cons (.ex (.aV 2 (.v 0) (.cons (.c .aj) .nil))) .nil) (.cons (.cond (.cmp .Eq (.v 3) (.c (.str "table"))) (.cons (.ex (.aV 2 (.v 0) (.cons (.tup (.cons (.c (.str "table")) (.cons (.ix (.v 2) (.ix (.v 1) (.c (.int 1)))) .nil))) .nil))) .nil) (.cons (.cond (.cmp .In (.v 3) (.tup (.cons (.c (.str "both")) (.cons (.c (.str "for")) .nil)))) (.cons (.ex (.aV 1 (.v 0) (.cons (.ix (.g 5) (.v 3)) (.cons (.v 1) (.cons (.v 2) .nil))))) (.cons (.ex (.aV 1 (.v 0) (.cons (.g 35) (.cons (.ix (.v 1) (.neg (.c (.int 1)))) (.cons (.v 2) .nil))))) (.cons (.ex (.aV 1 (.v 0) (.cons (.g 35) (.cons (.ix (.v 1) (.neg (.c (.int 2)))) (.cons (.v 2) .nil))))) .nil))) (.cons (.cond (.or (.cmp .In (.v 3) (.tup (.cons (.c (.str "times")) (.cons (.c (.str "when")) .nil)))) (.and (.cmp .Eq (.v 3) (.c (.str "let"))) (.not (.call 30 (.cons (.ix (.v 1) (.c (.int 2))) (.cons (.v 2) .nil)))))) (.cons (.ex (.aV 1 (.v 0) (.cons (.g 42) (.cons (.v 1) (.cons (.v 2) .nil))))) (.cons (.ex (.aV 1 (.v 0) (.cons (.g 35) (.cons (.ix (.v 1) (.neg (.c (.int 1)))) (.cons (.v 2) .nil))))) .nil)) (.cons (.ex (.aV 2 (.v 0) (.cons (.call 37 (.cons (.v 1) (.cons (.v 2) .nil))) .nil))) .nil)) .nil)) .nil)) .nil)) .nil))
theorem QD:aC ["walk","question","names","word"] ["walk","question","names"] (ag (aa 45)):=⟨rfl,rfl,rfl,by decide +kernel,rfl,by decide +kernel,by decide +kernel⟩
theorem QE:aF nm 40 ["walk","question","names","word"] (ag (aa 45)) (av (aa 45))=uK:=by kernel_rfl
noncomputable def bW (w:Wo) (q:Qn) (nv:Nv):D:=.tup [w.gv.getD 35 .aj,qD q,dD (aL nv)]
def pK (nv:Nv) (q:Qn):Prop:=wd q≠"table"/\wd q≠"both"/\wd q≠"for"/\wd q≠"times"/\wd q≠"when"/\(wd q≠"let"\/∃y a b,q=.let y a b/\hs nv a=true)
structure Wt (ws fs:List D) (q:Qn) (N:List Str):Prop where
 lw:ws.length+3 * dn q<900000
 lf:fs.length+3 * dn q<900000
 wd:wq q
 n:nq q<1000000
 d:dn q<500
 lN:N.length<64
 t:∀x∈aI q,x∈N
def BW (w:Wo) (nv:Nv) (q:Qn) (ws fs:List D) (K:List D->List D->Prop):Prop:=
  (hs nv q=false/\K ws (fs++[.aj])) \/
   (hs nv q=true/\((∃y z,q=.tab y/\bO y nv=some z/\K ws (fs++[qD (.tab z)])) \/
    (∃f r s,(q=.both r s/\f=ba w "both_differences"\/∃y,q=.for y r s/\f=ba w "for_differences")/\K (ws++[.tup [.ref f,qD q,dD (aL nv)],bW w s nv,bW w r nv]) fs) \/
    (∃f r,Wl nv q f r/\K (ws++[.tup [w.gv.getD 42 .aj,qD q,dD (aL nv)],bW w r nv]) fs) \/
    (pK nv q/\K ws (fs++[qD (hU nv q)]))))
def BX (w:Wo):Sp:=λds M Q _=>∃M0 x a b ws fs q nv N,ds=[.ref x,qD q,dD (aL nv)]/\M=Wm M0 a b ws fs/\Wc (w.ca 0) M0 x a b/\Wt ws fs q N/\BW w nv q ws fs λcR fs'=>Q .aj (Wm M0 a b cR fs')
noncomputable abbrev cn (w:Wo):a8 w:={ cs:=[(30,BE),(37,BU)],ms:=[(1,fL w),(2,ez w)] }
theorem BY {s t z:Str} (h:z≠s) (h':z≠t):dT (.str z) [D.str s,D.str t]=false:=by
 have e:∀u:Str,z≠u->aE (.str u) (.str z)=false:=λu hu=>by
  show (some z == some u)=false;exact beq_eq_false_iff_ne.mpr λq=>hu (XD q)
 unfold dT;rw[Zh,Zh,List.any_nil,e s h,e t h'];rfl
theorem fR {s t z:Str}{M:Mp}{k:Bool->Prop}{b:Bool} (hb:dT (.str z) [D.str s,D.str t]=b) (q:k b):fC (.str z) (.tup [.str s,.str t]) M k:=by
 refine⟨⟨rfl,rfl,by rw[aU,aU,aU,aO,aO];decide,?_⟩⟩;rw[hb];exact q
theorem BZ:(([("both","both_differences"),("for","for_differences")]:List (Str×Str)).map (·.1)).Nodup:=by decide +kernel
theorem QF (O:Lw w):FO w 29 8 (BX w):=by
 refine aJ O.ok O.hn _ ⟨"begin_differences",aa 45,["walk","question","names"]⟩ (by rw[O.hd];rfl) (cn w) { cs:=⟨⟨4,by decide,Pp O⟩,⟨7,by decide,QC O⟩,trivial⟩,ms:=⟨⟨1,by decide,ja O⟩,⟨1,by decide,jb O⟩,trivial⟩ } QD QE λds M Q _ h=>?_;obtain⟨M0,x,a,b,ws,fs,q,nv,N,rfl,rfl,W,C,h⟩:=h;have lf:fs.length<1000000:=by have:=C.lf;lia
 have lw:=C.lw;obtain⟨r,e⟩:=dH q;have start:∀ z,z=qD q->(hs nv q=true->B.w (cn w).wd nm.ai (Kg (fe (i3 uK))) (a' Q) [some (.ref x),some z,some (dD (aL nv)),some (.str (wd q))] (Wm M0 a b ws fs))->(hs nv q=false->B.w (cn w).wd nm.ai (.cons (.ex (.aV 2 (.v 0) (.cons (.c .aj) .nil))) .nil) (a' Q) [some (.ref x),some z,some (dD (aL nv)),some (.str (wd q))] (Wm M0 a b ws fs)) ->
   [D.ref x,z,dD (aL nv)].length=3/\B.w (cn w).wd nm.ai uK (a' Q) [some (.ref x),some z,some (dD (aL nv)),none] (Wm M0 a b ws fs):=by
  intro z hz h1 h2;have hz':=hz.trans e;subst hz';refine⟨rfl,_,ew,q,N,nv,by rw[e];rfl,C.wd,C.n,C.lN,C.t,?_⟩;cases hh:hs nv q with
  |true=>exact h1 hh
  |false=>exact h2 hh
 rcases h with ⟨hf,h⟩ |⟨ht,⟨y,z,rfl,hz,h⟩ |⟨f,p,s,hq,h⟩ |⟨f,p,hq,h⟩ |⟨hq,h⟩⟩
 ·exact start _ rfl (λz=>by rw[hf]at z;cases z) λ_=>uJ (c:=cn w) O rfl W (λ_ z=>z) lf (λ_ z=>z) (ar h)
 ·refine start _ rfl (λ_=>au (aX (by rw[wd];decide +kernel) ?_)) λz=>by rw[ht]at z;cases z
  exact uJ (c:=cn w) O rfl W (λ_ z=>z) lf (d:=qD (.tab z)) (λk hk=>⟨_,rfl,oZ (d:=.str z) (by rw[kq,hz];rfl) ⟨l2,hk⟩⟩) (ar h)
 ·have no:hs nv q=false->False:=λz=>by rw[ht]at z;cases z
  have Vu:∀{s g:Str} (Mx:Mp) (k:QK),(s,g)∈([("both","both_differences"),("for","for_differences")]:List (Str×Str))->k (.ref (ba w g)) Mx->aB (w.gv.getD 5 .aj) (.str s) Mx k:=λ{s g} Mx k hm z=>by
   rw[O.gs];exact⟨_,ug BZ hm,z⟩
  rcases hq with ⟨rfl,rfl⟩ |⟨y,rfl,rfl⟩
  ·refine start _ rfl (λ_=>au (dp (by rw[wd];decide +kernel) ⟨l2,fR (b:=true) (by rw[wd];decide +kernel) (aX rfl ?_)⟩)) λz=>(no z).elim;refine eA (c:=cn w) O rfl W (λ_ z=>z) (by lia) (λk hk=>Vu (s:="both") _ k W' hk) (λk hk=>hk) (λk hk=>hk) ?_;refine eA (c:=cn w) O rfl W (λ_ z=>z) (by simp;lia) (λk hk=>hk) (λk hk=>⟨_,rfl,hk⟩) (λk hk=>hk) ?_;refine eA (c:=cn w) O rfl W (λ_ z=>z) (by simp;lia) (λk hk=>hk) (λk hk=>⟨_,rfl,hk⟩) (λk hk=>hk) (ar ?_);rw[Xy,Xy];exact h
  ·refine start _ rfl (λ_=>au (dp (by rw[wd];decide +kernel) ⟨l2,fR (b:=true) (by rw[wd];decide +kernel) (aX rfl ?_)⟩)) λz=>(no z).elim;refine eA (c:=cn w) O rfl W (λ_ z=>z) (by lia) (λk hk=>Vu (s:="for") _ k (W8 _ W') hk) (λk hk=>hk) (λk hk=>hk) ?_;refine eA (c:=cn w) O rfl W (λ_ z=>z) (by simp;lia) (λk hk=>hk) (λk hk=>⟨_,rfl,hk⟩) (λk hk=>hk) ?_;refine eA (c:=cn w) O rfl W (λ_ z=>z) (by simp;lia) (λk hk=>hk) (λk hk=>⟨_,rfl,hk⟩) (λk hk=>hk) (ar ?_);rw[Xy,Xy];exact h
 ·have no:hs nv q=false->False:=λz=>by rw[ht]at z;cases z
  rcases hq with ⟨i,rfl,rfl⟩ |⟨c,rfl,rfl⟩ |⟨y,s,rfl,rfl,dL⟩
  ·refine start _ rfl (λ_=>au (dp (by rw[wd];decide +kernel) ⟨l2,fR (b:=false) (by rw[wd];decide +kernel) (az (by decide) ⟨l2,fR (b:=true) (by rw[wd];decide +kernel) (aX rfl ?_)⟩)⟩)) λz=>(no z).elim;refine eA (c:=cn w) O rfl W (λ_ z=>z) (by lia) (λk hk=>hk) (λk hk=>hk) (λk hk=>hk) ?_;refine eA (c:=cn w) O rfl W (λ_ z=>z) (by simp;lia) (λk hk=>hk) (λk hk=>⟨_,rfl,hk⟩) (λk hk=>hk) (ar ?_);rw[Xy];exact h
  ·refine start _ rfl (λ_=>au (dp (by rw[wd];decide +kernel) ⟨l2,fR (b:=false) (by rw[wd];decide +kernel) (az (by decide) ⟨l2,fR (b:=true) (by rw[wd];decide +kernel) (aX rfl ?_)⟩)⟩)) λz=>(no z).elim;refine eA (c:=cn w) O rfl W (λ_ z=>z) (by lia) (λk hk=>hk) (λk hk=>hk) (λk hk=>hk) ?_;refine eA (c:=cn w) O rfl W (λ_ z=>z) (by simp;lia) (λk hk=>hk) (λk hk=>⟨_,rfl,hk⟩) (λk hk=>hk) (ar ?_);rw[Xy];exact h
  ·have n2:=C.n;have w2:=C.wd;have t2:=C.t
   rw[nq]at n2;rw[wq]at w2;rw[aI]at t2;refine start _ rfl (λ_=>au (dp (by rw[wd];decide +kernel) ⟨l2,fR (b:=false) (by rw[wd];decide +kernel) (az (by decide) ⟨l2,fR (b:=false) (by rw[wd];decide +kernel) (az (by decide) (au (aX (by rw[wd];decide +kernel) ⟨_,rfl,s,N,nv,rfl,w2.1,by lia,C.lN,λx z=>t2 x (Yx _ z),?_⟩)))⟩)⟩)) λz=>(no z).elim;rw[dL];refine eA (c:=cn w) O rfl W (λ_ z=>z) (by lia) (λk hk=>hk) (λk hk=>hk) (λk hk=>hk) ?_;refine eA (c:=cn w) O rfl W (λ_ z=>z) (by simp;lia) (λk hk=>hk) (λk hk=>⟨_,rfl,hk⟩) (λk hk=>hk) (ar ?_);rw[Xy];exact h
 ·have no:hs nv q=false->False:=λz=>by rw[ht]at z;cases z
  obtain⟨h1,h2,h3,h4,h5,h6⟩:=hq;have fin:∀z,z=qD q->B.w (cn w).wd nm.ai (.cons (.ex (.aV 2 (.v 0) (.cons (.call 37 (.cons (.v 1) (.cons (.v 2) .nil))) .nil))) .nil) (a' Q) [some (.ref x),some z,some (dD (aL nv)),some (.str (wd q))] (Wm M0 a b ws fs):=by
   rintro z rfl;exact uJ (c:=cn w) O rfl W (λ_ z=>z) lf (d:=qD (hU nv q)) (λk hk=>⟨q,nv,rfl,C.wd,C.d,hk⟩) (ar h)
  refine start _ rfl (λ_=>au (dp h1 ⟨l2,fR (BY h2 h3) (az (by decide) ⟨l2,fR (BY h4 h5) (az (by decide) ?_)⟩)⟩)) λz=>(no z).elim;rcases h6 with h6 |⟨y,p,s,rfl,hp⟩
  ·exact au (dp h6 (fin _ rfl))
  ·have n2:=C.n;have w2:=C.wd;have t2:=C.t
   rw[nq]at n2;rw[wq]at w2;rw[aI]at t2;refine au (aX (by rw[wd];decide +kernel) ⟨_,rfl,p,N,nv,rfl,w2.1,by lia,C.lN,λx z=>t2 x (Yx _ z),?_⟩);rw[hp];exact fin _ rfl
variable {w:Wo}
noncomputable def hV (nv:Nv) (q:Qn):Option Qn:=if hs nv q=true then some (hU nv q) else none
noncomputable def aA (nv:Nv):Qn->Option Qn
 |.tab x=>if hs nv (.tab x)=true then (bO x nv).map .tab else none
 |.both a b=>if hs nv (.both a b)=true then cG none [aA nv a,aA nv b] else none
 |.for y a b=>if hs nv (.for y a b)=true then cG none [mf y (aA nv a) (some b),mf y (some a) (aA nv b),mf y (aA nv a) (aA nv b)] else none
 |.times i a=>if hs nv (.times i a)=true then (aA nv a).map (.times i) else none
 |.aP c a=>if hs nv (.aP c a)=true then (aA nv a).map (.aP c) else none
 |.let y a b=>if hs nv (.let y a b)=true then (if hs nv a=true then some (hU nv (.let y a b)) else (aA nv b).map (.let y a)) else none
 |q=>hV nv q
def mI (w:Wo) (f:Addr) (sp:Sp):Prop:=(f=ba w "begin_differences"/\sp=BX w)\/(f=ba w "both_differences"/\sp=BK w)\/(f=ba w "for_differences"/\sp=BL w)\/(f=ba w "wrap"/\sp=BM w)
theorem mJ (O:Lw w) {e:En}{n:Nat}{M0:Mp}{x a b:Addr}{ws fs:List D}{q:Qn}{nv:Nv}{N:List Str} (W:Wc (w.ca 0) M0 x a b) (T:Wt ws fs q N) (h:BW w nv q ws fs λcR fs'=>Lp w (mI w) e n x (Wm M0 a b cR fs')):Lp w (mI w) e (n+1) x (Wm M0 a b (ws++[bW w q nv]) fs):=by
 unfold bW;rw[O.ga];refine b0 O (.inl ⟨rfl,rfl⟩) W λQ hQ=>⟨M0,x,a,b,ws,fs,q,nv,N,rfl,rfl,W,T,?_⟩;rcases h with ⟨h1,h⟩ |⟨h1,⟨y,z,e1,e2,h⟩ |⟨f,r,s,e1,h⟩ |⟨f,r,e1,h⟩ |⟨e1,h⟩⟩
 ·exact .inl ⟨h1,hQ _ _ h⟩
 ·exact .inr ⟨h1,.inl ⟨y,z,e1,e2,hQ _ _ h⟩⟩
 ·exact .inr ⟨h1,.inr (.inl ⟨f,r,s,e1,hQ _ _ h⟩)⟩
 ·exact .inr ⟨h1,.inr (.inr (.inl ⟨f,r,e1,hQ _ _ h⟩))⟩
 ·exact .inr ⟨h1,.inr (.inr (.inr ⟨e1,hQ _ _ h⟩))⟩
def gC (w:Wo) (nv:Nv) (N:List Str) (q:Qn) (m:Nat):Prop:=∀ {e:En}{n:Nat}{M0:Mp}{x a b:Addr}{ws fs:List D},Wc (w.ca 0) M0 x a b->Wt ws fs q N ->
  Lp w (mI w) e n x (Wm M0 a b ws (fs++[oD (aA nv q)]))->Lp w (mI w) e (n+m) x (Wm M0 a b (ws++[bW w q nv]) fs)
theorem je (O:Lw w) {nv:Nv}{N:List Str}{q:Qn} (h:hs nv q=false) (e:aA nv q=none):gC w nv N q 1:=λW T K=>by
 rw[e]at K;exact mJ O W T (.inl ⟨h,K⟩)
theorem B0 (O:Lw w) {nv:Nv}{N:List Str}{q:Qn} (h:hs nv q=true) (hq:pK nv q) (e:aA nv q=some (hU nv q)):gC w nv N q 1:=λW T K=>by
 rw[e]at K;exact mJ O W T (.inr ⟨h,.inr (.inr (.inr ⟨hq,K⟩))⟩)
theorem B1 (O:Lw w) {nv:Nv}{N:List Str}{q r s:Qn}{f:Addr}{m1 m2:Nat} (h:hs nv q=true) (hq:q=.both r s/\f=ba w "both_differences"\/∃y,q=.for y r s/\f=ba w "for_differences") (h1:gC w nv N r m1) (h2:gC w nv N s m2):gC w nv N q (m1+m2+2):=by
 intro e n M0 x a b ws fs W T K;have hu:us q=[r,s]:=by rcases hq with ⟨rfl,_⟩ |⟨y,rfl,_⟩ <;> rfl
 have hd:=uy q;rw[hu]at hd;have hd:dn q=1+max (dn r) (max (dn s) 0):=hd;have hn:=hR q;rw[hu]at hn;have hn:nq q=1+(nq r+(nq s+0)):=hn;obtain⟨_,hw⟩:=pI T.wd;rw[hu]at hw;have ht:∀p∈us q,∀x∈aI p,x∈N:=λp hp x hx=>T.t x (uB.mpr (.inr (List.mem_flatMap.mpr ⟨p,hp,hx⟩)));rw[hu]at ht;have lw:=T.lw;have lf:=T.lf;have QG:=T.n;have td:=T.d
 rw[show n+(m1+m2+2)=(n+1+m2+m1)+1 by lia];refine mJ O W T (.inr ⟨h,.inr (.inl ⟨f,r,s,hq,?_⟩)⟩);rw[show ws++[.tup [.ref f,qD q,dD (aL nv)],bW w s nv,bW w r nv]=(ws++[.tup [.ref f,qD q,dD (aL nv)],bW w s nv])++[bW w r nv] by simp];refine h1 W ⟨by simp;lia,by lia,hw r (by simp),by lia,by lia,T.lN,ht r (by simp)⟩ ?_;rw[show ws++[.tup [.ref f,qD q,dD (aL nv)],bW w s nv]=(ws++[.tup [.ref f,qD q,dD (aL nv)]])++[bW w s nv] by simp];refine h2 W ⟨by simp;lia,by simp;lia,hw s (by simp),by lia,by lia,T.lN,ht s (by simp)⟩ ?_;rw[show fs++[oD (aA nv r)]++[oD (aA nv s)]=fs++[oD (aA nv r),oD (aA nv s)] by simp];rcases hq with ⟨rfl,rfl⟩ |⟨y,rfl,rfl⟩
 ·rw[aA,if_pos h]at K;exact b0 O (.inr (.inl ⟨rfl,rfl⟩)) W λQ hQ=>⟨M0,x,a,b,ws,fs,aA nv r,aA nv s,_,_,rfl,rfl,W,by lia,hQ _ _ K⟩
 ·rw[aA,if_pos h]at K;exact b0 O (.inr (.inr (.inl ⟨rfl,rfl⟩))) W λQ hQ=>⟨M0,x,a,b,ws,fs,y,r,s,aA nv r,aA nv s,_,rfl,rfl,W,by lia,hQ _ _ K⟩
theorem uL (O:Lw w) {nv:Nv}{N:List Str}{q r:Qn}{f:Qn->Qn}{m:Nat} (h:hs nv q=true) (hq:Wl nv q f r) (e1:aA nv q=(aA nv r).map f) (hd:dn r+1<=dn q) (hn:nq r<=nq q) (hr:r∈us q) (h1:gC w nv N r m):gC w nv N q (m+2):=by
 intro e n M0 x a b ws fs W T K;obtain⟨_,hw⟩:=pI T.wd;have ht:∀x∈aI r,x∈N:=λx hx=>T.t x (uB.mpr (.inr (List.mem_flatMap.mpr ⟨r,hr,hx⟩)));have lw:=T.lw;have lf:=T.lf;have QG:=T.n;have td:=T.d
 rw[show n+(m+2)=(n+1+m)+1 by lia];refine mJ O W T (.inr ⟨h,.inr (.inr (.inl ⟨f,r,hq,?_⟩))⟩);rw[show ws++[.tup [w.gv.getD 42 .aj,qD q,dD (aL nv)],bW w r nv]=(ws++[.tup [w.gv.getD 42 .aj,qD q,dD (aL nv)]])++[bW w r nv] by simp];refine h1 W ⟨by simp;lia,by lia,hw r hr,by lia,by lia,T.lN,ht⟩ ?_;rw[O.gp];rw[e1]at K;have wr:Wr q f:=by
  rcases hq with ⟨i,rfl,rfl⟩ |⟨c,rfl,rfl⟩ |⟨y,s,rfl,rfl,_⟩
  ·exact .inl ⟨_,_,rfl,rfl⟩
  ·exact .inr (.inl ⟨_,_,rfl,rfl⟩)
  ·exact .inr (.inr ⟨_,_,_,rfl,rfl⟩)
 exact b0 O (.inr (.inr (.inr ⟨rfl,rfl⟩))) W λQ hQ=>⟨M0,x,a,b,ws,fs,q,f,aA nv r,_,rfl,wr,rfl,W,by lia,hQ _ _ K⟩
theorem dI {nv:Nv}{q:Qn} (h:(["table","both","for","times","when","let"]:List Str).all (λs=>decide (wd q≠s))=true):pK nv q:=by
 have g:=λs hs=>of_decide_eq_true (List.all_eq_true.mp h s hs);exact⟨g _ (by simp),g _ (by simp),g _ (by simp),g _ (by simp),g _ (by simp),.inl (g _ (by simp))⟩
theorem dJ (O:Lw w) {nv:Nv}{N:List Str}{q:Qn} (hq:pK nv q) (e:aA nv q=hV nv q):∃m,gC w nv N q m:=by
 cases h:hs nv q with
 |true=>exact⟨_,B0 O h hq (by rw[e,hV,if_pos h])⟩
 |false=>exact⟨_,je O h (by rw[e,hV,if_neg (by rw[h];decide)])⟩
theorem hW (O:Lw w) {nv:Nv}{N:List Str}:∀ q,∃ m,gC w nv N q m
  | .tab y=>by
    cases h:hs nv (.tab y) with
    |false=>exact⟨_,je O h (by rw[aA,if_neg (by rw[h];decide)])⟩
    | true=>
      refine⟨1,λW T K=>?_⟩;cases hz:bO y nv with
      | none => have : hs nv (.tab y) = false := by simp [hs, aI, hz]
                rw[h]at this;cases this
      | some z=>
        rw[aA,if_pos h,hz]at K;exact mJ O W T (.inr ⟨h,.inl ⟨y,z,rfl,hz,K⟩⟩)
  | .both a b=>by
    cases h:hs nv (.both a b) with
    |false=>exact⟨_,je O h (by rw[aA,if_neg (by rw[h];decide)])⟩
    | true=>
      obtain⟨m1,h1⟩:=hW O a;obtain⟨m2,h2⟩:=hW O b;exact⟨_,B1 O h (.inl ⟨rfl,rfl⟩) h1 h2⟩
  | .for y a b=>by
    cases h:hs nv (.for y a b) with
    |false=>exact⟨_,je O h (by rw[aA,if_neg (by rw[h];decide)])⟩
    | true=>
      obtain⟨m1,h1⟩:=hW O a;obtain⟨m2,h2⟩:=hW O b;exact⟨_,B1 O h (.inr ⟨y,rfl,rfl⟩) h1 h2⟩
  | .times i a=>by
    cases h:hs nv (.times i a) with
    |false=>exact⟨_,je O h (by rw[aA,if_neg (by rw[h];decide)])⟩
    | true=>
      obtain⟨m1,h1⟩:=hW O a;exact⟨_,uL O h (.inl ⟨i,rfl,rfl⟩) (by rw[aA,if_pos h]) (by rw[dn];lia) (by rw[nq];lia) (by simp [us]) h1⟩
  | .aP c a=>by
    cases h:hs nv (.aP c a) with
    |false=>exact⟨_,je O h (by rw[aA,if_neg (by rw[h];decide)])⟩
    | true=>
      obtain⟨m1,h1⟩:=hW O a;exact⟨_,uL O h (.inr (.inl ⟨c,rfl,rfl⟩)) (by rw[aA,if_pos h]) (by rw[dn];lia) (by rw[nq];lia) (by simp [us]) h1⟩
  | .let y a b=>by
    cases h:hs nv (.let y a b) with
    |false=>exact⟨_,je O h (by rw[aA,if_neg (by rw[h];decide)])⟩
    | true=>
      cases h':hs nv a with
      |true=>exact⟨_,B0 O h ⟨by rw[wd];decide +kernel,by rw[wd];decide +kernel,by rw[wd];decide +kernel,by rw[wd];decide +kernel,by rw[wd];decide +kernel,.inr ⟨y,a,b,rfl,h'⟩⟩ (by rw[aA,if_pos h,if_pos h'])⟩
      | false=>
        obtain⟨m1,h1⟩:=hW O b;exact⟨_,uL O h (.inr (.inr ⟨y,a,rfl,rfl,h'⟩)) (by rw[aA,if_pos h,if_neg (by rw[h'];decide)]) (by rw[dn];lia) (by rw[nq];lia) (by simp [us]) h1⟩
  |.num _=>dJ O (dI (by rw[wd];decide +kernel)) rfl
  |.word _=>dJ O (dI (by rw[wd];decide +kernel)) rfl
  |.var _=>dJ O (dI (by rw[wd];decide +kernel)) rfl
  |.none _=>dJ O (dI (by rw[wd];decide +kernel)) rfl
  |.row _=>dJ O (dI (by rw[wd];decide +kernel)) rfl
  |.at _ _=>dJ O (dI (by rw[wd];decide +kernel)) rfl
  |.add _ _=>dJ O (dI (by rw[wd];decide +kernel)) rfl
  |.mul _ _=>dJ O (dI (by rw[wd];decide +kernel)) rfl
  |.one _=>dJ O (dI (by rw[wd];decide +kernel)) rfl
  |.same _ _=>dJ O (dI (by rw[wd];decide +kernel)) rfl
  |.under _ _=>dJ O (dI (by rw[wd];decide +kernel)) rfl
  |.and _ _=>dJ O (dI (by rw[wd];decide +kernel)) rfl
  |.or _ _=>dJ O (dI (by rw[wd];decide +kernel)) rfl
  |.not _=>dJ O (dI (by rw[wd];decide +kernel)) rfl
def B2 (w:Wo):Sp:=λds M Q _=>∃(M0:Mp) (x a b:Addr) (q:Qn) (nv:Nv) (N:List Str),ds=[.ref x]/\M=Wm M0 a b [bW w q nv] []/\Wc (w.ca 0) M0 x a b/\wq q/\nq q<1000000/\dn q<500/\N.length<64/\(∀x∈aI q,x∈N)/\Q (oD (aA nv q)) (Wm M0 a b [] [])
theorem QH (O:Lw w):dh w 4 9 (B2 w):=by
 refine i0 O.ok O.hn _ ⟨"run",(bh (aa 11) 4),["self"]⟩ (by rw[O.hms];rfl) (Ud w (mI w)) { cs:=trivial,ca:=?_ } ur uv λds M Q _ h=>?_
 ·rintro f sp (⟨rfl,rfl⟩ |⟨rfl,rfl⟩ |⟨rfl,rfl⟩ |⟨rfl,rfl⟩)
  ·exact FO.cm (QF O) (d:=⟨"begin_differences",aa 45,["walk","question","names"]⟩) (by rw[O.hd];rfl)
  ·exact FO.cm ((P2 O).mono (by decide)) (d:=⟨"both_differences",aa 50,["walk","question","names"]⟩) (by rw[O.hd];rfl)
  ·exact FO.cm ((P4 O).mono (by decide)) (d:=⟨"for_differences",aa 51,["walk","question","names"]⟩) (by rw[O.hd];rfl)
  ·exact FO.cm ((P5 O).mono (by decide)) (d:=⟨"wrap",aa 54,["walk","question","names"]⟩) (by rw[O.hd];rfl)
 obtain⟨M0,x,a,b,q,nv,N,rfl,rfl,W,hw,hn,hd,hN,ht,h⟩:=h;obtain⟨m,R⟩:=hW (nv:=nv) (N:=N) O q;refine⟨rfl,1+m,?_⟩;refine R (ws:=[]) (fs:=[]) (n:=1) W ⟨by simp;lia,by simp;lia,hw,hn,hd,hN,ht⟩ (uw O W λ_ _ _=>?_) _ _ _;obtain⟨dx,hx⟩:=W.gx (ws:=[]) (fs:=[]++[oD (aA nv q)]);refine⟨_,dx,_,hx,.ref b,O.ff,rfl,.inl ⟨rfl,_,Wm.gb⟩,_,Wm.gb,oD (aA nv q),rfl,?_⟩;rw[Wm.pb];exact ar h
noncomputable def QI:B:=.cons (.ret (.ix (.v 3) (.c (.int 1)))) .nil
noncomputable def QJ:B:=.cons (.cond (.cmp .NotEq (.ix (.v 3) (.c (.int 0))) (.c (.str "bag"))) (.cons .dead .nil) .nil) QI
noncomputable def QL:B:=.cons (.cond (.c (.bl true)) (.cons (.set (.one 3) (.call 11 (.cons (.v 0) (.cons (.v 1) (.cons (.v 2) .nil))))) .nil) .nil) QJ
theorem QO:aC ["question","kinds","stock","kind","fault"] ["question","kinds","stock"] (ag (aa 44)):=⟨rfl,rfl,rfl,by decide +kernel,rfl,by decide +kernel,by decide +kernel⟩
theorem QP:aF nm 40 ["question","kinds","stock","kind","fault"] (ag (aa 44)) (av (aa 44))=QL:=by kernel_rfl
def B3:Sp:=λds M Q _=>∃K S' S G q k,ds=[qD q,dD K,S']/\d5 K G/\km S' S M/\Ty S G q (.ah k)/\dn q<500/\K.length<500/\Q (kD k) M
theorem QQ (O:Lw w):FO w 28 9 B3:=by
 refine aJ O.ok O.hn _ ⟨"kind_of_rows",aa 44,["question","kinds","stock"]⟩ (by rw[O.hd];rfl) { cs:=[(11,Bt)] } { cs:=⟨⟨8,by decide,OJ O⟩,trivial⟩ } QO QP λds M Q _ h=>?_;obtain⟨K,S',S,G,q,k,rfl,rg,rs,t,hd,hk,h⟩:=h;exact⟨rfl,K,S',S,G,q,_,rfl,rg,rs,O7 t,hd,hk,_,rfl,au (az (by decide) ⟨_,rfl,ar h⟩)⟩
noncomputable def QR:B:=.cons (.ret (.ite (.cmp .Is (.v 6) (.c .aj)) (.tup (.cons (.c (.str "none")) (.cons (.v 4) .nil))) (.v 6))) .nil
noncomputable def QT:B:=.cons (.set (.one 6) (.aV 4 (.v 5) .nil)) QR
noncomputable def QU:B:=.cons (.ex (.aV 1 (.v 5) (.cons (.g 35) (.cons (.v 0) (.cons (.v 1) .nil))))) QT
noncomputable def QV:B:=.cons (.set (.one 5) (.new 0 .nil)) QU
noncomputable def QW:B:=.cons (.set (.one 4) (.call 28 (.cons (.v 0) (.cons (.v 2) (.cons (.v 3) .nil))))) QV
theorem QX:aC ["question","names","kinds","stock","row_kind","walk","told"] ["question","names","kinds","stock"] (ag (aa 43)):=⟨rfl,rfl,rfl,by decide +kernel,rfl,by decide +kernel,by decide +kernel⟩
theorem QY:aF nm 40 ["question","names","kinds","stock","row_kind","walk","told"] (ag (aa 43)) (av (aa 43))=QW:=by kernel_rfl
def pL:Sp:=λds M Q _=>∃(nv:Nv) (K:List (Key×D)) (S':D) (S:Str->Option Kd) (G:Sc) (q:Qn) (k:Kd) (N:List Str),ds=[qD q,dD (aL nv),dD K,S']/\d5 K G/\km S' S M/\Ty S G q (.ah k)/\dn q<500/\nq q<1000000/\K.length<500/\N.length<64/\(∀x∈aI q,x∈N)/\Q (qD ((aA nv q).getD (.none k))) M
noncomputable abbrev QZ (w:Wo):a8 w:={ cs:=[(28,B3)],ms:=[(1,fL w),(4,B2 w)],ci:=[(0,0,pE w)] }
theorem B4 (O:Lw w):FO w 27 10 pL:=by
 refine aJ O.ok O.hn _ ⟨"difference",aa 43,["question","names","kinds","stock"]⟩ (by rw[O.hd];rfl) (QZ w) { cs:=⟨⟨9,by decide,QQ O⟩,trivial⟩,ms:=⟨⟨1,by decide,ja O⟩,⟨9,by decide,QH O⟩,trivial⟩,ci:=⟨⟨O.mc _ (by decide),by rw[O.hms];rfl,1,by decide,ue O⟩,trivial⟩ } QX QY λds M Q _ h=>?_;obtain⟨nv,K,S',S,G,q,kk,N,rfl,rg,rs,t,hd,hn,gl,hN,ht,h⟩:=h;have m2:w.ca 0=w.mc 1:=(O.mc _ (by decide)).symm;have m5:w.ca 0=w.mc 4:=(O.mc _ (by decide)).symm;have hw:=(Bz t).w;refine⟨rfl,K,S',S,G,q,kk,rfl,rg,rs,t,hd,gl,λx dx hx kn nd=>⟨x,dx,rfl,ao,λa b ha hb ne=>⟨rfl,?_⟩⟩⟩;obtain⟨sb,W⟩:=pH (i1:=[("waiting",.ref a),("found",.ref b)]) (ws:=[]) (fs:=[]) hx kn ha hb nd ne;obtain⟨dy,hy⟩:=W.gx (ws:=[]) (fs:=[]);refine⟨_,dy,_,hy,m2,br (by decide +kernel) (by decide +kernel),x,a,b,dy,_,_,_,[],rfl,hy,W.ga,by decide,?_⟩;rw[W.pa];obtain⟨Ue,hz⟩:=W.gx (ws:=[]++[.tup [w.gv.getD 35 .aj,qD q,dD (aL nv)]]) (fs:=[]);refine⟨_,Ue,_,hz,m5,br (by decide +kernel) (by decide +kernel),_,x,a,b,q,nv,N,rfl,rfl,W,hw,hn,hd,hN,ht,?_⟩;cases hq:aA nv q with
 |none=>rw[hq]at h;exact⟨l2,kb sb h⟩
 |some p=>
  rw[hq]at h;have h:Q (qD p) M:=h;obtain⟨r,hr⟩:=dH p;have e:oD (some p)=.tup (.str (wd p)::r):=hr;rw[hr]at h;rw[e];exact kb sb h
variable {w:Wo}
theorem o1 {s:Str}{a:D} (h:aw a=true):aw (.tup [.str s,a])=true:=by rw[aw,aH,aH,aH,aw,h];rfl
theorem o2 {s:Str}{a b:D} (h:aw a=true) (e:aw b=true):aw (.tup [.str s,a,b])=true:=by rw[aw,aH,aH,aH,aH,aw,h,e];rfl
theorem o3 {s x:Str}{a b:D} (h:aw a=true) (e:aw b=true):aw (.tup [.str s,.str x,a,b])=true:=by rw[aw,aH,aH,aH,aH,aH,aw,aw,h,e];rfl
mutual
theorem bF:∀q,aw (qD q)=true
 |.num _=>rfl |.word _=>rfl |.var _=>rfl |.tab _=>rfl
 |.none k=>o1 (e9 k) |.row fs=>o1 (by rw[aw];exact B5 fs)
 |.at _ a=>o2 rfl (bF a) |.one a=>o1 (bF a) |.times _ a=>o2 rfl (bF a) |.not a=>o1 (bF a)
 |.add a b=>o2 (bF a) (bF b) |.mul a b=>o2 (bF a) (bF b) |.both a b=>o2 (bF a) (bF b) |.aP a b=>o2 (bF a) (bF b) |.same a b=>o2 (bF a) (bF b)
 |.under a b=>o2 (bF a) (bF b) |.and a b=>o2 (bF a) (bF b) |.or a b=>o2 (bF a) (bF b) |.for _ a b=>o3 (bF a) (bF b) |.let _ a b=>o3 (bF a) (bF b)
theorem B5:∀fs,aH (bq fs)=true
 |[]=>rfl
 |(f,q)::r=>by rw[bq,aH,o1 (bF q),B5 r];rfl
end
theorem cH {a b c:Nat} (h:a<=c) (e:b<=c):max a b<=c:=Nat.max_le.mpr ⟨h,e⟩
theorem p1 {s:Str}{a:D}{n:Nat} (h:aO a<=n):aO (.tup [.str s,a])<=1+n:=by rw[Nat.add_comm];exact XT (cH (Xk _) (cH h (Xk _)))
theorem p2 {a b d:D}{m n:Nat} (z:aO d=0) (h:aO a<=m) (e:aO b<=n):aO (.tup [d,a,b])<=1+max m n:=by rw[Nat.add_comm];exact XT (cH (z ▸ Xk _) (cH (W9 h (Ym ..)) (cH (W9 e (XW ..)) (Xk _))))
theorem B6 {s:Str}{d a:D}{n:Nat} (z:aO d=0) (h:aO a<=n):aO (.tup [.str s,d,a])<=1+n:=by rw[Nat.add_comm];exact XT (cH (Xk _) (cH (z ▸ Xk _) (cH h (Xk _))))
theorem p3 {s x:Str}{a b:D}{m n:Nat} (h:aO a<=m) (e:aO b<=n):aO (.tup [.str s,.str x,a,b])<=1+max m n:=by rw[Nat.add_comm];exact XT (cH (Xk _) (cH (Xk _) (cH (W9 h (Ym ..)) (cH (W9 e (XW ..)) (Xk _)))))
mutual
theorem bG:∀q,aO (qD q)<=dq q
 |.num _=>W3 _ |.word _=>W3 _ |.var _=>W3 _ |.tab _=>W3 _
 |.none k=>p1 (g8 k) |.row fs=>by rw[dq,show 3+bA fs=1+(2+bA fs) by lia];exact p1 (by rw[aO,show 2+bA fs=(bA fs+1)+1 by lia];exact XT (B7 fs))
 |.at _ a=>B6 rfl (bG a) |.one a=>p1 (bG a) |.times _ a=>B6 rfl (bG a) |.not a=>p1 (bG a)
 |.add a b=>p2 rfl (bG a) (bG b) |.mul a b=>p2 rfl (bG a) (bG b) |.both a b=>p2 rfl (bG a) (bG b) |.aP a b=>p2 rfl (bG a) (bG b) |.same a b=>p2 rfl (bG a) (bG b)
 |.under a b=>p2 rfl (bG a) (bG b) |.and a b=>p2 rfl (bG a) (bG b) |.or a b=>p2 rfl (bG a) (bG b) |.for _ a b=>W9 (p3 (bG a) (bG b)) (Nat.add_le_add_right (by decide) _) |.let _ a b=>p3 (bG a) (bG b)
theorem B7:∀fs,aU (bq fs)<=bA fs+1
 |[]=>Xk _
 |(f,q)::r=>by rw[bq,aU,bA];exact cH (W9 (p1 (bG q)) (by rw[Nat.add_comm];exact XT (Ym ..))) (W9 (B7 r) (XT (XW ..)))
end
theorem i1 {m a:Nat} (h:m<=a+1):1+m<=1+a+1:=by rw[Nat.add_assoc];exact Nat.add_le_add_left h 1
theorem Wi {m n a b:Nat} (h:m<=a+1) (e:n<=b+1):9+max m n<=9+max a b+1:=by rw[Nat.add_assoc];exact Nat.add_le_add_left (cH (W9 h (XT (Ym ..))) (W9 e (XT (XW ..)))) 9
theorem i2 {m n a b:Nat} (h:m<=a+1) (e:n<=b+1):1+max m n<=1+max a b+1:=i1 (cH (W9 h (XT (Ym ..))) (W9 e (XT (XW ..))))
mutual
theorem bH {nv:Nv}:∀q,dq (aD nv q)<=dq q+1
 |.tab x=>by
  rw[aD];cases bO x nv with
  |none=>exact YK _
  |some y=>exact W3 _
 |.num _=>YK _ |.word _=>YK _ |.var _=>YK _ |.none _=>YK _
 |.row fs=>by rw[aD,dq,dq,Nat.add_assoc];exact Nat.add_le_add_left (B8 fs) 3
 |.at _ a=>i1 (bH a) |.one a=>i1 (bH a) |.times _ a=>i1 (bH a) |.not a=>i1 (bH a)
 |.add a b=>i2 (bH a) (bH b) |.mul a b=>i2 (bH a) (bH b) |.both a b=>i2 (bH a) (bH b) |.aP a b=>i2 (bH a) (bH b) |.same a b=>i2 (bH a) (bH b)
 |.under a b=>i2 (bH a) (bH b) |.and a b=>i2 (bH a) (bH b) |.or a b=>i2 (bH a) (bH b) |.for _ a b=>Wi (bH a) (bH b) |.let _ a b=>i2 (bH a) (bH b)
theorem B8 {nv:Nv}:∀fs,bA (fQ nv fs)<=bA fs+1
 |[]=>Xk _
 |(f,q)::r=>by rw[fQ,bA,bA];exact cH (W9 (bH q) (XT (Ym ..))) (W9 (B8 r) (XT (XW ..)))
end
noncomputable def fs:Qn->Nat
 |.for _ a b=>1+max (fs a) (fs b)
 |.both a b=>max (fs a) (fs b)
 |.times _ a=>fs a
 |.aP _ a=>fs a
 |.let _ _ b=>fs b
 |_=>0
theorem hY:∀q,9 * fs q+1<=dq q
 |.for _ a b=>by have:=hY a;have:=hY b;rw[fs,dq];lia
 |.both a b=>by have:=hY a;have:=hY b;rw[fs,dq];lia
 |.times _ a=>W9 (hY a) (Nat.le_add_left ..)
 |.aP c a=>W9 (hY a) (W9 (XW (dq c) _) (Nat.le_add_left ..))
 |.let _ a b=>W9 (hY b) (W9 (XW (dq a) _) (Nat.le_add_left ..))
 |.num _=>W3 _ |.word _=>W3 _ |.var _=>W3 _ |.tab _=>W3 _
 |.none _=>Xv .. |.row _=>W9 (by decide:1<=3) (Xv ..)
 |.at _ _=>Xv .. |.one _=>Xv .. |.not _=>Xv .. |.add _ _=>Xv .. |.mul _ _=>Xv ..
 |.same _ _=>Xv .. |.under _ _=>Xv .. |.and _ _=>Xv .. |.or _ _=>Xv ..
theorem hZ {nv:Nv}:∀q,fs (aD nv q)<=fs q
 |.for _ a b=>j1 (Ug (hZ a) (hZ b))
 |.both a b=>Ug (hZ a) (hZ b)
 |.times _ a=>hZ a
 |.aP _ a=>hZ a
 |.let _ _ b=>hZ b
 |.tab x=>by
  rw[aD];cases bO x nv with
  |none=>exact W3 _
  |some y=>exact W3 _
 |.num _=>W3 _ |.word _=>W3 _ |.var _=>W3 _ |.none _=>W3 _ |.row _=>W3 _
 |.at _ _=>W3 _ |.one _=>W3 _ |.not _=>W3 _ |.add _ _=>W3 _ |.mul _ _=>W3 _
 |.same _ _=>W3 _ |.under _ _=>W3 _ |.and _ _=>W3 _ |.or _ _=>W3 _
theorem mK {m a:Nat} (h:m<=3 * a):1+m<=3 * (1+a):=by lia
theorem fS {m n a b:Nat} (h:m<=3 * a) (e:n<=3 * b):1+m+n<=3 * (1+a+b):=by lia
mutual
theorem bI {nv:Nv}:∀q,nq (aD nv q)<=3 * nq q
 |.tab x=>by
  rw[aD];cases bO x nv with
  |none=>exact (by decide:1<=3)
  |some y=>exact (by decide:3<=3)
 |.num _=>(by decide:1<=3) |.word _=>(by decide:1<=3) |.var _=>(by decide:1<=3) |.none _=>(by decide:1<=3)
 |.row fs=>mK (B9 fs)
 |.at _ a=>mK (bI a) |.one a=>mK (bI a) |.times _ a=>mK (bI a) |.not a=>mK (bI a)
 |.add a b=>fS (bI a) (bI b) |.mul a b=>fS (bI a) (bI b) |.both a b=>fS (bI a) (bI b) |.aP a b=>fS (bI a) (bI b) |.same a b=>fS (bI a) (bI b)
 |.under a b=>fS (bI a) (bI b) |.and a b=>fS (bI a) (bI b) |.or a b=>fS (bI a) (bI b) |.for _ a b=>fS (bI a) (bI b) |.let _ a b=>fS (bI a) (bI b)
theorem B9 {nv:Nv}:∀fs,bR (fQ nv fs)<=3 * bR fs
 |[]=>W3 _
 |(f,q)::r=>by rw[fQ,bR,bR,Nat.mul_add];exact Nat.add_le_add (bI q) (B9 r)
end
def OT (T:Qn->Prop) (o:Option Qn):Prop:=∀p,o=some p->T p
theorem OT.so {T:Qn->Prop}{p:Qn} (h:T p):OT T (some p):=λ_ e=>XD e ▸ h
theorem OT.no {T:Qn->Prop}:OT T none:=λ_ e=>nomatch e
theorem OT.im {T T':Qn->Prop}{o:Option Qn} (h:OT T o) (f:∀p,T p->T' p):OT T' o:=λp e=>f p (h p e)
theorem OT.map {T T':Qn->Prop}{o:Option Qn}{f:Qn->Qn} (h:OT T o) (g:∀p,T p->T' (f p)):OT T' (o.map f):=λp e=>by
 obtain⟨q,h1,rfl⟩:=Option.map_eq_some_iff.mp e;exact g q (h q h1)
theorem kr {A B T:Qn->Prop}{a b:Option Qn} (ha:OT A a) (hb:OT B b) (f:∀x,A x->T x) (g:∀x,B x->T x) (k:∀x y,A x->B y->T (.both x y)):OT T (cG none [a,b]):=by
 cases a with
 |none=>cases b with
  |none=>exact .no
  |some b=>exact .so (g b (hb b rfl))
 |some a=>cases b with
  |none=>exact .so (f a (ha a rfl))
  |some b=>exact .so (k a b (ha a rfl) (hb b rfl))
theorem B' {a b c:Option Qn}:cG none [a,b,c]=cG none [cG none [a,b],c]:=by
 cases a <;> cases b <;> rfl
theorem ku {A B T:Qn->Prop}{x:Str}{a b:Option Qn} (ha:OT A a) (hb:OT B b) (k:∀p q,A p->B q->T (.for x p q)):OT T (mf x a b):=by
 cases a with
 |none=>exact .no
 |some a=>cases b with
  |none=>exact .no
  |some b=>
   rw[mf];split
   ·exact .no
   ·exact .so (k a b (ha a rfl) (hb b rfl))
noncomputable def gA:Nat->Nat
 | 0=>6
 |n+1=>2 * gA n+1
theorem jf:∀n,6<=gA n
 | 0=>W3 _
 |n+1=>by have:=jf n;rw[gA];lia
theorem uM {m n:Nat} (h:m<=n):gA m<=gA n:=by
 induction h with
 |refl=>exact W3 _
 |step _ ih=>rw[gA];lia
structure Gr (dd ff k:Nat) (p:Qn):Prop where
 d:dq p<=dd+2 * ff+3
 f:fs p<=ff
 n:nq p<=gA ff * k
theorem Gr.up {d f k d' f' k':Nat}{p:Qn} (h:Gr d f k p) (h1:d<=d') (h2:f<=f') (h3:k<=k'):Gr d' f' k' p:=⟨W9 h.d (by lia),W9 h.f h2,W9 h.n (Nat.mul_le_mul (uM h2) h3)⟩
theorem Q3 (q:Qn):1<=nq q:=by rw[hR];exact Xv ..
theorem Cb {nv:Nv}{q:Qn}:Gr (dq q) (fs q) (nq q) (hU nv q):=by
 have h1:=bH (nv:=nv) q;have h2:=hZ (nv:=nv) q;have h3:=bI (nv:=nv) q;have h4:=Q3 q;have h5:=Nat.mul_le_mul_right (nq q) (jf (fs q));refine⟨?_,Nat.max_le.mpr ⟨h2,W3 _⟩,?_⟩
 ·show 1+max (dq (aD nv q)) (1+dq q)<=_;lia
 ·show 1+nq (aD nv q)+(1+nq q)<=_;lia
theorem dK {nv:Nv}{q:Qn}:OT (Gr (dq q) (fs q) (nq q)) (hV nv q):=by
 unfold hV;split
 ·exact .so Cb
 ·exact .no
theorem Gr.one {d f k c:Nat}{g:Qn->Qn} (h1:∀p,dq (g p)<=1+max c (dq p)) (h2:∀p,fs (g p)=fs p) (m:Nat) (h3:∀p,nq (g p)=m+nq p):∀p,Gr d f k p->Gr (1+max c d) f (m+k) (g p):=λp h=>by
 refine⟨?_,by rw[h2];exact h.f,?_⟩
 ·have:=h1 p;have:=h.d;lia
 ·rw[h3,Nat.mul_add];exact Nat.add_le_add (Nat.le_mul_of_pos_left _ (Xl (by decide:0<6) (jf f))) h.n
theorem h7 {nv:Nv}:∀q,OT (Gr (dq q) (fs q) (nq q)) (aA nv q)
 |.tab x=>by
  rw[aA];split
  ·cases bO x nv with
   |none=>exact .no
   |some y=>exact .so ⟨Xv ..,W3 _,by show 1<=6 * 1;decide⟩
  ·exact .no
 |.both a b=>by
  rw[aA];split
  ·have ha:OT (Gr (dq a) (max (fs a) (fs b)) (nq a)) (aA nv a):=(h7 a).im λp h=>h.up (W3 _) (Ym ..) (W3 _);have hb:OT (Gr (dq b) (max (fs a) (fs b)) (nq b)) (aA nv b):=(h7 b).im λp h=>h.up (W3 _) (XW ..) (W3 _);have g6:=jf (max (fs a) (fs b));refine kr ha hb (λp h=>h.up ?_ (W3 _) ?_) (λp h=>h.up ?_ (W3 _) ?_) λx y h e=>⟨?_,Nat.max_le.mpr ⟨h.f,e.f⟩,?_⟩
   ·rw[dq];lia
   ·rw[nq];lia
   ·rw[dq];lia
   ·rw[nq];lia
   ·have:=h.d;have:=e.d;rw[dq,dq];show _<=1+max (dq a) (dq b)+2 * max (fs a) (fs b)+3;lia
   ·have:=h.n;have:=e.n
    show 1+nq x+nq y<=gA (max (fs a) (fs b)) * (1+nq a+nq b);rw[Nat.mul_add,Nat.mul_add];lia
  ·exact .no
 |.for y a b=>by
  rw[aA];split
  ·have ha:OT (Gr (dq a) (max (fs a) (fs b)) (nq a)) (aA nv a):=(h7 a).im λp h=>h.up (W3 _) (Ym ..) (W3 _);have hb:OT (Gr (dq b) (max (fs a) (fs b)) (nq b)) (aA nv b):=(h7 b).im λp h=>h.up (W3 _) (XW ..) (W3 _);have g6:=jf (max (fs a) (fs b));have la:fs a<=max (fs a) (fs b):=Ym ..;have lb:fs b<=max (fs a) (fs b):=XW ..;have da:dq a<=max (dq a) (dq b):=Ym ..;have db:dq b<=max (dq a) (dq b):=XW ..;show OT (Gr (9+max (dq a) (dq b)) (1+max (fs a) (fs b)) (1+nq a+nq b)) _
   revert ha hb g6 la lb da db
   generalize max (fs a) (fs b)=f;generalize max (dq a) (dq b)=m;intro ha hb g6 la lb da db;generalize e:gA f=g at g6
   -- kt Ta Tc
   have h1:OT (λp=>dq p<=9+m+2 * f+3/\fs p<=1+f/\nq p<=1+g * nq a+nq b) (mf y (aA nv a) (some b)):=ku ha (B:=λq=>q=b) (.so rfl) λp q h z=>by
    subst z;have:=h.d;have:=h.f;have:=h.n;rw[e]at this
    exact⟨by rw[dq];lia,by rw[fs];lia,by rw[nq];lia⟩
   have h2:OT (λp=>dq p<=9+m+2 * f+3/\fs p<=1+f/\nq p<=1+nq a+g * nq b) (mf y (some a) (aA nv b)):=ku (A:=λq=>q=a) (.so rfl) hb λp q z h=>by
    subst z;have:=h.d;have:=h.f;have:=h.n;rw[e]at this
    exact⟨by rw[dq];lia,by rw[fs];lia,by rw[nq];lia⟩
   have h3:OT (λp=>dq p<=9+m+2 * f+3/\fs p<=1+f/\nq p<=1+g * nq a+g * nq b) (mf y (aA nv a) (aA nv b)):=ku ha hb λp q h z=>by
    have:=h.d;have:=h.f;have:=h.n;have:=z.d;have:=z.f;have:=z.n;rw[e]at *
    exact⟨by rw[dq];lia,by rw[fs];lia,by rw[nq];lia⟩
   have h12:=kr h1 h2 (T:=λp=>dq p<=9+m+2 * f+4/\fs p<=1+f/\nq p<=3+(g+1) * nq a+(g+1) * nq b) (λp h=>⟨by lia,h.2.1,by rw[Nat.add_mul,Nat.add_mul];lia⟩) (λp h=>⟨by lia,h.2.1,by rw[Nat.add_mul,Nat.add_mul];lia⟩) λp q h z=>⟨by rw[dq];lia,by rw[fs];lia,by rw[nq,Nat.add_mul,Nat.add_mul];lia⟩;have fin:∀{n:Nat},n<=5+(2 * g+1) * nq a+(2 * g+1) * nq b->n<=gA (1+f) * (1+nq a+nq b):=λ{n} h=>by
    rw[Nat.add_comm 1 f,gA,e,Nat.mul_add,Nat.mul_add];lia
   have e2:∀k,(2 * g+1) * k=(g+1) * k+g * k:=λk=>(by rw[<- Nat.add_mul];congr 1;lia);rw[B'];refine kr h12 h3 (λp h=>⟨by lia,h.2.1,fin ?_⟩) (λp h=>⟨by lia,h.2.1,fin ?_⟩) λp q h z=>⟨by rw[dq];lia,by rw[fs];lia,fin ?_⟩
   ·rw[e2,e2];lia
   ·rw[e2,e2,Nat.add_mul,Nat.add_mul];lia
   ·rw[nq,e2,e2];lia
  ·exact .no
 |.times i a=>by
  rw[aA];split
  ·refine (h7 a).map λp h=>?_;have:=Gr.one (d:=dq a) (f:=fs a) (k:=nq a) (c:=0) (g:=Qn.times i) (λp=>by rw[dq];lia) (λp=>rfl) 1 (λp=>rfl) p h;exact this.up (by rw[dq];lia) (W3 _) (W3 _)
  ·exact .no
 |.aP c a=>by
  rw[aA];split
  ·exact (h7 a).map (Gr.one (c:=dq c) (g:=Qn.aP c) (λp=>by rw[dq];lia) (λp=>rfl) (1+nq c) (λp=>rfl))
  ·exact .no
 |.let y a b=>by
  rw[aA];split
  ·split
   ·exact .so Cb
   ·exact (h7 b).map (Gr.one (c:=dq a) (g:=Qn.let y a) (λp=>by rw[dq];lia) (λp=>rfl) (1+nq a) (λp=>rfl))
  ·exact .no
 |.num _=>dK |.word _=>dK |.var _=>dK |.none _=>dK |.row _=>dK |.at _ _=>dK |.add _ _=>dK |.mul _ _=>dK |.one _=>dK |.same _ _=>dK |.under _ _=>dK |.and _ _=>dK |.or _ _=>dK |.not _=>dK
structure jg (S S':Str->Option Kd) (nv:Nv):Prop where
 le:∀x k,S x=some k->S' x=some k
 nv:∀x y k,bO x nv=some y->S x=some k->S' y=some k
 kz:∀x k,S x=some k->kz k<900
section
variable {S S':Str->Option Kd}{nv:Nv}
theorem Q4 (s:jg S S' nv) {G:Sc}{q:Qn}{k:Kd}:Ty S G q k->Ty S' G (aD nv q) k:=
 (Ty.all (P:=λG q k=>Ty S' G (aD nv q) k) (L:=λG fs ks=>di S' G (fQ nv fs) ks) (C:=λG q=>bX S' G (aD nv q))
  .num .word .var (λ{_ x _} h=>by
   rw[aD];cases e:bO x nv with
   |none=>exact .tab (s.le _ _ h)
   |some y=>exact .both (s.kz _ _ h) (.tab (s.le _ _ h)) (.tab (s.nv _ _ _ e h))) .none (λl n h=>.row (by rw[uG,W0];exact l) n h) (λn h e=>.at n h e)
  .add .mul .one .both .times .for .aP .let .nil .cons .gZ .g7 .under .and .or .not).1
theorem Ty.le (s:jg S S' nv) {G:Sc}{q:Qn}{k:Kd} (h:Ty S G q k):Ty S' G q k:=h.mono s.le λ_ _ z=>z
theorem Cc (s:jg S S' nv) {G:Sc}{q:Qn}{k:Kd} (h:Ty S G q (.ah k)) (z:kz k<900):Ty S' G (hU nv q) (.ah k):=.both z (Q4 s h) (.times (Ty.le s h))
theorem dM (s:jg S S' nv) {G:Sc}{q:Qn}{k:Kd} (h:Ty S G q (.ah k)) (z:kz k<900):OT (λp=>Ty S' G p (.ah k)) (hV nv q):=by
 unfold hV;split
 ·exact .so (Cc s h z)
 ·exact .no
theorem bX.le (s:jg S S' nv) {G:Sc}{q:Qn}:bX S G q->bX S' G q:=
 (Ty.all (P:=Ty S') (L:=di S') (C:=bX S') .num .word .var (λh=>.tab (s.le _ _ h)) .none .row .at .add .mul .one .both .times .for .aP .let .nil .cons .gZ .g7 .under .and .or .not).2.2
theorem h8 (s:jg S S' nv):∀(q:Qn) {G:Sc}{k:Kd},Ty S G q (.ah k)->kz k<900->OT (λp=>Ty S' G p (.ah k)) (aA nv q)
 |.tab x,G,k,h,z=>by
  rw[aA];split
  ·cases h with
   |tab h=>
    cases e:bO x nv with
    |none=>exact .no
    |some y=>exact .so (.tab (s.nv _ _ _ e h))
  ·exact .no
 |.both a b,G,k,h,z=>by
  rw[aA];split
  ·cases h with
   |both _ h e=>exact kr (h8 s a h z) (h8 s b e z) (λ_ z=>z) (λ_ z=>z) λ_ _=>.both z
  ·exact .no
 |.for y a b,G,k,h,z=>by
  rw[aA];split
  ·cases h with
   | «for» l h e=>
    have da:=h8 s a h l.2;have db:=h8 s b e z;rw[B'];refine kr (kr (ku da (B:=λq=>q=b) (.so rfl) ?_) (ku (A:=λq=>q=a) (.so rfl) db ?_) (λ_ z=>z) (λ_ z=>z) λ_ _=>.both z) (ku da db λ_ _=>.for l) (λ_ z=>z) (λ_ z=>z) λ_ _=>.both z
    ·rintro p _ hp rfl;exact .for l hp (Ty.le s e)
    ·rintro _ p rfl hp;exact .for l (Ty.le s h) hp
  ·exact .no
 |.times i a,G,k,h,z=>by
  rw[aA];split
  ·cases h with
   |times h=>exact (h8 s a h z).map λ_=>.times
  ·exact .no
 |.aP c a,G,k,h,z=>by
  rw[aA];split
  ·cases h with
   |aP c h=>exact (h8 s a h z).map λ_=>.aP (bX.le s c)
  ·exact .no
 |.let y a b,G,k,h,z=>by
  rw[aA];split
  ·split
   ·exact .so (Cc s h z)
   ·cases h with
    | «let» l h e=>exact (h8 s b e z).map λ_=>.let l (Ty.le s h)
  ·exact .no
 |.num _,G,k,h,z=>dM s h z |.word _,G,k,h,z=>dM s h z |.var _,G,k,h,z=>dM s h z |.none _,G,k,h,z=>dM s h z |.row _,G,k,h,z=>dM s h z |.at _ _,G,k,h,z=>dM s h z
 |.add _ _,G,k,h,z=>dM s h z |.mul _ _,G,k,h,z=>dM s h z |.one _,G,k,h,z=>dM s h z |.same _ _,G,k,h,z=>dM s h z |.under _ _,G,k,h,z=>dM s h z |.and _ _,G,k,h,z=>dM s h z
 |.or _ _,G,k,h,z=>dM s h z |.not _,G,k,h,z=>dM s h z
end
noncomputable def bJ:List Str:=["d","e","f","g"]
noncomputable def kx:Sc:=aM++bJ.flatMap λm=>aM.map λp=>(m++p.1,p.2)
noncomputable def kN:List Str:=aM.map (·.1)
noncomputable def FS (x:Str):Option Kd:=lk x kx
theorem Q5 {x:Str}{k:Kd} (h:FS x=some k):kz k<900:=(by decide +kernel:∀p∈kx,kz p.2<900) _ (dZ h)
theorem ky {x:Str}{k:Kd} (h:kS x=some k):FS x=some k:=by
 unfold FS kx;rw[oY];unfold kS at h;rw[h];rfl
theorem pM {m x:Str} (hm:m∈bJ) (hx:x∈kN):FS (m++x)=kS x:=(by decide +kernel:∀m∈bJ,∀x∈kN,FS (m++x)=kS x) m hm x hx
structure d7 (nv:Nv) (m:Str):Prop where
 nd:(nv.map (·.1)).Nodup
 sub:∀p∈nv,p.1∈kN/\p.2=m++p.1
 len:nv.length<=5
structure fT (K:List (Key×D)) (n:Nat):Prop where
 TM:∀z d,aK K (.inr z)=some d->∃k,FS z=some k/\d=kD k
 len:K.length<=n
noncomputable def Sk (K:List (Key×D)) (z:Str):Option Kd:=if (aK K (.inr z)).isSome=true then FS z else none
theorem fT.iF {K:List (Key×D)}{n:Nat} (h:fT K n) {v:D}{M:Mp} (hc:hH v K M):km v (Sk K) M:=λy k e=>by
 refine⟨K,hc,?_⟩;unfold Sk at e;split at e
 ·rename_i z;obtain⟨d,hd⟩:=Option.isSome_iff_exists.mp z;obtain⟨k',h1,rfl⟩:=h.TM y d hd;rw[h1]at e;cases e;exact hd
 ·cases e
theorem mL {K:List (Key×D)}{z:Str}{k:Kd}:Sk K z=some k ↔ (aK K (.inr z)).isSome=true/\FS z=some k:=by
 unfold Sk;split
 ·rename_i h;simp [h]
 ·rename_i h;simp [h]
theorem fT.aM:fT (ax aM) 5:=⟨λz d h=>by
 rw[fc]at h;obtain⟨k,h1,rfl⟩:=Option.map_eq_some_iff.mp h;exact⟨k,ky h1,rfl⟩,W3 _⟩
theorem uN {K:List (Key×D)}{y z:Str}{v:D}:aK (aY K (.inr y) v) (.inr z)=if z=y then some v else aK K (.inr z):=by
 have:=@Bm K (.inr y) (.inr z) v;rw[this];by_cases e:z=y
 ·rw[if_pos e,if_pos (by rw[e])]
 ·rw[if_neg e,if_neg λh=>e (Zk h)]
theorem fT.put {K:List (Key×D)}{n:Nat} (h:fT K n) {y:Str}{k:Kd} (e:FS y=some k):fT (aY K (.inr y) (kD k)) (n+1):=⟨λz d hd=>by
 rw[uN]at hd;split at hd
 ·rename_i TN;cases hd;exact⟨k,TN ▸ e,rfl⟩
 ·exact h.TM z d hd,W9 (qC _ _ _) (XT h.len)⟩
theorem pN {K:List (Key×D)}{y z:Str}{k:Kd}{v:D} (h:Sk K z=some k):Sk (aY K (.inr y) v) z=some k:=by
 rw[mL]at h ⊢;refine⟨?_,h.2⟩;rw[uN];split
 ·rfl
 ·exact h.1
theorem Cd {K:List (Key×D)}{y:Str}{k:Kd}{v:D} (h:FS y=some k):Sk (aY K (.inr y) v) y=some k:=by
 rw[mL];refine⟨?_,h⟩;rw[uN,if_pos rfl];rfl
variable {w:Wo}
noncomputable def Q6:B:=(.cons (.ret (.lst (.cons (.tup (.cons (.c (.str "s")) (.cons (.tup (.cons (.c (.str "num")) .nil)) .nil))) (.cons (.tup (.cons (.c (.str "v")) (.cons (.ix (.call 46 .nil) (.c (.str "u"))) .nil))) (.cons (.tup (.cons (.c (.str "o")) (.cons (.tup (.cons (.c (.str "bag")) (.cons (.tup (.cons (.c (.str "num")) .nil)) .nil))) .nil))) .nil))))) .nil)
theorem Q7:aC [] [] (ag (aa 80)):=⟨rfl,rfl,rfl,by decide +kernel,rfl,by decide +kernel,by decide +kernel⟩
theorem Q8:aF nm 40 [] (ag (aa 80)) (av (aa 80))=Q6:=by kernel_rfl
noncomputable def G0:Sc:=[("s",.num),("v",fJ),("o",.ah .num)]
def Ce:Sp:=λds M Q _=>ds=[]/\Q (a4 G0) M
theorem Cf {ms:Sc}{x:Str}{k:Kd}{M:Mp}{Q:QK} (h:lk x ms=some k) (q:Q (kD k) M):aB (b9 ms) (.str x) M Q:=⟨kD k,by rw[oX,fc,h];rfl,q⟩
theorem Q9 (O:Lw w):FO w 54 2 Ce:=by
 refine aJ O.ok O.hn _ ⟨"_law_free",aa 80,[]⟩ (by rw[O.hd];rfl) { cs:=[(46,mu)] } { cs:=⟨⟨1,by decide,pg O⟩,trivial⟩ } Q7 Q8 λds M Q _ h=>?_;obtain⟨rfl,h⟩:=h;exact⟨rfl,l1,l2,rfl,Cf (k:=fJ) rfl ⟨l2,l1,l2,l2,l3,.inl (ar h)⟩⟩
theorem mM (sc:Sc):cQ sc=(ax sc).map de:=by unfold cQ ax;rw[Yd];rfl
def Cg:Sp:=λds M Q _=>ds=[]/\∀p,M p=none->Q (.ref p) (up M p (.ak (ax aM)))
theorem Ra (O:Lw w):FO w 46 1 Cg:=by
 refine aJ O.ok O.hn _ ⟨"_law_kinds",aa 71,[]⟩ (by rw[O.hd];rfl) {} { cs:=trivial } Ae Af λds M Q _ h=>?_;obtain⟨rfl,h⟩:=h;refine⟨rfl,l1,l2,l1,l2,l2,l2,?_⟩;refine⟨l1,l2,l1,l2,l1,l2,l2,l1,l2,l4,l2,?_⟩;refine⟨l1,l1,l2,.inr λp hp=>?_⟩;have:aW Q (.ref p) (up M p (.ak (cw (ax aM)))):=by rw[Ag];exact ar (h p hp)
 exact this
theorem pO {x:Str} (h:x∈kN):∃k,kS x=some k:=by
 have:(lk x aM).isSome=true:=by rw[NQ.l9];exact decide_eq_true h
 exact Option.isSome_iff_exists.mp this
theorem Rb {nv:Nv}{x y:Str} (h:x ∉ nv.map (·.1)):aY (aL nv) (.inr x) (.str y)=aL (nv++[(x,y)]):=by
 unfold aY;rw[if_neg]
 ·unfold aL;simp
 ·intro z;obtain⟨kv,h1,h2⟩:=List.any_eq_true.mp z;unfold aL at h1;obtain⟨m,hm,rfl⟩:=List.mem_map.mp h1;exact h (List.mem_map.mpr ⟨m,hm,Zk (of_decide_eq_true h2)⟩)
theorem Ci {x y:Str}:∀{nv:Nv},(nv.map (·.1)).Nodup->(x,y)∈nv->bO x nv=some y
 |(a,b)::r,nd,h=>by
  rw[Xe,Y3]at nd;rw[bO];rcases List.mem_cons.mp h with e |h
  ·cases e;rw[if_pos rfl]
  ·rw[if_neg,Ci nd.2 h];intro e;exact nd.1 (e ▸ List.mem_map.mpr ⟨_,h,rfl⟩)
theorem Cj {x y:Str}:∀{nv:Nv},bO x nv=some y->(x,y)∈nv
 |(a,b)::r,h=>by
  rw[bO]at h;split at h
  ·rename_i e;cases h;rw[e];exact W'
  ·exact W8 _ (Cj h)
structure Rc (nv:Nv) (m:Str) (pre:List Str):Prop where
 nd:(nv.map (·.1)).Nodup
 sub:∀p∈nv,p.1∈pre/\p.2=m++p.1
 len:nv.length<=pre.length
def Ck:Sp:=λds M Q _=>∃p m,ds=[.ref p,.str m]/\m∈bJ/\Hs M p/\∀nv X,Sx M p X->d7 nv m->Q (dD (aL nv)) X
theorem Rd {m x:Str} (hm:m∈bJ) (hx:x∈kN):m.length+x.length<=sizeLine:=W9 ((by decide +kernel:∀m∈bJ,∀x∈kN,m.length+x.length<=100) m hm x hx) (by decide)
noncomputable def Rg:B:=.cons (.ret (.v 2)) .nil
noncomputable def Rh:B:=.cons (.loop (.one 3) (.seq (.lst (.cons (.c (.str "r")) (.cons (.c (.str "s")) (.cons (.c (.str "t")) (.cons (.c (.str "u")) (.cons (.c (.str "v")) .nil))))))) (.cons (.cond (.cmp .Gt (.call 42 (.cons (.v 0) (.cons (.c (.int 4)) .nil))) (.c (.int 0))) (.cons (.put (.v 2) (.v 3) (.op .Add (.v 1) (.v 3))) .nil) .nil) .nil)) Rg
noncomputable def Ri:B:=.cons (.set (.one 2) .ox) Rh
theorem Rj:aC ["seed","mark","names","name"] ["seed","mark"] (ag (aa 86)):=⟨rfl,rfl,rfl,by decide +kernel,rfl,by decide +kernel,by decide +kernel⟩
theorem Rl:aF nm 40 ["seed","mark","names","name"] (ag (aa 86)) (av (aa 86))=Ri:=by kernel_rfl
noncomputable abbrev Rm (w:Wo):a8 w:={ cs:=[(42,g')] }
theorem Rn (O:Lw w):FO w 56 2 Ck:=by
 refine aJ O.ok O.hn _ ⟨"_law_names",aa 86,["seed","mark"]⟩ (by rw[O.hd];rfl) (Rm w) { cs:=⟨⟨1,by decide,i7 O⟩,trivial⟩ } Rj Rl λds M Q _ h=>?_;obtain⟨p,m,rfl,hm,hp,h⟩:=h;have Vv:kN.Nodup:=by decide +kernel
 refine⟨rfl,.inr λpn Ch=>⟨l5,.inl ?_⟩⟩;have ul:pn≠p:=by obtain⟨o,e,_⟩:=hp;exact Ys (cV e Ch)
 refine d0 (λxs τ M'=>∃rest pre nv u X,xs=rest.map D.str/\kN=pre++rest/\Rc nv m pre/\τ=[some (.ref p),some (.str m),some (.ref pn),u]/\Sx M p X/\M'=up X pn (.ak (aL nv))) ?_ ?_ _ _ _ ⟨kN,[],[],none,M,rfl,rfl,⟨.nil,(λ_ z=>nomatch z),W3 _⟩,rfl,.rfl hp,rfl⟩
 ·rintro τ M' ⟨rest,pre,nv,u,X,e1,e2,hv,rfl,s,rfl⟩;have:rest=[]:=by simpa using e1.symm
  subst this;rw[Xo]at e2;refine⟨trivial,.rfl ?_⟩;exact tH (by rw[s.ne ul];exact Ch) (h nv X s ⟨hv.nd,λp hp=>⟨by rw[e2];exact (hv.sub p hp).1,(hv.sub p hp).2⟩,by have:=hv.len;rw[<- e2]at this;exact this⟩)
 ·rintro y xs τ M' ⟨rest,pre,nv,u,X,e1,e2,hv,rfl,s,rfl⟩;cases rest with
  |nil=>cases e1
  |cons x rest=>
   cases e1;have hx:x∈kN:=(by rw[e2];simp);have nx:x ∉ pre:=λz=>(by rw[e2]at Vv;exact (List.nodup_append.mp Vv).2.2 x z x W' rfl);have Cm:x ∉ nv.map (·.1):=λz=>by obtain⟨q,hq,e⟩:=List.mem_map.mp z;have e:q.1=x:=e;exact nx (e ▸ (hv.sub q hq).1)
   have pl:pre.length<=5:=by have:=congrArg YZ e2;rw[Xf]at this;have:kN.length=5:=rfl;lia
   have hl:=hv.len;have hs:Hs (up X pn (.ak (aL nv))) p:=(by obtain⟨o,e,so⟩:=s.hs;exact⟨o,by rw[ay (Ys ul)];exact e,so⟩);have e6:kN=(pre++[x])++rest:=(by rw[e2];simp);refine⟨trivial,λN hN=>⟨p,4,rfl,hs,by decide,by decide,λr Y u2 _ _=>?_⟩⟩;obtain⟨o2,Op,rfl⟩:=u2;have s2:Sx M p (up X p o2):=s.tr ⟨o2,Op,rfl⟩;rw[kc ul];refine a3 (λ_=>?_) λ_=>?_
   ·refine⟨Rd hm hx,.inr ⟨_,ao,Xg (by unfold aL;rw[W0];lia:_<=5) (by decide),hN _ _ ⟨rest,pre++[x],nv++[(x,m++x)],_,_,rfl,e6,⟨?_,λq hq=>?_,?_⟩,rfl,s2,?_⟩⟩⟩
    ·rw[Xn];exact zW hv.nd Cm
    ·rcases List.mem_append.mp hq with z |z
     ·exact⟨Yx _ (hv.sub q z).1,(hv.sub q z).2⟩
     ·rw[List.mem_singleton.mp z];exact⟨by simp,rfl⟩
    ·simp;lia
    ·rw[_root_.N.b8,Rb Cm]
   ·exact hN _ _ ⟨rest,pre++[x],nv,_,_,rfl,e6,⟨hv.nd,λq hq=>⟨Yx _ (hv.sub q hq).1,(hv.sub q hq).2⟩,by simp;lia⟩,rfl,s2,rfl⟩
structure dN (rows:List Nv) (nv:Nv) (K:List (Key×D)) (n:Nat):Prop where
 k:fT K n
 s:∀x k,kS x=some k->Sk K x=some k
 r:∀nv∈rows,∀q∈nv,∀k,kS q.1=some k->Sk K q.2=some k
 l:∀q∈nv,∀k,kS q.1=some k->Sk K q.2=some k
theorem dN.put {rows:List Nv}{nv:Nv}{K:List (Key×D)}{n:Nat} (h:dN rows nv K n) {x y:Str}{k:Kd} (e:kS x=some k) (f:FS y=some k):dN rows (nv++[(x,y)]) (aY K (.inr y) (kD k)) (n+1):=
 ⟨h.k.put f,λz l e=>pN (h.s z l e),λnv hn q hq l e=>pN (h.r nv hn q hq l e),λq hq l z=>by
  rcases List.mem_append.mp hq with hq |hq
  ·exact pN (h.l q hq l z)
  ·rw[List.mem_singleton.mp hq]at z ⊢;have z:kS x=some l:=z;rw[e]at z;cases z;exact Cd f⟩
def mN (rows:List Nv):Prop:=rows.length<=4/\∀nv∈rows,∃m∈bJ,d7 nv m
noncomputable def a6 (rows:List Nv):List D:=rows.map λnv=>dD (aL nv)
def uO:Sp:=λds M Q _=>∃rows,ds=[.lst (a6 rows)]/\mN rows/\∀K,dN rows [] K 25->Q (dD K) M
noncomputable def Ro:B:=.cons (.ret (.v 1)) .nil
noncomputable def Rp:B:=.cons (.loop (.one 2) (.seq (.v 0)) (.cons (.loop (.one 3) (.seq (.v 2)) (.cons (.put (.v 1) (.ix (.v 2) (.v 3)) (.ix (.v 1) (.v 3))) .nil)) .nil)) Ro
noncomputable def Rq:B:=.cons (.set (.one 1) (.call 46 .nil)) Rp
theorem Rr:aC ["rows","stock","names","name"] ["rows"] (ag (aa 85)):=⟨rfl,rfl,rfl,by decide +kernel,rfl,by decide +kernel,by decide +kernel⟩
theorem Rt:aF nm 40 ["rows","stock","names","name"] (ag (aa 85)) (av (aa 85))=Rq:=by kernel_rfl
noncomputable abbrev Ru (w:Wo):a8 w:={ cs:=[(46,Cg)] }
theorem Rv (O:Lw w):FO w 55 2 uO:=by
 refine aJ O.ok O.hn _ ⟨"_law_stock",aa 85,["rows"]⟩ (by rw[O.hd];rfl) (Ru w) { cs:=⟨⟨1,by decide,Ra O⟩,trivial⟩ } Rr Rt λds M Q _ h=>?_;obtain⟨rows,rfl,⟨hr,o0⟩,h⟩:=h;refine⟨rfl,rfl,λps lG=>?_⟩;refine d0 (λxs τ M'=>∃rest pre K u v,xs=a6 rest/\rows=pre++rest/\dN pre [] K (5+5 * pre.length)/\τ=[some (.lst (a6 rows)),some (.ref ps),u,v]/\M'=up M ps (.ak K)) ?_ ?_ _ _ _ ⟨rows,[],ax aM,none,none,rfl,rfl,⟨.aM,λx k e=>mL.mpr ⟨by rw[fc];unfold kS at e;rw[e];rfl,ky e⟩,λ_ z=>(nomatch z),λ_ z=>(nomatch z)⟩,rfl,rfl⟩
 ·rintro τ M' ⟨rest,pre,K,u,v,e1,e2,st,rfl,rfl⟩;have:rest=[]:=by unfold a6 at e1;simpa using e1.symm
  subst this;rw[Xo]at e2;refine⟨trivial,.rfl (tH lG (h K ⟨⟨st.k.TM,W9 st.k.len (by rw[<- e2];lia)⟩,st.s,by rw[e2];exact st.r,st.l⟩))⟩
 ·rintro y xs τ M' ⟨rest,pre,K,u,v,e1,e2,st,rfl,rfl⟩;cases rest with
  |nil=>cases e1
  |cons nv rest=>
   cases e1;obtain⟨m,hm,hv⟩:=o0 nv (by rw[e2];simp);have pl:pre.length<=4:=by have:=congrArg YZ e2;rw[Xf]at this;lia
   refine⟨trivial,λN hN=>?_⟩;refine d0 (λxs τ M'=>∃ia jh K v,xs=ia.map (λp=>D.str p.1)/\nv=jh++ia/\dN pre jh K (5+5 * pre.length+jh.length)/\τ=[some (.lst (a6 rows)),some (.ref ps),some (dD (aL nv)),v]/\M'=up M ps (.ak K)) ?_ ?_ _ _ _ ⟨nv,[],K,v,by rw[eu];unfold aL;rw[Yd];rfl,rfl,st,rfl,rfl⟩
   ·rintro τ M' ⟨ia,jh,K,v,e3,e4,st,rfl,rfl⟩;have:ia=[]:=(by simpa using e3.symm);subst this;rw[Xo]at e4;refine⟨trivial,.rfl (hN _ _ ⟨rest,pre++[nv],K,_,_,rfl,by rw[e2];simp,⟨⟨st.k.TM,W9 st.k.len (by have:=hv.len;rw[<- e4,Xf,Yl];lia)⟩,st.s,λji h'=>?_,λ_ z=>(nomatch z)⟩,rfl,rfl⟩)⟩
    rcases List.mem_append.mp h' with z |z
    ·exact st.r ji z
    ·rw[List.mem_singleton.mp z,e4];exact st.l
   ·rintro d xs τ M' ⟨ia,jh,K,v,e3,e4,st,rfl,rfl⟩;cases ia with
    |nil=>cases e3
    |cons q ia=>
     obtain⟨x,y⟩:=q;cases e3;have hq:(x,y)∈nv:=(by rw[e4];simp);obtain⟨h1,h2⟩:=hv.sub _ hq;have h2:y=m++x:=h2;obtain⟨k,hk⟩:=pO h1;have p2:jh.length<=5:=by have:=congrArg YZ e4;rw[Xf]at this;have:=hv.len;lia
     have sl:=st.k.len;have hK:=(mL.mp (st.s x k hk)).1;obtain⟨d,hd⟩:=Option.isSome_iff_exists.mp hK;obtain⟨k',f1,rfl⟩:=st.k.TM x d hd;rw[ky hk]at f1;cases f1;refine⟨trivial,λWW Ps=>.inr ⟨K,ao,kD k,hd,.str y,by rw[eu,kq,Ci hv.nd hq];rfl,.inr ⟨K,ao,Xg (by lia:_<=100) (by decide),Ps _ _ ⟨ia,jh++[(x,y)],aY K (.inr y) (kD k),_,rfl,by rw[e4];simp,?_,rfl,by rw[_root_.N.b8]⟩⟩⟩⟩;have:=st.put hk (y:=y) (by rw[h2,pM hm h1];exact hk);rw[Xf,Yl,<- Nat.add_assoc];exact this
noncomputable def dO (nv:Nv):Sc:=nv.map λp=>(p.2,(kS p.1).getD .num)
def Cn:Sp:=λds M Q _=>∃nv m,ds=[dD (aL nv),dD (ax aM)]/\m∈bJ/\d7 nv m/\Q (dD (ax (dO nv))) M
theorem Rw {m a b:Str} (h:m++a=m++b) (ha:a∈kN) (hb:b∈kN) (hm:m∈bJ):a=b:=(by decide +kernel:∀m∈bJ,∀a∈kN,∀b∈kN,m++a=m++b->a=b) m hm a ha b hb h
theorem Rx {nv:Nv}{m:Str} (hm:m∈bJ) (h:d7 nv m):((dO nv).map (·.1)).Nodup:=by
 obtain⟨nd,sub,hl⟩:=h;clear hl;unfold dO;rw[Yd];show (nv.map (·.2)).Nodup
 induction nv with
 |nil=>exact .nil
 |cons p r ih=>
  rw[Xe,Y3]at nd ⊢;refine⟨λz=>?_,ih nd.2 λq hq=>sub q (W8 _ hq)⟩;obtain⟨q,hq,e⟩:=List.mem_map.mp z;obtain⟨Ti,a2⟩:=sub p W';obtain⟨b1,b2⟩:=sub q (W8 _ hq);rw[a2,b2]at e;exact nd.1 (Rw e b1 Ti hm ▸ List.mem_map.mpr ⟨q,hq,rfl⟩)
noncomputable def Ry:B:=(.cons (.ret (.bi .dict (.cons (.lc 2 [1] (.many [0,1]) (.sy (.v 0)) (.cmp .In (.v 0) (.v 2)) (.tup (.cons (.v 1) (.cons (.ix (.v 2) (.v 0)) .nil)))) .nil))) .nil)
theorem Rz:aC ["names","stock"] ["names","stock"] (ag (aa 59)):=⟨rfl,rfl,rfl,by decide +kernel,rfl,by decide +kernel,by decide +kernel⟩
theorem RA:aF nm 40 ["names","stock"] (ag (aa 59)) (av (aa 59))=Ry:=by kernel_rfl
theorem RB (O:Lw w):FO w 40 1 Cn:=by
 refine aJ O.ok O.hn _ ⟨"kinds_of_changes",aa 59,["names","stock"]⟩ (by rw[O.hd];rfl) {} { cs:=trivial } Rz RA λds M Q _ h=>?_;obtain⟨nv,m,rfl,hm,hv,h⟩:=h;refine⟨rfl,?_⟩;have hl:=hv.len;refine e8 (λxs ys M'=>M'=M/\∃pre rest,nv=pre++rest/\xs=(aL rest).map de/\ys=cQ (dO pre)) ?_ ?_ _ _ _ ⟨rfl,[],nv,rfl,by rw[eu],rfl⟩
 ·rintro ys M' ⟨rfl,pre,rest,e1,e2,rfl⟩;have:rest=[]:=by unfold aL at e2;simpa using e2.symm
  subst this;rw[Xo]at e1;subst e1;refine⟨trivial,Xg (by unfold cQ dO;rw[W0,W0];lia:_<=5) (by decide),.inl (.inr ⟨ax (dO nv),mM _,.inl (ar ?_)⟩)⟩;rw[uf (Rx hm hv)];exact h
 ·rintro x xs ys M' ⟨rfl,pre,rest,e1,e2,rfl⟩;cases rest with
  |nil=>cases e2
  |cons q rest=>
   obtain⟨x,y⟩:=q;cases e2;have hq:(x,y)∈nv:=(by rw[e1];simp);obtain⟨h1,h2⟩:=hv.sub _ hq;obtain⟨k,hk⟩:=pO h1;have oe:aK (ax aM) (.inr x)=some (kD k):=(by rw[fc];unfold kS at hk;rw[hk];rfl);refine⟨trivial,Xg (by have:=congrArg YZ e1;rw[Xf]at this;unfold cQ dO;rw[W0,W0];lia:_<=5) (by decide),λN hN=>⟨rfl,o6 ?_⟩⟩
   rw[oe];refine oZ oe ⟨l2,hN _ _ ⟨rfl,pre++[(x,y)],rest,by rw[e1];simp,rfl,?_⟩⟩;unfold dO cQ;rw[Xn,Xn,Xe,Yc,Xe,Yc];have:(kS x).getD .num=k:=(by rw[hk];rfl);show _++[D.tup [.str y,kD k]]=_++[D.tup [.str y,kD ((kS x).getD .num)]];rw[this]
variable {w:Wo}
noncomputable def kA:S->B
 |.loop _ _ b=>b
 |_=>.nil
structure Bg (r:Nat) (q:Qn):Prop where
 d:dq q+r * (2 * fs q+3)<=60
 n:r=0\/nq q * gA (fs q) ^ (r-1)<1000000
theorem Bg.step {r:Nat}{q p:Qn} (h:Bg (r+1) q) (g:Gr (dq q) (fs q) (nq q) p):Bg r p:=by
 have h1:=h.d;have g1:=g.d;have g2:=g.f
 refine⟨?_,?_⟩
 ·have:=Nat.mul_le_mul_left r (show 2 * fs p+3<=2 * fs q+3 by lia);rw[Nat.succ_mul]at h1;lia
 ·cases r with
  |zero=>exact .inl rfl
  |succ r=>
   refine .inr ?_;rcases h.n with z |z
   ·cases z
   ·refine Xg ?_ z;show nq p * gA (fs p) ^ r<=nq q * gA (fs q) ^ (r+1);rw[Nat.pow_succ',<- Nat.mul_assoc];exact Nat.mul_le_mul (by rw[Nat.mul_comm];exact g.n) (Nat.pow_le_pow_left (uM g2) r)
theorem Bg.nq {r:Nat}{q:Qn} (h:Bg (r+1) q):nq q<1000000:=by
 rcases h.n with z |z
 ·cases z
 ·exact Xg (Nat.le_mul_of_pos_right _ (Nat.pow_pos (Xl (by decide:0<6) (jf _)))) z
noncomputable def Sr (rows:List Nv) (z:Str):Option Kd:=if (kN.contains z ||rows.any λnv=>nv.any λq=>decide (q.2=z))=true then FS z else none
theorem kB {rows:List Nv}{z:Str}{k:Kd}:Sr rows z=some k ↔ (z∈kN\/∃nv∈rows,∃q∈nv,q.2=z)/\FS z=some k:=by
 unfold Sr;have:(kN.contains z ||rows.any λnv=>nv.any λq=>decide (q.2=z))=true ↔ (z∈kN\/∃nv∈rows,∃q∈nv,q.2=z):=by
  rw[Bool.or_eq_true,List.contains_iff_mem,List.any_eq_true];refine or_congr Iff.rfl (exists_congr λnv=>and_congr Iff.rfl ?_);rw[List.any_eq_true];exact exists_congr λq=>and_congr Iff.rfl decide_eq_true_iff
 split
 ·rename_i h;exact⟨λe=>⟨this.mp h,e⟩,λe=>e.2⟩
 ·rename_i h;exact⟨λe=>(nomatch e),λe=>absurd (this.mpr e.1) h⟩
theorem RC {x:Str}{k:Kd} (h:kS x=some k):x∈kN:=List.mem_map.mpr ⟨_,dZ h,rfl⟩
theorem Co {x:Str} (h:x∈kN):FS x=kS x:=by
 obtain⟨k,e⟩:=pO h;rw[e];exact ky e
theorem Cp {pre:List Nv}{nv:Nv}{m:Str} (hm:m∈bJ) (hv:d7 nv m):jg (Sr pre) (Sr (pre++[nv])) nv where
 le x k h:=by
  rw[kB]at h ⊢;exact⟨h.1.imp id λ⟨nv,a,b⟩=>⟨nv,Yx _ a,b⟩,h.2⟩
 nv x y k e h:=by
  have hq:=Cj e;obtain⟨h1,h2⟩:=hv.sub _ hq;have h2:y=m++x:=h2;rw[kB]at h ⊢;refine⟨.inr ⟨nv,by simp,_,hq,rfl⟩,?_⟩;rw[h2,pM hm h1,<- Co h1];exact h.2
 kz x k h:=Q5 (kB.mp h).2
theorem dN.sr {rows:List Nv}{l:Nv}{K:List (Key×D)}{n:Nat} (h:dN rows l K n) (hr:∀nv∈rows,∃m∈bJ,d7 nv m) {z:Str}{k:Kd} (e:Sr rows z=some k):Sk K z=some k:=by
 obtain⟨a,f⟩:=kB.mp e;rcases a with a |⟨nv,hn,q,hq,rfl⟩
 ·exact h.s z k (by rw[<- Co a];exact f)
 ·obtain⟨m,hm,hv⟩:=hr nv hn;obtain⟨h1,h2⟩:=hv.sub q hq;rw[h2,pM hm h1]at f;exact h.r nv hn q hq k f
theorem dN.iF {rows:List Nv}{l:Nv}{K:List (Key×D)}{n:Nat} (h:dN rows l K n) (hr:∀nv∈rows,∃m∈bJ,d7 nv m) {v:D}{M:Mp} (hc:hH v K M):km v (Sr rows) M:=λy k e=>h.k.iF hc y k (h.sr hr e)
structure Cu (pre rest:List Nv) (κ:Kd) (q:Qn):Prop where
 ty:Ty (Sr pre) G0 q (.ah κ)
 Ui:Bg rest.length q
theorem Cu.step {pre rest:List Nv}{nv:Nv} {κ:Kd} {q p:Qn} (h:Cu pre (nv::rest) κ q) (hz:kz κ<900) {m:Str} (hm:m∈bJ) (hv:d7 nv m) (e:aA nv q=some p):Cu (pre++[nv]) rest κ p:=
 ⟨h8 (Cp hm hv) q h.ty hz p e,h.Ui.step (h7 q p e)⟩
theorem d5.Uc (ms:Sc):d5 (ax ms) ms:=λy k e=>by rw[fc,e];rfl
theorem Cu.iR {pre rest:List Nv}{nv:Nv} {κ:Kd} {q:Qn} (h:Cu pre (nv::rest) κ q):dn q<500/\nq q<1000000/\∀x∈aI q,x∈kx.map (·.1):=by
 have d1:=h.Ui.d;have d2:=bD q;refine⟨by lia,h.Ui.nq,λx hx=>?_⟩;obtain⟨l,e⟩:=(Bz h.ty).t x hx;exact List.mem_map.mpr ⟨_,dZ (kB.mp e).2,rfl⟩
noncomputable def bu:List Nv->Qn->List Qn
 |[],_=>[]
 |nv::r,q=>match aA nv q with
  |none=>[]
  |some p=>if d6 p=true then [] else p::bu r p
theorem uP {nv:Nv}{r:List Nv}{q:Qn} (h:aA nv q=none):bu (nv::r) q=[]:=by rw[bu,h]
theorem uQ {nv:Nv}{r:List Nv}{q p:Qn} (h:aA nv q=some p) (z:d6 p=true):bu (nv::r) q=[]:=by rw[bu,h];exact if_pos z
theorem uR {nv:Nv}{r:List Nv}{q p:Qn} (h:aA nv q=some p) (z:d6 p=false):bu (nv::r) q=p::bu r p:=by rw[bu,h];exact if_neg (by rw[z];decide)
theorem Cq:∀(l:Sc) {K:List (Key×D)}{n:Nat},(∀p∈l,FS p.1=some p.2)->fT K n->fT (dX K (ax l)) (n+l.length)/\(∀z k,Sk K z=some k->Sk (dX K (ax l)) z=some k)/\∀p∈l,Sk (dX K (ax l)) p.1=some p.2
 |[],K,n,_,s=>⟨s,λ_ _ z=>z,λ_ z=>(nomatch z)⟩
 |(y,k)::r,K,n,h,s=>by
  have f:=h _ W';obtain⟨a,b,c⟩:=Cq r (λp hp=>h p (W8 _ hp)) (s.put f);have e:dX K (ax ((y,k)::r))=dX (aY K (.inr y) (kD k)) (ax r):=rfl;rw[e];refine⟨⟨a.TM,W9 a.len (by rw[Xd];lia)⟩,λz l hz=>b z l (pN hz),λp hp=>?_⟩;rcases List.mem_cons.mp hp with rfl |hp
  ·exact b _ _ (Cd f)
  ·exact c p hp
theorem dN.add {pre:List Nv}{nv:Nv}{K:List (Key×D)}{n:Nat} (h:dN pre [] K n) {m:Str} (hm:m∈bJ) (hv:d7 nv m):dN (pre++[nv]) [] (dX K (ax (dO nv))) (n+5):=by
 have hf:∀p∈dO nv,FS p.1=some p.2:=λp hp=>by
  obtain⟨q,hq,rfl⟩:=List.mem_map.mp hp;obtain⟨h1,h2⟩:=hv.sub q hq;obtain⟨k,e⟩:=pO h1;show FS q.2=some ((kS q.1).getD .num);rw[h2,pM hm h1,e];rfl
 obtain⟨a,b,c⟩:=Cq (dO nv) hf h.k;refine⟨⟨a.TM,W9 a.len (by have:=hv.len;unfold dO;rw[W0];lia)⟩,λx k e=>b _ _ (h.s x k e),λji hn q hq k e=>?_,λ_ z=>(nomatch z)⟩
 rcases List.mem_append.mp hn with z |z
 ·exact b _ _ (h.r ji z q hq k e)
 ·rw[List.mem_singleton.mp z]at hq;have:=c (q.2,(kS q.1).getD .num) (List.mem_map.mpr ⟨q,hq,rfl⟩);rw[e]at this;exact this
noncomputable def RD:B:=.cons (.ret (.v 4)) .nil
noncomputable def uS:B:=.cons (.loop (.one 6) (.seq (.v 1)) (.cons (.set (.one 7) (.call 27 (.cons (.ix (.v 4) (.neg (.c (.int 1)))) (.cons (.v 6) (.cons (.v 2) (.cons (.v 5) .nil)))))) (.cons (.cond (.cmp .Eq (.ix (.v 7) (.c (.int 0))) (.c (.str "none"))) (.cons .brk .nil) .nil) (.cons (.ex (.mt .append (.v 4) (.cons (.v 7) .nil))) (.cons (.ex (.mt .update (.v 5) (.cons (.call 40 (.cons (.v 6) (.cons (.v 3) .nil))) .nil))) .nil))))) RD
noncomputable def RE:B:=.cons (.set (.one 5) (.bi .dict (.cons (.v 3) .nil))) uS
noncomputable def RF:B:=.cons (.set (.one 4) (.lst (.cons (.v 0) .nil))) RE
theorem RG:aC ["question","rows","kinds","stock","told","known","names","more"] ["question","rows","kinds","stock"] (ag (aa 58)):=⟨rfl,rfl,rfl,by decide +kernel,rfl,by decide +kernel,by decide +kernel⟩
theorem RH:aF nm 40 ["question","rows","kinds","stock","told","known","names","more"] (ag (aa 58)) (av (aa 58))=RF:=by kernel_rfl
def Cr:Sp:=λds M Q _=>∃q rows κ,ds=[qD q,.lst (a6 rows),dD (ax G0),dD (ax aM)]/\mN rows/\kz κ<900/\Cu [] rows κ q/\∀p,M p=none->Q (.ref p) (up M p (.lst ((q::bu rows q).map qD)))
noncomputable abbrev jj (w:Wo):a8 w:={ cs:=[(27,pL),(40,Cn)] }
theorem RI (O:Lw w):FO w 39 11 Cr:=by
 refine aJ O.ok O.hn _ ⟨"differences",aa 58,["question","rows","kinds","stock"]⟩ (by rw[O.hd];rfl) (jj w) { cs:=⟨⟨10,by decide,B4 O⟩,⟨1,by decide,RB O⟩,trivial⟩ } RG RH λds M Q _ h=>?_;obtain⟨q,rows,κ,rfl,⟨hr,o0⟩,hz,Tn,h⟩:=h;refine⟨rfl,l1,.inr λpt Re=>.inl (.inr λpk pc=>?_)⟩;have ne:pt≠pk:=by rintro rfl;rw[ao]at pc;cases pc
 have Rs:M pk=none:=by rw[ay (Ys ne)]at pc;exact pc
 have mO:∀K u v,B.w (jj w).wd nm.ai (.cons (.ret (.v 4)) .nil) (a' Q) [some (qD q),some (.lst (a6 rows)),some (dD (ax G0)),some (dD (ax aM)),some (.ref pt),some (.ref pk),u,v] (up (up M pt (.lst ((q::bu rows q).map qD))) pk (.ak K)):=λK u v=>kb (mr .rfl (by rw[ay (Ys ne)];exact Rs) rfl) (h pt Re);refine d0 (λxs τ M'=>∃pre rest init cur K u v,xs=a6 rest/\rows=pre++rest/\init++cur::bu rest cur=q::bu rows q/\init.length<=pre.length/\dN pre [] K (5+5 * pre.length)/\Cu pre rest κ cur/\τ=[some (qD q),some (.lst (a6 rows)),some (dD (ax G0)),some (dD (ax aM)),some (.ref pt),some (.ref pk),u,v]/\M'=up (up M pt (.lst ((init++[cur]).map qD))) pk (.ak K)) ?_ ?_ _ _ _ ⟨[],rows,[],q,ax aM,none,none,rfl,rfl,rfl,W3 _,⟨.aM,λx k e=>mL.mpr ⟨by rw[fc];unfold kS at e;rw[e];rfl,ky e⟩,λ_ z=>(nomatch z),λ_ z=>(nomatch z)⟩,Tn,rfl,by rw[eu];rfl⟩
 ·rintro τ M' ⟨pre,rest,init,cur,K,u,v,e1,e2,e3,hi,st,Tn,rfl,rfl⟩;have:rest=[]:=by unfold a6 at e1;simpa using e1.symm
  subst this;have e3:init++[cur]=q::bu rows q:=e3;rw[e3];exact⟨trivial,.rfl (mO K u v)⟩
 ·rintro d xs τ M' ⟨pre,rest,init,cur,K,u,v,e1,e2,e3,hi,st,Tn,rfl,rfl⟩;cases rest with
  |nil=>cases e1
  |cons nv rest=>
   cases e1;obtain⟨m,hm,hv⟩:=o0 nv (by rw[e2];simp);have e6:∀nv∈pre,∃m∈bJ,d7 nv m:=λnv hn=>o0 nv (by rw[e2];exact Yx _ hn);have pl:pre.length<=4:=by have:=congrArg YZ e2;rw[Xf]at this;lia
   have gt:∀{L:MO}{K:List (Key×D)},up (up M pt L) pk (.ak K) pt=some L:=λ{L K}=>(by rw[ay ne];exact ao);refine⟨trivial,λN hN=>.inl ⟨_,gt,_,(by rw[Xn];exact o7),?_⟩⟩;obtain⟨c1,c2,c3⟩:=Tn.iR;refine⟨nv,ax G0,.ref pk,Sr pre,G0,cur,κ,kx.map (·.1),rfl,d5.Uc G0,st.iF e6 (.inr ⟨pk,rfl,ao⟩),Tn.ty,c1,c2,(by decide:3<500),(by decide:25<64),c3,?_⟩;have stop:∀{r:List D},bu (nv::rest) cur=[]->B.w (jj w).wd nm.ai (i3 (kA (fe uS))) { a' Q with nx:=N,ct:=N,bk:=cO (fun τ M=>B.w (jj w).wd nm.ai (.cons (.ret (.v 4)) .nil) (a' Q) τ M) } [some (qD q),some (.lst (a6 rows)),some (dD (ax G0)),some (dD (ax aM)),some (.ref pt),some (.ref pk),some (dD (aL nv)),some (.tup (.str "none"::r))] (up (up M pt (.lst ((init++[cur]).map qD))) pk (.ak K)):=λ{r} e=>by
    refine⟨_,ew,au (aX (by decide) (.rfl ?_))⟩;rw[e]at e3;rw[e3];exact mO K _ _
   have go:∀{p:Qn}{d:D},aA nv cur=some p->d6 p=false->d=qD p->B.w (jj w).wd nm.ai (i3 (kA (fe uS))) { a' Q with nx:=N,ct:=N,bk:=cO (fun τ M=>B.w (jj w).wd nm.ai (.cons (.ret (.v 4)) .nil) (a' Q) τ M) } [some (qD q),some (.lst (a6 rows)),some (dD (ax G0)),some (dD (ax aM)),some (.ref pt),some (.ref pk),some (dD (aL nv)),some d] (up (up M pt (.lst ((init++[cur]).map qD))) pk (.ak K)):=λ{p d} e z hd=>by
    obtain⟨r,a1⟩:=dH p;have hw:wd p≠"none":=λy=>(by rw[mF,y]at z;exact absurd z (by decide));have hd':=hd.trans a1;subst hd';refine⟨_,ew,au (dp hw ?_)⟩;refine⟨.inl ⟨rfl,_,gt⟩,_,gt,Xg (by rw[W0,Xf,Yl];lia:_<=5) (by decide),?_⟩;rw[kc (Ys ne),_root_.N.b8];refine⟨.inr ⟨rfl,_,ao⟩,nv,m,rfl,hm,hv,K,ao,W9 (by have:=st.k.len;have:=hv.len;unfold ax dO;rw[W0,W0,W0];lia:_<=30) (by decide),?_⟩
    rw[_root_.N.b8,eu];refine hN _ _ ⟨pre++[nv],rest,init++[cur],p,dX K (ax (dO nv)),_,_,rfl,by rw[e2];simp,?_,by simp;lia,?_,Tn.step hz hm hv e,rfl,?_⟩
    ·rw[uR e z]at e3;rw[<- e3];simp
    ·have:=st.add hm hv;rw[Xf,Yl,Nat.mul_add,<- Nat.add_assoc];exact this
    ·rw[<- a1,Xn (l₁:=init++[cur])];rfl
   cases e:aA nv cur with
   |none=>exact stop (uP e)
   |some p=>
    cases z:d6 p with
    |true=>
     obtain⟨r,a1⟩:=dH p;have hw:wd p="none":=(by rw[mF]at z;exact of_decide_eq_true z);rw[hw]at a1;show B.w (jj w).wd nm.ai _ _ [_,_,_,_,_,_,_,some (qD p)] _;rw[a1];exact stop (uQ e z)
    |false=>exact go e z rfl
variable {w:Wo}
theorem Cu.dq {κ:Kd} (hz:kz κ<900):∀(rest:List Nv) {pre:List Nv}{q:Qn},(∀nv∈rest,∃m∈bJ,d7 nv m)->Cu pre rest κ q->∀x∈q::bu rest q,dq x<=60
 |[],_,q,_,h,x,hx=>by
  rw[bu,List.mem_singleton]at hx;subst hx;have:=h.Ui.d;lia
 |nv::r,pre,q,hr,h,x,hx=>by
  rcases List.mem_cons.mp hx with e |hx
  ·subst e;have:=h.Ui.d;lia
  ·cases e:aA nv q with
   |none=>rw[uP e]at hx;cases hx
   |some p=>
    cases z:d6 p with
    |true=>rw[uQ e z]at hx;cases hx
    |false=>
     rw[uR e z]at hx;obtain⟨m,hm,hv⟩:=hr nv W';exact Cu.dq hz r (λnv hn=>hr nv (W8 _ hn)) (h.step hz hm hv e) x hx
theorem Cs {n:Nat}:∀(l:List Qn),(∀x∈l,dq x<=n)->aH (l.map qD)=true/\aU (l.map qD)<=n
 |[],_=>⟨rfl,Xk _⟩
 |q::r,h=>by
  obtain⟨a,b⟩:=Cs r λx hx=>h x (W8 _ hx);rw[Xe,aH,aU,bF,a];exact⟨rfl,cH (W9 (bG q) (h q W')) b⟩
theorem Ct {n:Bool}{l:List Qn}{p r:Addr}{M:Mp}{k:Bool->Prop} (h:∀x∈l,dq x<=60) (e1:M p=some (.lst (l.map qD))) (e2:M r=some (.lst (l.map qD))) (q:k true):ej n (.ref p) (.ref r) M k:=by
 obtain⟨a,b⟩:=Cs l h;have r1:bZ (.ref p) M=.lst (l.map qD):=by show jF p (M p)=_;rw[e1];rfl
 have r2:bZ (.ref r) M=.lst (l.map qD):=by show jF r (M r)=_;rw[e2];rfl
 have o:aw (.lst (l.map qD))=true:=by rw[aw];exact a
 refine .mk ?_ ?_
 ·rw[r1,r2];exact .inl ⟨o,o,by rw[aO];lia⟩
 ·rw[r1,r2,gh _ o];exact q
theorem uT:∀{kvs:List (Key×D)},(∀p∈kvs,aw p.2=true/\aO p.2<=50)->aH (kvs.map (·.2))=true/\aU (kvs.map (·.2))<=50
 |[],_=>⟨rfl,Xk _⟩
 |p::r,h=>by
  obtain⟨h1,h2⟩:=h p W';obtain⟨h3,h4⟩:=uT λq hq=>h q (W8 _ hq);rw[Xe,aH,aU,h1,h3];exact⟨rfl,cH h2 h4⟩
theorem RJ (nv:Nv):jH (dD (aL nv)):=uT λp hp=>by unfold aL at hp;obtain⟨m,_,rfl⟩:=List.mem_map.mp hp;exact⟨rfl,Xk _⟩
theorem Cv {ms:Sc} (h:∀m∈ms,kd m.2<=50):jH (dD (ax ms)):=uT λp hp=>by unfold ax at hp;obtain⟨m,hm,rfl⟩:=List.mem_map.mp hp;exact⟨e9 _,W9 (g8 _) (h m hm)⟩
theorem RK {kvs:List (Key×D)}{M:Mp}{q:QK} (h:q (dD kvs) M):rA [dD kvs] M q:=.inl (.inl (by
 have e:D.ak (((kvs.map (·.1)).zip (kvs.map (·.2))).map (·.1)) (((kvs.map (·.1)).zip (kvs.map (·.2))).map (·.2))=dD kvs:=by rw[eu];rfl
 show q (.ak _ _) M;rw[e];exact h))
theorem Wj:(G0.map (·.1)).Nodup:=by decide +kernel
theorem pP:cw (ax G0)=ax G0:=uf Wj
noncomputable def Cw:B:=(.cons (.loop (.one 1) (.seq (.op .Add (.sl (.v 0) .aq (.c (.int 8))) (.lst (.cons (.bi .len (.cons (.v 0) .nil)) .nil)))) (.cons (.set (.one 2) (.call 41 (.cons (.v 1) .nil))) (.cons (.set (.one 3) (.call 46 .nil)) (.cons (.set (.one 4) (.tup (.cons (.c (.str "bag")) (.cons (.ix (.v 3) (.ix (.lst (.cons (.c (.str "r")) (.cons (.c (.str "t")) (.cons (.c (.str "u")) .nil)))) (.call 42 (.cons (.v 2) (.cons (.c (.int 3)) .nil))))) .nil)))) (.cons (.set (.one 5) (.call 42 (.cons (.v 2) (.cons (.c (.int 3)) .nil)))) (.cons (.set (.one 6) (.call 53 (.cons (.v 4) (.cons (.call 54 .nil) (.cons (.op .Add (.c (.int 1)) (.v 5)) (.cons (.v 2) .nil)))))) (.cons (.set (.one 7) (.lc 1 [2] (.one 0) (.seq (.sl (.lst (.cons (.c (.str "d")) (.cons (.c (.str "e")) (.cons (.c (.str "f")) (.cons (.c (.str "g")) .nil))))) .aq (.call 42 (.cons (.v 2) (.cons (.ix (.lst (.cons (.c (.int 5)) (.cons (.c (.int 3)) (.cons (.c (.int 2)) .nil)))) (.v 5)) .nil))))) .aq (.call 56 (.cons (.v 1) (.cons (.v 0) .nil))))) (.cons (.set (.one 8) (.lst (.cons (.v 6) .nil))) (.cons (.loop (.one 9) (.lP (.bi .len (.cons (.v 7) .nil))) (.cons (.set (.one 10) (.call 27 (.cons (.ix (.v 8) (.neg (.c (.int 1)))) (.cons (.ix (.v 7) (.v 9)) (.cons (.bi .dict (.cons (.call 54 .nil) .nil)) (.cons (.call 55 (.cons (.sl (.v 7) .aq (.op .Add (.v 9) (.c (.int 1)))) .nil)) .nil)))))) (.cons (.cond (.cmp .Eq (.ix (.v 10) (.c (.int 0))) (.c (.str "none"))) (.cons .brk .nil) .nil) (.cons (.ex (.mt .append (.v 8) (.cons (.v 10) .nil))) .nil)))) (.cons (.set (.one 11) (.lst (.cons (.lc 1 [] (.one 0) (.seq (.v 7)) .aq (.bi .dict (.cons (.v 0) .nil))) (.cons (.bi .dict (.cons (.call 54 .nil) .nil)) (.cons (.call 46 .nil) .nil))))) (.cons (.set (.one 12) (.call 39 (.cons (.v 6) (.cons (.ix (.v 11) (.c (.int 0))) (.cons (.ix (.v 11) (.c (.int 1))) (.cons (.ix (.v 11) (.c (.int 2))) .nil)))))) (.cons (.cond (.or (.not (.bi .lO (.cons (.v 12) (.cons (.ty "list") .nil)))) (.or (.cmp .NotEq (.v 12) (.v 8)) (.cmp .NotEq (.v 11) (.lst (.cons (.v 7) (.cons (.bi .dict (.cons (.call 54 .nil) .nil)) (.cons (.v 3) .nil))))))) (.cons (.ret (.c (.bl false))) .nil) .nil) (.cons (.ex (.mt .append (.v 12) (.cons (.v 6) .nil))) (.cons (.cond (.cmp .NotEq (.call 39 (.cons (.v 6) (.cons (.v 7) (.cons (.bi .dict (.cons (.call 54 .nil) .nil)) (.cons (.v 3) .nil))))) (.v 8)) (.cons (.ret (.c (.bl false))) .nil) .nil) .nil)))))))))))))) (.cons (.ret (.c (.bl true))) .nil))
theorem RL:aC ["script","cell","seed","kinds","kind","high","asked","rows","due","k","after","handed","found"] ["script"] (ag (aa 88)):=⟨rfl,rfl,rfl,by decide +kernel,rfl,by decide +kernel,by decide +kernel⟩
theorem RM:aF nm 40 ["script","cell","seed","kinds","kind","high","asked","rows","due","k","after","handed","found"] (ag (aa 88)) (av (aa 88))=Cw:=by kernel_rfl
def spLaw:Sp:=λds M Q _=>∃ns:List Int,ds=[.lst (ns.map D.int)]/\ns.length<=63/\∀M',Q (.bl true) M'
noncomputable abbrev Tr (w:Wo):a8 w:={ cs:=[(41,Ad),(46,mu),(42,g'),(54,Ce),(53,fh 80),(56,Ck),(55,uO),(27,pL),(39,Cr)] }
theorem RN {m:Nat} (h:m<=3):d4 G0 m:=⟨by decide +kernel,by show 3+m<=40;lia,by decide +kernel⟩
noncomputable def fj:B:=kA (fe Cw)
noncomputable def fk:Nat->B->B
 | 0,b=>b
 |n+1,b=>fk n (i3 b)
section
variable {N:St->Mp->Prop}{bk:St->Mp->Prop}{Q:QK}{sc:D} {κ:Kd} {q:Qn}{rows:List Nv}{pd:Addr}{X:Mp}{v1 v2 v5 v9 cy bn bv:Option D}
theorem RO (hN:∀ v1 v2 v3 v4 v5 v6 v7 v8 v9 cy bn bv M,N [some sc,v1,v2,v3,v4,v5,v6,v7,v8,v9,cy,bn,bv] M) (hr:mN rows) (hz:kz κ<900) (Tn:Cu [] rows κ q) (pi:X pd=some (.lst ((q::bu rows q).map qD))) :
  B.w (Tr w).wd nm.ai (fk 8 fj) { nx:=N,ct:=N,rt:=aW Q,bk:=bk } [some sc,v1,v2,some (b9 aM),some (kD (.ah κ)),v5,some (qD q),some (.lst (a6 rows)),some (.ref pd),v9,cy,bn,bv] X:=by
 have Cy:=Cu.dq hz rows hr.2 Tn;have hl:=hr.1;have Td:b9 aM=dD (ax aM):=rfl;have ut:(a6 rows).length<=4:=by unfold a6;rw[W0];exact hl
 refine gX (M:=X) (λnv=>dD (aL nv)) (λnv=>dD (aL nv)) rows ?_ (Xg (by lia:_<=4) (by decide)) (λnv _ N' ev=>?_) ?_
 ·exact trivial
 ·exact RK ev
 refine .inl ⟨rfl,.inr ⟨ax G0,mM G0,.inl ⟨rfl,l3,.inl ?_⟩⟩⟩;rw[pP];refine⟨_,rfl,_,rfl,_,rfl,q,rows,κ,rfl,hr,hz,Tn,λpf RP=>?_⟩;have Cz:pd≠pf:=cV pi RP;have RQ:up X pf (.lst ((q::bu rows q).map qD)) pd=some (.lst ((q::bu rows q).map qD)):=by rw[ay Cz];exact pi
 refine⟨_,ao,?_⟩;show ej true (.ref pf) (.ref pd) (up X pf (.lst ((q::bu rows q).map qD))) _;refine Ct Cy ao RQ ?_;refine az (by decide) ?_;refine⟨rfl,.inr ⟨ax G0,mM G0,.inl ⟨l3,.inl (.dd rfl [.lst (a6 rows),dD (ax G0),dD (ax aM)] rfl (by rw[pP];rfl) (λd hd=>?_) ?_)⟩⟩⟩
 ·simp only[XI,Xq,or_false]at hd;rcases hd with rfl |rfl |rfl
  ·intro d hd;unfold a6 at hd;obtain⟨nv,_,rfl⟩:=List.mem_map.mp hd;exact RJ nv
  ·exact Cv (by decide +kernel)
  ·exact Cv (by decide +kernel)
 refine az (by decide) ?_;have RS:((q::bu rows q).map qD).length<sizeLine:=by
  have:∀(r:List Nv) (q:Qn),(bu r q).length<=r.length:=λr=>by
   induction r with
   |nil=>exact λ_=>W3 _
   |cons nv r ih=>
    intro q;rw[bu];split
    ·exact Xk _
    ·split
     ·exact Xk _
     ·rw[Xd,Xd];exact XT (ih _)
  have:=this rows q;rw[W0,Xd];exact Xg (by lia:_<=5) (by decide)
 refine⟨.inl ⟨rfl,_,ao⟩,_,ao,RS,?_⟩;rw[_root_.N.b8];refine⟨rfl,.inr ⟨ax G0,mM G0,.inl ⟨q,rows,κ,(by rw[pP];rfl),hr,hz,Tn,λUL RT=>?_⟩⟩⟩;have CA:up X pf (.lst ((q::bu rows q).map qD++[qD q])) pd=some (.lst ((q::bu rows q).map qD)):=by rw[ay Cz];exact pi
 have RU:pd≠UL:=cV CA RT;refine Ct Cy ao (by rw[ay RU];exact CA) ?_;exact az (by decide) (hN _ _ _ _ _ _ _ _ _ _ _ _ _)
end
variable {w:Wo}
theorem CC {xs:List D}{i:Int}{j:Nat} (e:i=(j:Int)) (h:j<=xs.length):cE xs none (some i)=xs.take j:=by
 subst e;unfold cE;rw[HT.EC,HT.EB,List.drop_zero,Nat.sub_zero,Nat.min_eq_left h]
theorem RV {xs:List D}{i:Int}{j:Nat}{d:D} (e:i=(j:Int)) (h:xs[j]?=some d):cf xs i=some d:=by
 subst e;have hl:j<xs.length:=(List.getElem?_eq_some_iff.mp h).1;unfold cf eK;rw[if_pos (Int.natCast_nonneg _),if_pos (by lia)];exact h
section
variable {N:St->Mp->Prop}{bk:St->Mp->Prop}{Q:QK}{sc:D} {κ:Kd} {q:Qn}{rows:List Nv}{pd:Addr}{X:Mp}{v1 v2 v5 v9 cy bn bv:Option D}
theorem RW (O:Lw w) (hN:∀ v1 v2 v3 v4 v5 v6 v7 v8 v9 cy bn bv M,N [some sc,v1,v2,v3,v4,v5,v6,v7,v8,v9,cy,bn,bv] M) (hr:mN rows) (hz:kz κ<900) (Tn:Cu [] rows κ q) :
  B.w (Tr w).wd nm.ai (fk 7 fj) { nx:=N,ct:=N,rt:=aW Q,bk:=bk } [some sc,v1,v2,some (b9 aM),some (kD (.ah κ)),v5,some (qD q),some (.lst (a6 rows)),some (.ref pd),v9,cy,bn,bv] (up X pd (.lst ([q].map qD))):=by
 have ut:(a6 rows).length=rows.length:=by unfold a6;rw[W0]
 have hl:=hr.1;have mO:∀(u9 fU:Option D),B.w (Tr w).wd nm.ai (fk 8 fj) { nx:=N,ct:=N,rt:=aW Q,bk:=bk } [some sc,v1,v2,some (b9 aM),some (kD (.ah κ)),v5,some (qD q),some (.lst (a6 rows)),some (.ref pd),u9,fU,bn,bv] (up X pd (.lst ((q::bu rows q).map qD))):=λ_ _=>RO hN hr hz Tn ao;refine⟨Int.le_trans (by decide:-(2 ^ 62)<=(0:Int)) (Int.natCast_nonneg _),Int.lt_of_le_of_lt (by lia:((a6 rows).length:Int)<=4) (by decide),?_⟩;refine d0 (λxs τ M'=>∃pre rest init cur u9 fU,xs=(List.range' pre.length rest.length).map (λi:Nat=>D.int (0+(i:Int)))/\rows=pre++rest/\init++cur::bu rest cur=q::bu rows q/\init.length<=pre.length/\Cu pre rest κ cur/\τ=[some sc,v1,v2,some (b9 aM),some (kD (.ah κ)),v5,some (qD q),some (.lst (a6 rows)),some (.ref pd),u9,fU,bn,bv]/\M'=up X pd (.lst ((init++[cur]).map qD))) ?_ ?_ _ _ _ ⟨[],rows,[],q,v9,cy,by rw[ut];show (Yw rows.length).map _=_;rw[List.range_eq_range'];rfl,rfl,rfl,W3 _,Tn,rfl,rfl⟩
 ·rintro τ M' ⟨pre,rest,init,cur,u9,fU,e1,e2,e3,hi,Tn,rfl,rfl⟩;have:rest=[]:=by
   have:=congrArg YZ e1;rw[W0,List.length_range']at this;exact List.length_eq_zero_iff.mp this.symm
  subst this;have e3:init++[cur]=q::bu rows q:=e3;rw[e3];exact⟨trivial,.rfl (mO u9 fU)⟩
 ·rintro d xs τ M' ⟨pre,rest,init,cur,u9,fU,e1,e2,e3,hi,Tn,rfl,rfl⟩;cases rest with
  |nil=>cases e1
  |cons nv rest=>
   rw[Xd,List.range'_succ,Xe]at e1;cases e1;obtain⟨m,hm,hv⟩:=hr.2 nv (by rw[e2];simp);have e6:∀nv∈pre,∃m∈bJ,d7 nv m:=λnv hn=>hr.2 nv (by rw[e2];exact Yx _ hn);have uU:mN (pre++[nv]):=⟨by have:=congrArg YZ e2;rw[Xf]at this;rw[Xd]at this;rw[Xf,Yl];lia,λji hn=>by
    rcases List.mem_append.mp hn with z |z
    ·exact e6 ji z
    ·rw[List.mem_singleton.mp z];exact⟨m,hm,hv⟩⟩
   have pl:pre.length<=4:=by have:=uU.1;rw[Xf]at this;lia
   have hlen:pre.length+1<=(a6 rows).length:=(by rw[ut,e2,Xf,Xd];lia);have gr:(a6 rows)[pre.length]?=some (dD (aL nv)):=by
    unfold a6;rw[Xj,e2,XB (W3 _),Nat.sub_self];rfl
   have RX:cE (a6 rows) none (some (0+(pre.length:Int)+1))=a6 (pre++[nv]):=by
    rw[CC (j:=pre.length+1) (by lia) hlen];unfold a6;rw[<- List.map_take,e2,show pre++nv::rest=(pre++[nv])++rest by simp,List.take_left' (by simp)]
   obtain⟨c1,c2,c3⟩:=Tn.iR;have stop:∀{N':St->Mp->Prop}{r:List D} (u9:Option D),bu (nv::rest) cur=[]->B.w (Tr w).wd nm.ai (i3 (kA (fe (fk 7 fj)))) { nx:=N',ct:=N',rt:=aW Q,bk:=cO (fun τ M=>B.w (Tr w).wd nm.ai (fk 8 fj) { nx:=N,ct:=N,rt:=aW Q,bk:=bk } τ M) } [some sc,v1,v2,some (b9 aM),some (kD (.ah κ)),v5,some (qD q),some (.lst (a6 rows)),some (.ref pd),u9,some (.tup (.str "none"::r)),bn,bv] (up X pd (.lst ((init++[cur]).map qD))):=λ{N' r} u9 e=>by
    refine⟨_,ew,au (aX (by decide) (.rfl ?_))⟩;rw[e]at e3;rw[e3];exact mO _ _
   have go:∀{N':St->Mp->Prop}{p:Qn}{d:D} (u9:Option D),(∀u9 fU:Option D,N' [some sc,v1,v2,some (b9 aM),some (kD (.ah κ)),v5,some (qD q),some (.lst (a6 rows)),some (.ref pd),u9,fU,bn,bv] (up X pd (.lst ((init++[cur]++[p]).map qD))))->d6 p=false->d=qD p->B.w (Tr w).wd nm.ai (i3 (kA (fe (fk 7 fj)))) { nx:=N',ct:=N',rt:=aW Q,bk:=cO (fun τ M=>B.w (Tr w).wd nm.ai (fk 8 fj) { nx:=N,ct:=N,rt:=aW Q,bk:=bk } τ M) } [some sc,v1,v2,some (b9 aM),some (kD (.ah κ)),v5,some (qD q),some (.lst (a6 rows)),some (.ref pd),u9,some d,bn,bv] (up X pd (.lst ((init++[cur]).map qD))):=λ{N' p d} u9 ev z hd=>by
    obtain⟨r,a1⟩:=dH p;have hw:wd p≠"none":=λy=>(by rw[mF,y]at z;exact absurd z (by decide));have hd':=hd.trans a1;subst hd';refine⟨_,ew,au (dp hw ?_)⟩;refine⟨.inl ⟨rfl,_,ao⟩,_,ao,Xg (by rw[W0,Xf,Yl];lia:_<=5) (by decide),?_⟩;have:=ev u9 (some (.tup (.str (wd p)::r)));rw[Xn (l₁:=init++[cur])]at this;rw[_root_.N.b8,<- a1];rw[<- a1]at this;exact this
   refine⟨trivial,λN' ev=>.inl ⟨_,ao,_,(by rw[Xn];exact o7),_,RV (by lia) gr,rfl,.inr ⟨ax G0,mM G0,.inl (.inl ?_)⟩⟩⟩;have call:∀(f d:D) (ds:List D),f=dD (ax G0)->ds=a6 (pre++[nv])->uO [.lst ds] (up X pd (.lst ((init++[cur]).map qD))) (λK M1=>pL [qD cur,dD (aL nv),f,K] M1 (λd M2=>B.w (Tr w).wd nm.ai (i3 (kA (fe (fk 7 fj)))) { nx:=N',ct:=N',rt:=aW Q,bk:=cO (fun τ M=>B.w (Tr w).wd nm.ai (fk 8 fj) { nx:=N,ct:=N,rt:=aW Q,bk:=bk } τ M) } [some sc,v1,v2,some (b9 aM),some (kD (.ah κ)),v5,some (qD q),some (.lst (a6 rows)),some (.ref pd),some (.int (0+(pre.length:Int))),some d,bn,bv] M2) X0) X0:=by
    rintro f d ds rfl rfl;refine⟨pre++[nv],rfl,uU,λK st=>?_⟩;refine⟨nv,ax G0,dD K,Sr pre,G0,cur,κ,kx.map (·.1),rfl,d5.Uc G0,λy k e=>st.iF uU.2 (.inl rfl) y k ((Cp hm hv).le y k e),Tn.ty,c1,c2,(by decide:3<500),(by decide:25<64),c3,?_⟩;cases e:aA nv cur with
    |none=>exact stop _ (uP e)
    |some p=>
     cases z:d6 p with
     |true=>
      obtain⟨r,a1⟩:=dH p;have hw:wd p="none":=(by rw[mF]at z;exact of_decide_eq_true z);rw[hw]at a1;have:=λu9=>stop (N':=N') (r:=r) u9 (uQ e z);rw[<- a1]at this;exact this _
     |false=>
      refine go _ (λu9 fU=>ev _ _ ⟨pre++[nv],rest,init++[cur],p,u9,fU,?_,by rw[e2];simp,?_,by simp;lia,Tn.step hz hm hv e,rfl,rfl⟩) z rfl
      ·rw[Xf,Yl]
      ·rw[uR e z]at e3;rw[<- e3];simp
   exact call _ .aj _ (by rw[pP];rfl) RX
end
variable {w:Wo}
theorem Bg.of {q:Qn}{r A E F R:Nat} (hd:dq q<=E) (hn:NQ.nq q<=A) (hf:fs q<=F) (hr:r<=R) (h1:E+R * (2 * F+3)<=60) (h2:A * gA F ^ (R-1)<1000000):Bg r q:=by
 refine⟨?_,.inr (Xg (Nat.mul_le_mul hn (W9 (Nat.pow_le_pow_left (uM hf) _) (Nat.pow_le_pow_right (Xl (by decide:0<6) (jf _)) (by lia)))) h2)⟩;have:=Nat.mul_le_mul hr (show 2 * fs q+3<=2 * F+3 by lia);lia
theorem RY {κ:Kd} (hκ:.ah κ∈AK) {r:Int} (h0:0<=r) (h3:r<3):∃n:Int,cf [D.int 5,.int 3,.int 2] r=some (.int n)/\0<n/\n<2 ^ 200/\∀j:Int,j<n->j<=4/\∀q sc,GQ (1+r) (.ah κ) sc q->Bg j.toNat q:=by
 have key:∀{q sc} {f:Nat},GQ (f:Int) (.ah κ) sc q->nq q<=zf f/\dq q<=9 * f+9/\9 * fs q+1<=9 * f+9:=λ{q sc f} g=>by
  obtain⟨_,b2,_,b4⟩:=fK (f:=(f:Int)) hκ;rw[YB]at b2 b4;have:=hY q;have:=g.d
  exact⟨W9 g.n b2,by lia,by lia⟩
 have:r=0\/r=1\/r=2:=by lia
 rcases this with rfl |rfl |rfl
 ·refine⟨5,rfl,by decide,by decide,λj hj=>⟨by lia,λq sc g=>?_⟩⟩;obtain⟨a,b,c⟩:=key (f:=1) g;exact .of (A:=110) (R:=4) (F:=1) b a (by lia) (by lia) (by decide) (by decide)
 ·refine⟨3,rfl,by decide,by decide,λj hj=>⟨by lia,λq sc g=>?_⟩⟩;obtain⟨a,b,c⟩:=key (f:=2) g;exact .of (A:=590) (R:=2) (F:=2) b a (by lia) (by lia) (by decide) (by decide)
 ·refine⟨2,rfl,by decide,by decide,λj hj=>⟨by lia,λq sc g=>?_⟩⟩;obtain⟨a,b,c⟩:=key (f:=3) g;exact .of (A:=2990) (R:=1) (F:=3) b a (by lia) (by lia) (by decide) (by decide)
section
variable {N:St->Mp->Prop}{bk:St->Mp->Prop}{Q:QK}{sc:D}{c:Int}{M:Mp}{v2 v3 v4 v5 v6 v7 v8 v9 cy bn bv:Option D}
theorem RZ (O:Lw w) (hN:∀ v1 v2 v3 v4 v5 v6 v7 v8 v9 cy bn bv M,N [some sc,v1,v2,v3,v4,v5,v6,v7,v8,v9,cy,bn,bv] M) :
  B.w (Tr w).wd nm.ai fj { nx:=N,ct:=N,rt:=aW Q,bk:=bk } [some sc,some (.int c),v2,v3,v4,v5,v6,v7,v8,v9,cy,bn,bv] M:=by
 refine⟨c,rfl,λp o hp so=>⟨rfl,l3,.inl ⟨p,3,rfl,⟨o,ao,so⟩,by decide,by decide,λr X1 u1 r0 r1=>?_⟩⟩⟩;obtain⟨d,e1,e2⟩:=et (xs:=[.str "r",.str "t",.str "u"]) r0 r1;obtain⟨x,κ,rfl,hx,hκ⟩:∃x κ,d=.str x/\kS x=some κ/\.ah κ∈AK:=by
  simp only[XI,Xq,or_false]at e2;rcases e2 with z |z |z
  ·exact⟨"r",i4,z,by decide +kernel,by decide +kernel⟩
  ·exact⟨"t",.num,z,by decide +kernel,by decide +kernel⟩
  ·exact⟨"u",fJ,z,by decide +kernel,by decide +kernel⟩
 refine⟨_,e1,Cf hx ⟨l2,?_⟩⟩;refine⟨p,3,rfl,u1.hs,by decide,by decide,λr2 X2 u2 mv i9=>?_⟩;have i9:r2<3:=i9;have Te:=fg hκ;have hz:=ph (gB hκ);refine⟨rfl,.ah κ,G0,1+r2,p,rfl,hκ,by unfold Rk;rw[Tv];lia,RN (by lia),u2.hs,λq X3 u3 g=>?_⟩;obtain⟨n,Ti,a2,To,Tp⟩:=RY hκ mv i9;refine⟨l4,.inl ⟨l3,.inl ⟨_,Ti,p,n,rfl,u3.hs,a2,To,λj X4 u4 U0 j1=>.inl ?_⟩⟩⟩;obtain⟨WX,hb⟩:=Tp j j1;have hb:=hb q G0 g;obtain⟨jn,hj⟩:∃jn:Nat,j=(jn:Int):=⟨j.toNat,by lia⟩;subst hj;rw[YB]at hb;have ct:cE [D.str "d",.str "e",.str "f",.str "g"] none (some (jn:Int))=(bJ.take jn).map D.str:=by
  rw[CC rfl (by show jn<=4;lia),List.map_take];rfl
 have main:∀xs,xs=(bJ.take jn).map D.str->cK (λ_=>True) (.one 0) gn (E.w (Tr w).wd nm.ai (.call 56 (.cons (.v 1) (.cons (.v 0) .nil)))).1 [none,some (.ref p)] (λys M2=>bQ ys M2 λd M3=>B.w (Tr w).wd nm.ai (fk 6 fj) { nx:=N,ct:=N,rt:=aW Q,bk:=bk } [some sc,some (.int c),some (.ref p),some (b9 aM),some (kD (.ah κ)),some (.int r2),some (qD q),some d,v8,v9,cy,bn,bv] M3) xs [] X4:=by
  rintro _ rfl;have lt:(bJ.take jn).length=jn:=by rw[List.length_take];show min jn 4=jn;lia
  refine e8 (λxs ys M'=>∃done rest rows,xs=rest.map D.str/\bJ.take jn=done++rest/\ys=a6 rows/\Hs M' p/\rows.length=done.length/\∀nv∈rows,∃m∈bJ,d7 nv m) ?_ ?_ _ _ _ ⟨[],bJ.take jn,[],rfl,rfl,rfl,u4.hs,rfl,λ_ z=>(nomatch z)⟩
  ·rintro ys M' ⟨done,rest,rows,e3,e4,rfl,dL,hl,hr⟩;have:rest=[]:=(by simpa using e3.symm);subst this;rw[Xo]at e4;have hl:rows.length=jn:=(by rw[hl,<- e4,lt]);refine⟨trivial,Xg (by unfold a6;rw[W0];lia:_<=4) (by decide),.inl ⟨l1,.inr λpd pi=>?_⟩⟩;exact RW (κ:=κ) O hN ⟨by lia,hr⟩ hz ⟨g.ty.mono (λx k e=>kB.mpr ⟨.inl (RC e),ky e⟩) λ_ _ z=>z,by rw[hl];exact hb⟩
  ·rintro y xs ys M' ⟨done,rest,rows,e3,e4,rfl,dL,hl,hr⟩;cases rest with
   |nil=>cases e3
   |cons m rest=>
    cases e3;have hm:m∈bJ:=List.mem_of_mem_take (i:=jn) (by rw[e4];simp);have dl:done.length<=4:=by have:=congrArg YZ e4;rw[lt,Xf]at this;lia
    refine⟨trivial,Xg (by unfold a6;rw[W0];lia:_<=4) (by decide),λN' ev=>⟨p,m,rfl,hm,dL,λnv Y u hv=>ev _ _ ⟨done++[m],rest,rows++[nv],rfl,by rw[e4];simp,by unfold a6;rw[Xn];rfl,u.hs,by rw[Xf,Xf,hl];rfl,λji hn=>?_⟩⟩⟩;rcases List.mem_append.mp hn with z |z
    ·exact hr ji z
    ·rw[List.mem_singleton.mp z];exact⟨m,hm,hv⟩
 exact main _ ct
end
theorem R0 (O:Lw w):FO w 57 140 spLaw:=by
 refine aJ O.ok O.hn _ ⟨"law",aa 88,["script"]⟩ (by rw[O.hd];rfl) (Tr w) { cs:=⟨⟨1,by decide,Kw O⟩,⟨1,by decide,pg O⟩,⟨1,by decide,i7 O⟩,⟨2,by decide,Q9 O⟩,⟨84,by decide,(AU O 80).a⟩,⟨2,by decide,Rn O⟩,⟨2,by decide,Rv O⟩,⟨10,by decide,B4 O⟩,⟨11,by decide,RI O⟩,trivial⟩ } RL RM λds M Q _ h=>?_;obtain⟨ns,rfl,hl,h⟩:=h;have cl:(cE (ns.map D.int) none (some 8)).length<=63:=by
  unfold cE;rw[List.length_take,List.length_drop,W0];lia
 refine⟨rfl,.inl ⟨l1,.inl ⟨W9 (by show _+1<=100;lia) (by decide:100<=sizeLine),.inl ?_⟩⟩⟩;refine d0 (λxs τ M'=>(∀d∈xs,∃i,d=.int i)/\∃v1 v2 v3 v4 v5 v6 v7 v8 v9 cy bn bv,τ=[some (.lst (ns.map D.int)),v1,v2,v3,v4,v5,v6,v7,v8,v9,cy,bn,bv]) ?_ ?_ _ _ _ ⟨λd hd=>?_,none,none,none,none,none,none,none,none,none,none,none,none,rfl⟩
 ·rintro τ M' ⟨_,v1,v2,v3,v4,v5,v6,v7,v8,v9,cy,bn,bv,rfl⟩;exact⟨trivial,.rfl (ar (h _))⟩
 ·rintro x xs τ M' ⟨hi,v1,v2,v3,v4,v5,v6,v7,v8,v9,cy,bn,bv,rfl⟩;obtain⟨i,rfl⟩:=hi x W';refine⟨trivial,λN hN=>?_⟩;exact RZ O (c:=i) (λv1 v2 v3 v4 v5 v6 v7 v8 v9 cy bn bv X'=>hN _ _ ⟨λd hd=>hi d (W8 _ hd),v1,v2,v3,v4,v5,v6,v7,v8,v9,cy,bn,bv,rfl⟩)
 ·rcases List.mem_append.mp hd with z |z
  ·unfold cE at z;obtain⟨i,_,e⟩:=List.mem_map.mp (List.mem_of_mem_drop (List.mem_of_mem_take z));exact⟨i,e.symm⟩
  ·exact⟨_,List.mem_singleton.mp z⟩
end K33
end
section
namespace NH
open PySem N NQ
open L2
def pQ (K:PySem.W.Frag) (d:Ds):Prop:=∃(n:Str) (f:Addr) (fd:FuncData),PySem.W.nsIn K mainGlobals d.x=some (some (.ref f))/\dA K n n d.st f fd
theorem R1 {K:PySem.W.Frag}{d:Ds}{n:Str}{f:Addr}{oc:Value}{od Tg:Option Addr}{co:Array (Option Value)}{kV doc pm an ct:Value} (a:PySem.W.nsIn K mainGlobals d.x=some (some (.ref f)))
  (l:K.lookup f=some ⟨oc,od,.func (PySem.W.fnOf n n (ei d.st) (av d.st) (ag d.st) .none kV doc pm Tg an ct),co⟩) (c:PySem.W.codeIn K an n=true) (k:PySem.W.keepIn K (.ref f)=true):pQ K d:=⟨n,f,_,a,qK l c k⟩
def uV (d:Ds):Prop:=∀(n:Str) (kV doc pm:Value) (Tg:Option Addr) (an ct:Value) (us:List Value),us.length=d.ps.length->bindArgs (PySem.W.fnOf n n (ei d.st) (av d.st) (ag d.st) .none kV doc pm Tg an ct) ⟨us,[]⟩=pure (d.ps.zip us)
theorem uW {P:List Value->Prop} (h:P []):∀us,us.length=0->P us
 |[],_=>h
theorem dr {P:List Value->Prop} (h:∀a,P [a]):∀us,us.length=1->P us
 |a::us,e=>uW (P:=λus=>P (a::us)) (h a) us (Zl e)
theorem bS {P:List Value->Prop} (h:∀a b,P [a,b]):∀us,us.length=2->P us
 |a::us,e=>dr (P:=λus=>P (a::us)) (h a) us (Zl e)
theorem cz {P:List Value->Prop} (h:∀a b c,P [a,b,c]):∀us,us.length=3->P us
 |a::us,e=>bS (P:=λus=>P (a::us)) (h a) us (Zl e)
theorem kC {P:List Value->Prop} (h:∀a b c d,P [a,b,c,d]):∀us,us.length=4->P us
 |a::us,e=>cz (P:=λus=>P (a::us)) (h a) us (Zl e)
def mP (K:PySem.W.Frag):List Ds->Prop
 |[]=>True
 |d::r=>(pQ K d/\uV d)/\mP K r
theorem mP.at {K:PySem.W.Frag}:∀{l:List Ds}{i:Nat}{d:Ds},mP K l->l[i]?=some d->pQ K d/\uV d
 |[],_,_,_,h=>by simp at h
 |e::r,0,d,a,h=>by simp at h;rw[<- h];exact a.1
 |e::r,i+1,d,a,h=>mP.at a.2 (by simpa using h)
def jk (K:PySem.W.Frag) (C:Addr) (d:Ds):Prop:=∃(q:Str) (f:Addr) (fd:FuncData),dA K d.x q d.st f fd/\jC K C d.x f/\bM K fd d.ps []
theorem mQ {K:PySem.W.Frag}{C:Addr}{d:Ds}{q:Str}{f:Addr}{oc:Value}{od Tg:Option Addr}{co:Array (Option Value)}{kV doc pm an ct:Value} (a:PySem.W.findIn K (.ref C) d.x=some (some (.ref f)))
  (l:K.lookup f=some ⟨oc,od,.func (PySem.W.fnOf d.x q (ei d.st) (av d.st) (ag d.st) .none kV doc pm Tg an ct),co⟩) (c:PySem.W.codeIn K an q=true) (k:PySem.W.keepIn K (.ref f)=true) (n:PySem.W.isFn K (.ref f)=true)
  (b:∀us:List Value,us.length=d.ps.length->bindArgs (PySem.W.fnOf d.x q (ei d.st) (av d.st) (ag d.st) .none kV doc pm Tg an ct) ⟨us,[]⟩=pure (d.ps.zip us)):jk K C d:=⟨q,f,_,qK l c k,⟨a,n,k⟩,.all b⟩
noncomputable def eB (mg:Str->Option Value) (x:Str):Addr:=match mg x with
 |some (.ref f)=>f
 |_=>0
noncomputable def pR (mg:Str->Option Value) (t:List (Str×Str)):D:=.ak (t.map λp=>.inr p.1) (t.map λp=>.ref (eB mg p.2))
inductive jl (P:Params) (K:PySem.W.Frag):List DictEntry->List (Str×Str)->Prop
 |nil:jl P K [] []
 |cons {e:DictEntry}{es:List DictEntry}{x g:Str}{n:Tok}{f:Addr}{t:List (Str×Str)}:e.key=.str x n->e.hash=PyData.keyHash P x->e.val=.ref f->PySem.W.nsIn K mainGlobals g=some (some (.ref f))->jl P K es t->jl P K (e::es) ((x,g)::t)
structure pS (P:Params) (K:PySem.W.Frag) (x:Str) (t:List (Str×Str)):Prop where
 ex:∃(a:Addr) (es:List DictEntry) (n:Nat),PySem.W.nsIn K mainGlobals x=some (some (.ref a))/\K.lookup a=some ⟨.type "dict",none,.dict es.toArray n,#[]⟩/\(a == sysModules)=false/\jl P K es t
theorem CD {P:Params}{K:PySem.W.Frag}{x:Str}{t:List (Str×Str)}{a:Addr}{es:List DictEntry}{n:Nat} (h1:PySem.W.nsIn K mainGlobals x=some (some (.ref a))) (h2:K.lookup a=some ⟨.type "dict",none,.dict es.toArray n,#[]⟩) (h3:(a == sysModules)=false) (h4:jl P K es t):pS P K x t:=⟨a,es,n,h1,h2,h3,h4⟩
section
variable {G:Gx}{h:Heap}{w:World}
theorem R2 {P:Params}{K:PySem.W.Frag}{es:List DictEntry}{t:List (Str×Str)} (T:jl P K es t):∀e∈es,∃x n,e.key=.str x n/\e.hash=PyData.keyHash P x:=by
 induction T with
 |nil=>exact λe h=>(nomatch h)
 |cons h1 h2 _ _ _ ih=>
  intro e he;rcases List.mem_cons.mp he with z |z
  ·subst z;exact⟨_,_,h1,h2⟩
  ·exact ih e z
theorem R3 {K:PySem.W.Frag}{P:Params}{mg:Str->Option Value}{prog:Program} (X:K.In h) (Gn:h.Ns mainGlobals mg) {es:List DictEntry}{t:List (Str×Str)} (T:jl P K es t):Pairs (bo prog w) es ((t.map λp=>(Yr p.1:Key)).zip (t.map λp=>XC (eB mg p.2))):=by
 induction T with
 |nil=>exact .nil
 |@cons e es x g n f t h1 h2 h3 h4 _ ih=>
  refine .cons (kv:=(Yr x,XC (eB mg g))) (by show fm (.inr x) e.key=true;rw[h1];exact pX x n) ?_ ih;rw[h3];show XC f=XC (eB mg g);unfold eB;rw[PySem.W.mg_of X Gn h4]
theorem CE {F:Fz} {α:Type} (a:α->Addr):∀l:List α,af G F (l.map λp=>.ref (a p)) (l.map λp=>.ref (a p))
 |[]=>.nil
 |x::r=>.cons (by rw[ab]) (CE a r)
theorem CF {K:PySem.W.Frag}{mg:Str->Option Value}{x:Str}{t:List (Str×Str)} (hK:G.K=K) (hmg:G.mg=mg) (hb:K.In G.base) (X:K.In h) (Gn:h.Ns mainGlobals mg) (nd:(t.map (·.1)).Nodup) (hl:t.length<=100) (T:pS G.w.params K x t):∃u,mg x=some u/\∀F:Fz,(∀b o,G.base.get? b=some o->F b=some (.dat o))->ab G F (pR mg t) u:=by
 obtain⟨a,es,n,h1,h2,h3,h4⟩:=T.ex;refine⟨.ref a,PySem.W.mg_of X Gn h1,λF hF=>?_⟩;have o:=hF a _ (hb a _ h2);unfold pR;rw[ab];refine⟨a,_,t.map λp=>XC (eB mg p.2),rfl,o,⟨⟨rfl,rfl,rfl⟩,⟨es.toArray,n,rfl,λe he=>?_,?_⟩,?_,by simp,?_⟩,h3,CE (λp:Str×Str=>eB mg p.2) t⟩
 ·obtain⟨x,n,e1,e2⟩:=R2 h4 e (by simpa using he);exact⟨.inr x,by show fm (.inr x) e.key=true;rw[e1];exact pX x n,e2⟩
 ·exact R3 X Gn h4
 ·have:(t.map λp=>(Yr p.1:Key))=(t.map (·.1)).map Yr:=by rw[Yd];rfl
  rw[this];exact List.pairwise_map.mpr (nd.imp λh e=>h (Zk e))
 ·rw[W0];exact W9 hl (by decide)
noncomputable def mR:List Value->List Str->Bool
 |[],[]=>true
 |.str y _::r,x::s=>decide (y=x) && mR r s
 |_,_=>false
theorem jR {F:Fz}:∀{us:List Value}{xs:List Str},mR us xs=true->af G F (xs.map D.str) us
 |[],[],_=>.nil
 |.str y t::r,x::s,h=>by
  rw[mR,W7]at h;cases of_decide_eq_true h.1;exact .cons (by rw[ab];exact⟨t,rfl⟩) (jR h.2)
structure kE (K:PySem.W.Frag) (x:Str) (xs:List Str):Prop where
 ex:∃(a:Addr) (us:List Value) (n:Nat),PySem.W.nsIn K mainGlobals x=some (some (.ref a))/\K.lookup a=some ⟨.type "tuple",none,.seq us.toArray n,#[]⟩/\mR us xs=true
theorem pT {K:PySem.W.Frag}{x:Str}{xs:List Str}{a:Addr}{us:List Value}{n:Nat} (h1:PySem.W.nsIn K mainGlobals x=some (some (.ref a))) (h2:K.lookup a=some ⟨.type "tuple",none,.seq us.toArray n,#[]⟩) (h3:mR us xs=true):kE K x xs:=⟨a,us,n,h1,h2,h3⟩
theorem pU {K:PySem.W.Frag}{mg:Str->Option Value}{x:Str}{xs:List Str} (hb:K.In G.base) (X:K.In h) (Gn:h.Ns mainGlobals mg) (hl:xs.length<=100) (T:kE K x xs):∃u,mg x=some u/\∀F:Fz,(∀b o,G.base.get? b=some o->F b=some (.dat o))->ab G F (.tup (xs.map D.str)) u:=by
 obtain⟨a,us,n,h1,h2,h3⟩:=T.ex;refine⟨.ref a,PySem.W.mg_of X Gn h1,λF hF=>?_⟩;have rs:=jR (G:=G) (F:=F) h3;exact nj (hF a _ (hb a _ h2)) ⟨rfl,rfl,⟨n,rfl⟩,by rw[<- rs.len,W0];exact W9 hl (by decide)⟩ rs
theorem CG {K:PySem.W.Frag}{d:Ds} (hK:G.K=K) (X:K.In h) (Gn:h.Ns mainGlobals G.mg) (a:pQ K d) (b:uV d):∃f fd,l0 G d.x d.st f fd d.ps:=by
 obtain⟨n,f,fd,e,F⟩:=a;subst hK;refine⟨f,fd,⟨n,F⟩,F.iA (b n),PySem.W.mg_of X Gn e⟩
end
end NH
end
section
namespace K33
open PySem N NQ NH
open L2
noncomputable def CH:List Str:=["HAVE_MORE","NUMBER","WORD","TRUTH","FINISHED","SUMS"]
noncomputable def CI:List (Str×Str):=[("both","both_differences"),("for","for_differences")]
noncomputable def CJ (mg:Str->Option Value):List D:=[.tup (pe.map D.str),kD .num,kD .word,.tup [.str "truth"],pR mg K33.bz,pR mg CI]
noncomputable def wO (G:Gx) (C:Addr):Wo where
 G:=G
 ds:=ey
 fF:=nm.fF
 gv:=CJ G.mg++ey.map λd=>.ref (eB G.mg d.x)
 fl:=λc f=>c=C/\(f="waiting"\/f="found")
 cls:=nm.cls
 ca:=λ_=>C
 ms:=o8
 mc:=λ_=>C
theorem R4 {i:Nat}{x:Str} (h:nm.fF[i]?=some x):(i<6/\CH[i]?=some x)\/∃j d,i=6+j/\ey[j]?=some d/\d.x=x:=by
 have e:nm.fF=CH++ey.map (·.x):=by kernel_rfl
 rw[e]at h;by_cases hi:i<6
 ·rw[XO hi]at h;exact .inl ⟨hi,h⟩
 ·rw[XB (by show 6<=i;lia),Xj]at h;obtain⟨d,h1,h2⟩:=Option.map_eq_some_iff.mp h;exact .inr ⟨i-6,d,by lia,h1,h2⟩
structure pV (K:PySem.W.Frag) (x:Str) (st:Stmt) (c T:Addr):Prop where
 d:∃(n:Str) (f:Addr) (fd:FuncData),PySem.W.nsIn K mainGlobals x=some (some (.ref f))/\dA K n n st f fd/\fd.code=.ref c/\n=x
 h:PySem.W.codeHdIn K c T=true
theorem CK {K:PySem.W.Frag}{x:Str}{st:Stmt}{c T f:Addr}{oc:Value}{od Tg:Option Addr}{co:Array (Option Value)}{kV doc pm ct:Value} (a:PySem.W.nsIn K mainGlobals x=some (some (.ref f)))
  (l:K.lookup f=some ⟨oc,od,.func (PySem.W.fnOf x x (ei st) (av st) (ag st) .none kV doc pm Tg (.ref c) ct),co⟩) (Wk:PySem.W.codeIn K (.ref c) x=true) (k:PySem.W.keepIn K (.ref f)=true) (h:PySem.W.codeHdIn K c T=true):pV K x st c T:=⟨⟨x,f,_,a,qK l Wk k,rfl,rfl⟩,h⟩
structure mS (P:Params) (K:PySem.W.Frag) (C:Addr):Prop where
 ds:mP K ey
 s0:kE K "HAVE_MORE" pe
 s1:kE K "NUMBER" ["num"]
 s2:kE K "WORD" ["word"]
 s3:kE K "TRUTH" ["truth"]
 s4:pS P K "FINISHED" K33.bz
 s5:pS P K "SUMS" CI
 bi:iX.all (λx=>decide (PySem.W.nsIn K mainGlobals x=some none))=true
 wa:PySem.W.nsIn K mainGlobals "Walk"=some (some (.ref C))
 wc:cZ K C
 w1:ef K C "waiting"
 w2:ef K C "found"
 wm:PySem.W.makesIn K C=true
 wk:PySem.W.keepIn K (.ref C)=true
 m0:jk K C ⟨"__init__",(bh (aa 11) 0),["self"]⟩
 m1:jk K C ⟨"later",(bh (aa 11) 1),["self","step","question","around"]⟩
 m2:jk K C ⟨"tell",(bh (aa 11) 2),["self","result"]⟩
 m3:jk K C ⟨"take",(bh (aa 11) 3),["self","many"]⟩
 m4:jk K C ⟨"run",(bh (aa 11) 4),["self"]⟩
 la:pV K "alike" (aa 18) 167 163
 lb:pV K "behind" (aa 56) 367 363
 bt:∃(Th:Addr) (ob:Obj),PySem.W.nsIn K mainGlobals "__builtins__"=some (some (.ref Th))/\K.lookup Th=some ob/\Th≠builtinsNs/\Th≠mainGlobals/\Th≠163/\Th≠363/\ob.cls=.type "module"/\ob.dict=some builtinsNs/\ob.data=.plain
noncomputable def tbs2:gz:=[(163,pA.lp,"alike.<locals>.<lambda>"),(363,pB.np,"behind.<locals>."++pB.name)]
section
variable {P:Program}{w:World}{K:PySem.W.Frag}{mg:Str->Option Value}{base h:Heap}{C:Addr}
theorem R5 (X:K.In h) (Gn:h.Ns mainGlobals mg) (hb:K.In base) (F:mS w.params K C):(wO ⟨P,w,K,mg,base,N.bz tbs2⟩ C).Ok where
 df:=λi d hd=>let ⟨a,b⟩:=F.ds.at hd;CG (G:=⟨P,w,K,mg,base,N.bz tbs2⟩) rfl X Gn a b
 gv:=λi x hx=>by
  rcases R4 hx with ⟨h1,h2⟩ |⟨j,d,rfl,h1,rfl⟩
  ·rcases (by lia:i=0\/i=1\/i=2\/i=3\/i=4\/i=5) with rfl |rfl |rfl |rfl |rfl |rfl
   ·cases h2;exact pU (G:=⟨P,w,K,mg,base,N.bz tbs2⟩) hb X Gn (by decide) F.s0
   ·cases h2;exact pU (G:=⟨P,w,K,mg,base,N.bz tbs2⟩) hb X Gn (by decide) F.s1
   ·cases h2;exact pU (G:=⟨P,w,K,mg,base,N.bz tbs2⟩) hb X Gn (by decide) F.s2
   ·cases h2;exact pU (G:=⟨P,w,K,mg,base,N.bz tbs2⟩) hb X Gn (by decide) F.s3
   ·cases h2;exact CF (G:=⟨P,w,K,mg,base,N.bz tbs2⟩) rfl rfl hb X Gn A3 (by decide) F.s4
   ·cases h2;exact CF (G:=⟨P,w,K,mg,base,N.bz tbs2⟩) rfl rfl hb X Gn BZ (by decide) F.s5
  ·obtain⟨a,b⟩:=F.ds.at h1;obtain⟨f,fd,DF⟩:=CG (G:=⟨P,w,K,mg,base,N.bz tbs2⟩) rfl X Gn a b;refine⟨.ref f,DF.mg,λFz _=>?_⟩;have e:(wO ⟨P,w,K,mg,base,N.bz tbs2⟩ C).gv.getD (6+j) .aj=.ref f:=by
    show (CJ mg++ey.map λd=>D.ref (eB mg d.x):List D).getD (6+j) .aj=_;rw[Xs,XB (by show 6<=6+j;lia)];show ((ey.map λd=>D.ref (eB mg d.x))[6+j-6]?).getD .aj=_;rw[Nat.add_sub_cancel_left,Xj,h1];show D.ref (eB mg d.x)=_;have:mg d.x=some (.ref f):=DF.mg;unfold eB;rw[this]
   rw[e,ab]
 bl:=λx hx=>PySem.W.mg_none_of X Gn (of_decide_eq_true (List.all_eq_true.mp F.bi x hx))
 fl:=λc f h=>by
  obtain⟨rfl,e |e⟩:=h
  ·rw[e];exact⟨F.wc,F.w1⟩
  ·rw[e];exact⟨F.wc,F.w2⟩
 mt:=λi d hd=>by
  have mk:∀{d:Ds},jk K C d->∃f fd,tf K C d f fd:=λ⟨q,f,fd,F1,M1,Wn⟩=>⟨f,fd,⟨q,F1⟩,Wn,M1,F.wc⟩;have hd':o8[i]?=some d:=hd
  match i,hd' with
  | 0,e=>cases e;exact mk F.m0
  | 1,e=>cases e;exact mk F.m1
  | 2,e=>cases e;exact mk F.m2
  | 3,e=>cases e;exact mk F.m3
  | 4,e=>cases e;exact mk F.m4
  |n+5,e=>cases e
 cl:=λi x hx=>by
  have cU:(["Walk"]:List Str)[i]?=some x:=hx
  match i,cU with
  | 0,e=>cases e;exact⟨PySem.W.mg_of X Gn F.wa,λf a n=>⟨F.wm,a,n,F.wk⟩⟩
  |n+1,e=>cases e
theorem CL (X:K.In h) (Gn:h.Ns mainGlobals mg) (F:mS w.params K C) {x:Str}{st:Stmt}{c T:Addr}{p:Pos}{q0:Str} (A:pV K x st c T) (hT:tbs2.lookup T=some (p,x++q0)) (Wq:mainGlobals≠T) (nB:∀Th,Th≠163->Th≠363->Th≠T):∀f fd q,dA K q q st f fd->mg x=some (.ref f)->∃c T,fd.code=.ref c/\er ⟨P,w,K,mg,base,N.bz tbs2⟩ c T p (q++q0):=by
 intro f fd q Fn hm;obtain⟨n,f0,CN,e1,F0,e2,rfl⟩:=A.d;have m0:=PySem.W.mg_of X Gn e1;rw[m0]at hm;cases hm;obtain⟨oc,od,kV,doc,pm,Tg,an,ct,co,hf,l1,_⟩:=Fn.ex;obtain⟨R6,R7,R8,zD,R9,R',Sa,Sb,Se,CO,l2,_⟩:=F0.ex;rw[l1]at l2;injection l2 with l3;injection l3 with _ _ l4;injection l4 with l5;have Ws:fd=CN:=l5;have eq:q=n:=by
  have:fd.name=CN.name:=congrArg FuncData.name l5;rw[hf,CO]at this;exact this
 subst eq;subst Ws;obtain⟨Th,ob,b1,b2,Tj,b4,T5,Sf,T6,T7,T9⟩:=F.bt;exact⟨c,T,e2,A.h,⟨Th,ob,PySem.W.mg_of X Gn b1,b2,Tj,b4,nB Th T5 Sf,T6,T7,T9⟩,Wq,by show (tbs2.lookup T).map _=_;rw[hT];rfl⟩
theorem Sg (X:K.In h) (Gn:h.Ns mainGlobals mg) (hb:K.In base) (F:mS w.params K C):Lw (wO ⟨P,w,K,mg,base,N.bz tbs2⟩ C) where
 ok:=R5 X Gn hb F
 hn:=by show (⟨ey.map (·.x),nm.fF,nm.cls,o8.map (·.x)⟩:Nm)=nm;kernel_rfl
 hd:=rfl
 hms:=rfl
 g0:=rfl
 g1:=rfl
 g2:=rfl
 g3:=rfl
 gt:=rfl
 gs:=rfl
 gb:=rfl
 gd:=rfl
 gf:=rfl
 Vk:=rfl
 go:=rfl
 gp:=rfl
 ga:=rfl
 fw:=⟨rfl,.inl rfl⟩
 ff:=⟨rfl,.inr rfl⟩
 mc:=λ_ _=>rfl
 Uz:=by
  intro f fd q h1 h2;have:=CL (P:=P) (base:=base) X Gn F (p:=pA.lp) (q0:=".<locals>.<lambda>") F.la (by kernel_rfl) (by decide) (λ_ a _=>a) f fd q h1 h2;exact this
 UA:=by
  intro f fd q h1 h2;have:=CL (P:=P) (base:=base) X Gn F (p:=pB.np) (q0:=".<locals>."++pB.name) F.lb (by kernel_rfl) (by decide) (λ_ _ a=>a) f fd q h1 h2;exact this
end
section
variable {P:Program}{w:World}{K:PySem.W.Frag}{mg:Str->Option Value}{h:Heap}{C:Addr}
theorem law_ok {fa:Addr} (X:K.In h) (Gn:h.Ns mainGlobals mg) (CP:mg "law"=some (.ref fa)) (F:mS w.params K C) :
  ∃fd:FuncData,(∀(s:Shared) (v:Value),BindsTo s fd ⟨[v],[]⟩ [("script",v)])/\∀base:Heap,K.In base->base.Ns mainGlobals mg->bf ⟨P,w,K,mg,base,N.bz tbs2⟩ 140 fa fd ["script"] spLaw:=by
 obtain⟨a,b⟩:=F.ds.at (i:=57) (d:=⟨"law",aa 88,["script"]⟩) rfl;obtain⟨n,f,fd,e,Fn⟩:=a;have m1:=PySem.W.mg_of X Gn e;have m2:mg "law"=some (.ref f):=m1;rw[CP]at m2;cases m2;refine⟨fd,?_,λbase hb _=>?_⟩
 ·obtain⟨oc,od,kV,doc,pm,Tg,an,ct,co,rfl,lk,dv⟩:=Fn.ex;exact λs v=>.of_eq rfl
 obtain⟨d',f',zn,h1,D',Si⟩:=R0 (Sg (P:=P) (base:=base) X Gn hb F);have e:d'=⟨"law",aa 88,["script"]⟩:=by
  have h2:ey[57]?=some d':=h1;have h3:ey[57]?=some ⟨"law",aa 88,["script"]⟩:=rfl;rw[h3]at h2;cases h2;rfl
 subst e;have m3:mg "law"=some (.ref f'):=D'.mg;rw[CP]at m3;cases m3;obtain⟨_,Sj⟩:=D'.fn;obtain⟨oc,od,kV,doc,pm,Tg,an,ct,co,hf,l1,_⟩:=Fn.ex;obtain⟨R6,R7,R8,zD,R9,R',Sa,Sb,Se,CO,l2,_⟩:=Sj.ex;have Sl:K.lookup fa=_:=l1;have CQ:K.lookup fa=_:=l2;rw[Sl]at CQ;injection CQ with l3;injection l3 with _ _ l4;injection l4 with l5;rw[l5];exact Si
end
theorem room_law:bx 140 callerA:=⟨rfl,by decide,by decide⟩
theorem Tf:PySem.Challenge.rw_keptnest_k33_differences_list=PySem.Challenge.rw_keptnest_k33_differences_list/\zK=zK:=by k_fill;exact⟨rfl,rfl⟩
theorem zF (w:World):mS w.params (zK w.params) 124:=by
 refine' ⟨?ds,?s0,?s1,?s2,?s3,?s4,?s5,?bi,?wa,⟨?c1,?c2,?c3,?c4⟩,?w1,?w2,?wm,?wk,?m0,?m1,?m2,?m3,?m4,?la,?lb,?bt⟩
 case ds=>
  refine' ⟨⟨?_,λ_ _ _ _ _ _ _=>dr λ_=>rfl⟩,⟨⟨?_,λ_ _ _ _ _ _ _=>bS λ_ _=>rfl⟩,⟨⟨?_,λ_ _ _ _ _ _ _=>dr λ_=>rfl⟩,⟨⟨?_,λ_ _ _ _ _ _ _=>dr λ_=>rfl⟩,⟨⟨?_,λ_ _ _ _ _ _ _=>bS λ_ _=>rfl⟩,⟨⟨?_,λ_ _ _ _ _ _ _=>cz λ_ _ _=>rfl⟩,⟨⟨?_,λ_ _ _ _ _ _ _=>cz λ_ _ _=>rfl⟩,⟨⟨?_,λ_ _ _ _ _ _ _=>cz λ_ _ _=>rfl⟩,⟨⟨?_,λ_ _ _ _ _ _ _=>dr λ_=>rfl⟩,⟨⟨?_,λ_ _ _ _ _ _ _=>bS λ_ _=>rfl⟩,⟨⟨?_,λ_ _ _ _ _ _ _=>cz λ_ _ _=>rfl⟩,⟨⟨?_,λ_ _ _ _ _ _ _=>cz λ_ _ _=>rfl⟩,⟨⟨?_,λ_ _ _ _ _ _ _=>cz λ_ _ _=>rfl⟩,⟨⟨?_,λ_ _ _ _ _ _ _=>cz λ_ _ _=>rfl⟩,⟨⟨?_,λ_ _ _ _ _ _ _=>cz λ_ _ _=>rfl⟩,⟨⟨?_,λ_ _ _ _ _ _ _=>cz λ_ _ _=>rfl⟩,⟨⟨?_,λ_ _ _ _ _ _ _=>bS λ_ _=>rfl⟩,⟨⟨?_,λ_ _ _ _ _ _ _=>bS λ_ _=>rfl⟩,⟨⟨?_,λ_ _ _ _ _ _ _=>bS λ_ _=>rfl⟩,⟨⟨?_,λ_ _ _ _ _ _ _=>bS λ_ _=>rfl⟩,⟨⟨?_,λ_ _ _ _ _ _ _=>bS λ_ _=>rfl⟩,⟨⟨?_,λ_ _ _ _ _ _ _=>bS λ_ _=>rfl⟩,⟨⟨?_,λ_ _ _ _ _ _ _=>bS λ_ _=>rfl⟩,⟨⟨?_,λ_ _ _ _ _ _ _=>bS λ_ _=>rfl⟩,⟨⟨?_,λ_ _ _ _ _ _ _=>bS λ_ _=>rfl⟩,⟨⟨?_,λ_ _ _ _ _ _ _=>bS λ_ _=>rfl⟩,⟨⟨?_,λ_ _ _ _ _ _ _=>bS λ_ _=>rfl⟩,⟨⟨?_,λ_ _ _ _ _ _ _=>kC λ_ _ _ _=>rfl⟩,⟨⟨?_,λ_ _ _ _ _ _ _=>cz λ_ _ _=>rfl⟩,⟨⟨?_,λ_ _ _ _ _ _ _=>cz λ_ _ _=>rfl⟩,⟨⟨?_,λ_ _ _ _ _ _ _=>bS λ_ _=>rfl⟩,⟨⟨?_,λ_ _ _ _ _ _ _=>dr λ_=>rfl⟩,⟨⟨?_,λ_ _ _ _ _ _ _=>dr λ_=>rfl⟩,⟨⟨?_,λ_ _ _ _ _ _ _=>cz λ_ _ _=>rfl⟩,⟨⟨?_,λ_ _ _ _ _ _ _=>cz λ_ _ _=>rfl⟩,⟨⟨?_,λ_ _ _ _ _ _ _=>cz λ_ _ _=>rfl⟩,⟨⟨?_,λ_ _ _ _ _ _ _=>cz λ_ _ _=>rfl⟩,⟨⟨?_,λ_ _ _ _ _ _ _=>bS λ_ _=>rfl⟩,⟨⟨?_,λ_ _ _ _ _ _ _=>bS λ_ _=>rfl⟩,⟨⟨?_,λ_ _ _ _ _ _ _=>kC λ_ _ _ _=>rfl⟩,⟨⟨?_,λ_ _ _ _ _ _ _=>bS λ_ _=>rfl⟩,⟨⟨?_,λ_ _ _ _ _ _ _=>dr λ_=>rfl⟩,⟨⟨?_,λ_ _ _ _ _ _ _=>bS λ_ _=>rfl⟩,⟨⟨?_,λ_ _ _ _ _ _ _=>dr λ_=>rfl⟩,⟨⟨?_,λ_ _ _ _ _ _ _=>dr λ_=>rfl⟩,⟨⟨?_,λ_ _ _ _ _ _ _=>cz λ_ _ _=>rfl⟩,⟨⟨?_,λ_ _ _ _ _ _ _=>uW rfl⟩,⟨⟨?_,λ_ _ _ _ _ _ _=>dr λ_=>rfl⟩,⟨⟨?_,λ_ _ _ _ _ _ _=>bS λ_ _=>rfl⟩,⟨⟨?_,λ_ _ _ _ _ _ _=>kC λ_ _ _ _=>rfl⟩,⟨⟨?_,λ_ _ _ _ _ _ _=>cz λ_ _ _=>rfl⟩,⟨⟨?_,λ_ _ _ _ _ _ _=>cz λ_ _ _=>rfl⟩,⟨⟨?_,λ_ _ _ _ _ _ _=>kC λ_ _ _ _=>rfl⟩,⟨⟨?_,λ_ _ _ _ _ _ _=>kC λ_ _ _ _=>rfl⟩,⟨⟨?_,λ_ _ _ _ _ _ _=>uW rfl⟩,⟨⟨?_,λ_ _ _ _ _ _ _=>dr λ_=>rfl⟩,⟨⟨?_,λ_ _ _ _ _ _ _=>bS λ_ _=>rfl⟩,⟨⟨?_,λ_ _ _ _ _ _ _=>dr λ_=>rfl⟩,trivial⟩⟩⟩⟩⟩⟩⟩⟩⟩⟩⟩⟩⟩⟩⟩⟩⟩⟩⟩⟩⟩⟩⟩⟩⟩⟩⟩⟩⟩⟩⟩⟩⟩⟩⟩⟩⟩⟩⟩⟩⟩⟩⟩⟩⟩⟩⟩⟩⟩⟩⟩⟩⟩⟩⟩⟩⟩⟩
  all_goals (refine' R1 ?a ?l ?c ?k;(case a=>k_is);(case l=>k_is);(case c=>k_is);(case k=>k_is))
 case s0=>refine' pT ?a ?l ?c;(case a=>k_is);(case l=>k_is);(case c=>kernel_rfl)
 case s1=>refine' pT ?a ?l ?c;(case a=>k_is);(case l=>k_is);(case c=>kernel_rfl)
 case s2=>refine' pT ?a ?l ?c;(case a=>k_is);(case l=>k_is);(case c=>kernel_rfl)
 case s3=>refine' pT ?a ?l ?c;(case a=>k_is);(case l=>k_is);(case c=>kernel_rfl)
 case s4=>refine' CD ?a ?l ?z ?c;(case a=>k_is);(case l=>k_is);(case z=>rfl);(case c=>repeat (first |exact .nil |(refine' .cons rfl rfl rfl ?k ?_;(case k=>k_is))))
 case s5=>refine' CD ?a ?l ?z ?c;(case a=>k_is);(case l=>k_is);(case z=>rfl);(case c=>repeat (first |exact .nil |(refine' .cons rfl rfl rfl ?k ?_;(case k=>k_is))))
 case bi=>kernel_rfl
 (case wa=>k_is);(case c1=>k_is);(case c2=>k_is);(case c3=>k_is);(case c4=>k_is);(case w1=>show PySem.W.findIn _ _ _=_;k_is);(case w2=>show PySem.W.findIn _ _ _=_;k_is);(case wm=>k_is);(case wk=>k_is)
 case m0=>refine' mQ ?a ?l ?c ?k ?n (dr λ_=>rfl);(case a=>k_is);(case l=>k_is);(case c=>k_is);(case k=>k_is);(case n=>k_is)
 case m1=>refine' mQ ?a ?l ?c ?k ?n (kC λ_ _ _ _=>rfl);(case a=>k_is);(case l=>k_is);(case c=>k_is);(case k=>k_is);(case n=>k_is)
 case m2=>refine' mQ ?a ?l ?c ?k ?n (bS λ_ _=>rfl);(case a=>k_is);(case l=>k_is);(case c=>k_is);(case k=>k_is);(case n=>k_is)
 case m3=>refine' mQ ?a ?l ?c ?k ?n (bS λ_ _=>rfl);(case a=>k_is);(case l=>k_is);(case c=>k_is);(case k=>k_is);(case n=>k_is)
 case m4=>refine' mQ ?a ?l ?c ?k ?n (dr λ_=>rfl);(case a=>k_is);(case l=>k_is);(case c=>k_is);(case k=>k_is);(case n=>k_is)
 case la=>refine' CK ?a ?l ?c ?k ?h;(case a=>k_is);(case l=>k_is);(case c=>k_is);(case k=>k_is);(case h=>kernel_rfl)
 case lb=>refine' CK ?a ?l ?c ?k ?h;(case a=>k_is);(case l=>k_is);(case c=>k_is);(case k=>k_is);(case h=>kernel_rfl)
 case bt=>refine' ⟨4,{ cls:=PySem.Value.type "module",data:=PySem.Data.plain,dict:=some 0 },?a,?l,?h1,?h2,?h3,?h3',?h4,?h5,?h6⟩;(case a=>kernel_rfl);(case l=>kernel_rfl);(case h1=>decide);(case h2=>decide);(case h3=>decide);(case h3'=>decide);(case h4=>rfl);(case h5=>rfl);(case h6=>rfl)
end K33
open PySem PySem.W PyProof.Rows
set_option maxRecDepth 100000 in
set_option maxHeartbeats 0 in
theorem PySem.Challenge.cw_keptnest_k33_differences_list_holds : PySem.Challenge.rw_keptnest_k33_differences_list.Holds := by
 w_on
 refine PySem.W.holds_law K33.zS fun said=>?_
 refine PySem.W.holds_open (q:=K33.zV) (loose:=K33.zL) (Xt:=fun s=>PySem.W.xlAt K33.zV [] s && PySem.W.recOk (PySem.W.RowW.records (PySem.W.OpenRow.toRowW PySem.Challenge.rw_keptnest_k33_differences_list.row)) s) (XP:=PySem.W.XL K33.zV []) (Yf:=PySem.W.Hook.obs (PySem.W.kmHook K33.zK K33.zA K33.zE K33.zTs)) (Ya:=PySem.W.Hook.val (PySem.W.kmHook K33.zK K33.zA K33.zE K33.zTs)) (YP:=PySem.W.Hook.says (PySem.W.kmHook K33.zK K33.zA K33.zE K33.zTs)) (N:=7224) (Hq.left_two "special-get-raises" K33.zR_false K33.zR_true) (PySem.W.Hook.of _) (PySem.W.Hook.keeps _) (fun s e=>PySem.W.xl_of s (Bool.and_eq_true_iff.mp e).1) PySem.W.XL.keeps (by rfl) (by rfl) (by rfl) (fun s e=>PySem.W.recFacts_of (Bool.and_eq_true_iff.mp e).2) (by rfl) (by first | assumption | decide +kernel) (by decide +kernel) ⟨rfl,rfl,rfl,rfl,rfl,by decide +kernel⟩ ?hw ?hc
 case hw=>w_witness2
 k_fill
 refine N.walk_of (l:=PySem.Challenge.rw_keptnest_k33_differences_list) (K:=K33.zK) (ts:=K33.tbs2) (x:="script") (k:=140) (sp:=fun _=>K33.spLaw) (n:=63) rfl (by decide) rfl K33.room_law (fun w h Y=>⟨PySem.W.km_in_of Y,fun T hT=>?Tb⟩) ?KT ?F (fun w ns hl=>⟨ns,rfl,hl,fun _=>rfl⟩)
 case Tb=>
  have:T∈K33.zTs:=by simpa [K33.tbs2,K33.zTs] using hT
  exact PySem.W.km_tabs_of Y T this
 case KT=>
  intro w T hT
  have:T=163\/T=363:=by simpa [K33.tbs2] using hT
  rcases this with rfl | rfl
  ·exact⟨by kernel_rfl,167,by kernel_rfl⟩
  ·exact⟨by kernel_rfl,367,by kernel_rfl⟩
 case F=>
  intro w mg fa h KX G hmg
  exact K33.law_ok KX G hmg (K33.zF w)
#print axioms PySem.Challenge.cw_keptnest_k33_differences_list_holds
end
