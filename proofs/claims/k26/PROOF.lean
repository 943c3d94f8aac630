import PyProof.Rows.All
import Wide.All
import OpenK.AllK
import Wide.FinOn
import PySem.Challenge.RW_keptnest_k26_difference_told
import Lean
import PyProof.EqAt
import PyProof.EqKinds
import PyProof.TupleCall
import PyProof.ZipIter
import PyProof.NeKinds
import PyProof.Draws
import KE.KRevIter
import PyProof.AutoSeq1
import KE.KEqDict
import PyProof.SeqI3
import KE.KUnpack
import KE.KTupSum
import PyProof.ConsumeS
import PyProof.AttrMissHeap
import KE.KItemsList
import KE.KDictOf
import PyProof.Rows.SortStr
import PyProof.Rows.SetFrom
import KE.KPairComp
import KE.KSortAsk
import KE.KSortTup
import KE.KNestM
import KE.KLam
import KE.KNest
set_option Elab.async false
set_option linter.all false
set_option maxRecDepth 100000
set_option maxHeartbeats 4000000
open PySem renaming wpAny_bind->Xv,wpAny_pure->Xy,wpAny_callSpecial?_slot->X8,wpAny_call_entry->Yc,wpAny_newObj_type->Yk,wpAny_field->Yt,wpAny_holding->Yv,wpAny_Call_Name_kw->Yw,builtinLookup_eq_fast->YB,codeAny_builtin->YQ,wpAny_setState_of->YR,plainId_quiet->YV,typeLookup_type->Y4,codeAny_mono->Y5,wpAny_seqItems->Zg,wpAny_ite_split->Zj,wpAny_isInstance->Zm,wpAny_attempt->Zn,wpAny_truthy_bool->Zt,wpAny_mono->Zu,isSubtype_type->Zz,wpAny_setField_rec->ZH,wpAny_pyIter_tuple->ZI,wpAny_passesOwn->ZN,sizeLine_eq->ZO
open PySem.Heap renaming get?_push_of_some->Xw,get?_push_size->XA,lt_size->XO,size_push->Yd,get?_update_self->Yg,SameBut->Za,size_update->Zv,get?_update_other->Zy,ExtBut->ZE
open List renaming length_map->Xx,size_toArray->Xz,getElem?_eq_getElem->XB,mem_cons_of_mem->XF,mem_cons_self->XH,length_cons->XI,map_cons->XJ,getElem?_map->XS,not_mem_nil->XT,length_append->XU,append_nil->XX,map_append->XZ,mem_cons->X5,getD_eq_getElem?_getD->X9,append_assoc->Ye,getElem?_append_right->Yp,mem_of_getElem?->Yq,getElem?_append_left->Yr,replicate->Yz,map_nil->YA,lookup_cons->YC,map_map->YI,zip_cons_cons->YN,reverse_cons->YX,range->YY,cons_append->Y3,length_range->Zb,of_mem_zip->Zd,mem_append->Ze,concat_eq_append->Zk,length_zip->Zp,length_filterMap_le->Zq,find?_cons->Zr,length_reverse->Zs,nodup_cons->ZA,eq_nil_or_concat->ZD,any_cons->ZK,mem_append_left->ZM,replicate_succ->ZS
open Nat renaming le_refl->XC,le_trans->XG,zero_le->XM,lt_of_le_of_lt->XN,ne_of_lt->XR,lt_of_lt_of_le->XW,lt_trans->Ys,ne_of_gt->YJ,succ_le_succ->YK,lt_succ_of_lt->YM,add_le_add_left->YZ,lt_succ_self->Y6,le_succ->Y7,le_max_right->Y8,lt_irrefl->Y',le_max_left->Zf,le_of_succ_le_succ->Zh,le_add_right->Zx,le_of_eq->ZG
open Bool renaming and_eq_true->XD,false_ne_true->Yo,eq_iff_iff->YT,false_and->ZR
open Array renaming length_toList->XY,getElem?_eq_getElem->Yu,getElem?_toList->Y2,getD_eq_getD_getElem?->Zc
open PySem.Heap.SameBut renaming update->Yb
open PySem.Obj renaming mapSeq->Yh,mapFields->Y9
open PySem.AutoSeq1 renaming wpAny_loadPart'->Yi
open PySem.Value renaming ref->Yj,none->YE,type->ZF
open PySem.Builtin.SmallTypes renaming nextOf->Yl,ownedTupleIsFree->Y1
open Option.some renaming inj->Ym
open Option renaming some_ne_none->Yn,some->YH
open PySem.Around renaming under_plainId->Yx
open Int renaming le_refl->Yy,toNat_natCast->ZL
open PySem.Builtin.Tuple renaming tupleExact->YD
open PyProof.Rows renaming callWith_type1->YF,slot_tuple_getitem->YG
open PySem.Builtin.Slice renaming slicePlaces->YL,sliceApplied->Zw
open Sum renaming inr->YO
open PySem.Calls renaming spliced_cons->YS,spliced_nil->Zo
open PySem.Str renaming ofString->YU
open PySem.Builtin.List renaming listTooLong->YW
open Ne renaming symm->Y0
open PySem.NameKind renaming free->Zi
open ForInStep renaming yield->Zl
open True renaming intro->ZJ
open Sum.inr renaming inj->ZP
open Nat.succ renaming inj->ZQ
section
namespace Hq
open PySem PySem.W
def vS (s:PySem.Str) (n:Tok):Value:=.str s n
def vI (i:Int) (n:Tok):Value:=.int i n
def vR (a:Addr):Value:=.ref a
def vN:Value:=.none
def sO (s:String):PySem.Str:=PySem.Str.ofString s
def eN (P:Params) (k:PySem.Str) (n:Tok) (v:Value):DictEntry:=⟨PyData.keyHash P k,.str k n,v⟩
def VU (s:Stmt):Arguments:=match s with
 |.FunctionDef _ a _ _ _ _ _ _ _ _=>a
 |_=>{ posonlyargs:=[],args:=[],vararg:=none,kwonlyargs:=[],kw_defaults:=[],kwarg:=none,defaults:=[] }
def dB (s:Stmt):List Stmt:=match s with
 |.FunctionDef _ _ b _ _ _ _ _ _ _=>b
 |_=>[]
def VV (s:Stmt):Scope:=match s with
 |.FunctionDef _ _ _ _ _ _ sc _ _ _=>sc
 |_=>{ kind:=.function,names:=[],isGenerator:=false,isCoroutine:=false }
def Uy (s:Stmt):List Stmt:=match s with
 |.ClassDef _ _ _ b _ _ _ _ _ _ _=>b
 |_=>[]
def fO (nm qual:PySem.Str) (st:Stmt) (m cd:Value):Obj:={ cls:=.type "function",data:=.func (PySem.W.fnOf nm qual (VU st) (dB st) (VV st) .none .none .none m none cd .none) }
def kn (p q:Program) (loose:List PySem.Str) (Xt:Shared->Bool) {α:Type} (Yf:Shared->α) (Ya:World->α) (N:Nat) (row:String) (b:Bool):Prop:=
 ∀w:World,(fencedOpening treeTable p w N).map (λs₀=>(topFrom treeTable p (w.withFollow row b) N s₀).map λs=>(openSeen q loose (importedModules p.main.body) Xt true s,Yf s))=some (some (openGood q loose,Ya (w.withFollow row b)))
theorem left_two {p q:Program}{loose:List PySem.Str}{Xt:Shared->Bool} {α:Type} {Yf:Shared->α}{Ya:World->α}{N:Nat} (row:String) (h0:kn p q loose Xt Yf Ya N row false) (h1:kn p q loose Xt Yf Ya N row true):LeftO p q loose Xt Yf Ya N:=λw=>by
 obtain⟨s₀,a,b1⟩:=Option.map_eq_some_iff.mp (h0 w);obtain⟨s₁,Ui,b2⟩:=Option.map_eq_some_iff.mp (h1 w);rw[a]at Ui;cases Ui;have e:=World.withFollow_self w row;unfold openEnds;rw[a];cases hb:w.params.followText row <;> rw[hb]at e
 ·rw[e]at b1;exact b1
 ·rw[e]at b2;exact b2
end Hq
end
section
set_option maxHeartbeats 0
namespace K26
open PySem Hq
def zT (i:Nat):Stmt:=PySem.Challenge.pw_keptnest_k26_difference_told.main.body.getD i (.Pass ⟨0,0,0,0⟩)
def zM (i j:Nat):Stmt:=(Uy (zT i)).getD j (.Pass ⟨0,0,0,0⟩)
def zC (a b:PySem.Str) (t:Nat) (l n:Int) (c r:Addr) (x y z:Value) (s:Addr) (e:Nat):Obj:={ cls:=PySem.Value.type "code",data:=PySem.Data.fields #[vS a t,vS b (t+1),vS "/claim/cut.py" (t+2),vI l 0,vI n 0,vI 0 0,vI 0 0,vI 3 0,vR c,PySem.Value.bool Bool.true,vI 181 0,vR r,x,y,z,vR s,vI e 0,vI l 0,vS "/claim/cut.py" (e+1)] }
def zK (P:Params):PySem.W.Frag:=(nat_lit 3,{ cls:=PySem.Value.type "dict",data:=PySem.Data.dict #[eN P "__name__" 165 (vS "law_keptnest_k26_difference_told" 722),eN P "__doc__" 166 (vN),eN P "__package__" 167 (vN),eN P "__loader__" 168 (PySem.Value.builtin "__main__.__loader__#opaque"),eN P "__spec__" 169 (vN),eN P "__annotations__" 170 (vR 6),eN P "__builtins__" 171 (vR 4),eN P "__file__" 173 (vS "/claim/cut.py" 172),eN P "__cached__" 174 (vN),eN P "NestError" 206 (vR 24),eN P "NoDifference" 222 (vR 37),eN P "NoKind" 247 (vR 56),eN P "HAVE_MORE" 259 (vR 59),eN P "under" 265 (vR 64),eN P "with_under" 271 (vR 69),eN P "knots" 281 (vR 76),eN P "tables" 287 (vR 81),eN P "Walk" 352 (vR 124),eN P "folded" 361 (vR 135),eN P "unfold" 371 (vR 142),eN P "fold" 380 (vR 149),eN P "bound" 390 (vR 156),eN P "fields_of" 398 (vR 161),eN P "alike" 406 (vR 168),eN P "fits" 412 (vR 173),eN P "NUMBER" 416 (vR 174),eN P "WORD" 418 (vR 175),eN P "TRUTH" 420 (vR 176),eN P "kind_of" 430 (vR 183),eN P "begin" 444 (vR 308),eN P "begin_kinds" 445 (vR 190),eN P "found_kind" 454 (vR 197),eN P "bind" 467 (vR 204),eN P "finish" 479 (vR 211),eN P "plain_kind" 487 (vR 218),eN P "row_kind" 493 (vR 223),eN P "part_kind" 501 (vR 230),eN P "number_kind" 509 (vR 237),eN P "none_kind" 517 (vR 244),eN P "one_kind" 525 (vR 251),eN P "both_kind" 533 (vR 258),eN P "last_bag_kind" 541 (vR 265),eN P "same_kind" 549 (vR 272),eN P "under_kind" 557 (vR 279),eN P "truth_kind" 565 (vR 286),eN P "FINISHED" 600 (vR 287),eN P "difference" 615 (vR 294),eN P "kind_of_rows" 626 (vR 301),eN P "begin_differences" 637 (vR 308),eN P "names_some" 643 (vR 313),eN P "is_none" 650 (vR 320),eN P "total" 656 (vR 325),eN P "both_differences" 665 (vR 332),eN P "for_differences" 679 (vR 339),eN P "made_for" 688 (vR 346),eN P "SUMS" 693 (vR 347),eN P "wrap" 703 (vR 354),eN P "behind_less_ahead" 711 (vR 361),eN P "behind" 721 (vR 368),eN P "_law_cell_at" 731 (vR 375),eN P "_law_seed" 739 (vR 382),eN P "_law_draw" 749 (vR 389),eN P "_law_key" 755 (vR 394),eN P "_law_bag" 761 (vR 399),eN P "_law_add" 772 (vR 406),eN P "_law_truth" 784 (vR 413),eN P "_law_bound" 798 (vR 420),eN P "_law_answer" 804 (vR 425),eN P "_law_value" 810 (vR 430),eN P "_law_kinds" 818 (vR 437),eN P "_law_store" 828 (vR 444),eN P "_law_seen" 838 (vR 451),eN P "_law_held" 844 (vR 456),eN P "_law_small" 850 (vR 461),eN P "_law_claim" 863 (vR 468),eN P "_law_over" 869 (vR 473),eN P "_law_taken" 875 (vR 478),eN P "_law_asked" 881 (vR 483),eN P "_law_kind" 887 (vR 488),eN P "_law_free" 893 (vR 495),eN P "_law_names_one" 899 (vR 500),eN P "_law_behind" 905 (vR 505),eN P "_law_sum" 915 (vR 512),eN P "_law_fors" 935 (vR 519),eN P "_law_due" 947 (vR 526),eN P "law" 965 (vR 533)] 86 }) ::
 (nat_lit 4,{ cls:=PySem.Value.type "module",data:=PySem.Data.plain,dict:=some 0 }) ::
 (nat_lit 23,{ cls:=PySem.Value.type "dict",data:=PySem.Data.dict #[eN P "__module__" 196 (vS "keptnest.errors" 187),eN P "__firstlineno__" 200 (vI 2 199),eN P "__static_attributes__" 201 (vR 22),eN P "__weakref__" 203 (vR 25),eN P "__doc__" 204 (vN)] 3 }) ::
 (nat_lit 24,{ cls:=PySem.Value.type "type",data:=PySem.Data.cls { name:=sO "NestError",bases:=[PySem.Value.type "ValueError"],mro:=[vR 24,PySem.Value.type "ValueError",PySem.Value.type "Exception",PySem.Value.type "BaseException",PySem.Value.type "object"],ns:=23,qualname:=sO "NestError",subclasses:=[vR 37,vR 56] },slots:=#[YH (vR 15),Option.none,YH (vS "NestError" 189),YH (vS "NestError" 197),YH (PySem.Value.builtin "ValueError.__new__"),YH (PySem.Value.bool Bool.true)] }) ::
 (nat_lit 36,{ cls:=PySem.Value.type "dict",data:=PySem.Data.dict #[eN P "__module__" 214 (vS "keptnest.errors" 187),eN P "__firstlineno__" 218 (vI 4 217),eN P "__static_attributes__" 219 (vR 35),eN P "__doc__" 220 (vN)] 2 }) ::
 (nat_lit 37,{ cls:=PySem.Value.type "type",data:=PySem.Data.cls { name:=sO "NoDifference",bases:=[vR 24],mro:=[vR 37,vR 24,PySem.Value.type "ValueError",PySem.Value.type "Exception",PySem.Value.type "BaseException",PySem.Value.type "object"],ns:=36,qualname:=sO "NoDifference" },slots:=#[YH (vR 28),Option.none,YH (vS "NoDifference" 207),YH (vS "NoDifference" 215),YH (PySem.Value.builtin "ValueError.__new__"),YH (PySem.Value.bool Bool.true)] }) ::
 (nat_lit 52,zC "__init__" "NoKind.__init__" 235 8 2 47 48 vN (vR 49) (vR 50) 51 240) ::
 (nat_lit 53,fO "__init__" "NoKind.__init__" (zM 3 0) (vS "keptnest.errors" 187) (vR 52)) ::
 (nat_lit 55,{ cls:=PySem.Value.type "dict",data:=PySem.Data.dict #[eN P "__module__" 230 (vS "keptnest.errors" 187),eN P "__firstlineno__" 234 (vI 6 233),eN P "__init__" 242 (vR 53),eN P "__static_attributes__" 244 (vR 54),eN P "__doc__" 245 (vN)] 2 }) ::
 (nat_lit 56,{ cls:=PySem.Value.type "type",data:=PySem.Data.cls { name:=sO "NoKind",bases:=[vR 24],mro:=[vR 56,vR 24,PySem.Value.type "ValueError",PySem.Value.type "Exception",PySem.Value.type "BaseException",PySem.Value.type "object"],ns:=55,qualname:=sO "NoKind" },slots:=#[YH (vR 40),Option.none,YH (vS "NoKind" 223),YH (vS "NoKind" 231),YH (PySem.Value.builtin "ValueError.__new__"),YH (PySem.Value.bool Bool.true)] }) ::
 (nat_lit 59,{ cls:=PySem.Value.type "tuple",data:=PySem.Data.seq #[vS "num" 250,vS "word" 251,vS "var" 252,vS "table" 253,vS "none" 254,vS "at" 255,vS "times" 256,vS "for" 257,vS "let" 258] }) ::
 (nat_lit 63,zC "under" "under" 260 13 1 60 61 vN vN vN 62 263) ::
 (nat_lit 64,fO "under" "under" (zT 6) (vS "keptnest.asks.questions" 248) (vR 63)) ::
 (nat_lit 68,zC "with_under" "with_under" 266 17 2 65 66 vN vN vN 67 269) ::
 (nat_lit 69,fO "with_under" "with_under" (zT 7) (vS "keptnest.asks.questions" 248) (vR 68)) ::
 (nat_lit 75,zC "knots" "knots" 272 23 1 70 71 vN (vR 72) (vR 73) 74 279) ::
 (nat_lit 76,fO "knots" "knots" (zT 8) (vS "keptnest.asks.questions" 248) (vR 75)) ::
 (nat_lit 80,zC "tables" "tables" 282 31 1 77 78 vN vN vN 79 285) ::
 (nat_lit 81,fO "tables" "tables" (zT 9) (vS "keptnest.asks.questions" 248) (vR 80)) ::
 (nat_lit 94,zC "__init__" "Walk.__init__" 302 36 1 89 90 vN (vR 91) (vR 92) 93 306) ::
 (nat_lit 95,fO "__init__" "Walk.__init__" (zM 11 0) (vS "keptnest.asks.walks" 288) (vR 94)) ::
 (nat_lit 101,zC "later" "Walk.later" 309 40 4 96 97 vN (vR 98) (vR 99) 100 316) ::
 (nat_lit 102,fO "later" "Walk.later" (zM 11 1) (vS "keptnest.asks.walks" 288) (vR 101)) ::
 (nat_lit 108,zC "tell" "Walk.tell" 319 43 2 103 104 vN (vR 105) (vR 106) 107 324) ::
 (nat_lit 109,fO "tell" "Walk.tell" (zM 11 2) (vS "keptnest.asks.walks" 288) (vR 108)) ::
 (nat_lit 113,zC "take" "Walk.take" 327 46 2 110 111 vN vN vN 112 330) ::
 (nat_lit 114,fO "take" "Walk.take" (zM 11 3) (vS "keptnest.asks.walks" 288) (vR 113)) ::
 (nat_lit 120,zC "run" "Walk.run" 333 50 1 115 116 vN (vR 117) (vR 118) 119 340) ::
 (nat_lit 121,fO "run" "Walk.run" (zM 11 4) (vS "keptnest.asks.walks" 288) (vR 120)) ::
 (nat_lit 123,{ cls:=PySem.Value.type "dict",data:=PySem.Data.dict #[eN P "__module__" 297 (vS "keptnest.asks.walks" 288),eN P "__firstlineno__" 301 (vI 34 300),eN P "__init__" 308 (vR 95),eN P "later" 318 (vR 102),eN P "tell" 326 (vR 109),eN P "take" 332 (vR 114),eN P "run" 342 (vR 121),eN P "__static_attributes__" 345 (vR 122),eN P "__dict__" 347 (vR 125),eN P "__weakref__" 349 (vR 126),eN P "__doc__" 350 (vN)] 4 }) ::
 (nat_lit 124,{ cls:=PySem.Value.type "type",data:=PySem.Data.cls { name:=sO "Walk",bases:=[PySem.Value.type "object"],mro:=[vR 124,PySem.Value.type "object"],ns:=123,qualname:=sO "Walk" },slots:=#[Option.none,Option.none,YH (vS "Walk" 290),YH (vS "Walk" 298),YH (PySem.Value.builtin "object.__new__"),YH (PySem.Value.bool Bool.true)] }) ::
 (nat_lit 134,zC "folded" "folded" 353 55 2 129 130 vN (vR 131) (vR 132) 133 359) ::
 (nat_lit 135,fO "folded" "folded" (zT 12) (vS "keptnest.asks.walks" 288) (vR 134)) ::
 (nat_lit 141,zC "unfold" "unfold" 362 59 3 136 137 vN (vR 138) (vR 139) 140 369) ::
 (nat_lit 142,fO "unfold" "unfold" (zT 13) (vS "keptnest.asks.walks" 288) (vR 141)) ::
 (nat_lit 148,zC "fold" "fold" 372 63 3 143 144 vN (vR 145) (vR 146) 147 378) ::
 (nat_lit 149,fO "fold" "fold" (zT 14) (vS "keptnest.asks.walks" 288) (vR 148)) ::
 (nat_lit 155,zC "bound" "bound" 381 65 3 150 151 vN (vR 152) (vR 153) 154 388) ::
 (nat_lit 156,fO "bound" "bound" (zT 15) (vS "keptnest.asks.walks" 288) (vR 155)) ::
 (nat_lit 160,zC "fields_of" "fields_of" 393 70 1 157 158 vN vN vN 159 396) ::
 (nat_lit 161,fO "fields_of" "fields_of" (zT 17) (vS "keptnest.data.kinds" 391) (vR 160)) ::
 (nat_lit 167,zC "alike" "alike" 399 72 2 162 163 vN (vR 164) (vR 165) 166 404) ::
 (nat_lit 168,fO "alike" "alike" (zT 18) (vS "keptnest.data.kinds" 391) (vR 167)) ::
 (nat_lit 172,zC "fits" "fits" 407 74 3 169 170 vN vN vN 171 410) ::
 (nat_lit 173,fO "fits" "fits" (zT 19) (vS "keptnest.data.kinds" 391) (vR 172)) ::
 (nat_lit 174,{ cls:=PySem.Value.type "tuple",data:=PySem.Data.seq #[vS "num" 415] }) ::
 (nat_lit 175,{ cls:=PySem.Value.type "tuple",data:=PySem.Data.seq #[vS "word" 417] }) ::
 (nat_lit 176,{ cls:=PySem.Value.type "tuple",data:=PySem.Data.seq #[vS "truth" 419] }) ::
 (nat_lit 182,zC "kind_of" "kind_of" 421 91 3 177 178 vN (vR 179) (vR 180) 181 428) ::
 (nat_lit 183,fO "kind_of" "kind_of" (zT 24) (vS "keptnest.asks.kinds" 413) (vR 182)) ::
 (nat_lit 189,zC "begin" "begin" 431 95 3 184 185 vN (vR 186) (vR 187) 188 442) ::
 (nat_lit 190,fO "begin" "begin" (zT 25) (vS "keptnest.asks.kinds" 413) (vR 189)) ::
 (nat_lit 196,zC "found_kind" "found_kind" 446 109 3 191 192 vN (vR 193) (vR 194) 195 452) ::
 (nat_lit 197,fO "found_kind" "found_kind" (zT 27) (vS "keptnest.asks.kinds" 413) (vR 196)) ::
 (nat_lit 203,zC "bind" "bind" 455 113 3 198 199 vN (vR 200) (vR 201) 202 465) ::
 (nat_lit 204,fO "bind" "bind" (zT 28) (vS "keptnest.asks.kinds" 413) (vR 203)) ::
 (nat_lit 210,zC "finish" "finish" 468 122 3 205 206 vN (vR 207) (vR 208) 209 477) ::
 (nat_lit 211,fO "finish" "finish" (zT 29) (vS "keptnest.asks.kinds" 413) (vR 210)) ::
 (nat_lit 217,zC "plain_kind" "plain_kind" 480 129 2 212 213 vN (vR 214) (vR 215) 216 485) ::
 (nat_lit 218,fO "plain_kind" "plain_kind" (zT 30) (vS "keptnest.asks.kinds" 413) (vR 217)) ::
 (nat_lit 222,zC "row_kind" "row_kind" 488 131 2 219 220 vN vN vN 221 491) ::
 (nat_lit 223,fO "row_kind" "row_kind" (zT 31) (vS "keptnest.asks.kinds" 413) (vR 222)) ::
 (nat_lit 229,zC "part_kind" "part_kind" 494 133 2 224 225 vN (vR 226) (vR 227) 228 499) ::
 (nat_lit 230,fO "part_kind" "part_kind" (zT 32) (vS "keptnest.asks.kinds" 413) (vR 229)) ::
 (nat_lit 236,zC "number_kind" "number_kind" 502 137 2 231 232 vN (vR 233) (vR 234) 235 507) ::
 (nat_lit 237,fO "number_kind" "number_kind" (zT 33) (vS "keptnest.asks.kinds" 413) (vR 236)) ::
 (nat_lit 243,zC "none_kind" "none_kind" 510 139 2 238 239 vN (vR 240) (vR 241) 242 515) ::
 (nat_lit 244,fO "none_kind" "none_kind" (zT 34) (vS "keptnest.asks.kinds" 413) (vR 243)) ::
 (nat_lit 250,zC "one_kind" "one_kind" 518 141 2 245 246 vN (vR 247) (vR 248) 249 523) ::
 (nat_lit 251,fO "one_kind" "one_kind" (zT 35) (vS "keptnest.asks.kinds" 413) (vR 250)) ::
 (nat_lit 257,zC "both_kind" "both_kind" 526 143 2 252 253 vN (vR 254) (vR 255) 256 531) ::
 (nat_lit 258,fO "both_kind" "both_kind" (zT 36) (vS "keptnest.asks.kinds" 413) (vR 257)) ::
 (nat_lit 264,zC "last_bag_kind" "last_bag_kind" 534 145 2 259 260 vN (vR 261) (vR 262) 263 539) ::
 (nat_lit 265,fO "last_bag_kind" "last_bag_kind" (zT 37) (vS "keptnest.asks.kinds" 413) (vR 264)) ::
 (nat_lit 271,zC "same_kind" "same_kind" 542 147 2 266 267 vN (vR 268) (vR 269) 270 547) ::
 (nat_lit 272,fO "same_kind" "same_kind" (zT 38) (vS "keptnest.asks.kinds" 413) (vR 271)) ::
 (nat_lit 278,zC "under_kind" "under_kind" 550 149 2 273 274 vN (vR 275) (vR 276) 277 555) ::
 (nat_lit 279,fO "under_kind" "under_kind" (zT 39) (vS "keptnest.asks.kinds" 413) (vR 278)) ::
 (nat_lit 285,zC "truth_kind" "truth_kind" 558 151 2 280 281 vN (vR 282) (vR 283) 284 563) ::
 (nat_lit 286,fO "truth_kind" "truth_kind" (zT 40) (vS "keptnest.asks.kinds" 413) (vR 285)) ::
 (nat_lit 287,{ cls:=PySem.Value.type "dict",data:=PySem.Data.dict #[eN P "num" 566 (vR 218),eN P "word" 568 (vR 218),eN P "row" 570 (vR 223),eN P "at" 572 (vR 230),eN P "add" 574 (vR 237),eN P "mul" 576 (vR 237),eN P "none" 578 (vR 244),eN P "one" 580 (vR 251),eN P "both" 582 (vR 258),eN P "times" 584 (vR 265),eN P "for" 586 (vR 265),eN P "when" 588 (vR 265),eN P "same" 590 (vR 272),eN P "under" 592 (vR 279),eN P "and" 594 (vR 286),eN P "or" 596 (vR 286),eN P "not" 598 (vR 286)] 17 }) ::
 (nat_lit 293,zC "difference" "difference" 603 155 4 288 289 vN (vR 290) (vR 291) 292 613) ::
 (nat_lit 294,fO "difference" "difference" (zT 43) (vS "keptnest.changes.differences" 601) (vR 293)) ::
 (nat_lit 300,zC "kind_of_rows" "kind_of_rows" 616 161 3 295 296 vN (vR 297) (vR 298) 299 624) ::
 (nat_lit 301,fO "kind_of_rows" "kind_of_rows" (zT 44) (vS "keptnest.changes.differences" 601) (vR 300)) ::
 (nat_lit 307,zC "begin" "begin" 627 169 3 302 303 vN (vR 304) (vR 305) 306 634) ::
 (nat_lit 308,fO "begin" "begin" (zT 45) (vS "keptnest.changes.differences" 601) (vR 307)) ::
 (nat_lit 312,zC "names_some" "names_some" 638 185 2 309 310 vN vN vN 311 641) ::
 (nat_lit 313,fO "names_some" "names_some" (zT 47) (vS "keptnest.changes.differences" 601) (vR 312)) ::
 (nat_lit 319,zC "is_none" "is_none" 644 187 1 314 315 vN (vR 316) (vR 317) 318 648) ::
 (nat_lit 320,fO "is_none" "is_none" (zT 48) (vS "keptnest.changes.differences" 601) (vR 319)) ::
 (nat_lit 324,zC "total" "total" 651 189 1 321 322 vN vN vN 323 654) ::
 (nat_lit 325,fO "total" "total" (zT 49) (vS "keptnest.changes.differences" 601) (vR 324)) ::
 (nat_lit 331,zC "both_differences" "both_differences" 657 194 3 326 327 vN (vR 328) (vR 329) 330 663) ::
 (nat_lit 332,fO "both_differences" "both_differences" (zT 50) (vS "keptnest.changes.differences" 601) (vR 331)) ::
 (nat_lit 338,zC "for_differences" "for_differences" 666 196 3 333 334 vN (vR 335) (vR 336) 337 677) ::
 (nat_lit 339,fO "for_differences" "for_differences" (zT 51) (vS "keptnest.changes.differences" 601) (vR 338)) ::
 (nat_lit 345,zC "made_for" "made_for" 680 200 3 340 341 vN (vR 342) (vR 343) 344 686) ::
 (nat_lit 346,fO "made_for" "made_for" (zT 52) (vS "keptnest.changes.differences" 601) (vR 345)) ::
 (nat_lit 347,{ cls:=PySem.Value.type "dict",data:=PySem.Data.dict #[eN P "both" 689 (vR 332),eN P "for" 690 (vR 339)] 2 }) ::
 (nat_lit 353,zC "wrap" "wrap" 694 203 3 348 349 vN (vR 350) (vR 351) 352 701) ::
 (nat_lit 354,fO "wrap" "wrap" (zT 54) (vS "keptnest.changes.differences" 601) (vR 353)) ::
 (nat_lit 360,zC "behind_less_ahead" "behind_less_ahead" 704 206 2 355 356 vN (vR 357) (vR 358) 359 709) ::
 (nat_lit 361,fO "behind_less_ahead" "behind_less_ahead" (zT 55) (vS "keptnest.changes.differences" 601) (vR 360)) ::
 (nat_lit 367,zC "behind" "behind" 712 208 2 362 363 vN (vR 364) (vR 365) 366 719) ::
 (nat_lit 368,fO "behind" "behind" (zT 56) (vS "keptnest.changes.differences" 601) (vR 367)) ::
 (nat_lit 374,zC "_law_cell_at" "_law_cell_at" 724 216 2 369 370 vN (vR 371) (vR 372) 373 729) ::
 (nat_lit 375,fO "_law_cell_at" "_law_cell_at" (zT 58) (vS "law_keptnest_k26_difference_told" 722) (vR 374)) ::
 (nat_lit 381,zC "_law_seed" "_law_seed" 732 220 1 376 377 vN (vR 378) (vR 379) 380 737) ::
 (nat_lit 382,fO "_law_seed" "_law_seed" (zT 59) (vS "law_keptnest_k26_difference_told" 722) (vR 381)) ::
 (nat_lit 388,zC "_law_draw" "_law_draw" 740 223 2 383 384 vN (vR 385) (vR 386) 387 747) ::
 (nat_lit 389,fO "_law_draw" "_law_draw" (zT 60) (vS "law_keptnest_k26_difference_told" 722) (vR 388)) ::
 (nat_lit 393,zC "_law_key" "_law_key" 750 232 1 390 391 vN vN vN 392 753) ::
 (nat_lit 394,fO "_law_key" "_law_key" (zT 61) (vS "law_keptnest_k26_difference_told" 722) (vR 393)) ::
 (nat_lit 398,zC "_law_bag" "_law_bag" 756 238 1 395 396 vN vN vN 397 759) ::
 (nat_lit 399,fO "_law_bag" "_law_bag" (zT 62) (vS "law_keptnest_k26_difference_told" 722) (vR 398)) ::
 (nat_lit 429,zC "_law_value" "_law_value" 805 301 3 426 427 vN vN vN 428 808) ::
 (nat_lit 430,fO "_law_value" "_law_value" (zT 67) (vS "law_keptnest_k26_difference_told" 722) (vR 429)) ::
 (nat_lit 436,zC "_law_kinds" "_law_kinds" 811 314 0 431 432 vN (vR 433) (vR 434) 435 816) ::
 (nat_lit 437,fO "_law_kinds" "_law_kinds" (zT 68) (vS "law_keptnest_k26_difference_told" 722) (vR 436)) ::
 (nat_lit 450,zC "_law_seen" "_law_seen" 829 324 1 445 446 vN (vR 447) (vR 448) 449 836) ::
 (nat_lit 451,fO "_law_seen" "_law_seen" (zT 70) (vS "law_keptnest_k26_difference_told" 722) (vR 450)) ::
 (nat_lit 455,zC "_law_held" "_law_held" 839 330 2 452 453 vN vN vN 454 842) ::
 (nat_lit 456,fO "_law_held" "_law_held" (zT 71) (vS "law_keptnest_k26_difference_told" 722) (vR 455)) ::
 (nat_lit 460,zC "_law_small" "_law_small" 845 338 4 457 458 vN vN vN 459 848) ::
 (nat_lit 461,fO "_law_small" "_law_small" (zT 72) (vS "law_keptnest_k26_difference_told" 722) (vR 460)) ::
 (nat_lit 467,zC "_law_claim" "_law_claim" 851 350 3 462 463 vN (vR 464) (vR 465) 466 861) ::
 (nat_lit 468,fO "_law_claim" "_law_claim" (zT 73) (vS "law_keptnest_k26_difference_told" 722) (vR 467)) ::
 (nat_lit 472,zC "_law_over" "_law_over" 864 363 3 469 470 vN vN vN 471 867) ::
 (nat_lit 473,fO "_law_over" "_law_over" (zT 74) (vS "law_keptnest_k26_difference_told" 722) (vR 472)) ::
 (nat_lit 477,zC "_law_taken" "_law_taken" 870 376 4 474 475 vN vN vN 476 873) ::
 (nat_lit 478,fO "_law_taken" "_law_taken" (zT 75) (vS "law_keptnest_k26_difference_told" 722) (vR 477)) ::
 (nat_lit 482,zC "_law_asked" "_law_asked" 876 382 4 479 480 vN vN vN 481 879) ::
 (nat_lit 483,fO "_law_asked" "_law_asked" (zT 76) (vS "law_keptnest_k26_difference_told" 722) (vR 482)) ::
 (nat_lit 487,zC "_law_kind" "_law_kind" 882 413 2 484 485 vN vN vN 486 885) ::
 (nat_lit 488,fO "_law_kind" "_law_kind" (zT 77) (vS "law_keptnest_k26_difference_told" 722) (vR 487)) ::
 (nat_lit 494,zC "_law_free" "_law_free" 888 439 0 489 490 vN (vR 491) (vR 492) 493 891) ::
 (nat_lit 495,fO "_law_free" "_law_free" (zT 78) (vS "law_keptnest_k26_difference_told" 722) (vR 494)) ::
 (nat_lit 499,zC "_law_names_one" "_law_names_one" 894 441 2 496 497 vN vN vN 498 897) ::
 (nat_lit 500,fO "_law_names_one" "_law_names_one" (zT 79) (vS "law_keptnest_k26_difference_told" 722) (vR 499)) ::
 (nat_lit 504,zC "_law_behind" "_law_behind" 900 447 2 501 502 vN vN vN 503 903) ::
 (nat_lit 505,fO "_law_behind" "_law_behind" (zT 80) (vS "law_keptnest_k26_difference_told" 722) (vR 504)) ::
 (nat_lit 511,zC "_law_sum" "_law_sum" 906 453 2 506 507 vN (vR 508) (vR 509) 510 913) ::
 (nat_lit 512,fO "_law_sum" "_law_sum" (zT 81) (vS "law_keptnest_k26_difference_told" 722) (vR 511)) ::
 (nat_lit 518,zC "_law_fors" "_law_fors" 916 461 4 513 514 vN (vR 515) (vR 516) 517 933) ::
 (nat_lit 519,fO "_law_fors" "_law_fors" (zT 82) (vS "law_keptnest_k26_difference_told" 722) (vR 518)) ::
 (nat_lit 525,zC "_law_due" "_law_due" 936 471 3 520 521 vN (vR 522) (vR 523) 524 945) ::
 (nat_lit 526,fO "_law_due" "_law_due" (zT 83) (vS "law_keptnest_k26_difference_told" 722) (vR 525)) ::
 (nat_lit 532,zC "law" "law" 948 489 1 527 528 vN (vR 529) (vR 530) 531 963) ::
 (nat_lit 533,fO "law" "law" (zT 84) (vS "law_keptnest_k26_difference_told" 722) (vR 532))::[]
def zA:List Addr:=[3,4,23,24,36,37,52,53,55,56,59,63,64,68,69,75,76,80,81,94,95,101,102,108,109,113,114,120,121,123,124,134,135,141,142,148,149,155,156,160,161,167,168,172,173,174,175,176,182,183,189,190,196,197,203,204,210,211,217,218,222,223,229,230,236,237,243,244,250,251,257,258,264,265,271,272,278,279,285,286,287,293,294,300,301,307,308,312,313,319,320,324,325,331,332,338,339,345,346,347,353,354,360,361,367,368,374,375,381,382,388,389,393,394,398,399,429,430,436,437,450,451,455,456,460,461,467,468,472,473,477,478,482,483,487,488,494,495,499,500,504,505,511,512,518,519,525,526,532,533]
def zV:Program:={ PySem.Challenge.pw_keptnest_k26_difference_told with main:={ PySem.Challenge.pw_keptnest_k26_difference_told.main with body:=[1,2,3,5,6,7,8,9,11,12,13,14,15,17,18,19,21,22,23,24,26,27,28,29,30,31,32,33,34,35,36,37,38,39,40,41,43,44,45,46,47,48,49,50,51,52,53,54,55,56,58,59,60,61,62,63,64,65,66,67,68,69,70,71,72,73,74,75,76,77,78,79,80,81,82,83,84].filterMap λi=>PySem.Challenge.pw_keptnest_k26_difference_told.main.body[i]? } }
theorem zE:∀P,zA=(zK P).map (·.1):=λ_=>rfl
def zTs:List Addr:=[163,363]
def zL:List PySem.Str:=["begin_kinds","FINISHED","begin_differences","SUMS"]
end K26
end
section
namespace Hq
open PySem PySem.W
def mJ (st:SharedT->Thread->Option (SharedT×Thread)) (ok:Thread->Bool):Nat->SharedT->Thread->Option SharedT
 | 0,_,_=>none
 |n+1,s,t=>match through t with
  |true=>some s
  |false=>match ok t with
   |false=>none
   |true=>match st s t with
    |some (s',t')=>mJ st ok n s' t'
    |none=>none
theorem uQ {tb:String->Option Builtin}{p:Program}{w:World}{n₀:Nat}{po:Option Value}:∀{n:Nat}{s s':SharedT}{t:Thread},mJ (stepT (denote tb) p w) (stepOk n₀ po) n s t=some s'->topRun tb p w n₀ po n s.abs t=some s'.abs
 | 0,_,_,_,h=>by cases h
 |n+1,s,s',t,h=>by
  unfold mJ at h;unfold topRun;cases he:through t with
  |true=>rw[he]at h;cases h;rfl
  |false=>
   rw[he]at h;cases hk:stepOk n₀ po t with
   |false=>rw[hk]at h;cases h
   |true=>
    rw[hk]at h;cases hs:stepT (denote tb) p w s t with
    |none=>rw[hs]at h;cases h
    |some r=>obtain⟨s₂,t₂⟩:=r;rw[hs]at h;rw[stepT_spec hs];exact uQ h
def mK:List Obj->BT->Nat->Option (BT×Nat)
 |[],t,n=>some (t,n)
 |o::l,t,n=>match ((t.ins n o).get n).isSome with
  |true=>mK l (t.ins n o) (n+1)
  |false=>none
theorem uR {life:Life}:∀{l:List Obj}{t t':BT}{n n':Nat},mK l t n=some (t',n')->absHeap t' n' life=⟨(absHeap t n life).objs++l.toArray,life⟩
 |[],t,t',n,n',h=>by cases h;simp;rfl
 |o::l,t,t',n,n',h=>by
  unfold mK at h;cases e:((t.ins n o).get n).isSome with
  |false=>rw[e]at h;cases h
  |true=>
   rw[e]at h;rw[uR h,absHeap_ins e];unfold Heap.push;simp
def uS (s:Shared):Option SharedT:=(mK s.heap.objs.toList .nil 0).map λx=>⟨x.1,x.2,s.heap.life,s.gens,s.drawn,s.toks,s.os⟩
theorem CT {s:Shared}{T:SharedT} (h:uS s=some T):T.abs=s:=by
 obtain⟨x,a,b⟩:=Option.map_eq_some_iff.mp h;obtain⟨t,n⟩:=x;cases b;have:=uR (life:=s.heap.life) a;unfold SharedT.abs;obtain⟨⟨objs,life⟩,gens,drawn,toks,os⟩:=s;simp only at this ⊢;rw[this];simp [absHeap,BT.list]
def pN (st:SharedT->Thread->Option (SharedT×Thread)) (sk:Nat->Option Value->Thread->Bool) (p:Program) (N:Nat) {β:Type} (F:Shared->β) (s₀:Shared):Option β:=
 match s₀.heap.isNs mainGlobals && s₀.gens.size == 0 with
 | true=>(uS s₀).bind λT₀=>(mJ st (sk s₀.heap.objs.size (s₀.heap.nsMap mainGlobals "__annotations__")) N T₀ (topStub p)).bind λT₁=>match staticsOk (importedModules p.main.body) s₀.heap T₁.abs.heap && namesBound p T₁.abs.heap && gensDone T₁.abs && laidKept s₀.heap T₁.abs.heap with
   |true=>some (F T₁.abs)
   |false=>none
 |false=>none
theorem CU {tb:String->Option Builtin}{p:Program}{w:World}{N:Nat} {β:Type} {F:Shared->β}{s₀:Shared}{y:β} (h:pN (stepT (denote tb) p w) stepOk p N F s₀=some y):(topFrom tb p w N s₀).map F=some y:=by
 unfold pN at h;unfold topFrom;cases e:(s₀.heap.isNs mainGlobals && s₀.gens.size == 0) with
 |false=>rw[e]at h;cases h
 |true=>
  rw[e]at h;obtain⟨T₀,a,h⟩:=Option.bind_eq_some_iff.mp h;obtain⟨T₁,b,h⟩:=Option.bind_eq_some_iff.mp h;have b':=uQ b;rw[CT a]at b';dsimp only;rw[b'];dsimp only[Option.bind_some];cases q:(staticsOk (importedModules p.main.body) s₀.heap T₁.abs.heap && namesBound p T₁.abs.heap && gensDone T₁.abs && laidKept s₀.heap T₁.abs.heap) with
  |false=>rw[q]at h;cases h
  |true=>rw[q]at h;exact h
def mL (VW:Program->World->Nat->Shared->Thread->Option Shared) (Vl:Program->Shared×Thread) (VX:Program->Shared->Option Shared) (st:Program->World->SharedT->Thread->Option (SharedT×Thread)) (sk:Nat->Option Value->Thread->Bool) (p:Program) {β:Type} (F:Shared->β) (y:World->β) (N:Nat) (row:String) (b:Bool):Prop:=
 ∀w:World,((VW (opening p) w N (Vl (opening p)).1 (Vl (opening p)).2).bind (VX p)).bind (pN (st p (w.withFollow row b)) sk p N F)=some (y (w.withFollow row b))
theorem mL.to {p:Program} {β:Type} {F:Shared->β}{y:World->β}{N:Nat}{row:String}{b:Bool} (h:mL (importEnds treeTable) start fenceModules? (stepT (denote treeTable)) stepOk p F y N row b) (w:World):(fencedOpening treeTable p w N).map (λs₀=>(topFrom treeTable p (w.withFollow row b) N s₀).map F)=some (some (y (w.withFollow row b))):=by
 obtain⟨s₀,a,e⟩:=Option.bind_eq_some_iff.mp (h w);unfold fencedOpening;rw[a,Option.map_some,CU e]
open Fast in
abbrev fV {β:Type} (p:Program) (F:Shared->β) (y:World->β) (N:Nat) (row:String) (b:Bool):Prop:=mL (tw10274390034422433532 tw14364793385576792824) tw1435165496053646825 tw14289696077712309145 (tw10156331382660048174 (tw11892475500146522536 tw14364793385576792824)) tw6613529449190102663 p F y N row b
open Fast in
theorem fV.to {p:Program} {β:Type} {F:Shared->β}{y:World->β}{N:Nat}{row:String}{b:Bool} (h:fV p F y N row b):mL (importEnds treeTable) start fenceModules? (stepT (denote treeTable)) stepOk p F y N row b:=by
 rw[te10274390034422433532,te14364793385576792824,te1435165496053646825,te14289696077712309145,te10156331382660048174,te11892475500146522536,te6613529449190102663];exact h
open Fast in
theorem fV.eI {p q:Program}{loose:List PySem.Str}{Xt:Shared->Bool} {α:Type} {Yf:Shared->α}{Ya:World->α}{N:Nat}{row:String}{b:Bool} (h:fV p (openSeen q loose (importedModules p.main.body) Xt true) (λ_=>openGood q loose) N row b) (h':fV p Yf Ya N row b):kn p q loose Xt Yf Ya N row b:=λw=>by
 have a:=h.to.to w;have b':=h'.to.to w;obtain⟨s₀,e,a⟩:=Option.map_eq_some_iff.mp a;rw[e,Option.map_some]at b' ⊢;obtain⟨s₁,e',a⟩:=Option.map_eq_some_iff.mp a;rw[e',Option.map_some]at b' ⊢;rw[a,Ym (Ym b')]
end Hq
end
section
set_option maxHeartbeats 0
namespace K26
open PySem Hq
theorem CV:fV PySem.Challenge.pw_keptnest_k26_difference_told (PySem.W.openSeen zV zL (importedModules PySem.Challenge.pw_keptnest_k26_difference_told.main.body) (λs=>PySem.W.xlAt zV [] s && PySem.W.recOk (PySem.W.RowW.records (PySem.W.OpenRow.toRowW PySem.Challenge.rw_keptnest_k26_difference_told.row)) s) true) (λ_=>PySem.W.openGood zV zL) 7028 "special-get-raises" false:=by
 intro w
 kernel_rfl
theorem CW:fV PySem.Challenge.pw_keptnest_k26_difference_told (PySem.W.Hook.obs (PySem.W.kmHook zK zA zE zTs)) (PySem.W.Hook.val (PySem.W.kmHook zK zA zE zTs)) 7028 "special-get-raises" false:=by
 intro w
 kernel_rfl
theorem zR_false:kn PySem.Challenge.pw_keptnest_k26_difference_told zV zL (λs=>PySem.W.xlAt zV [] s && PySem.W.recOk (PySem.W.RowW.records (PySem.W.OpenRow.toRowW PySem.Challenge.rw_keptnest_k26_difference_told.row)) s) (PySem.W.Hook.obs (PySem.W.kmHook zK zA zE zTs)) (PySem.W.Hook.val (PySem.W.kmHook zK zA zE zTs)) 7028 "special-get-raises" false:=CV.eI CW
theorem CX:fV PySem.Challenge.pw_keptnest_k26_difference_told (PySem.W.openSeen zV zL (importedModules PySem.Challenge.pw_keptnest_k26_difference_told.main.body) (λs=>PySem.W.xlAt zV [] s && PySem.W.recOk (PySem.W.RowW.records (PySem.W.OpenRow.toRowW PySem.Challenge.rw_keptnest_k26_difference_told.row)) s) true) (λ_=>PySem.W.openGood zV zL) 7028 "special-get-raises" true:=by
 intro w
 kernel_rfl
theorem CY:fV PySem.Challenge.pw_keptnest_k26_difference_told (PySem.W.Hook.obs (PySem.W.kmHook zK zA zE zTs)) (PySem.W.Hook.val (PySem.W.kmHook zK zA zE zTs)) 7028 "special-get-raises" true:=by
 intro w
 kernel_rfl
theorem zR_true:kn PySem.Challenge.pw_keptnest_k26_difference_told zV zL (λs=>PySem.W.xlAt zV [] s && PySem.W.recOk (PySem.W.RowW.records (PySem.W.OpenRow.toRowW PySem.Challenge.rw_keptnest_k26_difference_told.row)) s) (PySem.W.Hook.obs (PySem.W.kmHook zK zA zE zTs)) (PySem.W.Hook.val (PySem.W.kmHook zK zA zE zTs)) 7028 "special-get-raises" true:=CX.eI CY
theorem zS:PySem.Challenge.rw_keptnest_k26_difference_told.wellSaid=true:=by kernel_rfl
end K26
end
section
namespace L2
open PySem PySem.Spec PyProof.Rows
abbrev Key:=Sum Int Str
noncomputable def fm:Key->Value->Bool
 |.inl k,v=>Value.isInt k v
 |.inr x,v=>Value.isStrOf x v
noncomputable def CZ (w:World):Key->Int
 |.inl k=>hashInt k
 |.inr x=>hashStr w x
theorem d8:∀{k:Key}{v:Value},fm k v=true->(∃i t,k=Sum.inl i/\v=Value.int i t)\/(∃x t,k=YO x/\v=Value.str x t)
 |.inl i,v,h=>by
  obtain⟨t,e⟩:=Value.isInt_shape (k:=i) (v:=v) h;exact .inl ⟨i,t,rfl,e⟩
 |.inr x,v,h=>by
  obtain⟨t,e⟩:=Value.isStrOf_shape (x:=x) (v:=v) h;exact .inr ⟨x,t,rfl,e⟩
theorem C0 (i:Int) (t:Tok):fm (.inl i) (.int i t)=true:=by simp [fm,Value.isInt]
theorem pO (x:Str) (t:Tok):fm (.inr x) (.str x t)=true:=by simp [fm,Value.isStrOf]
theorem C1 (a b:Int):decide ((Sum.inl a:Key)=Sum.inl b)=(a == b):=by
 by_cases e:a=b
 ·subst e;simp
 ·have h:¬(Sum.inl a:Key)=Sum.inl b:=λq=>e (Sum.inl.inj q);rw[decide_eq_false h];exact (beq_eq_false_iff_ne.mpr e).symm
theorem C2 (a b:Str):decide ((YO a:Key)=YO b)=decide (a=b):=by
 by_cases e:a=b
 ·subst e;simp
 ·have h:¬(YO a:Key)=YO b:=λq=>e (ZP q);rw[decide_eq_false h,decide_eq_false e]
theorem C3 (a:Int) (b:Str):decide ((Sum.inl a:Key)=YO b)=false:=decide_eq_false (λq=>nomatch q)
theorem C4 (a:Str) (b:Int):decide ((YO a:Key)=Sum.inl b)=false:=decide_eq_false (λq=>nomatch q)
noncomputable def bE (prog:Program) (w:World):PySem.KeyKind prog w Key where
 is:=fm
 hash:=CZ w
 inj:=λv a b ha hb=>by
  rcases d8 ha with ⟨i,t,rfl,rfl⟩ |⟨x,t,rfl,rfl⟩
  ·rcases d8 hb with ⟨j,u,rfl,e⟩ |⟨y,u,rfl,e⟩
   ·injection e with e1 _;rw[e1]
   ·exact nomatch e
  ·rcases d8 hb with ⟨j,u,rfl,e⟩ |⟨y,u,rfl,e⟩
   ·exact nomatch e
   ·injection e with e1 _;rw[e1]
 byValue:=λk v h=>by
  rcases d8 h with ⟨i,t,rfl,rfl⟩ |⟨x,t,rfl,rfl⟩ <;> rfl
 pyHash:=λhv h=>by
  rcases d8 hv with ⟨i,t,rfl,rfl⟩ |⟨x,t,rfl,rfl⟩
  ·exact wpAny_pyHash_int h
  ·exact wpAny_pyHash_str h
 eqBool:=λhu hv h=>by
  rcases d8 hu with ⟨i,t,rfl,rfl⟩ |⟨x,t,rfl,rfl⟩
  ·rcases d8 hv with ⟨j,u,rfl,rfl⟩ |⟨y,u,rfl,rfl⟩
   ·rw[C1]at h;exact wpAny_eqBool_int h
   ·rw[C3]at h;exact SeqAt.EqAt.int_str i t y u _ _ _ _ h
  ·rcases d8 hv with ⟨j,u,rfl,rfl⟩ |⟨y,u,rfl,rfl⟩
   ·rw[C4]at h;exact SeqAt.EqAt.str_int x t j u _ _ _ _ h
   ·rw[C2]at h;exact wpAny_eqBool_str h
 «strs»:=λk x t v h=>by
  rcases d8 h with ⟨i,u,rfl,e⟩ |⟨y,u,rfl,e⟩
  ·exact nomatch e
  ·injection e with e1 _;subst e1;cases v <;> rfl
end L2
namespace L2
open PySem PySem.Spec PyProof.Rows
def jj (sc:Scope) (x:Str):Prop:=sc.names.lookup x=some .local\/sc.names.lookup x=some .cell\/sc.names.lookup x=some .free
def h7 (sc:Scope) (x:Str):Prop:=sc.names.lookup x=some .local\/sc.names.lookup x=some .cell
def jk (env:Env) (h:Heap) (m:Str->Option Value) (x:Str) (u:Value):Prop:=
 (env.kindOf x=some .local/\m x=some u)\/((env.kindOf x=some .cell\/env.kindOf x=some .free)/\∃c,env.cells.lookup x=some c/\h.IsCell c (some u))
section
variable {X:Cx}{aZ:List (Addr×Obj)} {σ:List (Option V)} {H W4:Hp}{s:Shared}{h':Heap}
theorem C5 {N:List Str} (hN:N.Nodup) {i j:Nat}{x:Str} (a:N[i]?=some x) (b:N[j]?=some x):i=j:=by
 obtain⟨h1,e1⟩:=List.getElem?_eq_some_iff.mp a;obtain⟨h2,e2⟩:=List.getElem?_eq_some_iff.mp b;exact (List.getElem_inj hN).mp (e1.trans e2.symm)
end
end L2
namespace L2
open PySem PySem.Spec PyProof.Rows
theorem mM {M:Model}{A:Around}{E:Value->Shared->Prop}{s:Shared}{tg:Expr}{it:Addr}{u:Value}{o:Obj}{n:String}{vs:Array Value}{Q:Unit->Shared->Prop} (ho:s.heap.get? it=some o) (hc:o.cls=.type n) (hd:o.data=.fields vs)
    (hn:["enumerate","zip","dict_itemiterator","dict_reverseitemiterator","odict_iterator","itertools.zip_longest","itertools.pairwise"].contains n=false) (hQ:Q () s):wpAny M A (letOwnedTupleGo tg (.ref it) u) Q E s:=by
  unfold letOwnedTupleGo;cases tg <;> first
    |exact Xy hQ
    | (cases u <;> first
        |exact Xy hQ
        | (refine Xv (wpAny_load ho ?_)
           rw[hc,hd];show wpAny M A (if (["enumerate","zip","dict_itemiterator","dict_reverseitemiterator","odict_iterator","itertools.zip_longest","itertools.pairwise"].contains n && vs[0]? == some (rawInt _))=true then _ else _) Q E s
           rw[if_neg (by intro h;rw[hn,ZR]at h;cases h)];exact Xy hQ))
end L2
namespace L2
open PySem PySem.Spec PyProof.Rows
end L2
namespace L2
open PySem PySem.Spec PyProof.Rows
section
variable {prog:Program}{w:World}{A:Around}{E:Value->Shared->Prop}{s:Shared}
theorem pP {J t:Addr}{i:Nat}{its:Array Value}{x:Value}{Q:Value->Shared->Prop} (hJ:s.heap.IsTupleIter J t i) (ht:s.heap.IsTuple t its) (hx:its[i]?=some x)
  (q:∀h',h'.IsTupleIter J t (i+1)->Za J s.heap h'->Q x { s with heap:=h' }):wpAny (model prog w) A (Yl (.ref J)) Q E s:=by
 obtain⟨ob,h1,h2,h3⟩:=id hJ;obtain⟨VY,g1,_,nt,g2⟩:=ht;unfold Yl;refine Xv (X8 (name:=YU "__next__") hJ.typeIs F.slot_tuple_iterator_next (Yc F.slot_tuple_iterator_next hJ.typeIs F.entry_tuple_iterator_next ?_ (F.args_tuple_iterator_next_1 _)));show wpAny _ _ (field (.ref J) 0 >>= _) _ _ s;refine Xv (Yt h1 h3 (x:=.ref t) rfl ?_);show wpAny _ _ (if (Yj t == YE)=true then _ else _) _ _ s
 rw[if_neg (show ¬((Yj t == YE)=true) from λz=>Yo z)];show wpAny _ _ (field (.ref J) 1 >>= _) _ _ s;refine Xv (Yt h1 h3 (x:=.int i 0) rfl ?_);show wpAny _ _ (seqItems? (.ref t) >>= _) _ _ s;refine Xv (Zg g1 g2 ?_);simp only[ZL,hx];refine Xv (wpAny_setField h1 h3 (by simp) (Xy ⟨x,rfl,Xy (q _ ?a (Yb ..))⟩));exact⟨_,Yg _ h1 (Obj.isFreed_of_fields (Obj.data_mapFields h3 _)),Eq.trans (Obj.cls_mapFields ..) h2,by rw[Obj.data_mapFields h3] <;> simp [rawInt]⟩
theorem mN {J t:Addr}{i:Nat}{its:Array Value}{Q:Value->Shared->Prop} (hh:A.handled=none) (hJ:s.heap.IsTupleIter J t i) (ht:s.heap.IsTuple t its) (hx:its[i]?=none)
  (q:∀h' e,ZE J s.heap h'->(∃o,h'.get? e=some o/\o.cls=.type "StopIteration")->E (.ref e) { s with heap:=h' }):wpAny (model prog w) A (Yl (.ref J)) Q E s:=by
 obtain⟨ob,h1,h2,h3⟩:=id hJ;obtain⟨VY,g1,_,nt,g2⟩:=ht;unfold Yl;refine Xv (X8 (name:=YU "__next__") hJ.typeIs F.slot_tuple_iterator_next (Yc F.slot_tuple_iterator_next hJ.typeIs F.entry_tuple_iterator_next ?_ (F.args_tuple_iterator_next_1 _)));show wpAny _ _ (field (.ref J) 0 >>= _) _ _ s;refine Xv (Yt h1 h3 (x:=.ref t) rfl ?_);show wpAny _ _ (if (Yj t == YE)=true then _ else _) _ _ s
 rw[if_neg (show ¬((Yj t == YE)=true) from λz=>Yo z)];show wpAny _ _ (field (.ref J) 1 >>= _) _ _ s;refine Xv (Yt h1 h3 (x:=.int i 0) rfl ?_);show wpAny _ _ (seqItems? (.ref t) >>= _) _ _ s;refine Xv (Zg g1 g2 ?_);simp only[ZL,hx];refine Xv (wpAny_rule (Xv (wpAny_setField h1 h3 (by simp) ?_)));show wpAny _ _ (newExc (.type "StopIteration") [] >>= _) _ _ _;refine Xv ?_;simp only[newExc,newTuple];refine Xv (Yk ?_ (by size_fits));refine Xv (m:=firstArgMember _ _) (wpAny_of_eq (a:=YE) (by first |rfl |(simp only[firstArgMember] <;> rfl)) ?_)
 refine Yk ?_ (by size_fits);simp only[raiseNew];refine Xv (wpAny_handled ?_)
 first |rw[show A.in1.handled=none from hh] |rw[hh]
 refine Xv (Xy (wpAny_throw (q _ _ ?_ ⟨_,XA _ rfl,rfl⟩)));exact ((Yb ..).extBut.push _).push _
def cx (q:Bool) (h:Heap) (a:Addr) (xs:Array Value):Prop:=match q with
 |true=>h.IsTuple a xs
 |false=>h.IsList a xs
noncomputable abbrev fW (q:Bool):String:=match q with
 |true=>"tuple_iterator"
 |false=>"list_iterator"
def dU (q:Bool) (h:Heap) (J t:Addr) (i:Nat):Prop:=∃o,h.get? J=some o/\o.cls=.type (fW q)/\o.data=.fields #[.ref t,.int i 0]
theorem dU.extBut {q:Bool}{h h':Heap}{J t c:Addr}{i:Nat} (x:dU q h J t i) (e:ZE c h h') (n:J≠c):dU q h' J t i:=
 let ⟨o,a,b⟩:=x;⟨o,e _ _ n a,b⟩
theorem cx.extBut {q:Bool}{h h':Heap}{t c:Addr}{xs:Array Value} (x:cx q h t xs) (e:ZE c h h') (n:t≠c):cx q h' t xs:=by
 cases q
 ·exact Heap.IsList.extBut x e n
 ·exact Heap.IsTuple.extBut x e n
theorem pQ {q:Bool}{J t:Addr}{i:Nat}{its:Array Value}{x:Value}{Q:Value->Shared->Prop} (hJ:dU q s.heap J t i) (ht:cx q s.heap t its) (hx:its[i]?=some x)
  (h:∀h',dU q h' J t (i+1)->Za J s.heap h'->Q x { s with heap:=h' }):wpAny (model prog w) A (Yl (.ref J)) Q E s:=by
 cases q
 ·exact wpAny_nextOf_list_item hJ ht hx h
 ·exact pP hJ ht hx h
theorem uT {q:Bool}{J t:Addr}{i:Nat}{its:Array Value}{Q:Value->Shared->Prop} (hh:A.handled=none) (hJ:dU q s.heap J t i) (ht:cx q s.heap t its) (hx:its[i]?=none)
  (h:∀h' e,ZE J s.heap h'->(∃o,h'.get? e=some o/\o.cls=.type "StopIteration")->E (.ref e) { s with heap:=h' }):wpAny (model prog w) A (Yl (.ref J)) Q E s:=by
 cases q
 ·exact wpAny_nextOf_list_end hh hJ ht hx h
 ·exact mN hh hJ ht hx h
theorem cx.lt {q:Bool}{h:Heap}{t:Addr}{xs:Array Value} (x:cx q h t xs):t<h.objs.size:=by
 cases q <;> (obtain⟨_,e,_⟩:=x;exact XO e)
end
end L2
namespace L2
open PySem PySem.Spec PyProof.Rows
theorem _root_.PySem.Draws.tuple {prog:Program}{w:World}{A:Around} (hh:A.handled=none) (it l:Addr) (db:l≠it) (items:Array Value) :
  Draws prog w A it [it,l] items.size (λi v=>items[i]?=some v) (λi h=>h.IsTupleIter it l i/\h.IsTuple l items) where
 live:=λ_ _ st=>let ⟨o,ho,_⟩:=st.1;⟨o,ho⟩
 frame:=λ_ _ _ st hk=>⟨st.1.at λo e=>hk it (by simp) o e,st.2.at λo e=>hk l (by simp) o e⟩
 item:=λi s Q E hi st hQ=>by
  refine pP st.1 st.2 (x:=items[i]) (by simp [hi]) λh' pt fo=>?_;exact hQ _ h' s.toks (by simp [hi]) ⟨pt,st.2.extBut fo.extBut db⟩ fo
 done:=λs Q E st VZ=>mN hh st.1 st.2 (by simp) VZ
section
open AutoSeq1 (wpAny_loadPart')
theorem C6 (l:Addr) (items:Array Value) (n:Nat) (ao:Option Addr) (sl:Array (Option Value)) :
  Meets (Builtin.«enumerate.__new__» ⟨[.type "enumerate",.ref l],[]⟩) (λ_ R s=>s.heap.get? l=some { cls:=.type "tuple",dict:=ao,data:=.seq items n,slots:=sl } /\
   R (.ok (.ret (.ref (s.heap.push { cls:=.type "tuple_iterator",data:=.fields #[.ref l,.int 0 0] }).objs.size)))
    { s with heap:=(s.heap.push { cls:=.type "tuple_iterator",data:=.fields #[.ref l,.int 0 0] }).push { cls:=.type "enumerate",data:=.fields #[.none,.bool false,.ref s.heap.objs.size,rawInt 0,.none,.none] } }):=
 .of_wp λprog w A R s h=>by
  obtain⟨hp,g,d,tk,os⟩:=s;obtain⟨hl,h⟩:=h;have hsub:=sub_enumerate;have hL:Heap.IsTuple (Shared.heap ⟨hp,g,d,tk,os⟩) l items:=⟨_,hl,rfl,n,rfl⟩
  wp_walk using Yi hl
  refine wpAny_stack_any λst=>Xy ?_;split
  ·rename_i c _ _ _ _ _;cases (c == ZF "enumerate")
   ·wp_walk using Yi hl,ZI hL
    exact⟨_,rfl,h⟩
   ·wp_walk using Yi hl,ZI hL
    exact⟨_,rfl,h⟩
  ·wp_walk using Yi hl,ZI hL
   exact⟨_,rfl,h⟩
end
section
variable {prog:Program}{w:World}{A:Around}{E:Value->Shared->Prop}{s:Shared}
theorem C7 {l:Addr}{items:Array Value}{Q:Value->Shared->Prop} (hL:IsTup s.heap l items)
  (h:∀h',IsEnum h' (s.heap.objs.size+1) s.heap.objs.size 0 .none->h'.IsTupleIter s.heap.objs.size l 0->h'.objs.size=s.heap.objs.size+2 ->
   (∀b o,s.heap.get? b=some o->h'.get? b=some o)->Q (.ref (s.heap.objs.size+1)) { s with heap:=h' }) :
  wpAny (model prog w) A (call (.type "enumerate") [.ref l]) Q E s:=by
 obtain⟨⟨c,ao,TV,sl⟩,hl,hc,n,hd⟩:=hL;replace hc:c=.type "tuple":=hc;replace hd:TV=.seq items n:=hd;subst hc hd;refine callType_new F.called_enumerate (by decide) (F.typeCall_enumerate_1 _) (F.newCall_enumerate_1 _) (λobj=>F.args_object_init_2 obj _) F.entry_enumerate_new
  (C6 l items n ao sl) ⟨hl,?_⟩
 have hz:(s.heap.push { cls:=.type "tuple_iterator",data:=.fields #[.ref l,.int 0 0] }).objs.size=s.heap.objs.size+1:=Yd ..;show _/\_;rw[hz];have he:IsEnum ((s.heap.push { cls:=.type "tuple_iterator",data:=.fields #[.ref l,.int 0 0] }).push
   { cls:=.type "enumerate",data:=.fields #[.none,.bool false,.ref s.heap.objs.size,rawInt 0,.none,.none] }) (s.heap.objs.size+1) s.heap.objs.size 0 .none:=by
  have:=XA (s.heap.push { cls:=.type "tuple_iterator",data:=.fields #[.ref l,.int 0 0] })
   (o:={ cls:=.type "enumerate",data:=.fields #[.none,.bool false,.ref s.heap.objs.size,rawInt 0,.none,.none] }) rfl
  rw[hz]at this;exact this
 refine⟨⟨_,he,rfl⟩,h _ he ⟨_,Xw _ (XA _ rfl),rfl,rfl⟩ (by rw[Yd,hz]) λb o x=>Xw _ (Xw _ x)⟩
theorem C8 {e it l:Addr}{i:Nat}{items:Array Value}{dh:Value}{Q:Option Value->Shared->Prop} (hh:A.handled=none)
  (he:IsEnum s.heap e it i dh) (hit:s.heap.IsTupleIter it l i) (hl:s.heap.IsTuple l items) (hx:items[i]?=none)
  (hQ:∀h',ZE it s.heap h'->Q none { s with heap:=h' }):wpAny (model prog w) A (pyNext (.ref e)) Q E s:=by
 have hT:s.TypeIs (.ref e) "enumerate":=⟨_,he,rfl⟩;unfold pyNext;refine Xv (Zn (X8 (name:=YU "__next__") hT F.slot_enumerate_next
  (Yc F.slot_enumerate_next hT F.entry_enumerate_next ?_ (F.args_enumerate_next_1 _))))
 show wpAny _ _ (field (.ref e) 2 >>= _) _ _ _;refine Xv (Yt he rfl (x:=.ref it) rfl ?_);refine Xv (mN hh hit hl hx λh' x h8 cW=>?_);obtain⟨o,ho,hc⟩:=cW;refine Xv (Zm (T:="StopIteration") (b:=true) ⟨o,ho,hc⟩ isSubtype_stop ?_);exact Xy (hQ _ h8)
end
end L2
namespace L2
open PySem PySem.Spec PyProof.Rows PySem.W
theorem uU:Manifest.owners.lookup (String.ofList ['d','e','s','r','e','v','e','r'].reverse)=some Manifest.sig_reversed:=by kernel_rfl
theorem ko:Slot "reversed" "__next__" "reversed.__next__":=
 .of (owner:="reversed") (n:="__next__") (by rw[Y4,YB];kernel_rfl) (by decide +kernel) (by decide +kernel) (by decide +kernel)
  (by first |exact .inl (by decide +kernel) |exact .inr (by decide +kernel)) (by rw[Zz];kernel_rfl)
theorem uV:entryFor table "reversed.__next__"=some Builtin.«reversed.__next__»:=entryFor_of_tree (by kernel_rfl)
theorem uW (a:Value):argsOk "reversed.__next__" ⟨[a],[]⟩:=by
 unfold argsOk;rw[signature?_of (id:="reversed.__next__") (n:=['_','_','t','x','e','n','_','_']) (o:=['d','e','s','r','e','v','e','r']) (by kernel_rfl) uU];kernel_rfl
theorem u5:Slot "reversed" "__iter__" "reversed.__iter__":=
 .of (owner:="reversed") (n:="__iter__") (by rw[Y4,YB];kernel_rfl) (by decide +kernel) (by decide +kernel) (by decide +kernel)
  (by first |exact .inl (by decide +kernel) |exact .inr (by decide +kernel)) (by rw[Zz];kernel_rfl)
theorem C9 (a:Value):argsOk "reversed.__iter__" ⟨[a],[]⟩:=by
 unfold argsOk;rw[signature?_of (id:="reversed.__iter__") (n:=['_','_','r','e','t','i','_','_']) (o:=['d','e','s','r','e','v','e','r']) (by kernel_rfl) uU];kernel_rfl
theorem Dc:entryFor table "reversed.__iter__"=some Builtin.«dict_keyiterator.__iter__»:=
 entryFor_alias (id':="dict_keyiterator.__iter__") (by kernel_rfl) (by first |rfl |decide +kernel |(unfold String.splitOn;simp +decide [String.splitOnAux])) (by decide +kernel) (by kernel_rfl)
theorem Dd:Slot "reversed" "__init__" "object.__init__":=
 .of (owner:="object") (n:="__init__") (by rw[Y4,YB];kernel_rfl) (by decide +kernel) (by decide +kernel) (by decide +kernel)
  (by first |exact .inl (by decide +kernel) |exact .inr (by decide +kernel)) (by rw[Zz];kernel_rfl)
theorem De:TypeCalled "reversed" "reversed.__new__" "object.__init__":=
 ⟨by decide +kernel,by decide +kernel,⟨_,_,F.mro_reversed⟩,F.made_reversed,by decide +kernel,by rw[Zz];kernel_rfl,Dd⟩
theorem Df:typeLookup (.type "tuple") "__reversed__"=pure none:=by rw[Y4,YB];kernel_rfl
theorem Dg:isSubtype (.type "tuple") (.type "dict")=pure false:=by rw[Zz];kernel_rfl
section
open AutoSeq1 (wpAny_loadPart')
theorem Dh (l:Addr) (items:Array Value) (n:Nat) (ao:Option Addr) (sl:Array (Option Value)) (hz:items.size<=sizeLine) :
  Meets (Builtin.«reversed.__new__» ⟨[.type "reversed",.ref l],[]⟩) (λ_ R s=>s.heap.get? l=some { cls:=.type "tuple",dict:=ao,data:=.seq items n,slots:=sl } /\
   ∀tk,R (.ok (.ret (.ref s.heap.objs.size))) { s with heap:=s.heap.push { cls:=.type "reversed",data:=.fields #[.ref l,rawInt ((items.size:Int)-1)] },toks:=tk }):=
 .of_wp λprog w A R s h=>by
  obtain⟨hp,g,d,tk,os⟩:=s;obtain⟨hl,h⟩:=h;have hsub:=F.sub_reversed_self;have hL:Heap.IsTuple (Shared.heap ⟨hp,g,d,tk,os⟩) l items:=⟨_,hl,rfl,n,rfl⟩;have f1:=Df;have f2:=Dg;have f3:=F.slot_tuple_getitem.lookup;have pR:(items.size:Int)<2 ^ 63:=by have:items.size<=16777216:=hz;lia
  unfold Builtin.«reversed.__new__»;refine Xv (wpAny_of_eq (newClass_reversed _) ?_);refine Xv (wpAny_of_eq (a:=()) (by kernel_rfl) (Xv (wpAny_of_eq (a:=()) (by kernel_rfl) ?_)));dsimp only;refine Xv (wpAny_specialOf hL.typeIs f1 ?_);dsimp only;refine Xv (Zu (Q:=λb s'=>b=true/\s'=(⟨hp,g,d,tk,os⟩:Shared)) ?slot (λb s' hb=>?rest) λ_ _ x=>x)
  case slot=>
   wp_walk using Yi hl
   exact⟨rfl,rfl⟩
  obtain⟨rfl,rfl⟩:=hb;rw[if_neg (by decide)];refine Xv (PyProof.Rows.len_tuple hL pR ?_)
  wp_walk using Yi hl
  exact⟨_,rfl,h _⟩
end
section
variable {prog:Program}{w:World}{A:Around}{E:Value->Shared->Prop}{s:Shared}
def d9 (h:Heap) (a l:Addr) (i:Int):Prop:=∃o,h.get? a=some o/\o.cls=.type "reversed"/\o.data=.fields #[.ref l,rawInt i]
theorem d9.typeIs {a l:Addr}{i:Int} (x:d9 s.heap a l i):s.TypeIs (.ref a) "reversed":=let ⟨o,ho,hc,_⟩:=x;⟨o,ho,hc⟩
theorem d9.at {h h':Heap}{a l:Addr}{i:Int} (x:d9 h a l i) (e:∀o,h.get? a=some o->h'.get? a=some o):d9 h' a l i:=let ⟨o,ho,r⟩:=x;⟨o,e _ ho,r⟩
theorem Di {l:Addr}{items:Array Value}{Q:Value->Shared->Prop} (hL:IsTup s.heap l items) (hz:items.size<=sizeLine)
  (h:∀h' tk,d9 h' s.heap.objs.size l ((items.size:Int)-1)->h'.objs.size=s.heap.objs.size+1->(∀b o,s.heap.get? b=some o->h'.get? b=some o)->Q (.ref s.heap.objs.size) { s with heap:=h',toks:=tk }) :
  wpAny (model prog w) A (call (.type "reversed") [.ref l]) Q E s:=by
 obtain⟨⟨c,ao,TV,sl⟩,hl,hc,n,hd⟩:=hL;replace hc:c=.type "tuple":=hc;replace hd:TV=.seq items n:=hd;subst hc hd;refine callType_new De (by decide) (F.typeCall_reversed_1 _) (F.newCall_reversed_1 _) (λobj=>F.args_object_init_2 obj _) F.entry_reversed_new
  (Dh l items n ao sl hz) ⟨hl,λtk=>?_⟩
 have he:(s.heap.push { cls:=.type "reversed",data:=.fields #[.ref l,rawInt ((items.size:Int)-1)] }).get? s.heap.objs.size=some { cls:=.type "reversed",data:=.fields #[.ref l,rawInt ((items.size:Int)-1)] }:=XA _ rfl;exact⟨⟨_,he,rfl⟩,h _ tk ⟨_,he,rfl,rfl⟩ (Yd ..) λb o x=>Xw _ x⟩
theorem Dj {it l:Addr}{i:Nat}{items:Array Value}{x:Value}{Q:Option Value->Shared->Prop} (hit:d9 s.heap it l (i:Int)) (hl:IsTup s.heap l items) (hz:items.size<=sizeLine) (hx:items[i]?=some x)
  (q:∀h' tk,d9 h' it l ((i:Int)-1)->Za it s.heap h'->Q (some x) { s with heap:=h',toks:=tk }):wpAny (model prog w) A (pyNext (.ref it)) Q E s:=by
 have ty:=hit.typeIs;have hi:i<items.size:=(Array.getElem?_eq_some_iff.mp hx).1;have hz':items.size<=16777216:=hz;obtain⟨ob,h1,h2,h3⟩:=hit;have V0:seqIndex? (i:Int) items.size=some i:=by
  unfold seqIndex?;rw[if_neg (show ¬(i:Int)<0 by lia),if_pos (by rw[XD];exact⟨decide_eq_true (by lia),decide_eq_true (by lia)⟩)];rfl
 unfold pyNext;refine Xv (Zn (X8 (name:=YU "__next__") ty ko (Yc ko ty uV ?_ (uW _))));unfold Builtin.«reversed.__next__»;refine Xv (wpAny_of_eq (a:=(Yj it,[])) rfl (Xv (Yt h1 h3 (x:=.ref l) rfl (Xv (Yt h1 h3 (x:=rawInt (i:Int)) rfl ?_)))));refine (show wpAny _ _ (if (i:Int)<0 then _ else specialOf (.ref l) "__getitem__" >>= _) _ _ s from ?_)
 rw[if_neg (by lia)];refine Xv (wpAny_specialOf hl.typeIs F.slot_tuple_getitem.lookup (show wpAny _ _ (mkInt (i:Int) >>= _) _ _ s from Xv (wpAny_mkInt (Xv (Zn (getItem_tuple (j:=i) (x:=x) (show IsTup s.heap l items from hl) (by lia) (by lia) V0 hx ?_))))));refine (show wpAny _ _ (field (.ref it) 1 >>= _) _ _ _ from Xv (Yt (show s.heap.get? it=some ob from h1) h3 (x:=rawInt (i:Int)) rfl (show wpAny _ _ (setField (.ref it) 1 (rawInt ((i:Int)-1)) >>= _) _ _ _ from Xv (wpAny_setField (show s.heap.get? it=some ob from h1) h3 (by simp) (Xy ⟨x,rfl,Xy (q _ _ ?_ (Yb ..))⟩)))));refine⟨_,Yg _ h1 (Obj.isFreed_of_fields (Obj.data_mapFields h3 _)),Eq.trans (Obj.cls_mapFields ..) h2,?_⟩;rw[Obj.data_mapFields h3] <;> simp
theorem Dk {it l:Addr}{Q:Option Value->Shared->Prop} (hh:A.handled=none) (hit:d9 s.heap it l (-1))
  (q:∀h' tk,ZE it s.heap h'->Q none { s with heap:=h',toks:=tk }):wpAny (model prog w) A (pyNext (.ref it)) Q E s:=by
 have ty:=hit.typeIs;obtain⟨⟨c,dd,data,sl⟩,h1,h2,h3⟩:=hit;simp only at h2 h3;subst h2 h3;unfold pyNext;refine Xv (Zn (X8 (name:=YU "__next__") ty ko (Yc ko ty uV ?_ (uW _))));obtain⟨hp,g,d,tk,os⟩:=s
 wp_walk using Yi h1
 unfold raiseNew;refine Xv (wpAny_handled ?_);rw[show A.in1.handled=none from hh];refine Xv (Xy (wpAny_throw ?_));refine Xv (Zm (T:="StopIteration") (b:=true) ⟨_,XA _ rfl,rfl⟩ isSubtype_stop (Xy (q _ _ ?_)));exact λb u nb e=>Xw _ (Xw _ ((Yb ..).extBut b u nb ((Yb ..).extBut b u nb e)))
theorem vc {it l:Addr}{i:Int}{Q:Value->Shared->Prop} (hit:d9 s.heap it l i) (h:Q (.ref it) s):wpAny (model prog w) A (pyIter (.ref it)) Q E s:=by
 refine wpAny_pyIter_slot hit.typeIs u5 (Yc u5 hit.typeIs Dc ?_ (C9 _));show wpAny _ _ (ret (.ref it)) _ _ s;exact Xy ⟨_,rfl,"reversed",_,hit.typeIs,ko.lookup,h⟩
end
end L2
end
section
namespace N
open PySem PySem.Spec PyProof.Rows L2
inductive D where
 |aj |bl (b:Bool) |int (i:Int) |str (x:Str) |ref (a:Addr) |ty (n:String)
 |tup (ds:List D) |lst (ds:List D) |ao (ks:List Key) (ds:List D)
inductive Fo where
 |dat (o:Obj) |pin (o:Obj) |jl (o:Obj) |tab (p:Pos) (q:Str)
abbrev Fz:=Addr->Option Fo
structure Gx where
 P:Program
 w:World
 K:PySem.W.Frag
 mg:Str->Option Value
 base:Heap
 ex:Fz
def Le (F F':Fz):Prop:=∀a f,F a=some f->F' a=some f
theorem Le.rfl {F:Fz}:Le F F:=λ_ _ h=>h
theorem Le.tr {F F1 F2:Fz} (a:Le F F1) (b:Le F1 F2):Le F F2:=λc f h=>b c f (a c f h)
structure Bs (G:Gx) (F:Fz):Prop where
 b:∀b o,G.base.get? b=some o->F b=some (.dat o)
 x:Le G.ex F
theorem Bs.up {G:Gx}{F F':Fz} (h:Bs G F) (l:Le F F'):Bs G F':=⟨λb o e=>l b _ (h.b b o e),h.x.tr l⟩
def cg (F F':Fz):Prop:=∀a o,F a=some (.dat o)->F' a=some (.dat o)
theorem Le.d {F F':Fz} (l:Le F F'):cg F F':=λa o=>l a (.dat o)
section
variable {α:Type}
noncomputable def up (F:Addr->Option α) (a:Addr) (o:α):Addr->Option α:=λb=>if b=a then some o else F b
theorem av {F:Addr->Option α}{a:Addr}{o:α}:up F a o a=some o:=if_pos rfl
theorem aF {F:Addr->Option α}{a b:Addr}{o:α} (h:b≠a):up F a o b=F b:=if_neg h
noncomputable def rm (F:Addr->Option α) (a:Addr):Addr->Option α:=λb=>if b=a then none else F b
theorem mO {F:Addr->Option α}{a:Addr}:rm F a a=none:=if_pos rfl
theorem pS {F:Addr->Option α}{a b:Addr} (h:b≠a):rm F a b=F b:=if_neg h
theorem di {F:Addr->Option α}{a b:Addr}{o:α} (h:F a=some o) (h':F b=none):a≠b:=λe=>by rw[e,h']at h;cases h
end
theorem Le.new {F:Fz}{a:Addr}{f:Fo} (h:F a=none):Le F (up F a f):=λb g e=>by rw[aF (di e h)];exact e
structure kq (o:Obj) (us:List Value):Prop where
 cls:o.cls=.type "tuple"
 dict:o.dict=none
 data:∃n,o.data=.seq us.toArray n
 len:us.length<=sizeLine
noncomputable def bS (us:List Value) (n:Nat):Obj:={ cls:=.type "list",data:=.seq us.toArray n }
structure kr (G:Gx) (o:Obj) (ks:List Key) (us:List Value):Prop where
 ex:o.ExactDict
 bV:∃es ep,o.data=.dict es ep/\KeysOf (bE G.P G.w) es/\Pairs (bE G.P G.w) es.toList (ks.zip us)
 nd:ks.Nodup
 len:us.length=ks.length
 sz:ks.length<=sizeLine
mutual
def ab (G:Gx) (F:Fz):D->Value->Prop
 |.aj,u=>u=.none
 |.bl b,u=>u=.bool b
 |.int i,u=>∃t,u=.int i t
 |.str x,u=>∃t,u=.str x t
 |.ref a,u=>u=.ref a
 |.ty n,u=>u=.type n
 |.tup ds,u=>∃a o us,u=.ref a/\F a=some (.dat o)/\kq o us/\ah G F ds us
 |.lst ds,u=>∃a n us,u=.ref a/\F a=some (.dat (bS us n))/\us.length<=sizeLine/\ah G F ds us
 |.ao ks ds,u=>∃a o us,u=.ref a/\F a=some (.dat o)/\kr G o ks us/\(a == sysModules)=false/\ah G F ds us
def ah (G:Gx) (F:Fz):List D->List Value->Prop
 |[],us=>us=[]
 |d::ds,us=>∃u r,us=u::r/\ab G F d u/\ah G F ds r
end
section
variable {G:Gx}{F F':Fz}
theorem ah.nil:ah G F [] []:=by rw[ah]
theorem ah.cons {d:D}{ds:List D}{u:Value}{us:List Value} (h:ab G F d u) (t:ah G F ds us):ah G F (d::ds) (u::us):=by rw[ah];exact⟨u,us,rfl,h,t⟩
theorem ah.p:∀{ds:List D}{us:List Value},ah G F ds us->Paired (ab G F) ds us
 |[],us,h=>by rw[ah]at h;subst h;exact .nil
 |d::ds,us,h=>by rw[ah]at h;obtain⟨y,ys,rfl,h1,h2⟩:=h;exact .cons h1 h2.p
theorem ah.len {ds:List D}{us:List Value} (h:ah G F ds us):ds.length=us.length:=h.p.length
mutual
theorem ab.up (l:cg F F'):∀{d:D}{u:Value},ab G F d u->ab G F' d u
 |.aj,u,h=>by rw[ab]at h ⊢;exact h
 |.bl _,u,h=>by rw[ab]at h ⊢;exact h
 |.int _,u,h=>by rw[ab]at h ⊢;exact h
 |.str _,u,h=>by rw[ab]at h ⊢;exact h
 |.ref _,u,h=>by rw[ab]at h ⊢;exact h
 |.ty _,u,h=>by rw[ab]at h ⊢;exact h
 |.tup ds,u,h=>by rw[ab]at h ⊢;obtain⟨a,o,us,e,h1,h2,h3⟩:=h;exact⟨a,o,us,e,l a o h1,h2,h3.up l⟩
 |.lst ds,u,h=>by rw[ab]at h ⊢;obtain⟨a,o,us,e,h1,h2,h3⟩:=h;exact⟨a,o,us,e,l a _ h1,h2,h3.up l⟩
 |.ao ks ds,u,h=>by rw[ab]at h ⊢;obtain⟨a,o,us,e,h1,h2,h4,h3⟩:=h;exact⟨a,o,us,e,l a o h1,h2,h4,h3.up l⟩
theorem ah.up (l:cg F F'):∀{ds:List D}{us:List Value},ah G F ds us->ah G F' ds us
 |[],us,h=>by rw[ah]at h ⊢;exact h
 |d::ds,us,h=>by rw[ah]at h ⊢;obtain⟨u,r,e,h1,h2⟩:=h;exact⟨u,r,e,h1.up l,h2.up l⟩
end
end
def fX (G:Gx) (F:Fz):Option D->Option Value->Prop
 |some d,some u=>ab G F d u
 |none,none=>True
 |_,_=>False
theorem fX.up {G:Gx}{F F':Fz} (l:cg F F') {d:Option D}{u:Option Value} (h:fX G F d u):fX G F' d u:=by
 cases d with
 |none=>cases u with
  |none=>trivial
  |some u=>exact h
 |some d=>cases u with
  |none=>exact h
  |some u=>exact ab.up l h
def KV {κ:Type} (G:Gx) (F:Fz):List (κ×D)->List (κ×Value)->Prop:=Paired λp q=>p.1=q.1/\ab G F p.2 q.2
theorem Paired.UZ {α β:Type} {P Q:α->β->Prop} (f:∀a b,P a b->Q a b):∀{l:List α}{m:List β},Paired P l m->Paired Q l m
 |_,_,.nil=>.nil
 |_,_,.cons r t=>.cons (f _ _ r) (Paired.UZ f t)
theorem KV.up {κ:Type} {G:Gx}{F F':Fz} (l:cg F F') {a:List (κ×D)}{b:List (κ×Value)} (h:KV G F a b):KV G F' a b:=Paired.UZ (λ_ _ r=>⟨r.1,r.2.up l⟩) h
inductive MO where
 |lst (ds:List D) |ao (kvs:List (Key×D)) |ins (C dx:Addr) (fs:List (Str×D)) |own (x:Addr) |ku (ps:Array Value)
abbrev Mp:=Addr->Option MO
def ec (G:Gx) (F:Fz) (M:Mp) (h:Heap) (a:Addr):MO->Prop
 |.lst ds=>ds.length<=sizeLine/\∃us n,ah G F ds us/\h.get? a=some (bS us n)
 |.ao kvs=>kvs.length<=sizeLine/\(a == sysModules)=false/\∃vs,KV G F kvs vs/\h.DictOf (bE G.P G.w) a vs
 |.ins C dx fs=>M dx=some (.own a)/\fs.length<=1000/\dx≠a/\h.get? a=some (PySem.W.instObj C dx)/\∃mA,h.Ns1 dx mA/\(∀f,fX G F (fs.lookup f) (mA f))/\PySem.Within mA (fs.map (·.1))
 |.own _=>∃o,h.get? a=some o
 |.ku ps=>h.get? a=some { cls:=.none,data:=.fields ps }
def Fo.At (h:Heap) (a:Addr):Fo->Prop
 |.dat o=>h.get? a=some o
 |.pin o=>h.get? a=some o
 |.jl o=>∃sl,h.get? a=some { o with slots:=sl }
 |.tab _ _=>∃ps,h.get? a=some { cls:=.none,data:=.fields ps }
def eJ (o:Obj) (q:Str):Prop:=∃vs t,o.data=.fields vs/\vs[1]?=some (.str q t)
def Dl (F:Fz) (h:Heap) (T:Addr) (p:Pos) (q:Str):Prop:=h.get? T=some { cls:=.none,data:=.fields #[] }\/∃c o,h.get? T=some { cls:=.none,data:=.fields #[rawInt p.line,rawInt p.col,.ref c] }/\F c=some (.dat o)/\eJ o q
def mP (F:Fz) (h:Heap):Prop:=∀T p q,F T=some (.tab p q)->Dl F h T p q
structure aK (G:Gx) (F:Fz) (M:Mp) (h:Heap):Prop where
 fz:∀a f,F a=some f->f.At h a
 ob:∀a o,M a=some o->F a=none/\ec G F M h a o
 tb:mP F h
section
variable {G:Gx}{F F':Fz}{M M':Mp}{h h':Heap}{a:Addr}{o:MO}{f:Fo}
theorem ec.lt (x:ec G F M h a o):a<h.objs.size:=by
 cases o with
 |lst xs=>obtain⟨_,_,_,_,e⟩:=x;exact XO e
 |ao kvs=>obtain⟨_,_,_,_,o,_,_,e,_⟩:=x;exact XO e
 |ins C dx fs=>obtain⟨_,_,_,e,_⟩:=x;exact XO e
 |own y=>obtain⟨_,e⟩:=x;exact XO e
 |ku ps=>exact XO (show h.get? a=some _ from x)
theorem Fo.At.lt (x:f.At h a):a<h.objs.size:=by
 cases f with
 |dat o=>exact XO (show h.get? a=some o from x)
 |pin o=>exact XO (show h.get? a=some o from x)
 |jl o=>obtain⟨_,e⟩:=x;exact XO e
 |tab p q=>obtain⟨_,e⟩:=x;exact XO e
def bw (h h':Heap) (b:Addr):Prop:=∀o,h.get? b=some o->h'.get? b=some o
theorem Fo.At.go (x:f.At h a) (k:bw h h' a):f.At h' a:=by
 cases f with
 |dat o=>exact k _ x
 |pin o=>exact k _ x
 |jl o=>obtain⟨sl,e⟩:=x;exact⟨sl,k _ e⟩
 |tab p q=>obtain⟨sl,e⟩:=x;exact⟨sl,k _ e⟩
theorem mP.go (x:mP F h) (b:∀T p q,F' T=some (.tab p q)->F T=some (.tab p q)) (l:cg F F') (k:∀T p q,F' T=some (.tab p q)->bw h h' T):mP F' h':=λT p q e=>by
 rcases x T p q (b T p q e) with y |⟨c,o,h1,h2,h3⟩
 ·exact .inl (k T p q e _ y)
 ·exact .inr ⟨c,o,k T p q e _ h1,l c o h2,h3⟩
theorem ec.go (x:ec G F M h a o) (l:cg F F') (k:∀b,b=a\/M b=some (.own a)->bw h h' b) (ho:∀b,M b=some (.own a)->M' b=some (.own a)):ec G F' M' h' a o:=by
 cases o with
 |lst xs=>obtain⟨z,us,n,r,e⟩:=x;exact⟨z,us,n,r.up l,k a (.inl rfl) _ e⟩
 |ao kvs=>obtain⟨z,y,vs,r,ob,es,ep,e,c⟩:=x;exact⟨z,y,vs,r.up l,ob,es,ep,k a (.inl rfl) _ e,c⟩
 |ins C dx fs=>
  obtain⟨d,z,ne,e,mA,⟨od,es,ep,e2,c⟩,r1,r2⟩:=x;exact⟨ho _ d,z,ne,k a (.inl rfl) _ e,mA,⟨od,es,ep,k dx (.inr d) _ e2,c⟩,λf=>(r1 f).up l,r2⟩
 |own y=>obtain⟨ob,e⟩:=x;exact⟨ob,k a (.inl rfl) _ e⟩
 |ku ps=>exact k a (.inl rfl) _ x
theorem aK.cz (x:aK G F M h) (e:h.objs.size<=a):F a=none:=by
 cases q:F a with
 |none=>rfl
 |some u=>exact absurd (XW (x.fz a u q).lt e) (Y' _)
theorem aK.dj (x:aK G F M h) (e:h.objs.size<=a):M a=none:=by
 cases q:M a with
 |none=>rfl
 |some u=>exact absurd (XW (x.ob a u q).2.lt e) (Y' _)
theorem aK.keep (x:aK G F M h) (k:∀b,F b≠none\/M b≠none->bw h h' b):aK G F M h':=
 ⟨λb f e=>(x.fz b f e).go (k b (.inl (by rw[e];exact Yn f))),λb o e=>⟨(x.ob b o e).1,(x.ob b o e).2.go Le.rfl.d (λc hc=>k c (.inr (by
  rcases hc with rfl |hc
  ·rw[e];exact Yn o
  ·rw[hc];exact Yn _))) λ_ q=>q⟩,x.tb.go (λ_ _ _ e=>e) Le.rfl.d λT p q e=>k T (.inl (by rw[e];exact Yn _))⟩
theorem aK.kx (x:aK G F M h) (k:∀b,bw h h' b) (hp:h.objs.size<=a) (new:ec G F (up M a o) h' a o):aK G F (up M a o) h':=
 ⟨λb f e=>(x.fz b f e).go (k b),λb u e=>by
  by_cases hb:b=a
  ·subst hb;rw[av]at e;cases e;exact⟨x.cz hp,new⟩
  ·rw[aF hb]at e;exact⟨(x.ob b u e).1,(x.ob b u e).2.go Le.rfl.d (λc _=>k c) λc q=>by rw[aF (di q (x.dj hp))];exact q⟩,x.tb.go (λ_ _ _ e=>e) Le.rfl.d λT _ _ _=>k T⟩
theorem aK.ky (x:aK G F M h) (hF:F a=none) (hM:M a=none) (e:f.At h a) (nt:∀p q,f≠.tab p q:=by intro _ _ h;cases h):aK G (up F a f) M h:=by
 refine⟨λb g q=>?_,λb u q=>⟨by rw[aF (di q hM)];exact (x.ob b u q).1,(x.ob b u q).2.go (Le.new hF).d (λ_ _ _ e=>e) λ_ e=>e⟩,x.tb.go (λT p q e=>?_) (Le.new hF).d λ_ _ _ _ _ e=>e⟩
 case refine_2=>
  by_cases hb:T=a
  ·subst hb;rw[av]at e;cases e;exact absurd rfl (nt p q)
  ·rw[aF hb]at e;exact e
 by_cases hb:b=a
 ·subst hb;rw[av]at q;cases q;exact e
 ·rw[aF hb]at q;exact x.fz b g q
theorem aK.jm (x:aK G F M h) (k:∀b,bw h h' b) (hp:h.objs.size<=a) (new:f.At h' a) (nt:∀p q,f≠.tab p q:=by intro _ _ h;cases h):aK G (up F a f) M h':=(x.keep λb _=>k b).ky (x.cz hp) (x.dj hp) new nt
noncomputable def MO.mut:MO->Bool
 |.own _=>false
 |.ku _=>false
 |_=>true
theorem aK.put {x e:Addr}{o':MO} (ok:aK G F M h) (hx:M x=some o) (U0:o.mut=true) (he:e=x\/M e=some (.own x)) (k:∀b,b≠e->bw h h' b) (pT:∃u,h'.get? e=some u) (new:ec G F (up M x o') h' x o'):aK G F (up M x o') h':=by
 have ut:∀c y,M c=some (.own y)->c≠x:=λc y r z=>by rw[z,hx]at r;cases r;cases U0
 have hF:F e=none:=by
  rcases he with rfl |he
  ·exact (ok.ob _ _ hx).1
  ·exact (ok.ob _ _ he).1
 refine⟨λb f q=>(ok.fz b f q).go (k b (di q hF)),λb u q=>?_,ok.tb.go (λ_ _ _ e=>e) Le.rfl.d λT _ _ q=>k T (di q hF)⟩;by_cases hb:b=x
 ·subst hb;rw[av]at q;cases q;exact⟨(ok.ob _ _ hx).1,new⟩
 ·rw[aF hb]at q;refine⟨(ok.ob b u q).1,?_⟩;by_cases mQ:b=e
  ·have q':M b=some (.own x):=he.elim (λz=>absurd (mQ.trans z) hb) λz=>(by rw[mQ];exact z);rw[q]at q';cases q';obtain⟨v,hv⟩:=pT;exact⟨v,by rw[mQ];exact hv⟩
  ·refine (ok.ob b u q).2.go Le.rfl.d (λc hc=>k c ?_) λc r=>(by rw[aF (ut c b r)];exact r);rcases hc with rfl |hc
   ·exact mQ
   ·rintro rfl;rcases he with z |z
    ·exact ut c b hc z
    ·rw[hc]at z;cases z;exact hb rfl
end
noncomputable def a3 (F P:Fz):Fz:=λb=>match P b with
 |some f=>some f
 |none=>F b
noncomputable def aQ (F P:Fz):Fz:=λb=>match P b with
 |some _=>none
 |none=>F b
section
variable {G:Gx}{F F' P:Fz}{M:Mp}{h h':Heap}{b:Addr}{f:Fo}
theorem dC (e:P b=some f):a3 F P b=some f:=by unfold a3;rw[e]
theorem fq (e:P b=none):a3 F P b=F b:=by unfold a3;rw[e]
theorem ft (e:P b=some f):aQ F P b=none:=by unfold aQ;rw[e]
theorem fu (e:P b=none):aQ F P b=F b:=by unfold aQ;rw[e]
theorem Le.pin (d:∀b,P b≠none->F b=none):Le F (a3 F P):=λb f e=>by
 cases q:P b with
 |none=>rw[fq q];exact e
 |some g=>rw[d b (by rw[q];exact Yn g)]at e;cases e
theorem Le.aQ (d:∀b,P b≠none->F b=none) (l:Le (a3 F P) F'):Le F (aQ F' P):=λb f e=>by
 cases q:P b with
 |none=>rw[fu q];exact l b f (by rw[fq q];exact e)
 |some g=>rw[d b (by rw[q];exact Yn g)]at e;cases e
def mR (P:Fz):Prop:=∀b o,P b≠some (.dat o)
theorem cg.aQ (n:mR P) (l:Le (a3 F P) F'):cg F' (aQ F' P):=λb o e=>by
 cases q:P b with
 |none=>rw[fu q];exact e
 |some g=>
  have:=l b g (dC q);rw[e]at this;cases this;exact absurd q (n b o)
theorem aK.pin (x:aK G F M h) (p:∀b f,P b=some f->f.At h b/\M b=none) (d:∀b,P b≠none->F b=none) (nt:∀b p q,P b≠some (.tab p q)):aK G (a3 F P) M h:=by
 refine⟨λb f e=>?_,λb o e=>⟨?_,(x.ob b o e).2.go (Le.pin d).d (λ_ _ _ q=>q) λ_ q=>q⟩,x.tb.go (λT a b e=>?_) (Le.pin d).d λ_ _ _ _ _ e=>e⟩
 case refine_3=>
  cases q:P T with
  |none=>rw[fq q]at e;exact e
  |some g=>rw[dC q]at e;cases e;exact absurd q (nt _ _ _)
 ·cases q:P b with
  |none=>rw[fq q]at e;exact x.fz b f e
  |some g=>rw[dC q]at e;cases e;exact (p b _ q).1
 ·rw[fq];exact (x.ob b o e).1;cases q:P b with
  |none=>rfl
  |some g=>have:=(p b _ q).2;rw[e]at this;cases this
theorem aK.aQ (x:aK G F' M h) (n:mR P) (l:Le (a3 F P) F'):aK G (aQ F' P) M h:=by
 refine⟨λb f e=>?_,λb o e=>⟨?_,(x.ob b o e).2.go (cg.aQ n l) (λ_ _ _ q=>q) λ_ q=>q⟩,x.tb.go (λT a b e=>?_) (cg.aQ n l) λ_ _ _ _ _ e=>e⟩
 case refine_3=>
  cases q:P T with
  |none=>rw[fu q]at e;exact e
  |some g=>rw[ft q]at e;cases e
 ·cases q:P b with
  |none=>rw[fu q]at e;exact x.fz b f e
  |some g=>rw[ft q]at e;cases e
 ·cases q:P b with
  |none=>rw[fu q];exact (x.ob b o e).1
  |some g=>exact ft q
end
abbrev St:=List (Option D)
structure Z where
 F:Fz
 M:Mp
 s:Shared
structure pU where
 C:Value
 fs:List (Str×D)
structure Mod (G:Gx):Prop where
 fv:G.K.In G.base
 dE:G.base.Ns mainGlobals G.mg
 kA:∃b,G.base.Ns builtinsNs b/\∀x:Str,x≠"__name__"->b x=bootBuiltins x
 jn:G.base.NoLimit
structure Cx where
 G:Gx
 A:Around
 N:List Str
 os:OsState
 env:Env
 outer:List Env
 stk:List Env
 fn:Str->Bool
 calm:Bool
 x:pU->St->Mp->Prop
structure Cx.Ok (X:Cx):Prop where
 bC:Mod X.G
 kind:X.env.scope.kind=.function
 dE:X.env.globals=mainGlobals
 kA:X.env.builtins=builtinsNs
 inj:∀x y c,X.env.cells.lookup x=some c->X.env.cells.lookup y=some c->x=y
 has:∀x,(X.env.kindOf x=some .cell\/X.env.kindOf x=some .free)->∃c,X.env.cells.lookup x=some c
 hd:X.calm=true->X.A.handled=none
 frames:X.A.frames=some X.stk
 stk:X.stk=X.outer\/(X.stk=X.env::X.outer/\X.env.frame=some X.env.locals)
def jo (G:Gx) (F:Fz) (env:Env):Prop:=env.scope.kind≠.module/\∃L o,env.frame=some L/\F L=some (.jl o)/\G.base.get? L=none/\∀vs,o.data≠.fields vs
structure ae (X:Cx) (τ:St) (z:Z):Prop where
 ok:X.Ok
 bs:Bs X.G z.F
 os:z.s.os=X.os
 bare:AllBare z.s.gens
 cj:∀env∈X.outer,jo X.G z.F env
 loc:∃m,z.s.heap.Ns X.env.locals m/\∀(i:Nat) (x:Str) (d:D),X.N[i]?=some x->τ[i]?=some (some d)->jj X.env.scope x->∃u,ab X.G z.F d u/\jk X.env z.s.heap m x u
 cell:∀x c,X.env.cells.lookup x=some c->(∃v,z.s.heap.IsCell c v)/\z.M c=none/\((X.fn x=true/\z.F c=none)\/(X.fn x=false/\∃o,z.F c=some (.pin o)))
 free:z.F X.env.locals=none/\z.M X.env.locals=none
 hok:aK X.G z.F z.M z.s.heap
 len:τ.length=X.N.length
def vd (G:Gx) (z:Z) (x:pU) (e:Value):Prop:=False
def XE (X:Cx) (e:Value) (s:Shared):Prop:=∃x τ z,z.s=s/\ae X τ z/\vd X.G z x e/\X.x x τ z.M
theorem XE.no {X:Cx}{e:Value}{s:Shared} (h:XE X e s):False:=by obtain⟨_,_,_,_,_,h,_⟩:=h;exact h
def cL (X:Cx) (b:Addr):Prop:=b=X.env.locals\/∃x,X.env.cells.lookup x=some b
def ve (h h':Heap) (b:Addr):Prop:=∀o,h.get? b=some o->∃sl,h'.get? b=some { o with slots:=sl }
theorem bw.s {h h':Heap}{b:Addr} (k:bw h h' b):ve h h' b:=λo e=>⟨o.slots,k o e⟩
section
variable {X:Cx} {τ:St} {z z':Z}{h':Heap}{a b:Addr}
theorem ae.bk (I:ae X τ z):∀b o,X.G.base.get? b=some o->z.s.heap.get? b=some o:=λb o e=>I.hok.fz b _ (I.bs.b b o e)
theorem ae.bW (I:ae X τ z):X.G.K.In z.s.heap:=I.ok.bC.fv.keeps I.bk
theorem ae.dk (I:ae X τ z) (h:cL X b):z.M b=none:=by
 rcases h with rfl |⟨x,h⟩
 ·exact I.free.2
 ·exact (I.cell x b h).2.1
theorem ae.vf (I:ae X τ z) (h:cL X b):∃o,z.s.heap.get? b=some o:=by
 rcases h with rfl |⟨x,h⟩
 ·obtain⟨m,⟨o,_,_,e,_⟩,_⟩:=I.loc;exact⟨o,e⟩
 ·obtain⟨⟨v,o,e,_⟩,_⟩:=I.cell x b h;exact⟨o,e⟩
theorem ae.fY (I:ae X τ z) (h:cL X b):b<z.s.heap.objs.size:=let ⟨_,e⟩:=I.vf h;XO e
theorem ae.jq (I:ae X τ z) {x:Str}{c:Addr} (e:X.env.cells.lookup x=some c):c≠X.env.locals:=λq=>by
 obtain⟨⟨v,o,ho,hd⟩,_⟩:=I.cell x c e;obtain⟨m,⟨o',es,ep,Db,kt,_⟩,_⟩:=I.loc;rw[q,Db]at ho;cases ho;rw[kt]at hd;cases hd
theorem jo.go {G:Gx}{F F':Fz}{env:Env} (l:Le F F') (h:jo G F env):jo G F' env:=by
 obtain⟨h1,L,o,h2,h3,h4⟩:=h;exact⟨h1,L,o,h2,l L _ h3,h4⟩
theorem ae.go (I:ae X τ z) (l:Le z.F z'.F) (ok:aK X.G z'.F z'.M z'.s.heap) (own:∀b,cL X b->ve z.s.heap z'.s.heap b/\z'.M b=none/\z'.F b=z.F b) (os:z'.s.os=z.s.os) (bare:AllBare z'.s.gens):ae X τ z':=by
 have hL:=own X.env.locals (.inl rfl);have u8:∀x c v,X.env.cells.lookup x=some c->z.s.heap.IsCell c v->z'.s.heap.IsCell c v:=λx c v e h=>by
  obtain⟨o,ho,hd⟩:=h;obtain⟨sl,q⟩:=(own c (.inr ⟨x,e⟩)).1 o ho;exact⟨_,q,hd⟩
 refine⟨I.ok,I.bs.up l,os.trans I.os,bare,λenv he=>(I.cj env he).go l,?_,λx c e=>?_,⟨hL.2.2.trans I.free.1,hL.2.1⟩,ok,I.len⟩
 ·obtain⟨m,⟨o,es,ep,ho,r⟩,hl⟩:=I.loc;obtain⟨sl,q⟩:=hL.1 o ho;refine⟨m,⟨_,es,ep,q,r⟩,λi x d e1 e2 e3=>?_⟩;obtain⟨u,r,k⟩:=hl i x d e1 e2 e3;refine⟨u,r.up l.d,?_⟩;rcases k with k |⟨k,c,e,y⟩
  ·exact .inl k
  ·exact .inr ⟨k,c,e,u8 x c _ e y⟩
 ·obtain⟨⟨v,h1⟩,_,h3⟩:=I.cell x c e;have h:=own c (.inr ⟨x,e⟩);exact⟨⟨v,u8 x c v e h1⟩,h.2.1,by rw[h.2.2];exact h3⟩
theorem ae.bX (I:ae X τ z) {t:Nat} (k:∀b,bw z.s.heap h' b):ae X τ ⟨z.F,z.M,{ z.s with heap:=h',toks:=t }⟩:=
 I.go Le.rfl (I.hok.keep λb _=>k b) (λb hb=>⟨(k b).s,I.dk hb,rfl⟩) rfl I.bare
theorem ae.mS (I:ae X τ z) (t:Nat):ae X τ ⟨z.F,z.M,{ z.s with toks:=t }⟩:=I.bX (h':=z.s.heap) λ_ _ e=>e
theorem ae.kx (I:ae X τ z) {o:MO}{t:Nat} (k:∀b,bw z.s.heap h' b) (hp:z.s.heap.objs.size<=a) (new:ec X.G z.F (up z.M a o) h' a o):ae X τ ⟨z.F,up z.M a o,{ z.s with heap:=h',toks:=t }⟩:=
 I.go Le.rfl (I.hok.kx k hp new) (λb hb=>⟨(k b).s,(aF (XR (XW (I.fY hb) hp))).trans (I.dk hb),rfl⟩) rfl I.bare
theorem ae.jm (I:ae X τ z) {f:Fo}{t:Nat} (k:∀b,bw z.s.heap h' b) (hp:z.s.heap.objs.size<=a) (new:f.At h' a) (nt:∀p q,f≠.tab p q:=by intro _ _ h;cases h):ae X τ ⟨up z.F a f,z.M,{ z.s with heap:=h',toks:=t }⟩:=
 I.go (Le.new (I.hok.cz hp)) (I.hok.jm k hp new nt) (λb hb=>⟨(k b).s,I.dk hb,aF (XR (XW (I.fY hb) hp))⟩) rfl I.bare
theorem ae.put (I:ae X τ z) {x e:Addr}{o o':MO}{t:Nat} (hx:z.M x=some o) (U0:o.mut=true) (he:e=x\/z.M e=some (.own x)) (k:∀ b,b≠e->bw z.s.heap h' b) (pT:∃ u,h'.get? e=some u) (new:ec X.G z.F (up z.M x o') h' x o') :
  ae X τ ⟨z.F,up z.M x o',{ z.s with heap:=h',toks:=t }⟩:=by
 have ne:∀b,cL X b->b≠x:=λb hb q=>by have:=I.dk hb;rw[q,hx]at this;cases this
 have Dm:∀b,cL X b->b≠e:=λb hb q=>by
  rcases he with r |r
  ·exact ne b hb (q.trans r)
  ·have:=I.dk hb;rw[q,r]at this;cases this
 exact I.go Le.rfl (I.hok.put hx U0 he k pT new) (λb hb=>⟨(k b (Dm b hb)).s,(aF (ne b hb)).trans (I.dk hb),rfl⟩) rfl I.bare
theorem ae.b8 (I:ae X τ z) {t:Nat} (k:∀b,b≠a->bw z.s.heap h' b) (hF:z.F a=none) (hM:z.M a=none) (V1:¬cL X a):ae X τ ⟨z.F,z.M,{ z.s with heap:=h',toks:=t }⟩:=
 I.go Le.rfl (I.hok.keep λb hb=>k b (by rintro rfl;rcases hb with h |h;exact h hF;exact h hM)) (λb hb=>⟨(k b (by rintro rfl;exact V1 hb)).s,I.dk hb,rfl⟩) rfl I.bare
theorem ae.Dn {τ':St} (I:ae X τ z) (hl:τ'.length=τ.length) (w:∀(i:Nat) d,τ'[i]?=some (some d)->τ[i]?=some (some d)):ae X τ' z:=
 ⟨I.ok,I.bs,I.os,I.bare,I.cj,let ⟨m,hn,hl'⟩:=I.loc;⟨m,hn,λi x v e1 e2 e3=>hl' i x v e1 (w i v e2) e3⟩,I.cell,I.free,I.hok,hl.trans I.len⟩
theorem ah.get {G:Gx}{F:Fz}:∀{ds:List D}{us:List Value}{i:Nat}{d:D},ah G F ds us->ds[i]?=some d->∃u,us[i]?=some u/\ab G F d u
 |[],us,i,d,h,e=>by simp at e
 |d'::ds,us,0,d,h,e=>by rw[ah]at h;obtain⟨u,r,rfl,h1,_⟩:=h;cases e;exact⟨u,rfl,h1⟩
 |d'::ds,us,i+1,d,h,e=>by rw[ah]at h;obtain⟨u,r,rfl,_,h2⟩:=h;exact ah.get (i:=i) h2 e
end
open Classical in
noncomputable def Cx.aZ (X:Cx) (h:Heap):Fz:=λb=>if b=X.env.locals then (h.get? b).map Fo.jl else if ∃x,X.fn x=true/\X.env.cells.lookup x=some b then (h.get? b).map Fo.pin else none
structure dV (G:Gx) (A:Around) (outer:List Env) (z:Z):Prop where
 frames:A.frames=some outer
 bC:Mod G
 bs:Bs G z.F
 cj:∀env∈outer,jo G z.F env
 hok:aK G z.F z.M z.s.heap
 bare:AllBare z.s.gens
section
variable {X:Cx} {τ:St} {z z':Z}{b:Addr}{f:Fo}
theorem Cx.pV {h:Heap}:mR (X.aZ h):=λb o e=>by
 unfold Cx.aZ at e;split at e
 ·cases q:h.get? b <;> rw[q]at e <;> cases e
 ·split at e
  ·cases q:h.get? b <;> rw[q]at e <;> cases e
  ·cases e
theorem Cx.Dp {h:Heap} (b:Addr) (p:Pos) (q:Str):X.aZ h b≠some (.tab p q):=λe=>by
 unfold Cx.aZ at e;split at e
 ·cases q:h.get? b <;> rw[q]at e <;> cases e
 ·split at e
  ·cases q:h.get? b <;> rw[q]at e <;> cases e
  ·cases e
theorem ae.fZ (I:ae X τ z) {h:Heap} (e:X.aZ h b≠none):cL X b/\z.F b=none:=by
 unfold Cx.aZ at e;split at e
 ·rename_i q;exact⟨.inl q,q ▸ I.free.1⟩
 ·split at e
  ·rename_i q;obtain⟨x,h1,h2⟩:=q;refine⟨.inr ⟨x,h2⟩,?_⟩;rcases (I.cell x b h2).2.2 with r |r
   ·exact r.2
   ·rw[h1]at r;cases r.1
  ·exact absurd rfl e
theorem vg {h:Heap} (e:X.aZ h b=some f):f.At h b:=by
 unfold Cx.aZ at e;split at e
 ·cases q:h.get? b with
  |none=>rw[q]at e;cases e
  |some o=>rw[q]at e;cases e;exact⟨o.slots,q⟩
 ·split at e
  ·cases q:h.get? b with
   |none=>rw[q]at e;cases e
   |some o=>rw[q]at e;cases e;exact q
  ·cases e
theorem ae.mT (I:ae X τ z):aK X.G (a3 z.F (X.aZ z.s.heap)) z.M z.s.heap:=
 I.hok.pin (λb f e=>⟨vg e,I.dk (I.fZ (h:=z.s.heap) (by rw[e];exact Yn f)).1⟩) (λb e=>(I.fZ e).2) X.Dp
theorem ae.cA (I:ae X τ z):Le z.F (a3 z.F (X.aZ z.s.heap)):=Le.pin λb e=>(I.fZ e).2
theorem ae.vh (I:ae X τ z):∃o es ep,z.s.heap.get? X.env.locals=some o/\o.data=.dict es ep/\X.aZ z.s.heap X.env.locals=some (.jl o):=by
 obtain⟨m,⟨o,es,ep,ho,hd,_⟩,_⟩:=I.loc;refine⟨o,es,ep,ho,hd,?_⟩;unfold Cx.aZ;rw[if_pos rfl,ho];rfl
theorem ae.pW (I:ae X τ z):dV X.G X.A X.stk ⟨a3 z.F (X.aZ z.s.heap),z.M,z.s⟩:=by
 refine⟨I.ok.frames,I.ok.bC,I.bs.up I.cA,λenv he=>?_,I.mT,I.bare⟩;rcases I.ok.stk with e |⟨e,hf⟩
 ·rw[e]at he;exact (I.cj env he).go I.cA
 ·rw[e]at he;rcases List.mem_cons.mp he with rfl |he
  ·obtain⟨o,es,ep,ho,hd,hp⟩:=I.vh;refine⟨by rw[I.ok.kind];decide,_,o,hf,dC hp,?_,λvs q=>by rw[hd]at q;cases q⟩;cases q:X.G.base.get? X.env.locals with
   |none=>rfl
   |some ob=>have:=I.bs.b _ _ q;rw[I.free.1]at this;cases this
  ·exact (I.cj env he).go I.cA
theorem ae.after (I:ae X τ z) (l:Le (a3 z.F (X.aZ z.s.heap)) z'.F) (ok:aK X.G z'.F z'.M z'.s.heap) (os:z'.s.os=z.s.os) (bare:AllBare z'.s.gens):ae X τ ⟨aQ z'.F (X.aZ z.s.heap),z'.M,z'.s⟩:=by
 refine I.go (Le.aQ (λb e=>(I.fZ e).2) l) (ok.aQ X.pV l) (λb hb=>?_) os bare;cases q:X.aZ z.s.heap b with
 |some g=>
  have h1:=l b g (dC q);refine⟨λo e=>?_,?_,?_⟩
  ·have h2:=ok.fz b g h1;have h3:=vg q;unfold Cx.aZ at q;rw[e]at q;split at q
   ·cases q;exact h2
   ·split at q
    ·cases q;exact⟨o.slots,h2⟩
    ·cases q
  ·cases r:z'.M b with
   |none=>rfl
   |some o=>have:=(ok.ob b o r).1;rw[h1]at this;cases this
  ·show aQ z'.F _ b=_;rw[ft q,(I.fZ (h:=z.s.heap) (by rw[q];exact Yn g)).2]
 |none=>
  -- a cell of mU SN SO
  rcases hb with rfl |⟨x,hx⟩
  ·obtain⟨o,_,_,_,_,hp⟩:=I.vh;rw[q]at hp;cases hp
  ·rcases (I.cell x b hx).2.2 with ⟨r,_⟩ |⟨r,o,hF⟩
   ·exfalso;obtain⟨o,ho⟩:=I.vf (.inr ⟨x,hx⟩:cL X b);unfold Cx.aZ at q;rw[if_neg (I.jq hx),if_pos ⟨x,r,hx⟩,ho]at q;cases q
   ·have h1:=l b _ (by rw[fq q];exact hF);refine⟨λo' e=>?_,?_,?_⟩
    ·have h2:z'.s.heap.get? b=some o:=ok.fz b _ h1;have h3:z.s.heap.get? b=some o:=I.hok.fz b _ hF;rw[e]at h3;cases h3;exact⟨_,h2⟩
    ·cases r':z'.M b with
     |none=>rfl
     |some o'=>have:=(ok.ob b o' r').1;rw[h1]at this;cases this
    ·show aQ z'.F _ b=_;rw[fu q,h1,hF]
end
abbrev W (X:Cx) {α:Type} (t:Sem α) (R:α->Shared->Prop) (s:Shared):Prop:=wpAny (model X.G.P X.G.w) X.A t R (XE X) s
abbrev QK:=D->Mp->Prop
abbrev DE:=St->Mp->QK->Prop
abbrev DT:=St->Mp->(Bool->Mp->Prop)->Prop
abbrev DA:=St->Mp->(List D->Mp->Prop)->Prop
abbrev Q1:=D->Mp->QK->Prop
abbrev Q2:=D->D->Mp->QK->Prop
abbrev QN:=List D->Mp->QK->Prop
structure En where
 nx:St->Mp->Prop
 rt:QK
 bk:St->Mp->Prop:=λ_ _=>False
 ct:St->Mp->Prop:=λ_ _=>False
abbrev DS:=En->St->Mp->Prop
abbrev KE (X:Cx) (τ:St) (F:Fz) (Q:QK) (R:Value->Shared->Prop):Prop:=∀d z u,Le F z.F->ae X τ z->ab X.G z.F d u->Q d z.M->R u z.s
abbrev KT (X:Cx) (τ:St) (F:Fz) (Q:Bool->Mp->Prop) (R:Bool->Shared->Prop):Prop:=∀b z,Le F z.F->ae X τ z->Q b z.M->R b z.s
abbrev KA (X:Cx) (τ:St) (F:Fz) (Q:List D->Mp->Prop) (R:List Value->Shared->Prop):Prop:=∀ds z us,Le F z.F->ae X τ z->ah X.G z.F ds us->Q ds z.M->R us z.s
structure KS (X:Cx) (F:Fz) (e:En) (R:Flow->Shared->Prop):Prop where
 nx:∀ τ z,Le F z.F->ae X τ z->e.nx τ z.M->R .next z.s
 rt:∀d τ z u,Le F z.F->ae X τ z->ab X.G z.F d u->e.rt d z.M->R (.ret u) z.s
 bk:∀ τ z,Le F z.F->ae X τ z->e.bk τ z.M->R .brk z.s
 ct:∀ τ z,Le F z.F->ae X τ z->e.ct τ z.M->R .cont z.s
theorem KS.up {X:Cx}{F F':Fz}{e:En}{R:Flow->Shared->Prop} (k:KS X F e R) (l:Le F F'):KS X F' e R:=
 ⟨fun τ z l1=>k.nx τ z (l.tr l1),λd τ z u l1=>k.rt d τ z u (l.tr l1),fun τ z l1=>k.bk τ z (l.tr l1),fun τ z l1=>k.ct τ z (l.tr l1)⟩
def PE (X:Cx) (e:Expr) (t:DE):Prop:=∀ τ z Q R,ae X τ z->t τ z.M Q->KE X τ z.F Q R->W X (eval e X.env) R z.s
def PT (X:Cx) (e:Expr) (t:DT):Prop:=∀ τ z Q R,ae X τ z->t τ z.M Q->KT X τ z.F Q R->W X (isTrue e X.env (eval e X.env)) R z.s
def PW (X:Cx) (e:Expr) (t:DT):Prop:=∀(ia:Sem Value) τ z Q R,ae X τ z->t τ z.M Q->KT X τ z.F Q R->W X (isTrue e X.env ia) R z.s
def PA (X:Cx) (es:List Expr) (t:DA):Prop:=∀(pos:Pos) τ z Q R,ae X τ z->t τ z.M Q->KA X τ z.F Q R->W X (spliced (backTo pos (starEach es X.env))) R z.s
def PS (X:Cx) (st:Stmt) (t:DS):Prop:=∀ τ z e R,ae X τ z->t e τ z.M->KS X z.F e R->W X (exec st X.env) R z.s
def ed (X:Cx) (st:List Stmt) (t:DS):Prop:=∀ τ z e R,ae X τ z->t e τ z.M->KS X z.F e R->W X (execs st X.env) R z.s
def O1 (X:Cx) (f:Value->Sem Value) (r:Q1):Prop:=∀ τ z Q R d v,ae X τ z->ab X.G z.F d v->r d z.M Q->KE X τ z.F Q R->W X (f v) R z.s
def O2 (X:Cx) (f:Value->Value->Sem Value) (r:Q2):Prop:=∀ τ z Q R d e v u,ae X τ z->ab X.G z.F d v->ab X.G z.F e u->r d e z.M Q->KE X τ z.F Q R->W X (f v u) R z.s
def ON (X:Cx) (f:List Value->Sem Value) (r:QN):Prop:=∀ τ z Q R ds us,ae X τ z->ah X.G z.F ds us->r ds z.M Q->KE X τ z.F Q R->W X (f us) R z.s
def bY (i:Nat):DE:=fun τ M q=>match τ[i]? with
 |some (some d)=>q d M
 |_=>False
def kB (d:D) (k:Bool->Prop):Prop:=match d with
 |.bl b=>k b
 |_=>False
def b9 (d:D) (k:Int->Prop):Prop:=match d with
 |.int i=>k i
 |_=>False
def mV (r:Q2) (ta tb:DE):DE:=fun τ M q=>ta τ M λx M1=>tb τ M1 λy M2=>r x y M2 q
def jr (r:Q1) (ta:DE):DE:=fun τ M q=>ta τ M λx M1=>r x M1 q
def eK:DA:=λ_ M q=>q [] M
def fx (ta:DE) (tr:DA):DA:=fun τ M q=>ta τ M λx M1=>tr τ M1 λxs M2=>q (x::xs) M2
def vi (t:DA):DE:=fun τ M q=>t τ M λds M1=>ds.length<=sizeLine/\q (.tup ds) M1
def bZ (ds:List D) (M:Mp) (q:QK):Prop:=q (.lst ds) M\/∀p,M p=none->q (.ref p) (up M p (.lst ds))
def vj (t:DA):DE:=fun τ M q=>t τ M λds M1=>ds.length<=sizeLine/\bZ ds M1 q
def vk (ta tb:DE):DE:=fun τ M q=>ta τ M λx M1=>kB x λc=>if c=true then tb τ M1 q else q (.bl false) M1
def vm (ta tb:DE):DE:=fun τ M q=>ta τ M λx M1=>kB x λc=>if c=true then q (.bl true) M1 else tb τ M1 q
def vn (ta:DE):DE:=fun τ M q=>ta τ M λx M1=>kB x λc=>q (.bl (!c)) M1
def vo (t u:DT):DT:=fun τ M q=>t τ M λc M1=>if c=true then u τ M1 q else q false M1
def vp (t u:DT):DT:=fun τ M q=>t τ M λc M1=>if c=true then q true M1 else u τ M1 q
def vq (t:DT):DT:=fun τ M q=>t τ M λc M1=>q (!c) M1
def vr (t:DT) (ta tb:DE):DE:=fun τ M q=>t τ M λc M1=>if c=true then ta τ M1 q else tb τ M1 q
def pX (t u:DS):DS:=λe τ M=>t { e with nx:=u e } τ M
def mW (te:DE):DS:=λe τ M=>te τ M λ_ M1=>e.nx τ M1
def vt (te:DE):DS:=λe τ M=>te τ M e.rt
def vv (t:DT) (a b:DS):DS:=λe τ M=>t τ M λc M1=>if c=true then a e τ M1 else b e τ M1
section
variable {X:Cx} {τ:St} {z:Z}
theorem ae.vw {τ':St} {m:Str->Option Value}{e:Addr}{h':Heap}{t:Nat} (I:ae X τ z) (he:e=X.env.locals\/∃ x,X.env.cells.lookup x=some e/\z.F e=none) (hs:Za e z.s.heap h') (hn:h'.Ns X.env.locals m)
  (hl:∀(i:Nat) (x:Str) (d:D),X.N[i]?=some x->τ'[i]?=some (some d)->jj X.env.scope x->∃u,ab X.G z.F d u/\jk X.env h' m x u) (hc:∀x,X.env.cells.lookup x=some e->∃v,h'.IsCell e v) (len:τ'.length=τ.length) :
  ae X τ' ⟨z.F,z.M,{ z.s with heap:=h',toks:=t }⟩:=by
 have hF:z.F e=none/\z.M e=none:=by
  rcases he with rfl |⟨x,h1,h2⟩
  ·exact I.free
  ·exact⟨h2,(I.cell x e h1).2.1⟩
 refine⟨I.ok,I.bs,I.os,I.bare,I.cj,⟨m,hn,hl⟩,λx c q=>⟨?_,(I.cell x c q).2⟩,I.free,I.hok.keep λb hb o q=>(hs.2 b ?_).trans q,len.trans I.len⟩
 ·by_cases h:c=e
  ·rw[h];exact hc x (h ▸ q)
  ·obtain⟨⟨v,k⟩,_⟩:=I.cell x c q;exact⟨v,k.sameBut hs h⟩
 ·rintro rfl;rcases hb with h |h;exact h hF.1;exact h hF.2
theorem mX {M:Model}{A:Around}{E:Value->Shared->Prop}{i:Nat}{x:Str}{d:D}{u:Value}{Q:Unit->Shared->Prop} (I:ae X τ z) (hN:X.N.Nodup) (hi:X.N[i]?=some x) (hx:h7 X.env.scope x) (hf:X.fn x=true\/X.env.scope.names.lookup x=some .local) (r:ab X.G z.F d u)
  (h:∀s',ae X (τ.set i (some d)) ⟨z.F,z.M,s'⟩->Q () s'):wpAny M A (storeName X.env x u) Q E z.s:=by
 obtain⟨m,hn,hl⟩:=id I.loc;have Dq:(X.env.scope.kind == .class ||(X.env.scope.kind == .module && X.env.locals != X.env.globals))=false:=by rw[I.ok.kind];rfl
 have hiσ:i < τ.length:=by rw[I.len];exact (List.getElem?_eq_some_iff.mp hi).1
 have loc:∀ {h':Heap}{m':Str->Option Value}{e:Addr},Za e z.s.heap h'->jk X.env h' m' x u->(∀ y w,y≠x->jk X.env z.s.heap m y w->jk X.env h' m' y w) ->
   ∀(j:Nat) (y:Str) (d':D),X.N[j]?=some y->(τ.set i (some d))[j]?=some (some d')->jj X.env.scope y->∃u,ab X.G z.F d' u/\jk X.env h' m' y u:=λhs h1 h2 j y d' e1 e2 e3=>by
  by_cases hj:j=i
  ·subst hj;rw[hi]at e1;cases e1;rw[List.getElem?_set_self hiσ]at e2;cases e2;exact⟨u,r,h1⟩
  ·rw[List.getElem?_set_ne (Y0 hj)]at e2;obtain⟨w,r',q⟩:=hl j y d' e1 e2 e3;exact⟨w,r',h2 y w (λe=>hj (C5 hN e1 (e ▸ hi))) q⟩
 rcases hx with hk |hk
 ·refine wpAny_storeName_local hk hn (λh' pY hs=>h _ (I.vw (.inl rfl) hs pY (loc hs (.inl ⟨hk,if_pos rfl⟩) λy w ne q=>?_) (λy hy=>absurd rfl (I.jq hy)) (List.length_set ..))) Dq;rcases q with ⟨k,e⟩ |⟨k,c,e,q⟩
  ·exact .inl ⟨k,(if_neg ne).trans e⟩
  ·exact .inr ⟨k,c,e,q.sameBut hs (I.jq e)⟩
 ·have pZ:X.fn x=true:=hf.elim id λe=>by rw[e]at hk;cases hk
  obtain⟨c,hc⟩:=I.ok.has x (.inl hk);obtain⟨⟨W5,q⟩,_,hF⟩:=I.cell x c hc;refine wpAny_storeName_cell I.ok.kind hk hc q λh' f6 hs=>h _ (I.vw (.inr ⟨x,hc,hF.elim (·.2) λq=>by rw[pZ]at q;cases q.1⟩) hs (hn.sameBut hs (Y0 (I.jq hc))) (loc hs (.inr ⟨.inl hk,c,hc,f6⟩) λy w ne q=>?_) (λ_ _=>⟨_,f6⟩) (List.length_set ..));rcases q with q |⟨k,c',e,q⟩
  ·exact .inl q
  ·exact .inr ⟨k,c',e,q.sameBut hs λe'=>ne (I.ok.inj _ _ _ (e' ▸ e) hc)⟩
end
section
variable {X:Cx}{a b c:Expr}{ta tb:DE}{tA tB:DT}{pos:Pos}{rest:List Expr}
theorem Dr {i:Nat}{x:Str} (hN:X.N[i]?=some x) (hv:jj X.env.scope x) (hd:(x == ("__debug__" : Str))=false) (dF:(x == ("__classdict__" : Str))=false):PE X (.Name x pos) (bY i):=by
 intro τ z Q R I h k;unfold bY at h;split at h
 ·rename_i d e;obtain⟨m,hn,hl⟩:=I.loc;obtain⟨u,r,l⟩:=hl i x d hN e hv;have fin:=k d z u Le.rfl I r h;rcases l with ⟨hk,hm⟩ |⟨hk,c,hc,mY⟩
  ·exact wpAny_Name (wpAny_loadName_local I.ok.kind hk hn hm fin) hd
  ·rcases hk with hk |hk
   ·exact wpAny_Name (wpAny_loadName_cell I.ok.kind hk hc mY fin) hd
   ·exact wpAny_Name (wpAny_loadName_free I.ok.kind hk hc mY fin dF) hd
 ·exact h.elim
def TU (d:D):DE:=λ_ M q=>q d M
theorem kC {G:Gx}{F:Fz}{b:Bool}:ab G F (.bl b) (.bool b):=by rw[ab]
theorem ck {G:Gx}{F:Fz}{i:Int}{t:Tok}:ab G F (.int i) (.int i t):=by rw[ab];exact⟨t,rfl⟩
theorem gF {G:Gx}{F:Fz}{x:Str}{t:Tok}:ab G F (.str x) (.str x t):=by rw[ab];exact⟨t,rfl⟩
theorem p0 {G:Gx}{F:Fz}{a:Addr}:ab G F (.ref a) (.ref a):=by rw[ab]
theorem Dt {G:Gx}{F:Fz}:ab G F .aj .none:=by rw[ab]
theorem ae.fin {τ:St} {z:Z}{F:Fz}{Q:QK}{R:Value->Shared->Prop}{d:D}{u:Value} (I:ae X τ z) (k:KE X τ F Q R) (l:Le F z.F) (r:ab X.G z.F d u) (q:Q d z.M) (t:Nat):R u { z.s with toks:=t }:=k d ⟨z.F,z.M,{ z.s with toks:=t }⟩ u l (I.mS t) r q
theorem vx {i j}:PE X (.Constant (.int i) j pos) (TU (.int i)):=fun τ z Q R I h k=>wpAny_Constant_int (I.fin k Le.rfl ck h _)
theorem Dv {b j}:PE X (.Constant (.bool b) j pos) (TU (.bl b)):=fun τ z Q R I h k=>Constant_bool (k (.bl b) z _ Le.rfl I kC h)
theorem Dw {j}:PE X (.Constant .none j pos) (TU .aj):=fun τ z Q R I h k=>Constant_none (k .aj z _ Le.rfl I Dt h)
theorem Dx {x j}:PE X (.Constant (.str x) j pos) (TU (.str x)):=fun τ z Q R I h k=>Calls.Constant_str (I.fin k Le.rfl gF h _)
def Gl (X:Cx) (x:Str):Prop:=X.env.kindOf x=some .globalImplicit
theorem ib {E:Value->Shared->Prop} {τ:St} {z:Z}{x:Str}{u:Value}{Q:Value->Shared->Prop} (I:ae X τ z) (hg:Gl X x) (hm:X.G.mg x=some u) (hd:(x == ("__debug__" : Str))=false) (h:Q u z.s):wpAny (model X.G.P X.G.w) X.A (eval (.Name x pos) X.env) Q E z.s:=
 Calls.Name_function_global I.ok.kind hg (Calls.loadGlobal_global (by rw[I.ok.dE];exact I.ok.bC.dE.keeps I.bk) hm h) hd
theorem eL {E:Value->Shared->Prop} {τ:St} {z:Z}{x:Str}{u:Value}{Q:Value->Shared->Prop} (I:ae X τ z) (hg:Gl X x) (hm:X.G.mg x=none) (hv:bootBuiltins x=some u) (hn:x≠"__name__") (hd:(x == ("__debug__" : Str))=false) (h:Q u z.s):wpAny (model X.G.P X.G.w) X.A (eval (.Name x pos) X.env) Q E z.s:=by
 obtain⟨mb,h1,h2⟩:=I.ok.bC.kA;exact Calls.Name_function_global I.ok.kind hg (Calls.loadGlobal_builtin (by rw[I.ok.dE];exact I.ok.bC.dE.keeps I.bk) hm (by rw[I.ok.kA];exact h1.keeps I.bk) ((h2 x hn).trans hv) h) hd
theorem Dy {x:Str}{d:D}{u:Value} (hg:Gl X x) (hm:X.G.mg x=some u) (hd:(x == ("__debug__" : Str))=false) (r:∀ τ z,ae X τ z->ab X.G z.F d u):PE X (.Name x pos) (TU d):=
 fun τ z Q R I h k=>ib I hg hm hd (k d z u Le.rfl I (r τ z I) h)
theorem Dz {o:Operator}{r:Q2} (ho:O2 X (binaryOp o) r) (ha:PE X a ta) (hb:PE X b tb):PE X (.BinOp a o b pos) (mV r ta tb):=fun τ z Q R I h k=>
 wpAny_BinOp (ha τ z _ _ I h λx z1 v l1 I1 r1 q1=>hb τ z1 _ _ I1 q1 λy z2 u l2 I2 r2 q2=>ho τ z2 Q _ x y v u I2 (r1.up l2.d) r2 q2 λd z3 w l3=>k d z3 w (l1.tr (l2.tr l3)))
theorem DB (ha:PT X a tA):PW X (.BoolOp .And [a] pos) tA:=λwh τ z Q R I h k=>isTrue_and (ha τ z _ _ I h λb z1 l1 I1 q1=>by
 cases b with
 |true=>exact isTrue_and_nil (k true z1 l1 I1 q1)
 |false=>exact k false z1 l1 I1 q1)
theorem DC (ha:PT X a tA):PW X (.BoolOp .Or [a] pos) tA:=λwh τ z Q R I h k=>isTrue_or (ha τ z _ _ I h λb z1 l1 I1 q1=>by
 cases b with
 |true=>exact k true z1 l1 I1 q1
 |false=>exact isTrue_or_nil (k false z1 l1 I1 q1))
theorem DD (ha:PT X a tA) (hb:PW X (.BoolOp .And (b::rest) pos) tB):PW X (.BoolOp .And (a::b::rest) pos) (vo tA tB):=λwh τ z Q R I h k=>isTrue_and (ha τ z _ _ I h λb z1 l1 I1 q1=>by
 cases b with
 |true=>exact hb wh τ z1 Q R I1 q1 λb z2 l2=>k b z2 (l1.tr l2)
 |false=>exact k false z1 l1 I1 q1)
theorem DH (ha:PT X a tA) (hb:PW X (.BoolOp .Or (b::rest) pos) tB):PW X (.BoolOp .Or (a::b::rest) pos) (vp tA tB):=λwh τ z Q R I h k=>isTrue_or (ha τ z _ _ I h λb z1 l1 I1 q1=>by
 cases b with
 |true=>exact k true z1 l1 I1 q1
 |false=>exact hb wh τ z1 Q R I1 q1 λb z2 l2=>k b z2 (l1.tr l2))
theorem DJ (ha:PT X a tA):PT X (.UnaryOp .Not a pos) (vq tA):=fun τ z Q R I h k=>isTrue_not (ha τ z _ _ I h λb z1 l1 I1 q1=>k (!b) z1 l1 I1 q1)
theorem vy {op} (h:PE X a ta):PE X (.BoolOp op [a] pos) ta:=fun τ z Q R I q k=>BoolOp_one (h τ z Q R I q k)
theorem p5 {d:D}{k:Bool->Prop}{G:Gx}{F:Fz}{u:Value} (h:kB d k) (r:ab G F d u):∃b,u=.bool b/\k b:=by
 unfold kB at h;split at h
 ·rw[ab]at r;exact⟨_,r,h⟩
 ·exact h.elim
theorem DL (ha:PE X a ta) (hb:PE X (.BoolOp .And (b::rest) pos) tb):PE X (.BoolOp .And (a::b::rest) pos) (vk ta tb):=fun τ z Q R I h k=>BoolOp_and (ha τ z _ _ I h λx z1 v l1 I1 r1 q1=>by
 obtain⟨c,rfl,q1⟩:=p5 q1 r1;refine Zt ?_;cases c with
 |true=>exact hb τ z1 Q R I1 q1 λd z2 u l2=>k d z2 u (l1.tr l2)
 |false=>exact k (.bl false) z1 _ l1 I1 kC q1)
theorem DM (ha:PE X a ta) (hb:PE X (.BoolOp .Or (b::rest) pos) tb):PE X (.BoolOp .Or (a::b::rest) pos) (vm ta tb):=fun τ z Q R I h k=>BoolOp_or (ha τ z _ _ I h λx z1 v l1 I1 r1 q1=>by
 obtain⟨c,rfl,q1⟩:=p5 q1 r1;refine Zt ?_;cases c with
 |false=>exact hb τ z1 Q R I1 q1 λd z2 u l2=>k d z2 u (l1.tr l2)
 |true=>exact k (.bl true) z1 _ l1 I1 kC q1)
theorem DN (ha:PE X a ta):PE X (.UnaryOp .Not a pos) (vn ta):=fun τ z Q R I h k=>UnaryOp_ (ha τ z _ _ I h λx z1 v l1 I1 r1 q1=>by
 obtain⟨c,rfl,q1⟩:=p5 q1 r1;exact not_of (Zt (k (.bl (!c)) z1 _ l1 I1 kC q1)))
theorem DP (hc:PT X c tA) (ha:PE X a ta) (hb:PE X b tb):PE X (.IfExp c a b pos) (vr tA ta tb):=fun τ z Q R I h k=>wpAny_IfExp (hc τ z _ _ I h λd z1 l1 I1 q1=>by
 cases d with
 |true=>exact ha τ z1 Q R I1 q1 λd z2 u l2=>k d z2 u (l1.tr l2)
 |false=>exact hb τ z1 Q R I1 q1 λd z2 u l2=>k d z2 u (l1.tr l2))
theorem p6:PA X [] eK:=λ_ τ z Q R I h k=>Zo (k [] z [] Le.rfl I .nil h)
theorem p7 {es:List Expr}{t:DA} (ha:PE X a ta) (hr:PA X es t) (hs:starEach (a::es) X.env=(false,eval a X.env)::starEach es X.env):PA X (a::es) (fx ta t):=by
 intro pos τ z Q R I h k;rw[hs];show W X (spliced ((false,eval a X.env)::backTo pos (starEach es X.env))) R z.s;exact YS (ha τ z _ _ I h λx z1 v l1 I1 r1 q1=>hr pos τ z1 _ _ I1 q1 λxs z2 us l2 I2 r2 q2=>k (x::xs) z2 (v::us) (l1.tr l2) I2 (.cons (r1.up l2.d) r2) q2)
theorem mZ {G:Gx}{F:Fz}{ds:List D}{us:List Value}{a:Addr}{o:Obj} (h:F a=some (.dat o)) (t:kq o us) (r:ah G F ds us):ab G F (.tup ds) (.ref a):=by rw[ab];exact⟨a,o,us,rfl,h,t,r⟩
theorem m6 {G:Gx}{F:Fz}{ds:List D}{us:List Value}{a:Addr}{n:Nat} (h:F a=some (.dat (bS us n))) (t:us.length<=sizeLine) (r:ah G F ds us):ab G F (.lst ds) (.ref a):=by rw[ab];exact⟨a,n,us,rfl,h,t,r⟩
theorem ae.tup {τ:St} {z:Z}{ds:List D}{us:List Value}{h':Heap}{a:Addr}{o:Obj}{t:Nat}{Q:QK}{R:Value->Shared->Prop}{F:Fz} (I:ae X τ z) (k:KE X τ F Q R) (l:Le F z.F) (r:ah X.G z.F ds us) (kp:∀b,bw z.s.heap h' b) (hp:z.s.heap.objs.size<=a) (ho:h'.get? a=some o) (to:kq o us) (q:Q (.tup ds) z.M):R (.ref a) { z.s with heap:=h',toks:=t }:=
 have l1:Le z.F (up z.F a (.dat o)):=Le.new (I.hok.cz hp)
 k (.tup ds) _ _ (l.tr l1) (I.jm (t:=t) (f:=.dat o) kp hp ho) (mZ av to (r.up l1.d)) q
theorem ae.lst {τ:St} {z:Z}{ds:List D}{us:List Value}{h':Heap}{a:Addr}{n t:Nat}{Q:QK}{R:Value->Shared->Prop}{F:Fz} (I:ae X τ z) (k:KE X τ F Q R) (l:Le F z.F) (r:ah X.G z.F ds us) (kp:∀b,bw z.s.heap h' b) (hp:z.s.heap.objs.size<=a) (ho:h'.get? a=some (bS us n)) (hz:us.length<=sizeLine) (q:bZ ds z.M Q):R (.ref a) { z.s with heap:=h',toks:=t }:=by
 rcases q with q |q
 ·have l1:Le z.F (up z.F a (.dat (bS us n))):=Le.new (I.hok.cz hp);exact k (.lst ds) _ _ (l.tr l1) (I.jm (t:=t) (f:=.dat (bS us n)) kp hp ho) (m6 av hz (r.up l1.d)) q
 ·exact k (.ref a) ⟨z.F,_,_⟩ _ l (I.kx (t:=t) (o:=.lst ds) kp hp ⟨by rw[r.len];exact hz,us,n,r,ho⟩) p0 (q a (I.hok.dj hp))
theorem DQ {es:List Expr}{t:DA} {x1} (h:PA X es t):PE X (.Tuple es x1 pos) (vi t):=fun τ z Q R I hq k=>wpAny_Tuple_spliced (h pos τ z _ _ I hq λds z1 us l1 I1 r1 q1=>by
 have hz:us.length<=sizeLine:=by rw[<- r1.len];exact q1.1
 exact⟨hz,I1.tup (t:=z1.s.toks) k l1 r1 (λb o e=>Xw _ e) (XC _) (XA _ rfl) ⟨rfl,rfl,⟨_,rfl⟩,hz⟩ q1.2⟩)
theorem DR {es:List Expr}{t:DA} (h:PA X es t):PE X (.List es pos) (vj t):=fun τ z Q R I hq k=>wpAny_List_spliced (h pos τ z _ _ I hq λds z1 us l1 I1 r1 q1=>by
 have hz:us.length<=sizeLine:=by rw[<- r1.len];exact q1.1
 exact⟨hz,I1.lst (t:=z1.s.toks) (n:=0) k l1 r1 (λb o e=>Xw _ e) (XC _) (XA _ rfl) hz q1.2⟩)
variable {st:Stmt}{vz:List Stmt}{t u:DS}
theorem DU:ed X [] (λe τ M=>e.nx τ M):=fun τ z e R I h k=>wpAny_execs_nil (k.nx τ z Le.rfl I h)
theorem DV (h1:PS X st t) (h2:ed X vz u):ed X (st::vz) (pX t u):=fun τ z e R I h k=>wpAny_execs_cons (h1 τ z { e with nx:=u e } _ I h
 ⟨fun τ1 z1 l1 I1 q=>h2 τ1 z1 e R I1 q (k.up l1),k.rt,k.bk,k.ct⟩)
theorem vA (h1:PS X st t):ed X [st] t:=fun τ z e R I h k=>wpAny_execs_cons (h1 τ z e _ I h ⟨fun τ1 z1 l1 I1 q=>wpAny_execs_nil (k.nx τ1 z1 l1 I1 q),k.rt,k.bk,k.ct⟩)
theorem DW:PS X (.Pass pos) (λe τ M=>e.nx τ M):=fun τ z e R I h k=>wpAny_Pass (k.nx τ z Le.rfl I h)
theorem DX:PS X (.Break pos) (λe τ M=>e.bk τ M):=fun τ z e R I h k=>wpAny_Break (k.bk τ z Le.rfl I h)
theorem DY:PS X (.Continue pos) (λe τ M=>e.ct τ M):=fun τ z e R I h k=>wpAny_Continue (k.ct τ z Le.rfl I h)
theorem ae.DZ {τ:St} {z:Z} (I:ae X τ z):interactive X.env=false:=by simp [interactive,I.ok.kind]
theorem D0 (he:PE X a ta) (hs:swapsWith a none pos.line X.env=pure false):PS X (.Expr a pos) (mW ta):=fun τ z e R I h k=>wpAny_Expr_any (he τ z _ _ I h λd z1 u l1 I1 r1 q1=>k.nx τ z1 l1 I1 q1) I.DZ hs
theorem D1 (he:PE X a ta):PS X (.Return (some a) pos) (vt ta):=fun τ z e R I h k=>wpAny_Return_some (he τ z _ _ I h λd z1 u l1 I1 r1 q1=>k.rt d τ z1 u l1 I1 r1 q1)
theorem D2 {xs ys:List Stmt} (hc:PT X c tA) (ha:ed X xs t) (hb:ed X ys u):PS X (.If c xs ys pos) (vv tA t u):=fun τ z e R I h k=>wpAny_If (hc τ z _ _ I h λd z1 l1 I1 q1=>by
 cases d with
 |true=>exact ha τ z1 e R I1 q1 (k.up l1)
 |false=>exact hb τ z1 e R I1 q1 (k.up l1))
theorem dW:PS X st (λ_ _ _=>False):=λ_ _ _ _ _ h _=>h.elim
theorem kE:PE X a (λ_ _ _=>False):=λ_ _ _ _ _ h _=>h.elim
theorem p8:PT X a (λ_ _ _=>False):=λ_ _ _ _ _ h _=>h.elim
theorem vB:PW X a (λ_ _ _=>False):=λ_ _ _ _ _ _ h _=>h.elim
end
end N
end
section
set_option maxHeartbeats 1000000
namespace N
open PySem PySem.Spec PyProof.Rows L2
def bp (d:D) (M:Mp) (k:List D->Prop):Prop:=match d with
 |.lst ds=>k ds
 |.ref a=>∃ds,M a=some (.lst ds)/\k ds
 |_=>False
def dG (d:D) (M:Mp) (k:List D->Prop):Prop:=match d with
 |.tup ds=>k ds
 |d=>bp d M k
structure eM (G:Gx) (F:Fz) (h:Heap) (a:Addr) (ds:List D) (us:List Value) (n:Nat):Prop where
 e:h.get? a=some (bS us n)
 r:ah G F ds us
 z:us.length<=sizeLine
structure p9 (G:Gx) (F:Fz) (h:Heap) (a:Addr) (ds:List D) (us:List Value) (o:Obj):Prop where
 e:h.get? a=some o
 t:kq o us
 r:ah G F ds us
section
variable {X:Cx} {τ:St} {z:Z}{d:D}{u:Value}{a:Addr}
theorem eM.p {G:Gx}{F:Fz}{h:Heap}{ds:List D}{us:List Value}{n:Nat} (l:eM G F h a ds us n):PlainL h a us.toArray:=⟨_,n,l.e,rfl,rfl,rfl⟩
theorem p9.p {G:Gx}{F:Fz}{h:Heap}{ds:List D}{us:List Value}{o:Obj} (l:p9 G F h a ds us o):IsTup h a us.toArray:=⟨o,l.e,l.t.cls,l.t.data⟩
theorem ae.eO (I:ae X τ z) {ds:List D} (h:z.M a=some (.lst ds)):∃us n,eM X.G z.F z.s.heap a ds us n:=by
 obtain⟨_,h1,us,n,r,e⟩:=I.hok.ob a _ h;exact⟨us,n,e,r,by rw[<- r.len];exact h1⟩
theorem ae.f7 (I:ae X τ z) {ds:List D} (r:ab X.G z.F (.lst ds) u):∃a us n,u=.ref a/\eM X.G z.F z.s.heap a ds us n:=by
 rw[ab]at r;obtain⟨a,n,us,e,h1,h2,h3⟩:=r;exact⟨a,us,n,e,I.hok.fz a _ h1,h3,h2⟩
theorem ae.cX (I:ae X τ z) {ds:List D} (r:ab X.G z.F (.tup ds) u):∃a us o,u=.ref a/\p9 X.G z.F z.s.heap a ds us o:=by
 rw[ab]at r;obtain⟨a,o,us,e,h1,h2,h3⟩:=r;exact⟨a,us,o,e,I.hok.fz a _ h1,h2,h3⟩
theorem ae.bp {k:List D->Prop} (I:ae X τ z) (r:ab X.G z.F d u) (h:bp d z.M k):∃a ds us n,u=.ref a/\eM X.G z.F z.s.heap a ds us n/\k ds:=by
 unfold N.bp at h;split at h
 ·obtain⟨a,us,n,e,l⟩:=I.f7 r;exact⟨a,_,us,n,e,l,h⟩
 ·rw[ab]at r;obtain⟨ds,h1,h2⟩:=h;obtain⟨us,n,l⟩:=I.eO h1;exact⟨_,ds,us,n,r,l,h2⟩
 ·exact h.elim
end
abbrev DG:=D->St->Mp->(St->Mp->Prop)->Prop
def PG (X:Cx) (tg:Expr) (t:DG):Prop:=∀ τ z d u Q R,ae X τ z->ab X.G z.F d u->t d τ z.M Q->(∀ τ' z',Le z.F z'.F->ae X τ' z'->Q τ' z'.M->R () z'.s)->W X (assign tg X.env u) R z.s
inductive G where
 |one (i:Nat)
 |many (is:List Nat)
noncomputable def fy:List Nat->List D->St->St
 |i::is,d::ds,τ=>fy is ds (τ.set i (some d))
 |_,_,τ=>τ
def cm:G->DG
 |.one i=>λd τ M k=>k (τ.set i (some d)) M
 |.many is=>λd τ M k=>dG d M λds=>ds.length=is.length/\k (fy is ds τ) M
structure ic (X:Cx) (is:List Nat) (xs:List Str):Prop where
 nd:X.N.Nodup
 ok:∀i x,(i,x)∈is.zip xs->X.N[i]?=some x/\h7 X.env.scope x/\(X.fn x=true\/X.env.scope.names.lookup x=some .local)
section
variable {X:Cx}{pos:Pos}
theorem vC {i:Nat}{x:Str} (h:ic X [i] [x]):PG X (.Name x pos) (cm (.one i)):=fun τ z d u Q R I r q k=>
 have o:=h.ok i x (List.mem_singleton.mpr rfl)
 wpAny_assign_Name (mX I h.nd o.1 o.2.1 o.2.2 r λs' I'=>k _ ⟨z.F,z.M,s'⟩ Le.rfl I' q)
theorem D3 {env:Env}{x:Str}{p:Pos}{es:List Expr}:(assignEach (.Name x p::es) env).map (·.2)=assign (.Name x p) env::(assignEach es env).map (·.2):=rfl
theorem D4:∀ (is:List Nat) (es:List (Str×Pos)) (ds:List D) {τ:St} {z:Z}{us:List Value}{R:Unit->Shared->Prop},ic X is (es.map (·.1))->is.length=es.length->ds.length=is.length->ae X τ z->ah X.G z.F ds us->(∀ s',ae X (fy is ds τ) ⟨z.F,z.M,s'⟩->R () s') ->
  W X (assignInOrder ((assignEach (es.map λp=>.Name p.1 p.2) X.env).map (·.2)) us) R z.s:=by
 intro is
 induction is with
 |nil=>
  intro es ds τ z us R h hl hd I r k;cases es with
  |cons _ _=>cases hl
  |nil=>cases ds with
   |cons _ _=>cases hd
   |nil=>rw[ah]at r;subst r;exact assignInOrder_nil (k z.s I)
 |cons i is ih=>
  intro es ds τ z us R h hl hd I r k;cases es with
  |nil=>cases hl
  |cons p es=>cases ds with
   |nil=>cases hd
   |cons d ds=>
    rw[ah]at r;obtain⟨u,us,rfl,r1,r2⟩:=r;have o:=h.ok i p.1 XH;rw[XJ,D3];exact assignInOrder_cons (wpAny_assign_Name (mX I h.nd o.1 o.2.1 o.2.2 r1 λs' I'=>ih es ds (z:=⟨z.F,z.M,s'⟩) ⟨h.nd,λj y hj=>h.ok j y (XF _ hj)⟩ (ZQ hl) (ZQ hd) I' r2 k))
theorem vD {env:Env}:∀(es:List (Str×Pos)),(assignEach (es.map λp=>Expr.Name p.1 p.2) env).length=es.length/\(assignEach (es.map λp=>Expr.Name p.1 p.2) env).findIdx? (·.1)=none
 |[]=>⟨rfl,rfl⟩
 |p::es=>by
  obtain⟨h1,h2⟩:=vD (env:=env) es;refine⟨congrArg (·+1) h1,?_⟩;show List.findIdx? _ ((false,_)::assignEach (es.map λp=>Expr.Name p.1 p.2) env)=none;rw[List.findIdx?_cons,h2];rfl
theorem D5 {is:List Nat}{es:List (Str×Pos)}{k:Nat} (hc:X.calm=true) (h:ic X is (es.map (·.1))) (hl:is.length=es.length):PG X (.Tuple (es.map λp=>.Name p.1 p.2) k pos) (cm (.many is)):=by
 intro τ z d u Q R I r q kk;obtain⟨e1,e2⟩:=vD (env:=X.env) es;have fin:∀ (ds:List D) (us:List Value),ah X.G z.F ds us->ds.length=is.length->Q (fy is ds τ) z.M->∀ h',(∀ b o,b≠z.s.heap.objs.size->z.s.heap.get? b=some o->h'.get? b=some o) ->
   W X (assignInOrder ((assignEach (es.map λp=>.Name p.1 p.2) X.env).map (·.2)) us) R { z.s with heap:=h' }:=λds us r hd q h' ext=>
  D4 is es ds (z:=⟨z.F,z.M,{ z.s with heap:=h',toks:=z.s.toks }⟩) h hl hd (I.bX λb o e=>ext b o (XR (XO e)) e) r λs' I'=>kk _ ⟨z.F,z.M,s'⟩ Le.rfl I' q
 have lst:∀{d:D}{p:List D->Prop},ab X.G z.F d u->bp d z.M p->(∀ds,p ds->ds.length=is.length/\Q (fy is ds τ) z.M)->W X (assign (.Tuple (es.map λp=>.Name p.1 p.2) k pos) X.env u) R z.s:=λr q hk=>by
  obtain⟨a,ds,us,n,rfl,l,q⟩:=I.bp r q;obtain⟨hd,q⟩:=hk ds q;have len:us.toArray.size=es.length:=by rw[Xz,<- l.r.len,hd,hl]
  rw[assign_Tuple];refine Xv (wpAny_standAt ?_);unfold unpack;rw[e1,e2,<- len];exact Xv (Yv (PySem.W.kun_itemsOf (I.ok.hd hc) l.p.isList λh' ext=>fin ds us l.r hd q h' ext))
 unfold cm dG at q;cases d with
 |tup ds=>
  obtain⟨a,us,o,rfl,l⟩:=I.cX r;exact assign_Tuple_tuple (I.ok.hd hc) l.p (by rw[e1,Xz,<- l.r.len,q.1,hl]) e2 λh' hx=>fin ds us l.r q.1 q.2 h' hx
 |lst ds=>exact lst r q λ_ h=>h
 |ref a=>exact lst r q λ_ h=>h
 |_=>exact q.elim
abbrev QS:=D->D->D->Mp->(Mp->Prop)->Prop
def OS (X:Cx) (r:QS):Prop:=∀ τ z o i d ov iv u Q R,ae X τ z->ab X.G z.F o ov->ab X.G z.F i iv->ab X.G z.F d u->r o i d z.M Q->(∀z',Le z.F z'.F->ae X τ z'->Q z'.M->R () z'.s)->W X (setItem ov iv u) R z.s
def qc (r:QS) (to ti:DE):DG:=λd τ M Q=>to τ M λo M1=>ti τ M1 λi M2=>r o i d M2 λM3=>Q τ M3
theorem D6 {o i : Expr} {to ti : DE} {r : QS} (ho : PE X o to) (hi : PE X i ti) (hs : OS X r) (ha : ∀ v, assign (.Subscript o i pos) X.env v = (do
      let ov <- holding [v] (eval o X.env)
      let iv <- holding [v,ov] (eval i X.env)
      standAt pos
      holding [v,ov,iv] (setItem ov iv v)
      release [v,ov,iv] [])):PG X (.Subscript o i pos) (qc r to ti):=by
  intro τ z d u Q R I rd q k;rw[ha];exact Xv (Yv (ho τ z _ _ I q λx z1 v l1 I1 r1 q1=>Xv (Yv (hi τ z1 _ _ I1 q1 λy z2 w l2 I2 r2 q2=>Xv (wpAny_standAt (Xv (Yv
    (hs τ z2 x y d v w u _ _ I2 (r1.up l2.d) r2 (rd.up (l1.tr l2).d) q2 λz3 l3 I3 q3=>wpAny_release (k τ z3 (l1.tr (l2.tr l3)) I3 q3)))))))))
def kF (te:DE) (g:DG):DS:=λe τ M=>te τ M λd M1=>g d τ M1 e.nx
theorem vE {tg e:Expr}{te:DE}{g:DG} (he:PE X e te) (hg:PG X tg g) (hs:swapsWithSole [tg] e pos.line X.env=pure false) (hw:swappedStores [tg] e X.env=pure none) (h1:(assignEach [tg] X.env).map (·.2)=[assign tg X.env]):PS X (.Assign [tg] e pos) (kF te g):=fun τ z e R I h k=>
 wpAny_Assign_stores (he τ z _ _ I h λd z1 u l1 I1 r1 q1=>by
  rw[h1];exact hg τ z1 d u _ _ I1 r1 q1 fun τ' z' l2 I2 q2=>k.nx τ' z' (l1.tr l2) I2 q2) hs hw
theorem vF {i:Nat}{x:Str}{e:Expr}{te:DE}{p:Pos} (h:ic X [i] [x]) (he:PE X e te) (hs:swapsWith e (some (.Name x p)) pos.line X.env=pure false):PS X (.Assign [.Name x p] e pos) (kF te (cm (.one i))):=fun τ z e R I q k=>
 have o:=h.ok i x (List.mem_singleton.mpr rfl)
 wpAny_Assign_Name (he τ z _ _ I q λd z1 u l1 I1 r1 q1=>mX I1 h.nd o.1 o.2.1 o.2.2 r1 λs' I'=>k.nx _ ⟨z1.F,z1.M,s'⟩ l1 I' q1) hs
def ie (t:DT) (tb:DS) (e:En):Nat->St->Mp->Prop
 | 0,_,_=>False
 |n+1,τ,M=>t τ M λc M1=>if c=true then tb { e with nx:=ie t tb e n,ct:=ie t tb e n,bk:=e.nx } τ M1 else e.nx τ M1
def vG (t:DT) (tb:DS):DS:=λe τ M=>∃n,ie t tb e n τ M
theorem ij:PassesOwn (model X.G.P X.G.w) X.A X.env (XE X):=by
 have:XE X=λ_ _=>False:=funext λe=>funext λs=>propext ⟨XE.no,False.elim⟩;rw[this];exact PassesOwn.never
theorem D7 {c:Expr}{body:List Stmt}{tc:DT}{tb:DS} (hc:PT X c tc) (hb:ed X body tb):PS X (.While c body [] pos) (vG tc tb):=by
 intro τ z e R I h k;obtain⟨n,h⟩:=h;refine wpAny_While (codeAny_whileLoop (λn s'=>∃ τ' z',Le z.F z'.F/\ae X τ' z'/\ie tc tb e n τ' z'.M/\z'.s=s') ?_ n ⟨τ,z,Le.rfl,I,h,rfl⟩);rintro n s1 ⟨τ1,z1,l1,I1,w1,rfl⟩;cases n with
 |zero=>exact w1.elim
 |succ n=>
  refine ZN ij (hc τ1 z1 _ _ I1 w1 λb z2 l2 I2 q2=>?_);cases b with
  |true=>
   rw[if_pos rfl];exact ZN ij (hb τ1 z2 _ _ I2 q2 ⟨fun τ3 z3 l3 I3 q3=>⟨n,Y6 n,τ3,z3,l1.tr (l2.tr l3),I3,q3,rfl⟩,λd τ3 z3 u l3=>k.rt d τ3 z3 u (l1.tr (l2.tr l3)),fun τ3 z3 l3=>k.nx τ3 z3 (l1.tr (l2.tr l3)),fun τ3 z3 l3 I3 q3=>⟨n,Y6 n,τ3,z3,l1.tr (l2.tr l3),I3,q3,rfl⟩⟩)
  |false=>
   rw[if_neg Yo];exact wpAny_execs_nil (k.nx τ1 z2 (l1.tr l2) I2 q2)
end
end N
end
section
set_option maxHeartbeats 1000000
namespace N
open PySem PySem.Spec PyProof.Rows L2
structure Fp (X:Cx) (z:Z) (b:Addr):Prop where
 f:z.F b=none
 m:z.M b=none
 o:¬cL X b
inductive m7 (X:Cx) (τ:St) (z:Z) (d:D) (u:Value) (fp:List Addr) (tn:Nat->Heap->Prop) (i:Nat) (s:Shared):Prop
 |mk {F:Fz} (l:Le z.F F) (I:ae X τ ⟨F,z.M,s⟩) (r:ab X.G F d u) (t:tn i s.heap) (n:∀b∈fp,F b=none)
structure gG (G:Gx) (tg:Expr) (xs:List D) (ok:Mp->Prop) (F0:Fz) (fp:List Addr) (it:Addr) (tn:Nat->Heap->Prop):Prop where
 obj:∀i h,tn i h->∀b∈fp,∃o,h.get? b=some o
 keep:∀i h h',tn i h->(∀b∈fp,bw h h' b)->tn i h'
 item:∀(X:Cx),X.G=G->X.calm=true->∀i τ z d E,ae X τ z->Le F0 z.F->(∀b∈fp,Fp X z b)->tn i z.s.heap->ok z.M->xs[i]?=some d ->
  wpAny (model G.P G.w) X.A (pyNext (.ref it)) (λr s1=>∃u,r=some u/\wpAny (model G.P G.w) X.A (letOwnedTupleGo tg (.ref it) u) (λ_ s2=>m7 X τ z d u fp tn (i+1) s2) E s1) E z.s
 done:∀(X:Cx),X.G=G->X.calm=true->∀i τ z E,ae X τ z->Le F0 z.F->(∀b∈fp,Fp X z b)->tn i z.s.heap->ok z.M->xs.length<=i->wpAny (model G.P G.w) X.A (pyNext (.ref it)) (λr s1=>r=none/\ae X τ ⟨z.F,z.M,s1⟩) E z.s
 self:∀(A:Around) i (s:Shared) (Q E:Value->Shared->Prop),tn i s.heap->Q (.ref it) s->wpAny (model G.P G.w) A (pyIter (.ref it)) Q E s
inductive qe (X:Cx) (tg:Expr) (xs:List D) (ok:Mp->Prop) (z:Z) (it:Addr):Prop
 |mk {fp:List Addr}{tn:Nat->Heap->Prop} (T:gG X.G tg xs ok z.F fp it tn) (t:tn 0 z.s.heap) (f:∀b∈fp,Fp X z b)
abbrev DI:=St->Mp->(List D->(Mp->Prop)->Mp->Prop)->Prop
abbrev KI (X:Cx) (τ:St) (tg:Expr) (F:Fz) (k:List D->(Mp->Prop)->Mp->Prop) (R:Value->Shared->Prop):Prop:=∀xs ok z it,Le F z.F->ae X τ z->qe X tg xs ok z it->k xs ok z.M->R (.ref it) z.s
def PI (X:Cx) (tg iter:Expr) (t:DI):Prop:=∀ τ z k R,ae X τ z->t τ z.M k->KI X τ tg z.F k R->W X (eval iter X.env) (λv s1=>W X (pyIter v) R s1) z.s
open Classical in
noncomputable def aW (fp:List Addr) (h:Heap):Fz:=λb=>if b∈fp then (h.get? b).map Fo.pin else none
section
variable {X:Cx} {τ τ':St} {z z':Z}{fp:List Addr}{h h':Heap}{b a:Addr}
theorem js:mR (aW fp h):=λb o e=>by
 unfold aW at e;split at e
 ·cases q:h.get? b <;> rw[q]at e <;> cases e
 ·cases e
theorem m8 {f:Fo} (e:aW fp h b=some f):b∈fp/\∃o,h.get? b=some o/\f=.pin o:=by
 unfold aW at e;split at e
 ·rename_i hb;cases q:h.get? b with
  |none=>rw[q]at e;cases e
  |some o=>rw[q]at e;cases e;exact⟨hb,o,rfl,rfl⟩
 ·cases e
theorem gH {o:Obj} (hb:b∈fp) (e:h.get? b=some o):aW fp h b=some (.pin o):=by unfold aW;rw[if_pos hb,e];rfl
theorem kG (hb:b ∉ fp):aW fp h b=none:=if_neg hb
theorem ae.kH (I:ae X τ z) (hf:∀b∈fp,Fp X z b):Le z.F (a3 z.F (aW fp z.s.heap))/\ae X τ ⟨a3 z.F (aW fp z.s.heap),z.M,z.s⟩:=by
 have TY:∀b,aW fp z.s.heap b≠none->z.F b=none:=λb e=>by
  cases q:aW fp z.s.heap b with
  |none=>exact absurd q e
  |some f=>exact (hf b (m8 q).1).f
 refine⟨Le.pin TY,I.go (Le.pin TY) (I.hok.pin (λb f e=>?_) TY λb p q e=>by obtain⟨_,_,_,z⟩:=m8 e;cases z) (λb hb=>⟨bw.s λ_ e=>e,I.dk hb,fq (kG λm=>(hf b m).o hb)⟩) rfl I.bare⟩;obtain⟨hb,o,h1,rfl⟩:=m8 e;exact⟨h1,(hf b hb).m⟩
theorem ae.jt (I:ae X τ' z') {F:Fz} (hf:∀ b∈fp,F b=none/\¬cL X b) (l:Le (a3 F (aW fp h)) z'.F) (bs:Bs X.G F) (of:∀ env∈X.outer,jo X.G F env) :
  Le F (aQ z'.F (aW fp h))/\ae X τ' ⟨aQ z'.F (aW fp h),z'.M,z'.s⟩:=by
 have TY:∀b,aW fp h b≠none->F b=none:=λb e=>by
  cases q:aW fp h b with
  |none=>exact absurd q e
  |some f=>exact (hf b (m8 q).1).1
 have U1:=Le.aQ TY l;have ld:=cg.aQ (js (fp:=fp) (h:=h)) l;have own:∀b,cL X b->aQ z'.F (aW fp h) b=z'.F b:=λb hb=>fu (kG λm=>(hf b m).2 hb);refine⟨U1,⟨I.ok,bs.up U1,I.os,I.bare,λenv he=>(of env he).go U1,?_,λx c e=>?_,⟨(own _ (.inl rfl)).trans I.free.1,I.free.2⟩,I.hok.aQ js l,I.len⟩⟩
 ·obtain⟨m,h1,h2⟩:=I.loc;exact⟨m,h1,λi x d e1 e2 e3=>let ⟨u,r,k⟩:=h2 i x d e1 e2 e3;⟨u,r.up ld,k⟩⟩
 ·obtain⟨h1,h2,h3⟩:=I.cell x c e;exact⟨h1,h2,by show (_/\aQ _ _ c=none)\/_/\∃o,aQ _ _ c=_;rw[own c (.inr ⟨x,e⟩)];exact h3⟩
theorem ae.kI (I:ae X τ z) (hb:z.s.heap.objs.size<=b) {s':Shared}:Fp X ⟨z.F,z.M,s'⟩ b:=⟨I.hok.cz hb,I.hok.dj hb,λo=>absurd (XW (I.fY o) hb) (Y' _)⟩
def f9 (ok:Mp->Prop) (g:DG) (tb:DS) (e:En):List D->St->Mp->Prop
 |[],τ,M=>ok M/\e.nx τ M
 |x::xs,τ,M=>ok M/\g x τ M fun τ1 M1=>tb { e with nx:=f9 ok g tb e xs,ct:=f9 ok g tb e xs,bk:=e.nx } τ1 M1
def qf (ti:DI) (g:DG) (tb:DS):DS:=λe τ M=>ti τ M λxs ok M1=>f9 ok g tb e xs τ M1
theorem D8 {tg iter:Expr}{body:List Stmt}{ti:DI}{g:DG}{tb:DS}{pos:Pos} (hc:X.calm=true) (hi:PI X tg iter ti) (hg:PG X tg g) (hb:ed X body tb) (hs:∀x,foldedSetIterable iter X.env x=pure x):PS X (.For tg iter body [] pos) (qf ti g tb):=by
 intro τ z e R I h k;refine wpAny_For (hi τ z _ _ I h λxs ok z1 it l1 I1 hit h1=>?_) hs;obtain⟨T,t0,f0⟩:=hit;rename_i fp tn;refine codeAny_forLoop_any (λn s'=>∃i τ' z',Le z1.F z'.F/\ae X τ' z'/\tn i z'.s.heap/\(∀b∈fp,Fp X z' b)/\f9 ok g tb e (xs.drop i) τ' z'.M/\n+i=xs.length/\z'.s=s') ?_ xs.length ⟨0,τ,z1,Le.rfl,I1,t0,f0,h1,rfl,rfl⟩;rintro n s3 ⟨i,τ3,z3,l3,I3,t3,f3,w3,hn,rfl⟩;cases hx:xs[i]? with
 |none=>
  have hl:xs.length<=i:=List.getElem?_eq_none_iff.mp hx;rw[List.drop_of_length_le hl]at w3;refine ZN ij (Zu (T.done X rfl hc i τ3 z3 (XE X) I3 l3 f3 t3 w3.1 hl) (λr s4 h4=>?_) λ_ _ q=>q);obtain⟨rfl,I4⟩:=h4;exact wpAny_execs_nil (k.nx τ3 ⟨z3.F,z3.M,s4⟩ (l1.tr l3) I4 w3.2)
 |some d=>
  obtain⟨a2,hd⟩:=List.getElem?_eq_some_iff.mp hx;rw[List.drop_eq_getElem_cons a2,hd]at w3;refine ZN ij (Zu (T.item X rfl hc i τ3 z3 d (XE X) I3 l3 f3 t3 w3.1 hx) (λr s4 h4=>?_) λ_ _ q=>q);obtain⟨u,rfl,h4⟩:=h4;refine ZN ij (Zu h4 (λ_ s5 h5=>?_) λ_ _ q=>q);obtain⟨l5,I5,r5,t5,n5⟩:=h5;rename_i F5;have f5:∀b∈fp,Fp X ⟨F5,z3.M,s5⟩ b:=λb hb=>⟨n5 b hb,(f3 b hb).m,(f3 b hb).o⟩;obtain⟨lp,Ip⟩:=I5.kH f5;refine ZN ij (hg τ3 _ d u _ _ Ip (r5.up lp.d) w3.2 fun τ6 z6 l6 I6 q6=>ZN ij (hb τ6 z6 _ _ I6 q6 ?_));have ii:∀{τ7:St} {z7:Z},Le z6.F z7.F->ae X τ7 z7->Le z.F (aQ z7.F (aW fp s5.heap))/\ae X τ7 ⟨aQ z7.F (aW fp s5.heap),z7.M,z7.s⟩/\(Le z1.F (aQ z7.F (aW fp s5.heap))/\tn (i+1) z7.s.heap/\∀b∈fp,Fp X ⟨aQ z7.F (aW fp s5.heap),z7.M,z7.s⟩ b):=λ{τ7 z7} l7 I7=>by
   have l8:=l6.tr l7;obtain⟨u1,u2⟩:=I7.jt (fp:=fp) (h:=s5.heap) (F:=F5) (λb hb=>⟨n5 b hb,(f3 b hb).o⟩) l8 I5.bs I5.cj;have bV:∀b∈fp,∃o,s5.heap.get? b=some o/\z7.F b=some (.pin o):=λb hb=>by
    obtain⟨o,ho⟩:=T.obj _ _ t5 b hb;exact⟨o,ho,l8 b _ (dC (gH hb ho))⟩
   refine⟨l1.tr (l3.tr (l5.tr u1)),u2,l3.tr (l5.tr u1),T.keep _ _ _ t5 λb hb o ho=>?_,λb hb=>?_⟩
   ·obtain⟨o',h1,h2⟩:=bV b hb;rw[ho]at h1;cases h1;exact I7.hok.fz b _ h2
   ·obtain⟨o',h1,h2⟩:=bV b hb;refine⟨ft (gH hb h1),?_,(f3 b hb).o⟩;cases q:z7.M b with
    |none=>rfl
    |some m=>have:=(I7.hok.ob b m q).1;rw[h2]at this;cases this
  have again:∀ τ7 z7,Le z6.F z7.F->ae X τ7 z7->f9 ok g tb e (xs.drop (i+1)) τ7 z7.M->∃m,m<n/\∃i τ' z',Le z1.F z'.F/\ae X τ' z'/\tn i z'.s.heap/\(∀b∈fp,Fp X z' b)/\f9 ok g tb e (xs.drop i) τ' z'.M/\m+i=xs.length/\z'.s=z7.s:=fun τ7 z7 l7 I7 q7=>by
   obtain⟨_,u2,u3,u4,V2⟩:=ii l7 I7;exact⟨n-1,by lia,i+1,τ7,_,u3,u2,u4,V2,q7,by lia,rfl⟩
  exact⟨again,λV3 τ7 z7 u7 l7 I7 r7 q7=>by
    obtain⟨u1,u2,_⟩:=ii l7 I7;exact k.rt V3 τ7 ⟨aQ z7.F (aW fp s5.heap),z7.M,z7.s⟩ u7 u1 u2 (r7.up (cg.aQ (F:=F5) js (l6.tr l7))) q7,
   fun τ7 z7 l7 I7 q7=>by
    obtain⟨u1,u2,_⟩:=ii l7 I7;exact k.nx τ7 ⟨aQ z7.F (aW fp s5.heap),z7.M,z7.s⟩ u1 u2 q7,again⟩
end
end N
end
section
set_option maxHeartbeats 1000000
namespace N
open PySem PySem.Spec PyProof.Rows L2
section
variable {X:Cx} {τ:St} {z:Z}{fp:List Addr}{h':Heap}{a:Addr}{t:Nat}
theorem ae.ee (I:ae X τ z) (hf:∀b∈fp,Fp X z b) (k:∀b,b ∉ fp->bw z.s.heap h' b):ae X τ ⟨z.F,z.M,{ z.s with heap:=h',toks:=t }⟩:=
 I.go Le.rfl (I.hok.keep λb hb=>k b λm=>hb.elim (λh=>h (hf b m).f) λh=>h (hf b m).m) (λb hb=>⟨(k b λm=>(hf b m).o hb).s,I.dk hb,rfl⟩) rfl I.bare
theorem ae.ky (I:ae X τ z) {f:Fo} (hf:Fp X z a) (e:f.At z.s.heap a) (nt:∀p q,f≠.tab p q:=by intro _ _ h;cases h):Le z.F (up z.F a f)/\ae X τ ⟨up z.F a f,z.M,z.s⟩:=
 have l:Le z.F (up z.F a f):=Le.new hf.f
 ⟨l,I.go l (I.hok.ky hf.f hf.m e nt) (λb hb=>⟨bw.s λ_ e=>e,I.dk hb,aF λq=>hf.o (q ▸ hb)⟩) rfl I.bare⟩
end
def kJ (G:Gx) (F0:Fz) (q:Bool) (a:Addr) (xs:List D) (ok:Mp->Prop):Prop:=∀(X:Cx) τ z,X.G=G->ae X τ z->Le F0 z.F->ok z.M->∃us,ah G z.F xs us/\us.length<=sizeLine/\cx q z.s.heap a us.toArray
def ik (d:D) (M:Mp) (k:List D->(Mp->Prop)->Prop):Prop:=match d with
 |.tup ds=>k ds λ_=>True
 |.lst ds=>k ds λ_=>True
 |.ref a=>∃ds,M a=some (.lst ds)/\k ds λM'=>M' a=some (.lst ds)
 |_=>False
theorem ae.il {X:Cx} {τ:St} {z:Z}{d:D}{u:Value}{k:List D->(Mp->Prop)->Prop} (I:ae X τ z) (r:ab X.G z.F d u) (h:ik d z.M k):∃q a xs ok,u=.ref a/\kJ X.G z.F q a xs ok/\ok z.M/\k xs ok:=by
 unfold ik at h;split at h
 ·rw[ab]at r;obtain⟨a,o,us,e,h1,h2,h3⟩:=r;exact⟨true,a,_,_,e,λX' τ' z' g I' l _=>⟨us,g ▸ h3.up l.d,h2.len,o,I'.hok.fz a _ (l a _ h1),h2.cls,h2.data⟩,trivial,h⟩
 ·rw[ab]at r;obtain⟨a,n,us,e,h1,h2,h3⟩:=r;exact⟨false,a,_,_,e,λX' τ' z' g I' l _=>⟨us,g ▸ h3.up l.d,h2,_,I'.hok.fz a _ (l a _ h1),rfl,n,rfl⟩,trivial,h⟩
 ·rw[ab]at r;obtain⟨ds,h1,h2⟩:=h;refine⟨false,_,ds,_,r,λX' τ' z' g I' l q=>?_,h1,h2⟩;obtain⟨us,n,e1,e2,e3⟩:=I'.eO q;exact⟨us,g ▸ e2,e3,_,e1,rfl,n,rfl⟩
 ·exact h.elim
section
variable {X:Cx}{tg:Expr}{G:Gx}{F0:Fz}{xs:List D}{ok:Mp->Prop}{a:Addr}
theorem fA {G:Gx}{F:Fz}{ds:List D}{us:List Value}{i:Nat}{d:D} (r:ah G F ds us) (h:ds[i]?=some d):∃u,us.toArray[i]?=some u/\ab G F d u:=by
 obtain⟨u,h1,h2⟩:=r.get h;exact⟨u,by simpa using h1,h2⟩
theorem m9 {G:Gx}{F:Fz}{ds:List D}{us:List Value}{i:Nat} (r:ah G F ds us) (h:ds.length<=i):us.toArray[i]?=none:=by
 rw[r.len]at h;simpa using h
theorem kK {it b:Addr} (hb:b∈[it]):b=it:=by simpa using hb
theorem D9 {q:Bool}{it:Addr} (S:kJ G F0 q a xs ok):gG G tg xs ok F0 [it] it (λi h=>dU q h it a i) where
 obj:=λi h st b hb=>by obtain⟨o,e,_⟩:=st;exact⟨o,by rw[kK hb];exact e⟩
 keep:=λi h h' st k=>by obtain⟨o,e,c⟩:=st;exact⟨o,k it (List.mem_singleton.mpr rfl) _ e,c⟩
 item:=by
  intro X hG hc i τ z d E I l hf st hok hd;subst hG;obtain⟨us,r,hz,hq⟩:=S X τ z rfl I l hok;obtain⟨u,hu,ru⟩:=fA r hd;have fin:∀h',dU q h' it a (i+1)->Za it z.s.heap h'->∃u',(some u:Option Value)=some u'/\wpAny (model X.G.P X.G.w) X.A (letOwnedTupleGo tg (.ref it) u') (λ_ s2=>m7 X τ z d u' [it] (λi h=>dU q h it a i) (i+1) s2) E { z.s with heap:=h' }:=λh' bd sb=>by
   obtain⟨o,e,c,TV⟩:=id bd;refine⟨u,rfl,mM (s:={ z.s with heap:=h' }) e c TV (by cases q <;> decide) ⟨Le.rfl,I.ee (t:=z.s.toks) hf (λb hb o' e'=>(sb.2 b λq=>hb (List.mem_singleton.mpr q)).trans e'),ru,bd,λb hb=>(hf b hb).f⟩⟩
  cases q with
  |true=>exact wpAny_pyNext_tuple_item st hq hu fin
  |false=>exact wpAny_pyNext_list_item st hq hu fin
 done:=by
  intro X hG hc i τ z E I l hf st hok hd;subst hG;obtain⟨us,r,hz,hq⟩:=S X τ z rfl I l hok;have fin:∀h',ZE it z.s.heap h'->(none:Option Value)=none/\ae X τ ⟨z.F,z.M,{ z.s with heap:=h' }⟩:=λh' eb=>⟨rfl,I.ee (t:=z.s.toks) hf λb hb o e=>eb b o (λq=>hb (List.mem_singleton.mpr q)) e⟩;cases q with
  |true=>exact wpAny_pyNext_tuple_end (I.ok.hd hc) st hq (m9 r hd) fin
  |false=>exact wpAny_pyNext_list_end (I.ok.hd hc) st hq (m9 r hd) fin
 self:=λ_ _ _ _ _ st h=>by
  cases q with
  |true=>exact wpAny_pyIter_tupleiter st h
  |false=>exact wpAny_pyIter_listiter st h
noncomputable def nc (x:Str):List D:=x.cps.toList.map λc=>.str ⟨#[c]⟩
theorem Ea {it:Addr}{x:Str}{t:Tok}:gG G tg (nc x) ok F0 [it] it (λi h=>h.IsStrIter it "str_ascii_iterator" x t i) where
 obj:=λi h st b hb=>by obtain⟨o,e,_⟩:=st;exact⟨o,by rw[kK hb];exact e⟩
 keep:=λi h h' st k=>by obtain⟨o,e,c⟩:=st;exact⟨o,k it (List.mem_singleton.mpr rfl) _ e,c⟩
 item:=by
  intro X hG hc i τ z d E I l hf st hok hd;subst hG;unfold nc at hd;rw[XS]at hd;obtain⟨c,hx,rfl⟩:=Option.map_eq_some_iff.mp hd;refine wpAny_pyNext_ascii_item st (by simpa using hx) λh' bd sb=>?_;obtain⟨o,e,c',TV⟩:=id bd;exact⟨_,rfl,mM (s:={ z.s with heap:=h',toks:=z.s.toks+1 }) e c' TV (by decide) ⟨Le.rfl,I.ee hf (λb hb o' e'=>(sb.2 b λq=>hb (List.mem_singleton.mpr q)).trans e'),gF,bd,λb hb=>(hf b hb).f⟩⟩
 done:=by
  intro X hG hc i τ z E I l hf st hok hd;subst hG;unfold nc at hd;rw[Xx]at hd;exact wpAny_pyNext_ascii_end (I.ok.hd hc) st (by simpa using hd) λh' eb=>⟨rfl,I.ee (t:=z.s.toks) hf λb hb o e=>eb b o (λq=>hb (List.mem_singleton.mpr q)) e⟩
 self:=λ_ _ _ _ _ st h=>wpAny_pyIter_striter_ascii st h
noncomputable def fB (lo:Int) (n:Nat):List D:=(YY n).map λi:Nat=>.int (lo+(i:Int))
theorem Eb {it:Addr}{lo:Int}{n:Nat}:gG G tg (fB lo n) ok F0 [it] it (λi h=>IsRangeIter h it (lo+(i:Nat) * 1) ((n:Int)-(i:Nat)) 1) where
 obj:=λi h st b hb=>by rw[kK hb];exact⟨_,st⟩
 keep:=λi h h' st k=>k it (List.mem_singleton.mpr rfl) _ st
 item:=by
  intro X hG hc i τ z d E I l hf st hok hd;subst hG;unfold fB at hd;rw[XS]at hd;obtain⟨j,hj,rfl⟩:=Option.map_eq_some_iff.mp hd;obtain⟨hi,e⟩:=List.getElem?_eq_some_iff.mp hj;rw[Zb]at hi;rw[List.getElem_range]at e;subst e;refine (Walks.range (prog:=X.G.P) (w:=X.G.w) (I.ok.hd hc) it lo 1 n).item i z.s _ _ hi st λv h' tk hv bd kk=>?_;obtain⟨t,rfl⟩:=hv;refine⟨_,rfl,mM (s:={ z.s with heap:=h',toks:=tk }) (n:="range_iterator") bd rfl rfl (by decide) ⟨Le.rfl,I.ee hf λb hb o e=>kk b o hb e,?_,bd,λb hb=>(hf b hb).f⟩⟩;rw[Int.mul_one];exact ck
 done:=by
  intro X hG hc i τ z E I l hf st hok hd;subst hG;unfold fB at hd;rw[Xx,Zb]at hd;exact wpAny_pyNext_range_end (I.ok.hd hc) st (by lia) λh' eb=>⟨rfl,I.ee (t:=z.s.toks) hf λb hb o e=>eb b o (λq=>hb (List.mem_singleton.mpr q)) e⟩
 self:=λ_ _ _ _ _ st h=>wpAny_pyIter_rangeiter st h
variable {e:Expr}{te:DE}
theorem kL {τ:St} {z:Z}{s':Shared}{it:Addr}{tn:Nat->Heap->Prop} (I:ae X τ z) (h:z.s.heap.objs.size<=it) (T:gG X.G tg xs ok z.F [it] it tn) (t:tn 0 s'.heap):qe X tg xs ok ⟨z.F,z.M,s'⟩ it:=.mk T t λb hb=>by rw[kK hb];exact I.kI h
def vH (t:DE):DI:=fun τ M k=>t τ M λd M1=>b9 d λn=>-(2 ^ 62)<=n/\n<2 ^ 62/\k (fB 0 n.toNat) (λ_=>True) M1
theorem cY {d:D}{k:Int->Prop}{G:Gx}{F:Fz}{u:Value} (h:b9 d k) (r:ab G F d u):∃i t,u=.int i t/\k i:=by
 unfold b9 at h;split at h
 ·rw[ab]at r;obtain⟨t,e⟩:=r;exact⟨_,t,e,h⟩
 ·exact h.elim
theorem Ec {τ:St} {z:Z}{F:Fz}{R:Value->Shared->Prop}{k:List D->(Mp->Prop)->Mp->Prop}{lo hi:Int}{t u v:Tok}{tk:Nat} (I:ae X τ z) (K:KI X τ tg F k R) (l:Le F z.F) (h:-(2 ^ 62)<=lo/\lo<2 ^ 62/\-(2 ^ 62)<=hi/\hi<2 ^ 62) (q:k (fB lo (hi-lo).toNat) (λ_=>True) z.M) :
  W X (pyIter (.ref z.s.heap.objs.size)) R { z.s with heap:=z.s.heap.push { cls:=.type "range",data:=.fields #[.int lo t,.int hi u,.int 1 v] },toks:=tk }:=by
 refine wpAny_pyIter_range (IsRange.new ..) (small_one h.1 h.2.1 h.2.2.1 h.2.2.2) ?_;have I1:ae X τ ⟨z.F,z.M,{ z.s with heap:=z.s.heap.push { cls:=.type "range",data:=.fields #[.int lo t,.int hi u,.int 1 v] },toks:=tk }⟩:=I.bX λb o e=>Xw _ e;refine K _ _ ⟨z.F,z.M,_⟩ _ l (I1.bX (t:=tk) λb o e=>Xw _ e) (kL I (by rw[Yd];exact Y7 _) (Eb (n:=(hi-lo).toNat) (lo:=lo)) ?_) q;have e1:lo+((0:Nat):Int) * 1=lo:=by simp
 have e2:(((hi-lo).toNat:Nat):Int)-((0:Nat):Int)=Builtin.Range.rangeSize lo hi 1:=by rw[rangeSize_one];split <;> lia
 show IsRangeIter _ _ (lo+((0:Nat):Int) * 1) ((((hi-lo).toNat:Nat):Int)-((0:Nat):Int)) 1;rw[e1,e2];exact XA _ rfl
variable {a b:Expr}{ta tb:DE}{p pos:Pos}
theorem vJ (ha:PE X a ta) (hs:starEach [a] X.env=[(false,eval a X.env)]) (pos:Pos) {τ:St} {z:Z}{Q:QK}{R:List Value->Shared->Prop} (I:ae X τ z) (h:ta τ z.M Q) (k:∀d z' u,Le z.F z'.F->ae X τ z'->ab X.G z'.F d u->Q d z'.M->R [u] z'.s):W X (spliced (backTo pos (starEach [a] X.env))) R z.s:=by
 rw[hs];exact YS (ha τ z _ _ I h λd z1 u l1 I1 r1 q1=>Zo (k d z1 u l1 I1 r1 q1))
theorem Ed (ha:PE X a ta) (hb:PE X b tb) (hs:starEach [a,b] X.env=[(false,eval a X.env),(false,eval b X.env)]) (pos:Pos) {τ:St} {z:Z}{Q:D->D->Mp->Prop}{R:List Value->Shared->Prop} (I:ae X τ z) (h:ta τ z.M λx M=>tb τ M λy M=>Q x y M) (k:∀d e z' u v,Le z.F z'.F->ae X τ z'->ab X.G z'.F d u->ab X.G z'.F e v->Q d e z'.M->R [u,v] z'.s):W X (spliced (backTo pos (starEach [a,b] X.env))) R z.s:=by
 rw[hs];exact YS (ha τ z _ _ I h λd z1 u l1 I1 r1 q1=>YS (hb τ z1 _ _ I1 q1 λe z2 v l2 I2 r2 q2=>Zo (k d e z2 u v (l1.tr l2) I2 (r1.up l2.d) r2 q2)))
theorem gI {G:Gx}{F:Fz}{d:D}{us:List Value} (h:ah G F [d] us):∃u,us=[u]/\ab G F d u:=by
 rw[ah]at h;obtain⟨u,r,rfl,h1,h2⟩:=h;rw[ah]at h2;subst h2;exact⟨u,rfl,h1⟩
theorem gJ {G:Gx}{F:Fz}{d e:D}{us:List Value} (h:ah G F [d,e] us):∃u v,us=[u,v]/\ab G F d u/\ab G F e v:=by
 rw[ah]at h;obtain⟨u,r,rfl,h1,h2⟩:=h;obtain⟨v,rfl,h3⟩:=gI h2;exact⟨u,v,rfl,h1,h3⟩
theorem Ee (hg:Gl X "range") (hm:X.G.mg "range"=none) (ha:PE X a ta) (hs:starEach [a] X.env=[(false,eval a X.env)]):PI X tg (.Call (.Name "range" p) [a] [] pos) (vH ta):=fun τ z k R I h K=>
 Call_ (eL I hg hm boot_range (by decide) (by decide) (YF (vJ ha hs pos I h λd z1 u l1 I1 r1 q1=>by
  obtain⟨i,t,rfl,h1,h2,q⟩:=cY q1 r1;exact call_range_1 (Ec I1 K l1 ⟨by decide,by decide,h1,h2⟩ (by simpa using q))) hs rfl))
theorem Ef {τ:St} {z:Z}{s':Shared}{x y:D}{u v:Value}{T:Addr}{o:Obj}{fp:List Addr}{tn:Nat->Heap->Prop}{i:Nat} (I:ae X τ ⟨z.F,z.M,s'⟩) (hT:Fp X ⟨z.F,z.M,s'⟩ T) (ho:s'.heap.get? T=some o) (to:kq o [u,v]) (r1:ab X.G z.F x u) (r2:ab X.G z.F y v) (t:tn i s'.heap) (n:∀ b∈fp,z.F b=none/\b≠T) :
  m7 X τ z (.tup [x,y]) (.ref T) fp tn i s':=
 have h:=I.ky (f:=.dat o) hT ho
 ⟨h.1,h.2,mZ av to (.cons (r1.up h.1.d) (.cons (r2.up h.1.d) .nil)),t,λb hb=>(aF (n b hb).2).trans (n b hb).1⟩
end
section
variable {prog:Program}{w:World}{A:Around}{E:Value->Shared->Prop}{s:Shared}
structure kM (p q:Bool) (h:Heap) (z TI TO i1 i2 t1 t2:Addr) (k:Nat) (f:Value):Prop where
 z:IsZip h z TI TO f
 ti:IsPair h TI (.ref i1) (.ref i2)
 to:∃a b,IsPair h TO a b
 j1:dU p h i1 t1 k
 j2:dU q h i2 t2 k
structure qg (z TI TO i1 i2 t1 t2:Addr):Prop where
 TJ:TI≠z
 TF:TO≠z
 TK:i1≠z
 TL:i2≠z
 T2:TI≠TO
 Uz:TI≠i1
 U2:TI≠i2
 UA:TO≠i1
 UB:TO≠i2
 b1:i1≠i2
 c1:t1≠z/\t1≠TO/\t1≠i1/\t1≠i2
 c2:t2≠z/\t2≠TO/\t2≠i1/\t2≠i2
theorem Eg {p q:Bool}{z TI TO i1 i2 t1 t2:Addr}{k:Nat}{xs ys:Array Value}{x y:Value}{Q:Option Value->Shared->Prop} (D:qg z TI TO i1 i2 t1 t2) (Z:kM p q s.heap z TI TO i1 i2 t1 t2 k .none)
  (ng:cx p s.heap t1 xs) (qh:cx q s.heap t2 ys) (hx:xs[k]?=some x) (hy:ys[k]?=some y)
  (hQ:∀h',kM p q h' z TI TO i1 i2 t1 t2 (k+1) (rawInt s.heap.objs.size)->IsPair h' s.heap.objs.size x y->h'.objs.size=s.heap.objs.size+1 ->
   (∀c o,c≠z->c≠TO->c≠i1->c≠i2->s.heap.get? c=some o->h'.get? c=some o)->Q (some (.ref s.heap.objs.size)) { s with heap:=h' }) :
  wpAny (model prog w) A (pyNext (.ref z)) Q E s:=by
 have hT:s.TypeIs (.ref z) "zip":=⟨_,Z.z,rfl⟩;obtain⟨u0,v0,qi⟩:=Z.to;unfold pyNext;refine Xv (Zn (X8 (name:=YU "__next__") hT F.slot_zip_next (Yc F.slot_zip_next hT F.entry_zip_next ?_ (F.args_zip_next_1 _))));show wpAny _ _ (field (.ref z) 2 >>= _) _ _ _;refine Xv (Yt Z.z rfl (x:=.bool false) rfl ?_);show wpAny _ _ (field (.ref z) 3 >>= _) _ _ _;refine Xv (Yt Z.z rfl (x:=.ref TI) rfl ?_);refine Xv (Zg Z.ti rfl ?_);show wpAny _ _ (Y1 (.ref z) >>= _) _ _ _;refine Xv ?_;unfold Y1;refine Xv (Yt Z.z rfl (x:=.none) rfl (Xy ?_));simp only[if_true];refine Xv (wpAny_rule (Xv (Yt Z.z rfl (x:=.ref TO) rfl ?_)));refine Xv (ZH Z.z (by simp) λg1 z1 s1=>?_);have z1:IsZip g1 z TI TO .ellipsis:=z1;refine Xv ?_;simp only[List.zipIdx_cons,List.zipIdx_nil,List.forIn_cons,List.forIn_nil];refine Xv (Xv (wpAny_onRaise ?_));show wpAny _ _ (Yl (.ref i1) >>= _) _ _ _;refine Xv (pQ (Z.j1.extBut s1.extBut D.TK) (ng.extBut s1.extBut D.c1.1) hx λg2 vK s2=>Xy ?_);have o2:IsPair g2 TO u0 v0:=s2.extBut _ _ D.UA (s1.extBut _ _ D.TF qi);refine Xv (Zg o2 rfl ?_);refine Xv (wpAny_updateSeq_pair o2 λg3 o3 s3=>?_);have o3:IsPair g3 TO x v0:=o3;refine Xv (wpAny_letGo (Xy ?_));refine Xv (Xv (wpAny_onRaise ?_));show wpAny _ _ (Yl (.ref i2) >>= _) _ _ _;refine Xv (pQ (((Z.j2.extBut s1.extBut D.TL).extBut s2.extBut D.b1.symm).extBut s3.extBut D.UB.symm) (((qh.extBut s1.extBut D.c2.1).extBut s2.extBut D.c2.2.2.1).extBut s3.extBut D.c2.2.1) hy λg4 Eh s4=>Xy ?_);have o4:IsPair g4 TO x v0:=s4.extBut _ _ D.UB o3;refine Xv (Zg o4 rfl ?_);refine Xv (wpAny_updateSeq_pair o4 λg5 o5 s5=>?_);have o5:IsPair g5 TO x y:=o5;refine Xv (wpAny_letGo (Xy (Xy ?_)));refine Xv (Zg o5 rfl ?_);refine Xv (wpAny_newTuple ?_);have sz:g5.objs.size=s.heap.objs.size:=by rw[s5.1,s4.1,s3.1,s2.1,s1.1]
 have z5:IsZip g5 z TI TO .ellipsis:=s5.extBut _ _ D.TF.symm (s4.extBut _ _ D.TL.symm (s3.extBut _ _ D.TF.symm (s2.extBut _ _ D.TK.symm z1)));have UC:∀c o,c≠z->c≠TO->c≠i1->c≠i2->s.heap.get? c=some o->g5.get? c=some o:=λc o e1 e2 e3 e4 q=>s5.extBut _ _ e2 (s4.extBut _ _ e4 (s3.extBut _ _ e2 (s2.extBut _ _ e3 (s1.extBut _ _ e1 q))));have Ei:dU p g5 i1 t1 (k+1):=((vK.extBut s3.extBut D.UA.symm).extBut s4.extBut D.b1).extBut s5.extBut D.UA.symm;have Ej:dU q g5 i2 t2 (k+1):=Eh.extBut s5.extBut D.UB.symm;have vL:z<g5.objs.size:=XO z5;show wpAny _ _ (Builtin.SmallTypes.ownedTupleHandOut (.ref z) (.ref g5.objs.size) >>= _) _ _ _;refine Xv ?_;unfold Builtin.SmallTypes.ownedTupleHandOut;have z6:IsZip (g5.push { cls:=.type "tuple",data:=.seq #[x,y] }) z TI TO .ellipsis:=Xw _ z5;refine Xv (ZH z6 (by simp) λV4 z7 s7=>?_);have z7:IsZip V4 z TI TO (rawInt g5.objs.size):=z7;refine ZH z7 (by simp) λUj z8 s8=>?_;have z8:IsZip Uj z TI TO (rawInt g5.objs.size):=z8;have up:∀c o,c≠z->g5.get? c=some o->Uj.get? c=some o:=λc o e q=>s8.extBut _ _ e (s7.extBut _ _ e (Xw _ q));have T8:IsPair Uj g5.objs.size x y:=s8.extBut _ _ (YJ vL) (s7.extBut _ _ (YJ vL) (XA _ rfl));have Vm:Uj.objs.size=g5.objs.size+1:=by rw[s8.1,s7.1,Yd]
 rw[sz]at z8 T8 Vm;refine Xy ⟨_,rfl,Xy ?_⟩;show Q (some (.ref g5.objs.size)) _;rw[sz];refine hQ Uj ⟨z8,up _ _ D.TJ (UC _ _ D.TJ D.T2 D.Uz D.U2 Z.ti),⟨_,_,up _ _ D.TF o5⟩,?_,?_⟩ T8 Vm λc o e1 e2 e3 e4 q=>up c o e1 (UC c o e1 e2 e3 e4 q)
 ·obtain⟨ob,q1,q2⟩:=Ei;exact⟨ob,up _ _ D.TK q1,q2⟩
 ·obtain⟨ob,q1,q2⟩:=Ej;exact⟨ob,up _ _ D.TL q1,q2⟩
theorem Ek {p q:Bool}{z TI TO i1 i2 t1 t2:Addr}{k:Nat}{xs ys:Array Value}{Q:Option Value->Shared->Prop} (hh:A.handled=none) (D:qg z TI TO i1 i2 t1 t2) (Z:kM p q s.heap z TI TO i1 i2 t1 t2 k .none)
  (ng:cx p s.heap t1 xs) (qh:cx q s.heap t2 ys) (El:xs[k]?=none\/ys[k]?=none)
  (hQ:∀h',(∀c o,c≠z->c≠TO->c≠i1->c≠i2->s.heap.get? c=some o->h'.get? c=some o)->Q none { s with heap:=h' }) :
  wpAny (model prog w) A (pyNext (.ref z)) Q E s:=by
 have hT:s.TypeIs (.ref z) "zip":=⟨_,Z.z,rfl⟩;obtain⟨u0,v0,qi⟩:=Z.to;unfold pyNext;refine Xv (Zn (X8 (name:=YU "__next__") hT F.slot_zip_next (Yc F.slot_zip_next hT F.entry_zip_next ?_ (F.args_zip_next_1 _))));show wpAny _ _ (field (.ref z) 2 >>= _) _ _ _;refine Xv (Yt Z.z rfl (x:=.bool false) rfl ?_);show wpAny _ _ (field (.ref z) 3 >>= _) _ _ _;refine Xv (Yt Z.z rfl (x:=.ref TI) rfl ?_);refine Xv (Zg Z.ti rfl ?_);show wpAny _ _ (Y1 (.ref z) >>= _) _ _ _;refine Xv ?_;unfold Y1;refine Xv (Yt Z.z rfl (x:=.none) rfl (Xy ?_));simp only[if_true];refine Xv (wpAny_rule (Xv (Yt Z.z rfl (x:=.ref TO) rfl ?_)));refine Xv (ZH Z.z (by simp) λg1 z1 s1=>?_);have z1:IsZip g1 z TI TO .ellipsis:=z1;refine Xv ?_;simp only[List.zipIdx_cons,List.zipIdx_nil,List.forIn_cons,List.forIn_nil];refine Xv (Xv (wpAny_onRaise ?_));show wpAny _ _ (Yl (.ref i1) >>= _) _ _ _;cases hx:xs[k]? with
 |none=>
  refine Xv (uT hh (Z.j1.extBut s1.extBut D.TK) (ng.extBut s1.extBut D.c1.1) hx λg2 e s2 he=>?_);obtain⟨U3,q1,q2⟩:=he;have z2:IsZip g2 z TI TO .ellipsis:=s2 _ _ D.TK.symm z1;have ne:e≠z:=λx=>by subst x;rw[z2]at q1;cases q1;simp at q2
  exact ZH z2 (by simp) λg3 _ s3=>Xv (Zm (T:="StopIteration") (b:=true) ⟨U3,s3.extBut _ _ ne q1,q2⟩ isSubtype_stop (Xy (hQ _ λc o c1 _ c3 _ x=>s3.extBut _ _ c1 (s2 _ _ c3 (s1.extBut _ _ c1 x)))))
 |some x=>
  have hy:ys[k]?=none:=by
   rcases El with q |q
   ·rw[hx]at q;cases q
   ·exact q
  refine Xv (pQ (Z.j1.extBut s1.extBut D.TK) (ng.extBut s1.extBut D.c1.1) hx λg2 vK s2=>Xy ?_);have o2:IsPair g2 TO u0 v0:=s2.extBut _ _ D.UA (s1.extBut _ _ D.TF qi);refine Xv (Zg o2 rfl ?_);refine Xv (wpAny_updateSeq_pair o2 λg3 o3 s3=>?_);refine Xv (wpAny_letGo (Xy ?_));refine Xv (Xv (wpAny_onRaise ?_));show wpAny _ _ (Yl (.ref i2) >>= _) _ _ _;refine Xv (uT hh (((Z.j2.extBut s1.extBut D.TL).extBut s2.extBut D.b1.symm).extBut s3.extBut D.UB.symm) (((qh.extBut s1.extBut D.c2.1).extBut s2.extBut D.c2.2.2.1).extBut s3.extBut D.c2.2.1) hy λg4 e s4 he=>?_);obtain⟨U3,q1,q2⟩:=he;have z4:IsZip g4 z TI TO .ellipsis:=s4 _ _ D.TL.symm (s3.extBut _ _ D.TF.symm (s2.extBut _ _ D.TK.symm z1));have ne:e≠z:=λx=>by subst x;rw[z4]at q1;cases q1;simp at q2
  exact ZH z4 (by simp) λg5 _ s5=>Xv (Zm (T:="StopIteration") (b:=true) ⟨U3,s5.extBut _ _ ne q1,q2⟩ isSubtype_stop (Xy (hQ _ λc o c1 c2 c3 c4 x=>s5.extBut _ _ c1 (s4 _ _ c4 (s3.extBut _ _ c2 (s2.extBut _ _ c3 (s1.extBut _ _ c1 x)))))))
noncomputable abbrev nh (p:Bool) (h:Heap) (a:Addr):Heap:=h.push { cls:=.type (fW p),data:=.fields #[.ref a,.int 0 0] }
noncomputable abbrev ni (p q:Bool) (h:Heap) (a b:Addr):Heap:=(nh p h a).push { cls:=.type (fW q),data:=.fields #[.ref b,.int 0 0] }
noncomputable abbrev nj (p q:Bool) (h:Heap) (a b:Addr):Heap:=(ni p q h a b).push { cls:=.type "tuple",data:=.seq #[.ref h.objs.size,.ref (nh p h a).objs.size] }
noncomputable abbrev nk (p q:Bool) (h:Heap) (a b:Addr):Heap:=(nj p q h a b).push { cls:=.type "tuple",data:=.seq #[.none,.none] }
noncomputable abbrev ip (p q:Bool) (h:Heap) (a b:Addr):Heap:=(nk p q h a b).push { cls:=.type "zip",data:=.fields #[.none,.bool false,.bool false,.ref (ni p q h a b).objs.size,.ref (nj p q h a b).objs.size] }
end
theorem vM {prog:Program}{w:World}{A:Around}{E:Value->Shared->Prop}{s:Shared}{q:Bool}{a:Addr}{xs:Array Value}{Q:Value->Shared->Prop} (h:cx q s.heap a xs) (k:Q (.ref s.heap.objs.size) { s with heap:=s.heap.push { cls:=.type (fW q),data:=.fields #[.ref a,.int 0 0] } }):wpAny (model prog w) A (pyIter (.ref a)) Q E s:=by
 cases q with
 |true=>exact ZI h k
 |false=>exact wpAny_pyIter_list h k
theorem Em (p q:Bool) (a b:Addr) (xs ys:Array Value) :
  Meets (Builtin.«zip.__new__» ⟨[.type "zip",.ref a,.ref b],[]⟩) (λ_ R s=>cx p s.heap a xs/\cx q s.heap b ys/\R (.ok (.ret (.ref (nk p q s.heap a b).objs.size))) { s with heap:=ip p q s.heap a b }):=
 .of_wp λprog w A R s h=>by
  obtain⟨hp,g,d,tk,os⟩:=s;obtain⟨q1,q2,h⟩:=h;have sub:=sub_zip;have e1:cx p (Shared.heap ⟨hp,g,d,tk,os⟩) a xs:=q1;have e2:cx q (Shared.heap ⟨hp.push { cls:=.type (fW p),data:=.fields #[.ref a,.int 0 0] },g,d,tk,os⟩) b ys:=by
   cases q
   ·exact Heap.IsList.push q2 _
   ·exact Heap.IsTuple.push q2 _
  wp_walk using vM e1,vM e2
  exact⟨_,rfl,h⟩
section
variable {prog:Program}{w:World}{A:Around}{E:Value->Shared->Prop}{s:Shared}
theorem Eo {p q:Bool}{a b:Addr}{xs ys:Array Value}{Q:Value->Shared->Prop} (h1:cx p s.heap a xs) (h2:cx q s.heap b ys)
  (h:∀h',kM p q h' (s.heap.objs.size+4) (s.heap.objs.size+2) (s.heap.objs.size+3) s.heap.objs.size (s.heap.objs.size+1) a b 0 .none->h'.objs.size=s.heap.objs.size+5 ->
   (∀c o,s.heap.get? c=some o->h'.get? c=some o)->Q (.ref (s.heap.objs.size+4)) { s with heap:=h' }):wpAny (model prog w) A (call (.type "zip") [.ref a,.ref b]) Q E s:=by
 refine callType_new F.called_zip (by decide) (F.typeCall_zip_2 _ _) (F.newCall_zip_2 _ _) (λobj=>F.args_object_init_3 obj _ _) F.entry_zip_new (Em p q a b xs ys) ⟨h1,h2,?_⟩;have n1:(nh p s.heap a).objs.size=s.heap.objs.size+1:=Yd ..;have n2:(ni p q s.heap a b).objs.size=s.heap.objs.size+2:=by rw[Yd,n1]
 have n3:(nj p q s.heap a b).objs.size=s.heap.objs.size+3:=by rw[Yd,n2]
 have U4:(nk p q s.heap a b).objs.size=s.heap.objs.size+4:=by rw[Yd,n3]
 have n5:(ip p q s.heap a b).objs.size=s.heap.objs.size+5:=by rw[Yd,U4]
 have U5:(ip p q s.heap a b).get? (nk p q s.heap a b).objs.size=some _:=XA _ rfl;have p4:(ip p q s.heap a b).get? (nj p q s.heap a b).objs.size=some _:=Xw _ (XA _ rfl);have p3:(ip p q s.heap a b).get? (ni p q s.heap a b).objs.size=some _:=Xw _ (Xw _ (XA _ rfl));have p2:(ip p q s.heap a b).get? (nh p s.heap a).objs.size=some _:=Xw _ (Xw _ (Xw _ (XA _ rfl)));have p1:(ip p q s.heap a b).get? s.heap.objs.size=some _:=Xw _ (Xw _ (Xw _ (Xw _ (XA _ rfl))));show _/\_;rw[n2,n3,U4]at U5;rw[n1,n2]at p3;rw[n3]at p4;rw[n1]at p2;rw[U4];exact⟨⟨_,U5,rfl⟩,h _ ⟨U5,p3,⟨_,_,p4⟩,⟨_,p1,rfl,rfl⟩,⟨_,p2,rfl,rfl⟩⟩ n5 λc o x=>
  Xw _ (Xw _ (Xw _ (Xw _ (Xw _ x))))⟩
end
end N
end
section
set_option maxHeartbeats 1000000
namespace N
open PySem PySem.Spec PyProof.Rows L2
section
variable {X:Cx}{G:Gx}{F0:Fz}{xs ys:List D}{ok kO:Mp->Prop}{a b:Addr}{p q:Bool}{nn:List Expr}{kk:Nat}{tp:Pos}
theorem Ep {z TI TO i1 i2:Addr} (D':qg z TI TO i1 i2 a b) (S:kJ G F0 p a xs ok) (S':kJ G F0 q b ys kO) :
  gG G (.Tuple nn kk tp) (List.zipWith (λx y=>.tup [x,y]) xs ys) (λM=>ok M/\kO M) F0 [z,TI,TO,i1,i2] z (λi h=>kM p q h z TI TO i1 i2 a b i .none) where
 obj:=λi h st c hc=>by
  obtain⟨q1,q2,⟨u,v,q3⟩,⟨o4,q4,_⟩,⟨o5,q5,_⟩⟩:=st;simp only[X5,XT,or_false]at hc;rcases hc with rfl |rfl |rfl |rfl |rfl
  ·exact⟨_,q1⟩
  ·exact⟨_,q2⟩
  ·exact⟨_,q3⟩
  ·exact⟨_,q4⟩
  ·exact⟨_,q5⟩
 keep:=λi h h' st k=>by
  obtain⟨q1,q2,⟨u,v,q3⟩,⟨o4,q4,r4⟩,⟨o5,q5,r5⟩⟩:=st;exact⟨k z (by simp) _ q1,k TI (by simp) _ q2,⟨u,v,k TO (by simp) _ q3⟩,⟨o4,k i1 (by simp) _ q4,r4⟩,⟨o5,k i2 (by simp) _ q5,r5⟩⟩
 item:=by
  intro X hG hc i τ z' d E I l hf st hok hd;subst hG;rw[List.getElem?_zipWith]at hd;obtain⟨us,r1,_,h1⟩:=S X τ z' rfl I l hok.1;obtain⟨vs,r2,_,h2⟩:=S' X τ z' rfl I l hok.2;cases hx:xs[i]? with
  |none=>rw[hx]at hd;cases hd
  |some x=>cases hy:ys[i]? with
   |none=>rw[hx,hy]at hd;cases hd
   |some y=>
    rw[hx,hy]at hd;cases hd;obtain⟨u,hu,ru⟩:=fA r1 hx;obtain⟨v,hv,rv⟩:=fA r2 hy;refine Eg D' st h1 h2 hu hv λh' Z' T' n' keep=>⟨_,rfl,wpAny_letOwnedTupleGo_zip Z'.z λim Er sb=>?_⟩;have Es:z<z'.s.heap.objs.size:=XO st.z;have I':ae X τ ⟨z'.F,z'.M,{ z'.s with heap:=im,toks:=z'.s.toks }⟩:=I.ee hf λc hc o e=>by
     simp only[X5,XT,or_false,not_or]at hc;exact sb.extBut _ _ hc.1 (keep c o hc.1 hc.2.2.1 hc.2.2.2.1 hc.2.2.2.2 e)
    refine Ef I' (I.kI (XC _)) (sb.extBut _ _ (YJ Es) T') ⟨rfl,rfl,⟨0,rfl⟩,by show 2<=sizeLine;decide⟩ ru rv ?_ λc hc=>⟨(hf c hc).f,?_⟩
    ·obtain⟨_,q2,⟨e1,e2,q3⟩,⟨o4,q4,r4⟩,⟨o5,q5,r5⟩⟩:=Z';exact⟨Er,sb.extBut _ _ D'.TJ q2,⟨e1,e2,sb.extBut _ _ D'.TF q3⟩,⟨o4,sb.extBut _ _ D'.TK q4,r4⟩,⟨o5,sb.extBut _ _ D'.TL q5,r5⟩⟩
    ·obtain⟨q1,q2,⟨e1,e2,q3⟩,⟨o4,q4,r4⟩,⟨o5,q5,r5⟩⟩:=st;simp only[X5,XT,or_false]at hc;rcases hc with rfl |rfl |rfl |rfl |rfl
     ·exact XR (XO q1)
     ·exact XR (XO q2)
     ·exact XR (XO q3)
     ·exact XR (XO q4)
     ·exact XR (XO q5)
 done:=by
  intro X hG hc i τ z' E I l hf st hok hd;subst hG;obtain⟨us,r1,_,h1⟩:=S X τ z' rfl I l hok.1;obtain⟨vs,r2,_,h2⟩:=S' X τ z' rfl I l hok.2;rw[List.length_zipWith]at hd;refine Ek (I.ok.hd hc) D' st h1 h2 (by
   by_cases h:xs.length<=i
   ·exact .inl (m9 r1 h)
   ·exact .inr (m9 r2 (by lia))) λh' keep=>⟨rfl,I.ee (t:=z'.s.toks) hf λc hc o e=>?_⟩
  simp only[X5,XT,or_false,not_or]at hc;exact keep c o hc.1 hc.2.2.1 hc.2.2.2.1 hc.2.2.2.2 e
 self:=λ_ _ _ _ _ st h=>wpAny_pyIter_zip st.z h
variable {ea eb:Expr}{ta tb:DE}{pn pos:Pos}{tg:Expr}
def vO (t u:DE):DI:=fun τ M k=>t τ M λd M1=>u τ M1 λe M2=>ik d M2 λxs ok=>ik e M2 λys kO=>k (List.zipWith (λx y=>.tup [x,y]) xs ys) (λM=>ok M/\kO M) M2
theorem Et (hg:Gl X "zip") (hm:X.G.mg "zip"=none) (ha:PE X ea ta) (hb:PE X eb tb) (hs:starEach [ea,eb] X.env=[(false,eval ea X.env),(false,eval eb X.env)]) (hs2:starEach [eb] X.env=[(false,eval eb X.env)]):PI X (.Tuple nn kk tp) (.Call (.Name "zip" pn) [ea,eb] [] pos) (vO ta tb):=fun τ z k R I h K=>
 Call_ (eL I hg hm boot_zip (by decide) (by decide) (YF (Ed ha hb hs pos I h λd e z1 u v l1 I1 r1 r2 q1=>by
  obtain⟨p,x,xs,ok,rfl,S,hok,q1⟩:=I1.il r1 q1;obtain⟨q,y,ys,kO,rfl,S',Eu,q1⟩:=I1.il r2 q1;obtain⟨us,_,_,h1⟩:=S X τ z1 rfl I1 Le.rfl hok;obtain⟨vs,_,_,h2⟩:=S' X τ z1 rfl I1 Le.rfl Eu;have f:∀c:Addr,c<z1.s.heap.objs.size->∀k:Nat,c≠z1.s.heap.objs.size+k:=λc hc k=>XR (XW hc (Zx _ _));have n:∀{i j:Nat},i≠j->z1.s.heap.objs.size+i≠z1.s.heap.objs.size+j:=λh e=>h (Nat.add_left_cancel e);refine Eo h1 h2 λh' Z n5 keep=>wpAny_pyIter_zip Z.z (K _ _ ⟨z1.F,z1.M,_⟩ _ l1 (I1.bX (t:=z1.s.toks) λb o e=>keep b o e) (.mk (Ep ⟨n (by decide),n (by decide),n (i:=0) (by decide),n (by decide),n (by decide),n (j:=0) (by decide),n (by decide),n (j:=0) (by decide),n (by decide),n (i:=0) (by decide),⟨f _ h1.lt 4,f _ h1.lt 3,XR h1.lt,f _ h1.lt 1⟩,⟨f _ h2.lt 4,f _ h2.lt 3,XR h2.lt,f _ h2.lt 1⟩⟩ S S') Z λc hc=>I1.kI ?_) q1);simp only[X5,XT,or_false]at hc;rcases hc with rfl |rfl |rfl |rfl |rfl
  ·exact Zx _ _
  ·exact Zx _ _
  ·exact Zx _ _
  ·exact XC _
  ·exact Zx _ _) (by rw[hs,hs2]) (by rw[hs2];rfl)))
noncomputable def gK (ds:List D):List D:=ds.mapIdx λi d=>.tup [.int i,d]
def gc (q:Bool) (h:Heap) (it a:Addr) (i:Int):Prop:=match q with
 |true=>d9 h it a i
 |false=>h.IsRevIter it a i
theorem gc.o {h:Heap}{it:Addr}{i:Int} (x:gc q h it a i):∃o n vs,h.get? it=some o/\o.cls=.type n/\o.data=.fields vs/\["enumerate","zip","dict_itemiterator","dict_reverseitemiterator","odict_iterator","itertools.zip_longest","itertools.pairwise"].contains n=false:=by
 cases q with
 |true=>obtain⟨o,e,c,d⟩:=x;exact⟨o,_,_,e,c,d,by decide⟩
 |false=>obtain⟨o,e,c,d⟩:=x;exact⟨o,_,_,e,c,d,by decide⟩
theorem gc.at {h h':Heap}{it:Addr}{i:Int} (x:gc q h it a i) (k:bw h h' it):gc q h' it a i:=by
 cases q with
 |true=>exact d9.at x k
 |false=>exact Heap.IsRevIter.at x k
theorem Ew {it:Addr}{n:Nat} (hn:n=xs.length) (S:kJ G F0 q a xs ok):gG G tg xs.reverse ok F0 [it] it (λi h=>i<=n/\gc q h it a ((n:Int)-1-(i:Int))) where
 obj:=λi h st b hb=>by rw[kK hb];obtain⟨o,_,_,e,_⟩:=st.2.o;exact⟨o,e⟩
 keep:=λi h h' st k=>⟨st.1,st.2.at (k it (List.mem_singleton.mpr rfl))⟩
 item:=by
  intro X hG hc i τ z d E I l hf st hok hd;subst hG;have hi:i<n:=by have:=(List.getElem?_eq_some_iff.mp hd).1;rw[Zs]at this;lia
  rw[List.getElem?_reverse (by lia),<- hn]at hd;obtain⟨us,r1,hz,h1⟩:=S X τ z rfl I l hok;obtain⟨u,hu,ru⟩:=fA r1 hd;have st2:=st.2;rw[show (n:Int)-1-(i:Int)=((n-1-i:Nat):Int) by lia]at st2;have fin:∀h' tk,gc q h' it a (((n-1-i:Nat):Int)-1)->Za it z.s.heap h'->∃u',(some u:Option Value)=some u'/\wpAny (model X.G.P X.G.w) X.A (letOwnedTupleGo tg (.ref it) u') (λ_ s2=>m7 X τ z d u' [it] (λi h=>i<=n/\gc q h it a ((n:Int)-1-(i:Int))) (i+1) s2) E { z.s with heap:=h',toks:=tk }:=λh' tk bd sb=>by
   obtain⟨o,_,_,e,c,TV,pY⟩:=bd.o;refine⟨u,rfl,mM (s:={ z.s with heap:=h',toks:=tk }) e c TV pY ⟨Le.rfl,I.ee (t:=tk) hf (λb hb o' e'=>(sb.2 b λq=>hb (List.mem_singleton.mpr q)).trans e'),ru,⟨hi,?_⟩,λb hb=>(hf b hb).f⟩⟩;rw[show (n:Int)-1-((i+1:Nat):Int)=((n-1-i:Nat):Int)-1 by lia];exact bd
  cases q with
  |true=>exact Dj st2 h1 (by rw[Xz];exact hz) hu fin
  |false=>exact wpAny_pyNext_rev_item st2 h1 hu λh'=>fin h' z.s.toks
 done:=by
  intro X hG hc i τ z E I l hf st hok hd;subst hG;rw[Zs]at hd;have st2:=st.2;rw[show (n:Int)-1-(i:Int)=-1 by have:=st.1;lia]at st2
  have fin:∀h' tk,ZE it z.s.heap h'->(none:Option Value)=none/\ae X τ ⟨z.F,z.M,{ z.s with heap:=h',toks:=tk }⟩:=λh' tk eb=>⟨rfl,I.ee hf λb hb o e=>eb b o (λq=>hb (List.mem_singleton.mpr q)) e⟩;cases q with
  |true=>exact Dk (I.ok.hd hc) st2 fin
  |false=>exact wpAny_pyNext_rev_end (I.ok.hd hc) st2 λh'=>fin h' z.s.toks
 self:=λ_ _ _ _ _ st h=>by
  cases q with
  |true=>exact vc st.2 h
  |false=>exact wpAny_pyIter_revIter st.2 h
def vP (t:DE):DI:=fun τ M k=>t τ M λd M1=>ik d M1 λxs ok=>k xs.reverse ok M1
theorem Ex (hg:Gl X "reversed") (hm:X.G.mg "reversed"=none) (ha:PE X ea ta) (hs:starEach [ea] X.env=[(false,eval ea X.env)]):PI X tg (.Call (.Name "reversed" pn) [ea] [] pos) (vP ta):=fun τ z k R I h K=>
 Call_ (eL I hg hm boot_reversed (by decide) (by decide) (YF (vJ ha hs pos I h λd z1 u l1 I1 r1 q1=>by
  obtain⟨q,x,xs,ok,rfl,S,hok,q1⟩:=I1.il r1 q1;obtain⟨us,rr,hz,h1⟩:=S X τ z1 rfl I1 Le.rfl hok;have e0:((us.toArray.size:Nat):Int)-1=(xs.length:Int)-1-((0:Nat):Int):=by rw[Xz,<- rr.len];simp
  have fin:∀h' tk,gc q h' z1.s.heap.objs.size x ((us.toArray.size:Int)-1)->(∀b o,z1.s.heap.get? b=some o->h'.get? b=some o)->R (.ref z1.s.heap.objs.size) { z1.s with heap:=h',toks:=tk }:=λh' tk Z keep=>
   K _ _ ⟨z1.F,z1.M,_⟩ _ l1 (I1.bX λb o e=>keep b o e) (kL I1 (XC _) (Ew rfl S) ⟨XM _,by rw[<- e0];exact Z⟩) q1
  cases q with
  |true=>exact Di h1 (by rw[Xz];exact hz) λh' tk Z n2 keep=>vc Z (fin h' tk Z keep)
  |false=>exact call_reversed_list h1 (wpAny_pyIter_revIter (l:=x) (i:=(us.toArray.size:Int)-1) ⟨_,XA _ rfl,rfl,rfl⟩ (fin _ z1.s.toks ⟨_,XA _ rfl,rfl,rfl⟩ λb o e=>Xw _ e))) hs rfl))
end
end N
end
section
set_option maxHeartbeats 1000000
namespace N
open PySem PySem.Spec PyProof.Rows L2
noncomputable def qj:D->Option (List D)
 |.tup ds=>some ds
 |_=>none
noncomputable def qk:D->Option (List D)
 |.lst ds=>some ds
 |_=>none
noncomputable def oI:D->Option Int
 |.int i=>some i
 |.bl b=>some (if b then 1 else 0)
 |_=>none
noncomputable def kP:D->Option Str
 |.str x=>some x
 |_=>none
noncomputable def nu:D->Bool
 |.aj=>true
 |_=>false
mutual
noncomputable def aD:D->D->Bool
 |.aj=>nu
 |.bl a=>λe=>oI e == some (if a then 1 else 0)
 |.int a=>λe=>oI e == some a
 |.str a=>λe=>kP e == some a
 |.tup a=>λe=>(qj e).any (bK a)
 |.lst a=>λe=>(qk e).any (bK a)
 |.ref _=>λ_=>false
 |.ty _=>λ_=>false
 |.ao _ _=>λ_=>false
noncomputable def bK:List D->List D->Bool
 |[]=>List.isEmpty
 |d::ds=>λes=>match es with
  |e::es=>aD d e && bK ds es
  |[]=>false
end
mutual
noncomputable def ax:D->Bool
 |.aj=>true
 |.bl _=>true
 |.int _=>true
 |.str _=>true
 |.tup ds=>aJ ds
 |.lst ds=>aJ ds
 |.ref _=>false
 |.ty _=>false
 |.ao _ _=>false
noncomputable def aJ:List D->Bool
 |[]=>true
 |d::ds=>ax d && aJ ds
end
mutual
noncomputable def aM:D->Nat
 |.tup ds=>aR ds+1
 |.lst ds=>aR ds+1
 |.aj=>0
 |.bl _=>0
 |.int _=>0
 |.str _=>0
 |.ref _=>0
 |.ty _=>0
 |.ao _ _=>0
noncomputable def aR:List D->Nat
 |[]=>0
 |d::ds=>max (aM d) (aR ds)
end
inductive Sh (G:Gx) (F:Fz) (s:Shared):D->Value->Prop
 |aj:Sh G F s .aj .none
 |bl {b}:Sh G F s (.bl b) (.bool b)
 |int {i t}:Sh G F s (.int i) (.int i t)
 |str {x t}:Sh G F s (.str x) (.str x t)
 |tup {ds us a} (h:s.heap.IsTuple a us.toArray) (r:ah G F ds us) (k:aJ ds=true):Sh G F s (.tup ds) (.ref a)
 |lst {ds us a} (h:s.heap.IsList a us.toArray) (r:ah G F ds us) (k:aJ ds=true):Sh G F s (.lst ds) (.ref a)
section
variable {G:Gx}{F:Fz}{M:Mp}{s:Shared}{A:Around}
theorem eP (ok:aK G F M s.heap) {d:D}{u:Value} (r:ab G F d u) (h:ax d=true):Sh G F s d u:=by
 cases d with
 |aj=>rw[ab]at r;subst r;exact .aj
 |bl b=>rw[ab]at r;subst r;exact .bl
 |int i=>rw[ab]at r;obtain⟨t,rfl⟩:=r;exact .int
 |str i=>rw[ab]at r;obtain⟨t,rfl⟩:=r;exact .str
 |tup ds=>rw[ab]at r;obtain⟨a,o,us,rfl,h1,h2,h3⟩:=r;rw[ax]at h;exact .tup ⟨o,ok.fz a _ h1,h2.cls,h2.data⟩ h3 h
 |lst ds=>rw[ab]at r;obtain⟨a,n,us,rfl,h1,h2,h3⟩:=r;rw[ax]at h;exact .lst ⟨_,ok.fz a _ h1,rfl,n,rfl⟩ h3 h
 |ref a=>rw[ax]at h;cases h
 |ty n=>rw[ax]at h;cases h
 |ao ks ds=>rw[ax]at h;cases h
theorem ju:∀{ds:List D}{i:Nat}{d:D},aJ ds=true->ds[i]?=some d->ax d=true/\aM d<=aR ds
 |[],i,d,_,h=>by simp at h
 |c::ds,0,d,k,h=>by rw[aJ,XD]at k;cases h;exact⟨k.1,by rw[aR];exact Zf _ _⟩
 |c::ds,i+1,d,k,h=>by
  rw[aJ,XD]at k;obtain⟨h1,h2⟩:=ju (i:=i) (d:=d) k.2 h;exact⟨h1,by rw[aR];exact XG h2 (Y8 _ _)⟩
theorem iq:∀(ds es:List D),bK ds es=((YY (min ds.length es.length)).all (λj=>((ds[j]?).bind λd=>(es[j]?).map (aD d)).getD false) && (ds.length == es.length))
 |[],[]=>rfl
 |[],e::es=>by rw[bK];rfl
 |d::ds,[]=>by rw[bK];rfl
 |d::ds,e::es=>by
  rw[bK];show (aD d e && bK ds es)=_;rw[iq ds es,XI,XI,Nat.succ_min_succ,List.range_succ_eq_map,List.all_cons,List.all_map];simp only[List.getElem?_cons_zero,Option.bind_some,Option.map_some,Option.getD_some,Bool.and_assoc]
  congr 1
  congr 1
  rw[YT];simp
mutual
theorem vQ:∀(d:D) {e:D}{u:Value},ab G F d u->ab G F e u->ax d=true->ax e=true->d=e
 |.aj,e,u,r,r',k,k'=>by
  rw[ab]at r;subst r;cases e <;> first |rfl |(rw[ab]at r';first |(obtain⟨_,_,_,q,_⟩:=r';cases q;done) |(obtain⟨_,q⟩:=r';cases q;done) |(cases r';done))
 |.bl b,e,u,r,r',k,k'=>by
  rw[ab]at r;subst r;cases e <;> (rw[ab]at r';first |(obtain⟨_,_,_,q,_⟩:=r';cases q;done) |(obtain⟨_,q⟩:=r';cases q;done) |(cases r';done) |(cases r';rfl))
 |.int b,e,u,r,r',k,k'=>by
  rw[ab]at r;obtain⟨t,rfl⟩:=r;cases e <;> (rw[ab]at r';first |(obtain⟨_,_,_,q,_⟩:=r';cases q;done) |(obtain⟨_,q⟩:=r';cases q;done) |(cases r';done) |(obtain⟨_,q⟩:=r';cases q;rfl))
 |.str b,e,u,r,r',k,k'=>by
  rw[ab]at r;obtain⟨t,rfl⟩:=r;cases e <;> (rw[ab]at r';first |(obtain⟨_,_,_,q,_⟩:=r';cases q;done) |(obtain⟨_,q⟩:=r';cases q;done) |(cases r';done) |(obtain⟨_,q⟩:=r';cases q;rfl))
 |.tup ds,e,u,r,r',k,k'=>by
  rw[ab]at r;obtain⟨a,o,us,rfl,h1,h2,h3⟩:=r;cases e with
  |tup es=>
   rw[ab]at r';obtain⟨b,o',vs,q,g1,g2,g3⟩:=r';cases q;rw[h1]at g1;cases g1;obtain⟨n,e1⟩:=h2.data;obtain⟨n',e2⟩:=g2.data;rw[e1]at e2;injection e2 with e3 _;cases (show us=vs by simpa using congrArg Array.toList e3);rw[ax]at k k';rw[ny ds h3 g3 k k']
  |lst es=>
   rw[ab]at r';obtain⟨b,o',vs,q,g1,g2,g3⟩:=r';cases q;rw[h1]at g1;cases g1;have:=h2.cls;injection this with this;exact absurd this (by decide)
  |ref b=>rw[ax]at k';cases k'
  |ao _ _=>rw[ax]at k';cases k'
  |ty _=>rw[ax]at k';cases k'
  |aj=>rw[ab]at r';cases r'
  |bl _=>rw[ab]at r';cases r'
  |int _=>rw[ab]at r';obtain⟨_,q⟩:=r';cases q
  |str _=>rw[ab]at r';obtain⟨_,q⟩:=r';cases q
 |.lst ds,e,u,r,r',k,k'=>by
  rw[ab]at r;obtain⟨a,n,us,rfl,h1,h2,h3⟩:=r;cases e with
  |lst es=>
   rw[ab]at r';obtain⟨b,n',vs,q,g1,g2,g3⟩:=r';cases q;rw[h1]at g1;have e3:bS us n=bS vs n':=Fo.dat.inj (Ym g1);unfold bS at e3;injection e3 with _ _ e3 _;injection e3 with e3 _;cases (show us=vs by simpa using congrArg Array.toList e3);rw[ax]at k k';rw[ny ds h3 g3 k k']
  |tup es=>
   rw[ab]at r';obtain⟨b,o',vs,q,g1,g2,g3⟩:=r';cases q;rw[h1]at g1;cases g1;have:=g2.cls;injection this with this;exact absurd this (by decide)
  |ref b=>rw[ax]at k';cases k'
  |ao _ _=>rw[ax]at k';cases k'
  |ty _=>rw[ax]at k';cases k'
  |aj=>rw[ab]at r';cases r'
  |bl _=>rw[ab]at r';cases r'
  |int _=>rw[ab]at r';obtain⟨_,q⟩:=r';cases q
  |str _=>rw[ab]at r';obtain⟨_,q⟩:=r';cases q
 |.ref _,_,_,_,_,k,_=>by rw[ax]at k;cases k
 |.ty _,_,_,_,_,k,_=>by rw[ax]at k;cases k
 |.ao _ _,_,_,_,_,k,_=>by rw[ax]at k;cases k
theorem ny:∀(ds:List D) {es:List D}{us:List Value},ah G F ds us->ah G F es us->aJ ds=true->aJ es=true->ds=es
 |[],es,us,r,r',_,_=>by
  rw[ah]at r;subst r;cases es with
  |nil=>rfl
  |cons e es=>rw[ah]at r';obtain⟨_,_,q,_⟩:=r';cases q
 |d::ds,es,us,r,r',k,k'=>by
  rw[ah]at r;obtain⟨u,us,rfl,r1,r2⟩:=r;cases es with
  |nil=>rw[ah]at r';cases r'
  |cons e es=>
   rw[ah]at r';obtain⟨_,_,q,g1,g2⟩:=r';cases q;rw[aJ,XD]at k k';rw[vQ d r1 g1 k.1 k'.1,ny ds r2 g2 k.2 k'.2]
end
mutual
theorem gg:∀(d:D),ax d=true->aD d d=true
 |.aj,_=>by rw[aD];rfl
 |.bl b,_=>by rw[aD];simp [oI]
 |.int b,_=>by rw[aD];simp [oI]
 |.str b,_=>by rw[aD];simp [kP]
 |.tup ds,k=>by rw[ax]at k;rw[aD];exact nz ds k
 |.lst ds,k=>by rw[ax]at k;rw[aD];exact nz ds k
 |.ref _,k=>by rw[ax]at k;cases k
 |.ty _,k=>by rw[ax]at k;cases k
 |.ao _ _,k=>by rw[ax]at k;cases k
theorem nz:∀(ds:List D),aJ ds=true->bK ds ds=true
 |[],_=>rfl
 |d::ds,k=>by rw[aJ,XD]at k;rw[bK,XD];exact⟨gg d k.1,nz ds k.2⟩
end
theorem vT (ds:List D) {es:List D}{us:List Value} (r:ah G F ds us) (r':ah G F es us) (k:aJ ds=true) (k':aJ es=true):bK ds es=true:=by
 cases ny ds r r' k k';exact nz ds k
end
end N
end
section
set_option maxHeartbeats 1000000
namespace N
open PySem PySem.Spec PyProof.Rows L2
noncomputable abbrev kQ (ds es:List D) (j:Nat):Bool:=((ds[j]?).bind λd=>(es[j]?).map (aD d)).getD false
section
variable {G:Gx}{F:Fz}{M:Mp}{s:Shared}{A:Around}
theorem vU.inj {h:Heap}{a:Addr}{us vs:List Value} (x:h.IsList a us.toArray\/h.IsTuple a us.toArray) (y:h.IsList a vs.toArray\/h.IsTuple a vs.toArray):us=vs:=by
 have g:∀{ws:List Value},(h.IsList a ws.toArray\/h.IsTuple a ws.toArray)->∃o n,h.get? a=some o/\o.data=.seq ws.toArray n:=λq=>by
  rcases q with ⟨o,e,_,n,d⟩ |⟨o,e,_,n,d⟩ <;> exact⟨o,n,e,d⟩
 obtain⟨o,n,e,d⟩:=g x;obtain⟨o',n',e',d'⟩:=g y;rw[e]at e';cases e';rw[d]at d';injection d' with d' _;simpa using congrArg Array.toList d'
theorem kR:∀(n:Nat) {A:Around}{d e:D}{u v:Value},aK G F M s.heap->Sh G F s d u->Sh G F s e v->aM d<=n->A.units+n<cLine->SeqAt.EqAt A s u v (aD d e):=by
 intro n
 induction n with
 |zero=>
  intro A d e u v ok hd he hn hu;have ac:A.units<cLine:=hu;cases hd with
  |tup h r k=>rw[aM]at hn;cases hn
  |lst h r k=>rw[aM]at hn;cases hn
  |aj=>cases he with
   |aj=>exact SeqAt.EqAt.same _
   |bl=>exact SeqAt.EqAt.none_bool _
   |int=>exact SeqAt.EqAt.none_int _ _
   |str=>exact SeqAt.EqAt.none_str _ _
   |tup h r k=>exact SeqAt.EqAt.none_tuple h ac
   |lst h r k=>exact SeqAt.EqAt.none_list h ac
  |@bl a=>cases he with
   |aj=>exact SeqAt.EqAt.bool_none _
   |@bl b=>rw[show aD (.bl a) (.bl b)=(a == b) by rw[aD];cases a <;> cases b <;> rfl];exact SeqAt.EqAt.bool_bool _ _
   |@int b t=>rw[show aD (.bl a) (.int b)=((if a then 1 else 0) == b) by rw[aD,YT];simp [oI];exact eq_comm];exact SeqAt.EqAt.bool_int _ _ _
   |str=>exact SeqAt.EqAt.bool_str _ _ _
   |tup h r k=>exact SeqAt.EqAt.bool_tuple _ h ac
   |lst h r k=>exact SeqAt.EqAt.bool_list _ h ac
  |@int a t=>cases he with
   |aj=>exact SeqAt.EqAt.int_none _ _
   |@bl b=>rw[show aD (.int a) (.bl b)=(a == (if b then 1 else 0)) by rw[aD,YT];simp [oI];exact eq_comm];exact SeqAt.EqAt.int_bool _ _ _
   |@int b t'=>rw[show aD (.int a) (.int b)=(a == b) by rw[aD,YT];simp [oI];exact eq_comm];exact SeqAt.EqAt.int_int _ _ _ _
   |str=>exact SeqAt.EqAt.int_str _ _ _ _
   |tup h r k=>exact SeqAt.EqAt.int_tuple _ _ h ac
   |lst h r k=>exact SeqAt.EqAt.int_list _ _ h ac
  |@str a t=>cases he with
   |aj=>exact SeqAt.EqAt.str_none _ _
   |bl=>exact SeqAt.EqAt.str_bool _ _ _
   |int=>exact SeqAt.EqAt.str_int _ _ _ _
   |@str b t'=>rw[show aD (.str a) (.str b)=(a == b) by rw[aD,YT];simp [kP];exact eq_comm];exact SeqAt.EqAt.str_str _ _ _ _
   |tup h r k=>exact SeqAt.EqAt.str_tuple _ _ h ac
   |lst h r k=>exact SeqAt.EqAt.str_list _ _ h ac
 |succ n ih=>
  intro A d e u v ok hd he hn hu;have io:aM d<=n->SeqAt.EqAt A s u v (aD d e):=λh=>ih ok hd he h (Nat.lt_of_succ_lt hu);have ac:A.units<cLine:=XN (Zx _ _) hu;have items:∀{ds es:List D}{us vs:List Value},ah G F ds us->ah G F es vs->aJ ds=true->aJ es=true->aR ds<=n->∀j (h1:j<us.toArray.size) (h2:j<vs.toArray.size),SeqAt.EqAt A.in1 s us.toArray[j] vs.toArray[j] (kQ ds es j):=λ{ds es us vs} r1 r2 k1 k2 hd j h1 h2=>by
   have g1:j<ds.length:=(by rw[r1.len];simpa using h1);have g2:j<es.length:=(by rw[r2.len];simpa using h2);obtain⟨u,e1,q1⟩:=fA r1 (XB g1);obtain⟨v,e2,q2⟩:=fA r2 (XB g2);have m1:=ju k1 (XB g1);have m2:=ju k2 (XB g2);rw[(Array.getElem?_eq_some_iff.mp e1).2,(Array.getElem?_eq_some_iff.mp e2).2];unfold kQ;rw[XB g1,XB g2];exact ih ok (eP ok q1 m1.1) (eP ok q2 m2.1) (XG m1.2 hd) (by show A.units+1+n<cLine;lia)
  cases hd with
  |aj=>exact io (XM _)
  |bl=>exact io (XM _)
  |int=>exact io (XM _)
  |str=>exact io (XM _)
  |@tup ds us a h r k=>
   rw[aM]at hn;cases he with
   |aj=>exact SeqAt.EqAt.tuple_none h ac
   |bl=>exact SeqAt.EqAt.tuple_bool _ h ac
   |int=>exact SeqAt.EqAt.tuple_int _ _ h ac
   |str=>exact SeqAt.EqAt.tuple_str _ _ h ac
   |lst h' r' k'=>exact SeqAt.EqAt.tuple_list h h' ac
   |@tup es vs b h' r' k'=>
    have e:aD (.tup ds) (.tup es)=bK ds es:=(by rw[aD];rfl);rw[e];by_cases ir:a=b
    ·subst ir;cases vU.inj (.inr h) (.inr h');rw[vT ds r r' k k'];exact SeqAt.EqAt.same _
    ·have q:=SeqAt.RcAt.tuples (A:=A) h h' ac (items r r' k k' (Zh hn));rw[Xz,Xz,<- r.len,<- r'.len,<- iq]at q;exact SeqAt.EqAt.of_refs ir q
  |@lst ds us a h r k=>
   rw[aM]at hn;cases he with
   |aj=>exact SeqAt.EqAt.list_none h ac
   |bl=>exact SeqAt.EqAt.list_bool _ h ac
   |int=>exact SeqAt.EqAt.list_int _ _ h ac
   |str=>exact SeqAt.EqAt.list_str _ _ h ac
   |tup h' r' k'=>exact SeqAt.EqAt.list_tuple h h' ac
   |@lst es vs b h' r' k'=>
    have e:aD (.lst ds) (.lst es)=bK ds es:=(by rw[aD];rfl);rw[e];by_cases ir:a=b
    ·subst ir;cases vU.inj (.inl h) (.inl h');rw[vT ds r r' k k'];exact SeqAt.EqAt.same _
    ·refine SeqAt.EqAt.of_refs ir ?_;have l1:=r.len;have l2:=r'.len;by_cases hl:ds.length=es.length
     ·have q:=SeqAt.RcAt.lists (A:=A) h h' (by rw[Xz,Xz,<- l1,<- l2,hl]) ac (items r r' k k' (Zh hn));rw[Xz,<- l1]at q;rw[iq,<- hl,Nat.min_self,beq_self_eq_true,Bool.and_true];exact q
     ·rw[iq,beq_false_of_ne hl,Bool.and_false];exact SeqAt.RcAt.lists_lengths h h' (by rw[Xz,Xz,<- l1,<- l2];simpa using hl) ac
theorem Ey {ds es:List D}{us vs:List Value}{n:Nat} (ok:aK G F M s.heap) (r1:ah G F ds us) (r2:ah G F es vs) (k1:aJ ds=true) (k2:aJ es=true) (hd:aR ds<=n) (hu:A.units+n<cLine) (j:Nat) (h1:j<us.toArray.size) (h2:j<vs.toArray.size):SeqAt.EqAt A s us.toArray[j] vs.toArray[j] (kQ ds es j):=by
 have g1:j<ds.length:=by rw[r1.len];simpa using h1
 have g2:j<es.length:=by rw[r2.len];simpa using h2
 obtain⟨u,e1,q1⟩:=fA r1 (XB g1);obtain⟨v,e2,q2⟩:=fA r2 (XB g2);have m1:=ju k1 (XB g1);have m2:=ju k2 (XB g2);rw[(Array.getElem?_eq_some_iff.mp e1).2,(Array.getElem?_eq_some_iff.mp e2).2];unfold kQ;rw[XB g1,XB g2];exact kR n ok (eP ok q1 m1.1) (eP ok q2 m2.1) (XG m1.2 hd) hu
theorem Ez {n:Nat}{d e:D}{u v:Value} (ok:aK G F M s.heap) (hd:Sh G F s d u) (he:Sh G F s e v) (hn:aM d<=n+1) (hu:A.units+1+n<cLine):SeqAt.RcAt A s u v (aD d e)/\SeqAt.RcNeAt A s u v (!aD d e):=by
  have ac:A.units<cLine:=by lia
  have items:∀{ds es:List D}{us vs:List Value},ah G F ds us->ah G F es vs->aJ ds=true->aJ es=true->aR ds<=n->∀j (h1:j<us.toArray.size) (h2:j<vs.toArray.size),SeqAt.EqAt A.in1 s us.toArray[j] vs.toArray[j] (kQ ds es j):=λr1 r2 k1 k2 hd=>Ey ok r1 r2 k1 k2 hd hu;cases hd with
  |aj=>cases he with
   |aj=>exact⟨SeqAt.RcAt.none_none,SeqAt.RcNeAt.none_none⟩
   |bl=>exact⟨SeqAt.RcAt.none_bool _,SeqAt.RcNeAt.none_bool _⟩
   |int=>exact⟨SeqAt.RcAt.none_int _ _,SeqAt.RcNeAt.none_int _ _⟩
   |str=>exact⟨SeqAt.RcAt.none_str _ _,SeqAt.RcNeAt.none_str _ _⟩
   |tup h r k=>exact⟨SeqAt.RcAt.none_tuple h ac,SeqAt.RcNeAt.none_tuple h ac⟩
   |lst h r k=>exact⟨SeqAt.RcAt.none_list h ac,SeqAt.RcNeAt.none_list h ac⟩
  |@bl a=>cases he with
   |aj=>exact⟨SeqAt.RcAt.bool_none _,SeqAt.RcNeAt.bool_none _⟩
   |@bl b=>rw[show aD (.bl a) (.bl b)=(a == b) by rw[aD];cases a <;> cases b <;> rfl];exact⟨SeqAt.RcAt.bool_bool _ _,SeqAt.RcNeAt.bool_bool _ _⟩
   |@int b t'=>rw[show aD (.bl a) (.int b)=((if a then 1 else 0) == b) by rw[aD,YT];simp [oI];exact eq_comm];exact⟨SeqAt.RcAt.bool_int _ _ _,SeqAt.RcNeAt.bool_int _ _ _⟩
   |str=>exact⟨SeqAt.RcAt.bool_str _ _ _,SeqAt.RcNeAt.bool_str _ _ _⟩
   |tup h r k=>exact⟨SeqAt.RcAt.bool_tuple _ h ac,SeqAt.RcNeAt.bool_tuple _ h ac⟩
   |lst h r k=>exact⟨SeqAt.RcAt.bool_list _ h ac,SeqAt.RcNeAt.bool_list _ h ac⟩
  |@int a t=>cases he with
   |aj=>exact⟨SeqAt.RcAt.int_none _ _,SeqAt.RcNeAt.int_none _ _⟩
   |@bl b=>rw[show aD (.int a) (.bl b)=(a == (if b then 1 else 0)) by rw[aD,YT];simp [oI];exact eq_comm];exact⟨SeqAt.RcAt.int_bool _ _ _,SeqAt.RcNeAt.int_bool _ _ _⟩
   |@int b t'=>rw[show aD (.int a) (.int b)=(a == b) by rw[aD,YT];simp [oI];exact eq_comm];exact⟨SeqAt.RcAt.int_int _ _ _ _,SeqAt.RcNeAt.int_int _ _ _ _⟩
   |str=>exact⟨SeqAt.RcAt.int_str _ _ _ _,SeqAt.RcNeAt.int_str _ _ _ _⟩
   |tup h r k=>exact⟨SeqAt.RcAt.int_tuple _ _ h ac,SeqAt.RcNeAt.int_tuple _ _ h ac⟩
   |lst h r k=>exact⟨SeqAt.RcAt.int_list _ _ h ac,SeqAt.RcNeAt.int_list _ _ h ac⟩
  |@str a t=>cases he with
   |aj=>exact⟨SeqAt.RcAt.str_none _ _,SeqAt.RcNeAt.str_none _ _⟩
   |bl=>exact⟨SeqAt.RcAt.str_bool _ _ _,SeqAt.RcNeAt.str_bool _ _ _⟩
   |int=>exact⟨SeqAt.RcAt.str_int _ _ _ _,SeqAt.RcNeAt.str_int _ _ _ _⟩
   |@str b t'=>rw[show aD (.str a) (.str b)=(a == b) by rw[aD,YT];simp [kP];exact eq_comm];exact⟨SeqAt.RcAt.str_str _ _ _ _,SeqAt.RcNeAt.str_str _ _ _ _⟩
   |tup h r k=>exact⟨SeqAt.RcAt.str_tuple _ _ h ac,SeqAt.RcNeAt.str_tuple _ _ h ac⟩
   |lst h r k=>exact⟨SeqAt.RcAt.str_list _ _ h ac,SeqAt.RcNeAt.str_list _ _ h ac⟩
  |@tup ds us a h r k=>
   rw[aM]at hn;cases he with
   |aj=>exact⟨SeqAt.RcAt.tuple_none h ac,SeqAt.RcNeAt.tuple_none h ac⟩
   |bl=>exact⟨SeqAt.RcAt.tuple_bool _ h ac,SeqAt.RcNeAt.tuple_bool _ h ac⟩
   |int=>exact⟨SeqAt.RcAt.tuple_int _ _ h ac,SeqAt.RcNeAt.tuple_int _ _ h ac⟩
   |str=>exact⟨SeqAt.RcAt.tuple_str _ _ h ac,SeqAt.RcNeAt.tuple_str _ _ h ac⟩
   |lst h' r' k'=>exact⟨SeqAt.RcAt.tuple_list h h' ac,SeqAt.RcNeAt.tuple_list h h' ac⟩
   |@tup es vs b h' r' k'=>
    have q1:=SeqAt.RcAt.tuples (A:=A) h h' ac (items r r' k k' (Zh hn));have q2:=SeqAt.RcNeAt.tuples (A:=A) h h' ac (items r r' k k' (Zh hn));rw[Xz,Xz,<- r.len,<- r'.len,<- iq]at q1 q2;rw[show aD (.tup ds) (.tup es)=bK ds es by rw[aD];rfl];exact⟨q1,q2⟩
  |@lst ds us a h r k=>
   rw[aM]at hn;cases he with
   |aj=>exact⟨SeqAt.RcAt.list_none h ac,SeqAt.RcNeAt.list_none h ac⟩
   |bl=>exact⟨SeqAt.RcAt.list_bool _ h ac,SeqAt.RcNeAt.list_bool _ h ac⟩
   |int=>exact⟨SeqAt.RcAt.list_int _ _ h ac,SeqAt.RcNeAt.list_int _ _ h ac⟩
   |str=>exact⟨SeqAt.RcAt.list_str _ _ h ac,SeqAt.RcNeAt.list_str _ _ h ac⟩
   |tup h' r' k'=>exact⟨SeqAt.RcAt.list_tuple h h' ac,SeqAt.RcNeAt.list_tuple h h' ac⟩
   |@lst es vs b h' r' k'=>
    have l1:=r.len;have l2:=r'.len;rw[show aD (.lst ds) (.lst es)=bK ds es by rw[aD];rfl];by_cases hl:ds.length=es.length
    ·have hz:us.toArray.size=vs.toArray.size:=(by rw[Xz,Xz,<- l1,<- l2,hl]);have q1:=SeqAt.RcAt.lists (A:=A) h h' hz ac (items r r' k k' (Zh hn));have q2:=SeqAt.RcNeAt.lists (A:=A) h h' hz ac (items r r' k k' (Zh hn));rw[Xz,<- l1]at q1 q2;rw[iq,<- hl,Nat.min_self,beq_self_eq_true,Bool.and_true];exact⟨q1,q2⟩
    ·have hz:(us.toArray.size != vs.toArray.size)=true:=(by rw[Xz,Xz,<- l1,<- l2];simpa using hl);rw[iq,beq_false_of_ne hl,Bool.and_false];exact⟨SeqAt.RcAt.lists_lengths h h' hz ac,SeqAt.RcNeAt.lists_lengths h h' hz ac⟩
end
end N
end
section
namespace L2
open PySem PySem.Spec PyProof.Rows
theorem vV (prog:Program) (w:World) (i:Int) (t:Tok):(bE prog w).is (.inl i) (.int i t)=true:=C0 i t
theorem vW (prog:Program) (w:World) (x:Str) (t:Tok):(bE prog w).is (.inr x) (.str x t)=true:=pO x t
end L2
namespace L2
open PySem PySem.Spec PyProof.Rows
section
variable {X:Cx}{a b c:Expr}{ta tb tc:TE}{pos:Pos}
def vX (i j:Int):Prop:=0<=j/\j<=1000000/\i.natAbs<2 ^ 64
def ql (i j:Int):Prop:=(-(2 ^ 64)<i/\i<2 ^ 64)\/(-(2 ^ 64)<j/\j<2 ^ 64)
theorem ql.ok {i j:Int} (h:ql i j):IntMulOk i j:=by
 rcases h with ⟨h1,h2⟩ |⟨h1,h2⟩
 ·exact .of_left (intBits_le_64 h1 h2)
 ·exact .of_right (intBits_le_64 h1 h2)
theorem EA (k:Nat):(0:Int)<=2 ^ k:=by
 rw[two_pow_cast];exact Int.natCast_nonneg _
end
section
variable {X:Cx}{a b c:Expr}{ta tb tc:TE}{pos:Pos}
theorem nA:(sizeLine:Nat)<2 ^ 63:=by rw[ZO];decide
end
end L2
namespace HT
open PySem PyProof.Rows
section
variable {prog:Program}{w:World}{A:Around}{E:Value->Shared->Prop}{s:Shared}
theorem EB {t b:Addr}{vs ws:List Value}{Q:Value->Shared->Prop} (ht:IsTup s.heap t vs.toArray) (hb:IsTup s.heap b ws.toArray) (hv:vs≠[])
  (h1:ws=[]->Q (.ref t) s) (h2:ws≠[]->Q (.ref s.heap.objs.size) { s with heap:=s.heap.push { cls:=.type "tuple",data:=.seq (vs++ws).toArray } })
  (hsz:vs.length+ws.length<=sizeLine):wpAny (model prog w) A (binaryOp .Add (.ref t) (.ref b)) Q E s:=by
 obtain⟨⟨cls,dd,data,sl⟩,ho,hc,n,hd⟩:=id ht;obtain⟨⟨vY,f8,vZ,kT⟩,ef,fC,n2,gL⟩:=id hb;simp only at hc hd fC gL;subst hc hd fC gL;have e:vs.toArray++ws.toArray=(vs++ws).toArray:=by simp
 by_cases hw:ws=[]
 ·exact concat_meets ⟨_,ho,rfl⟩ ⟨_,ef,rfl⟩ noFill_tuple_add seq_tuple_add PySem.F.slot_tuple_add PySem.F.entry_tuple_add (PySem.F.args_tuple_add_2 _ _)
   (tuple_addW1 t b vs.toArray ws.toArray n n2 dd f8 sl kT (by simpa using hv) (by simp [hw])) ⟨ho,ef,h1 hw⟩
 ·refine concat_meets ⟨_,ho,rfl⟩ ⟨_,ef,rfl⟩ noFill_tuple_add seq_tuple_add PySem.F.slot_tuple_add PySem.F.entry_tuple_add (PySem.F.args_tuple_add_2 _ _)
   (tuple_addW2 t b vs.toArray ws.toArray n n2 dd f8 sl kT (by simpa using hv) (by simpa using hw) (by rw[Xz,Xz];exact hsz)) ⟨ho,ef,?_⟩
  rw[e];exact h2 hw
end
end HT
namespace L2
open PySem PySem.Spec PyProof.Rows
noncomputable def fD (n:Nat) (i:Int):Option Nat:=if 0<=i then (if i<n then some i.toNat else none) else if -(n:Int)<=i then some (i+n).toNat else none
noncomputable def cM {α:Type} (xs:List α) (i:Int):Option α:=(fD xs.length i).bind λj=>xs[j]?
theorem wb {n:Nat}{i:Int}{j:Nat} (h:fD n i=some j):seqIndex? i n=some j/\j<n/\-(n:Int)<=i/\i<n:=by
 unfold fD at h;by_cases h0:0<=i
 ·rw[if_pos h0]at h;by_cases h1:i<n
  ·rw[if_pos h1]at h;have e:i.toNat=j:=Ym h;exact⟨by rw[seqIndex_of h0 h1,e],by lia,by lia,h1⟩
  ·rw[if_neg h1]at h;cases h
 ·rw[if_neg h0]at h;by_cases h1:-(n:Int)<=i
  ·rw[if_pos h1]at h;have e:(i+n).toNat=j:=Ym h;exact⟨by rw[seqIndex_neg (by lia) h1,e],by lia,h1,by lia⟩
  ·rw[if_neg h1]at h;cases h
theorem qm {α:Type} {xs:List α}{i:Int}{v:α} (h:cM xs i=some v):∃j,seqIndex? i xs.length=some j/\xs[j]?=some v/\j<xs.length/\-(xs.length:Int)<=i/\i<xs.length:=by
 unfold cM at h;cases e:fD xs.length i with
 |none=>rw[e]at h;cases h
 |some j=>
  rw[e]at h;obtain⟨h1,h2,h3,h4⟩:=wb e;exact⟨j,h1,h,h2,h3,h4⟩
section
variable {X:Cx}{a b:Expr}{ta tb:TE}{pos:Pos}
theorem we (its:List Value) (n j:Nat) (u:Value):Yh (·.setIfInBounds j u) { cls:=.type "list",data:=.seq its.toArray n }={ cls:=.type "list",data:=.seq (its.set j u).toArray n }:=by
 simp [Yh]
variable {o e:Expr}{es:List Expr}{to:TE}{t:TA}{name:Str}{cr cpos:Pos}{T id:String}{r:V->List V->Hp->VK->Prop}
end
end L2
namespace L2
open PySem PySem.Spec PyProof.Rows
end L2
namespace L2
open PySem PySem.Spec PyProof.Rows
def EC (i j:Int):Prop:=i.natAbs<2 ^ 600/\j.natAbs<2 ^ 600
theorem wg {a:Int} (h:a.natAbs<2 ^ 600):Builtin.Int.intBits a<=2 ^ 20:=by
 unfold Builtin.Int.intBits;split
 ·exact XM _
 ·rename_i z;have hz:a.natAbs≠0:=by first |exact λe=>z (by simpa using e) |(intro e;apply z;lia)
  have:=(Nat.log2_lt hz).mpr h;lia
end L2
namespace L2
open PySem PySem.Spec PyProof.Rows
theorem wj (its:List Value):∀ (k:Nat) (al:List Value),
  List.foldl (λx1 x2=>x1++x2) al.toArray (Yz k its.toArray)=(al++(Yz k its).flatten).toArray
 | 0,al=>by simp
 |k+1,al=>by
  have e:al.toArray++its.toArray=(al++its).toArray:=by simp
  have e2:(al++its)++(Yz k its).flatten=al++(Yz (k+1) its).flatten:=by
   rw[ZS,List.flatten_cons,Ye]
  rw[<- e2,<- wj its k (al++its),<- e,ZS,List.foldl_cons]
section
variable {X:Cx}{aZ:List (Addr×Obj)} {σ:St} {H:Hp}{s:Shared}{l b:Addr}{xs ys zs:List V}
theorem qn {n:Nat} (h:n<=sizeLine):YW n=false:=by
 unfold YW;exact decide_eq_false (by lia)
end
section
variable {X:Cx}
theorem ED {α:Type} (xs:List α) (k:Nat):(Yz k xs).flatten.length=k * xs.length:=by
 induction k with
 |zero=>simp
 |succ k ih=>rw[ZS,List.flatten_cons,XU,ih,Nat.succ_mul,Nat.add_comm]
end
end L2
namespace L2
open PySem PySem.Spec PyProof.Rows
end L2
namespace HT
open PySem PyProof.Rows
section
variable {prog:Program}{w:World}{A:Around}{E:Value->Shared->Prop}{s:Shared}
noncomputable def aG (n d:Nat):Option Int->Nat
 |none=>d
 |some v=>if v<0 then (v+(n:Int)).toNat else min v.toNat n
theorem EE (n d:Nat) (hd:d<=n) (o:Option Int):aG n d o<=n:=by
 cases o with
 |none=>exact hd
 |some v=>
  show (if v<0 then (v+(n:Int)).toNat else min v.toNat n)<=n
  by_cases hv:v<0
  ·rw[if_pos hv];lia
  ·rw[if_neg hv];exact Nat.min_le_right _ _
theorem wo (v:Int) (n d:Nat):(if v<0 then max (v+(n:Int)) 0 else min v (n:Int))=((aG n d (some v):Nat):Int):=by
 show (if v<0 then max (v+(n:Int)) 0 else min v (n:Int))=(((if v<0 then (v+(n:Int)).toNat else min v.toNat n):Nat):Int)
 by_cases hv:v<0
 ·simp only[if_pos hv];lia
 ·simp only[if_neg hv];lia
theorem EF (lo hi:Option Int) (n:Nat):Builtin.Slice.sliceAdjust lo hi 1 (n:Int)=(((aG n 0 lo:Nat):Int),((aG n n hi:Nat):Int)):=by
 have h1:¬((1:Int)<0):=by lia
 unfold Builtin.Slice.sliceAdjust;simp only[h1,if_false];refine Prod.ext ?_ ?_
 ·cases lo with
  |none=>rfl
  |some v=>exact wo v n 0
 ·cases hi with
  |none=>rfl
  |some v=>exact wo v n n
theorem EG (i j:Nat):YL (i:Int) (j:Int) 1=j-i:=by
 unfold YL;have h1:(1:Int) > 0:=by lia
 simp only[h1,if_true,Int.ediv_one];split <;> lia
theorem wt {v:Value}{o:Option Int}{Q:Option Int->Shared->Prop} (p:IsPart v o) (h:Q o s):wpAny (model prog w) A (Builtin.Slice.slicePartIndex v) Q E s:=by
 cases p with
 |none=>exact slicePart_none h
 |int i t=>exact slicePart_int h
theorem wu {sl:Addr}{vl vu:Value}{lo hi:Option Int}{n:Nat}{Q:Int×Int×Nat->Shared->Prop} (hs:s.heap.IsSliceOf sl vl vu .none) (pl:IsPart vl lo) (pu:IsPart vu hi)
  (h:Q (((aG n 0 lo:Nat):Int),1,aG n n hi-aG n 0 lo) s):wpAny (model prog w) A (Zw (.ref sl) (pure (n:Int))) Q E s:=by
 obtain⟨os,be,gM,ev⟩:=id hs;unfold Zw Builtin.Slice.sliceFields;refine Xv (Xv (Yt be ev (x:=vl) rfl (Xv (Yt be ev (x:=vu) rfl (Xv (Yt be ev (x:=.none) rfl (Xy ?_)))))));refine Xv (slicePart_none ?_);show wpAny _ _ (if ((1:Int) == 0)=true then _ else _) _ _ s
 rw[if_neg (by decide)];refine Xv (wt pl (Xv (wt pu (Xv (Xy ?_)))));show wpAny _ _ (match Builtin.Slice.sliceAdjust lo hi 1 (n:Int) with |(lo,hi)=>pure (lo,(1:Int),YL lo hi 1)) _ _ s
 rw[EF lo hi n];show wpAny _ _ (pure (((aG n 0 lo:Nat):Int),(1:Int),YL ((aG n 0 lo:Nat):Int) ((aG n n hi:Nat):Int) 1)) _ _ s;rw[EG];exact Xy h
theorem EH (xs:Array Value) (i k:Nat):((YY k).filterMap λ(m:Nat)=>xs[((i:Int)+(m:Int) * 1).toNat]?).toArray=((xs.toList.drop i).take k).toArray:=by
 have e:(λ(m:Nat)=>xs[((i:Int)+(m:Int) * 1).toNat]?)=λm=>xs[i+m]?:=by
  funext m;have:((i:Int)+(m:Int) * 1).toNat=i+m:=by lia
  rw[this]
 rw[e];have:=pick_run xs i k;rw[List.filterMap_map]at this;have e2:((λx=>xs[x]?) ∘ λx=>i+x)=λm=>xs[i+m]?:=rfl;rw[e2]at this;rw[this]
theorem EI {t sl:Addr}{items:Array Value}{vl vu:Value}{lo hi:Option Int}{Q:Value->Shared->Prop} (ht:IsTup s.heap t items) (hs:s.heap.IsSliceOf sl vl vu .none) (pl:IsPart vl lo) (pu:IsPart vu hi)
  (hw:¬(aG items.size 0 lo=0/\aG items.size items.size hi=items.size))
  (h:Q (.ref s.heap.objs.size) { s with heap:=s.heap.push { cls:=.type "tuple",data:=.seq ((items.toList.drop (aG items.size 0 lo)).take (aG items.size items.size hi-aG items.size 0 lo)).toArray } })
  (hsz:items.size<=sizeLine):wpAny (model prog w) A (getItem (.ref t) (.ref sl)) Q E s:=by
 have ge:sizeOk (.seq ((items.toList.drop (aG items.size 0 lo)).take (aG items.size items.size hi-aG items.size 0 lo)).toArray):=by
  show ((items.toList.drop (aG items.size 0 lo)).take (aG items.size items.size hi-aG items.size 0 lo)).toArray.size<=sizeLine;rw[Xz,List.length_take,List.length_drop,XY];lia
 have hj:aG items.size items.size hi<=items.size:=EE _ _ (XC _) hi;obtain⟨os,be,gM,ev⟩:=id hs;have kU:s.TypeIs (.ref sl) "slice":=⟨os,be,gM⟩;unfold getItem
 try with_reducible refine Yv ?_
 first |refine Xv (Xy ?_) |skip
 refine Xv (wpAny_sequenceKey ht.typeIs (by decide) ?_);refine Xv (X8 (name:=YU "__getitem__") ht.typeIs YG
  (Yc YG ht.typeIs entry_tuple_getitem ?_ (args_tuple_getitem _ _)))
 show wpAny _ _ (Builtin.Tuple.tupleItemsOf (.ref t) >>= _) _ _ s;refine Xv (tupleItemsOf_ ht ?_);refine Xv (wpAny_typeOf kU ?_);rw[if_pos (by decide)];refine Xv (wu hs pl pu ?_);have Ev:¬((((aG items.size 0 lo:Nat):Int) == 0 && (1:Int) == 1 && (aG items.size items.size hi-aG items.size 0 lo) == items.size)=true):=by
  intro q;rw[XD,XD]at q;have q1:((aG items.size 0 lo:Nat):Int)=0:=eq_of_beq q.1.1;have q2:aG items.size items.size hi-aG items.size 0 lo=items.size:=eq_of_beq q.2;exact hw ⟨by lia,by lia⟩
 show wpAny _ _ (if (((aG items.size 0 lo:Nat):Int) == 0 && (1:Int) == 1 && (aG items.size items.size hi-aG items.size 0 lo) == items.size)=true then _ else _) _ _ s
 rw[if_neg Ev,EH]
 first
  |exact Xv (m:=YD _) (Yk (Xy ⟨_,rfl,Xy h⟩) ge)
  |exact Xv (m:=YD _) (Yk (Xv (Xy (Xy ⟨_,rfl,Xy h⟩))) ge)
  |exact Xv (Xv (m:=YD _) (Yk (Xy (Xy ⟨_,rfl,Xy h⟩)) ge))
  |exact Xv (Xv (m:=YD _) (Yk (Xy ⟨_,rfl,Xy h⟩) ge))
end
end HT
namespace L2
open PySem PySem.Spec PyProof.Rows
section
variable {X:Cx}{a b:Expr}{ta tb:TE}{pos:Pos}
theorem EJ (lo hi:Option Int) (n:Nat):(sliceBounds lo hi none n).1=((HT.aG n 0 lo:Nat):Int)/\(sliceBounds lo hi none n).2.1=((HT.aG n n hi:Nat):Int)/\(sliceBounds lo hi none n).2.2=1:=by
 refine⟨?_,?_,rfl⟩
 ·cases lo with
  |none=>simp [sliceBounds,HT.aG]
  |some i=>
   simp only[sliceBounds,HT.aG,Option.getD_none,show (1:Int) > 0 by decide,if_true];by_cases h:i<0
   ·simp only[h,if_true] <;> lia
   ·simp only[h,if_false] <;> lia
 ·cases hi with
  |none=>simp [sliceBounds,HT.aG]
  |some i=>
   simp only[sliceBounds,HT.aG,Option.getD_none,show (1:Int) > 0 by decide,if_true];by_cases h:i<0
   ·simp only[h,if_true] <;> lia
   ·simp only[h,if_false] <;> lia
theorem EK (its:List Value) (lo hi:Option Int):slicePick its.toArray lo hi none=((its.drop (HT.aG its.length 0 lo)).take (HT.aG its.length its.length hi-HT.aG its.length 0 lo)).toArray:=by
 obtain⟨h1,h2,h3⟩:=EJ lo hi its.toArray.size;unfold slicePick;rw[h1,h2,h3];simp only[sliceRange_one,pick_run,Xz] <;> rfl
variable {o e:Expr}{es:List Expr}{to:TE}{t:TA}{name:Str}{cr cpos:Pos}{T id:String}{r:V->List V->Hp->VK->Prop}
end
end L2
namespace L2
open PySem PySem.Spec PyProof.Rows
end L2
namespace L2
open PySem PySem.Spec PyProof.Rows
theorem eQ {α:Type} {t:Sem α}{Q Q':α->Shared->Prop}{M:Model}{A:Around}{E:Value->Shared->Prop}{s:Shared} (h:wpAny M A t Q E s) (hQ:∀a s,Q a s->Q' a s):wpAny M A t Q' E s:=Zu h hQ λ_ _ x=>x
end L2
namespace L2
open PySem PySem.Spec PyProof.Rows
end L2
namespace L2
open PySem PySem.Spec PyProof.Rows
section
variable {prog:Program}{w:World}{A:Around}{E:Value->Shared->Prop}{s:Shared}
theorem EL {t sl:Addr}{items:Array Value}{vl vu:Value}{lo hi:Option Int}{Q:Value->Shared->Prop} (ht:IsTup s.heap t items) (hs:s.heap.IsSliceOf sl vl vu .none) (pl:IsPart vl lo) (pu:IsPart vu hi)
  (hw:HT.aG items.size 0 lo=0/\HT.aG items.size items.size hi=items.size) (h:Q (.ref t) s):wpAny (model prog w) A (getItem (.ref t) (.ref sl)) Q E s:=by
 obtain⟨os,be,gM,ev⟩:=id hs;have kU:s.TypeIs (.ref sl) "slice":=⟨os,be,gM⟩;unfold getItem
 try with_reducible refine Yv ?_
 first |refine Xv (Xy ?_) |skip
 refine Xv (wpAny_sequenceKey ht.typeIs (by decide) ?_);refine Xv (X8 (name:=YU "__getitem__") ht.typeIs YG
  (Yc YG ht.typeIs entry_tuple_getitem ?_ (args_tuple_getitem _ _)))
 show wpAny _ _ (Builtin.Tuple.tupleItemsOf (.ref t) >>= _) _ _ s;refine Xv (tupleItemsOf_ ht ?_);refine Xv (wpAny_typeOf kU ?_);rw[if_pos (by decide)];refine Xv (HT.wu hs pl pu ?_);have EM:(((HT.aG items.size 0 lo:Nat):Int) == 0 && (1:Int) == 1 && (HT.aG items.size items.size hi-HT.aG items.size 0 lo) == items.size)=true:=by
  rw[hw.1,hw.2];simp
 show wpAny _ _ (if (((HT.aG items.size 0 lo:Nat):Int) == 0 && (1:Int) == 1 && (HT.aG items.size items.size hi-HT.aG items.size 0 lo) == items.size)=true then _ else _) _ _ s
 rw[if_pos EM];obtain⟨o,ho,hc,n,hd⟩:=id ht;have ex:wpAny (model prog w) A.in1 (Builtin.Tuple.tupleIsExact (.ref t)) (λb s'=>b=true/\s'=s) E s:=by
  unfold Builtin.Tuple.tupleIsExact
  first
   |exact Xv (wpAny_typeOf ⟨o,ho,hc⟩ (Xy ⟨by rfl,rfl⟩))
   |exact Xv (wpAny_load ho (Xy ⟨by rw[hc];rfl,rfl⟩))
 refine Xv (eQ ex λb s' hb=>?_);obtain⟨rfl,rfl⟩:=hb;rw[if_pos rfl];exact Xv (wpAny_rule (Xy ⟨_,rfl,Xy h⟩))
end
end L2
namespace L2
open PySem
end L2
namespace L2
open PySem PySem.Spec PyProof.Rows
structure bF (k:Nat) (A:Around):Prop where
 hd:A.handled=none
 dp:A.depth+3 * k+5<recursionLimit
 un:A.units+16 * k+200<cLine
theorem bF.mono {j k:Nat}{A:Around} (r:bF k A) (h:j<=k):bF j A:=⟨r.hd,by have:=r.dp;lia,by have:=r.un;lia⟩
theorem bF.deeper {k:Nat}{A:Around} (r:bF (k+1) A) (env:Env):bF k (A.deeper env):=
 ⟨r.hd,by have:=r.dp;show A.depth+1+3 * k+5<_;lia,by have:=r.un;show A.units+3+16 * k+200<_;lia⟩
theorem EN {A:Around}{C:Addr}{us:List Value}{kw:List (Str×Value)}:(A.under (.builtin "type.__call__" ⟨.ref C::us,kw⟩)).depth=A.depth+1:=by
 first |rfl |simp [Around.under,Code.weight,Code.isCreation,Code.isGuard,Code.isCaller,Code.frames,Code.isFrame,SP]
theorem EO {A:Around}{C:Addr}{us:List Value}{kw:List (Str×Value)}:(A.under (.builtin "type.__call__" ⟨.ref C::us,kw⟩)).units=A.units+1:=by
 first |rfl |simp [Around.under,Code.cUnits,Code.frames,Code.isFrame]
theorem bF.qo {k:Nat}{A:Around} (r:bF (k+1) A) (C:Addr) (us:List Value) (kw:List (Str×Value)):bF k (A.under (.builtin "type.__call__" ⟨.ref C::us,kw⟩)):=
 ⟨r.hd,by have:=r.dp;rw[EN];lia,by have:=r.un;rw[EO];lia⟩
theorem bF.depth {k:Nat}{A:Around} (r:bF k A):A.depth<recursionLimit:=by have:=r.dp;lia
def bT (K:PySem.W.Frag) (fd:FuncData) (ps:List Str) (ds:List Value):Prop:=
 ∀(s:Shared) (us:List Value),K.In s.heap->(us++ds).length=ps.length->BindsTo s fd ⟨us,[]⟩ (ps.zip (us++ds))
theorem bT.all {K:PySem.W.Frag}{fd:FuncData}{ps:List Str} (h:∀us:List Value,us.length=ps.length->bindArgs fd ⟨us,[]⟩=pure (ps.zip us)):bT K fd ps []:=λs us _ hl=>by
 rw[XX]at hl ⊢;exact .of_eq (h us hl)
structure aB (N P:List Str) (sc:Scope):Prop where
 kind:sc.kind=.function
 UD:sc.isCoroutine=false
 jv:sc.isGenerator=false
 nd:N.Nodup
 pre:N.take P.length=P
 wx:∀x∈P,sc.names.lookup x=some .local\/sc.names.lookup x=some .cell
 EP:∀y∈sc.names,y.2≠.free
theorem wy {kindOf:Str->Option NameKind}{x:Str}:∀{iu:List (Str×Value)}{m:Str->Option Value},(∀v,(x,v) ∉ iu)->bindL kindOf iu m x=m x
 |[],_,_=>rfl
 |(n,v)::r,m,h=>by
  unfold bindL;rw[wy λw hw=>h w (XF _ hw)];split
  ·have:x≠n:=(by rintro rfl;exact h v XH);simp [this]
  ·rfl
theorem wz {kindOf:Str->Option NameKind}{x:Str}:∀{iu:List (Str×Value)}{m:Str->Option Value},(∀v,(x,v) ∉ iu)->bindC kindOf iu m x=m x
 |[],_,_=>rfl
 |(n,v)::r,m,h=>by
  unfold bindC;rw[wz λw hw=>h w (XF _ hw)];split
  ·rfl
  ·have:x≠n:=(by rintro rfl;exact h v XH);simp [this]
theorem wA {kindOf:Str->Option NameKind}{x:Str}{v:Value}:∀ {P:List Str}{vs:List Value}{i:Nat}{m:Str->Option Value},P.Nodup->P[i]?=some x->vs[i]?=some v->kindOf x=some .local ->
  bindL kindOf (P.zip vs) m x=some v
 |[],_,_,_,_,h,_,_=>by simp at h
 |_::_,[],_,_,_,_,h,_=>by simp at h
 |p::P,w::vs,0,m,nd,h1,h2,hk=>by
  simp at h1 h2;subst h1;subst h2;show bindL kindOf ((p,w)::P.zip vs) m p=_;unfold bindL;rw[wy λv hv=>(List.nodup_cons.mp nd).1 (Zd hv).1,if_pos hk];simp
 |p::P,w::vs,i+1,m,nd,h1,h2,hk=>by
  show bindL kindOf ((p,w)::P.zip vs) m x=_;unfold bindL;exact wA (i:=i) (List.nodup_cons.mp nd).2 (by simpa using h1) (by simpa using h2) hk
theorem wB {kindOf:Str->Option NameKind}{x:Str}{v:Value}:∀ {P:List Str}{vs:List Value}{i:Nat}{m:Str->Option Value},P.Nodup->P[i]?=some x->vs[i]?=some v->kindOf x≠some .local ->
  bindC kindOf (P.zip vs) m x=some v
 |[],_,_,_,_,h,_,_=>by simp at h
 |_::_,[],_,_,_,_,h,_=>by simp at h
 |p::P,w::vs,0,m,nd,h1,h2,hk=>by
  simp at h1 h2;subst h1;subst h2;show bindC kindOf ((p,w)::P.zip vs) m p=_;unfold bindC;rw[wz λv hv=>(List.nodup_cons.mp nd).1 (Zd hv).1,if_neg hk];simp
 |p::P,w::vs,i+1,m,nd,h1,h2,hk=>by
  show bindC kindOf ((p,w)::P.zip vs) m x=_;unfold bindC;exact wB (i:=i) (List.nodup_cons.mp nd).2 (by simpa using h1) (by simpa using h2) hk
theorem wC {sc:Scope}{n:Nat}{x:Str} (h:sc.names.lookup x=some .cell):∃c,(cellsFrom n sc.names []).lookup x=some c:=by
 have q:=PySem.W.cellsFrom_some sc.names n [] (.inl h);exact Option.isSome_iff_exists.mp q
end L2
namespace L2
open PySem PySem.Spec PyProof.Rows
end L2
namespace L2
open PySem PySem.Spec PyProof.Rows
structure iw (h:Heap) (x dx C:Addr) (mA:Str->Option Value):Prop where
 obj:h.get? x=some (PySem.W.instObj C dx)
 ns:h.Ns1 dx mA
 ne:dx≠x
theorem ER {h:Heap}{dx:Addr}{mA:Str->Option Value} (n:h.Ns1 dx mA):∃od,h.get? dx=some od/\∀name,PySem.W.lookIn name od=some (mA name):=by
 obtain⟨o,es,ep,ho,hd,hk,_,hm⟩:=n;refine⟨o,ho,λname=>?_⟩;have e:=hm name;unfold nsFind findBy at e;rw[<- Array.find?_toList]at e;unfold PySem.W.lookIn;rw[hd];dsimp only;split
 ·rename_i y q;rw[q]at e;exact congrArg some e
 ·rename_i q;rw[q]at e;have a:es.toList.any (·.refKey)=false:=by
   rw[List.any_eq_false];intro y hy;obtain⟨z,t,nw⟩:=hk y (Array.mem_toList_iff.mp hy);simp [DictEntry.refKey,nw]
  have Ui:¬es.toList.any (·.refKey)=true:=by rw[a];exact Yo
  rw[if_neg Ui];exact congrArg some e
theorem iw.qp {h:Heap}{x dx C:Addr}{mA:Str->Option Value} (I:iw h x dx C mA):∃od,PySem.W.InstAt h x (PySem.W.instObj C dx) C (some od)/\∀name,PySem.W.lookIn name od=some (mA name):=
 let ⟨od,ho,hl⟩:=ER I.ns
 ⟨od,⟨I.obj,rfl,rfl,ho⟩,hl⟩
section
variable {prog:Program}{w:World}{A:Around}{E:Value->Shared->Prop}{s:Shared}{K:PySem.W.Frag}{x dx C f:Addr}{mA:Str->Option Value}{name:Str}{v:Value}
theorem ES {EQ:Bool}{Q:Value->Shared->Prop} (X:K.In s.heap) (I:iw s.heap x dx C mA) (hg:PySem.W.plainGet K C name=true) (hh:PySem.W.hasDictIn K C=true)
  (ha:PySem.W.findIn K (.ref C) name=some none) (hv:mA name=some v) (iy:PySem.W.handedIn v=true) (h:Q v { s with toks:=s.toks+1 }) :
  wpAny (model prog w) A (getAttr (.ref x) name EQ) Q E s:=by
 obtain⟨od,J,hl⟩:=I.qp;exact PySem.W.get_value X J (PySem.W.plainGet_of hg).1 (PySem.W.findObj_own hh ha rfl (by rw[hl,hv])) iy h
theorem ET {pl:Sem Bool}{Q:Value×List Value->Shared->Prop} (X:K.In s.heap) (I:iw s.heap x dx C mA) (hg:PySem.W.plainGet K C name=true)
  (hf:PySem.W.findIn K (.ref C) name=some (some (.ref f))) (ht:PySem.W.isFn K (.ref f)=true) (hv:mA name=none) (h:Q (.ref f,[.ref x]) s) :
  wpAny (model prog w) A (getMethod (.ref x) name pl) Q E s:=by
 obtain⟨od,J,hl⟩:=I.qp;exact PySem.W.method_fn X J (PySem.W.plainGet_of hg).1 (PySem.W.plainGet_of hg).2 hf (beq_iff_eq.mp ht) (by show (PySem.W.lookIn name od).map (·.isSome)=some false;rw[hl,hv];rfl) h
theorem EU {ns:List Str}{Q:Unit->Shared->Prop} (X:K.In s.heap) (I:iw s.heap x dx C mA)
  (hs:PySem.W.findIn K (.ref C) "__setattr__"=some (some (.builtin "object.__setattr__"))) (hp:PySem.W.plainOver K C=true) (ht:PySem.W.takerIn K C name=some none) (hh:PySem.W.hasDictIn K C=true)
  (hw:PySem.Within mA ns) (hsz:ns.length<=sizeLine)
  (h:∀h',iw h' x dx C (λy=>if y=name then some v else mA y)->Za dx s.heap h'->Q () { s with heap:=h',toks:=s.toks+2 }) :
  wpAny (model prog w) A (setAttr (.ref x) name v) Q E s:=by
 obtain⟨od,J,hl⟩:=I.qp;refine PySem.W.set_plain X J hs (PySem.W.osa_open (s:={ s with toks:=s.toks+1 }) (r:=none) X J hp ht λb=>?_);obtain⟨cd,hc,kt⟩:=PySem.W.any_some hh;have hx:s.heap.get? x=some ⟨.ref C,some dx,.plain,#[]⟩:=I.obj;refine Xv (Xy (Xv (Xv (wpAny_loadPart hx (Xv (PySem.W.Looks.here (s:={ s with toks:=s.toks+1 }) (PySem.W.looks_clsIn X hc) ?_))))));rw[kt];refine Xy (a:=some dx) (Xv (Xy (Xv ?_)));refine wpAny_nsSet1 (s:={ s with toks:=s.toks+1 }) I.ns λh' nC hs2=>?_;obtain⟨oD,SQ,SR,EV,EW,EX⟩:=nC.count (PySem.Within.cons name v hw);refine Xv (wpAny_lookBehind EV (by rw[EW];exact pastItsLine_dict (XG EX (by rw[XI];lia))) ?_);exact Xy (h _ ⟨(hs2.2 _ (Y0 I.ne)).trans I.obj,nC,I.ne⟩ hs2)
theorem EY {R:Result->Shared->Prop}{vs:List Value}{kw:List (Str×Value)} (X:K.In s.heap) (hm:PySem.W.makesIn K C=true)
  (hi:PySem.W.findIn K (.ref C) "__init__"=some (some (.ref f))) (hf:PySem.W.typeIn K (.ref f)=some (.type "function"))
  (h:codeAny (model prog w) (A.under (.builtin "type.__call__" ⟨.ref C::vs,kw⟩)) (.call (.ref f) ⟨.ref (s.heap.objs.size+1)::vs,kw⟩) (PySem.W.InitBack (s.heap.objs.size+1) R)
   { s with heap:=(s.heap.push PySem.W.emptyDict).push (PySem.W.instObj C s.heap.objs.size) }) :
  codeAny (model prog w) A (.call (.ref C) ⟨vs,kw⟩) R s:=by
 obtain⟨hh,g,d,t,os⟩:=s;exact PySem.W.make_core (PySem.W.makes_of X hm) (PySem.W.looks_findIn X hi) (λself=>PySem.W.bind_fn X self hf) (.inl rfl) h
end
structure cZ (K:PySem.W.Frag) (C:Addr):Prop where
 V5:PySem.W.plainGet K C Str.empty=true
 hd:PySem.W.hasDictIn K C=true
 V6:PySem.W.plainOver K C=true
 sa:PySem.W.findIn K (.ref C) "__setattr__"=some (some (.builtin "object.__setattr__"))
theorem cZ.get {K:PySem.W.Frag}{C:Addr} (c:cZ K C) (f:Str):PySem.W.plainGet K C f=true:=c.V5
def eh (K:PySem.W.Frag) (C:Addr) (f:Str):Prop:=PySem.W.findIn K (.ref C) f=some none
theorem eh.EZ {K:PySem.W.Frag}{C:Addr}{f:Str} (n:eh K C f):PySem.W.takerIn K C f=some none:=by
 unfold PySem.W.takerIn;rw[show PySem.W.findIn K (.ref C) f=some none from n];rfl
structure jw (K:PySem.W.Frag) (C:Addr) (m:Str) (f:Addr):Prop where
 bV:PySem.W.findIn K (.ref C) m=some (some (.ref f))
 fn:PySem.W.isFn K (.ref f)=true
 kp:PySem.W.keepIn K (.ref f)=true
section
variable {X:Cx}{aZ:List (Addr×Obj)} {σ:St} {H:Hp}{s:Shared}{a C dx:Addr}{fs:List (Str×V)}{f:Str}{v:V}{A:Around}{E:Value->Shared->Prop}
theorem E0 {prog:Program}{w:World}{env:Env}{e:Expr}{f:Str}{pos:Pos}{s:Shared}{Q:Value->Shared->Prop} (hb:attributeBase e f env (eval e env)=eval e env)
  (h:wpAny (model prog w) A (eval e env) (λo s₁=>wpAny (model prog w) A (getAttr o f true) Q E s₁) E s):wpAny (model prog w) A (eval (.Attribute e f pos) env) Q E s:=
 Attribute_any_ h (by rw[arm_eval_Attribute,hb])
end
end L2
namespace L2
open PySem PySem.Spec PyProof.Rows
section
variable {X:Cx}{W6:SS}{k:Nat}{f C:Addr}{fd:FuncData}{ps:List Str}{sp:Sp}{bg:List V}{ds:List Value}{E:XK}{x m:Str}{p pos cr:Pos}{e o:Expr}{es:List Expr}{ta:TE}{t:TA}
structure Mk (K:PySem.W.Frag) (C f:Addr):Prop where
 E1:PySem.W.makesIn K C=true
 init:PySem.W.findIn K (.ref C) "__init__"=some (some (.ref f))
 fn:PySem.W.isFn K (.ref f)=true
 kp:PySem.W.keepIn K (.ref C)=true
end
end L2
namespace L2
open PySem PySem.Spec PyProof.Rows
end L2
namespace L2
open PySem PySem.Spec PyProof.Rows PySem.W
theorem E2 (xs:Array Value):((YY xs.size).filterMap λ(k:Nat)=>xs[(((xs.size:Int)-1)+(k:Int) * (-1)).toNat]?).toArray=xs.toList.reverse.toArray:=by
 congr 1
 have jv:∀(l:List Nat),(∀k∈l,k<xs.size)->l.filterMap (λ(k:Nat)=>xs[(((xs.size:Int)-1)+(k:Int) * (-1)).toNat]?)=l.map λk=>xs.toList.getD (xs.size-1-k) YE:=by
  intro l
  induction l with
  |nil=>intro _;rfl
  |cons k l ih=>
   intro h;have v1:k<xs.size:=h k XH;have e1:(((xs.size:Int)-1)+(k:Int) * (-1)).toNat=xs.size-1-k:=(by lia);have e2:xs[(((xs.size:Int)-1)+(k:Int) * (-1)).toNat]?=some (xs.toList.getD (xs.size-1-k) YE):=by
    rw[e1,X9,<- Y2,XB (by rw[XY];lia)];rfl
   rw[List.filterMap_cons,e2,XJ,ih λz hz=>h z (XF _ hz)]
 rw[jv _ λk hk=>List.mem_range.mp hk];apply List.ext_getElem?;intro i;by_cases hi:i<xs.size
 ·rw[XS,List.getElem?_range hi,List.getElem?_reverse (by rw[XY];exact hi),XY];show some (xs.toList.getD (xs.size-1-i) YE)=_;rw[X9,XB (by rw[XY];lia)];rfl
 ·rw[List.getElem?_eq_none (by simpa using hi),List.getElem?_eq_none (by simpa using hi)]
section
variable {prog:Program}{w:World}{A:Around}{E:Value->Shared->Prop}{s:Shared}
theorem E3 {t sl:Addr}{items:Array Value}{tk:Tok}{Q:Value->Shared->Prop} (ht:IsTup s.heap t items) (hs:s.heap.IsSliceOf sl .none .none (.int (-1) tk))
  (h:Q (.ref s.heap.objs.size) { s with heap:=s.heap.push { cls:=.type "tuple",data:=.seq items.toList.reverse.toArray } })
  (hsz:items.size<=sizeLine):wpAny (model prog w) A (getItem (.ref t) (.ref sl)) Q E s:=by
 have ge:sizeOk (.seq items.toList.reverse.toArray):=by
  show items.toList.reverse.toArray.size<=sizeLine;rw[Xz,Zs,XY];exact hsz
 obtain⟨os,be,gM,ev⟩:=id hs;have kU:s.TypeIs (.ref sl) "slice":=⟨os,be,gM⟩;unfold getItem
 try with_reducible refine Yv ?_
 first |refine Xv (Xy ?_) |skip
 refine Xv (wpAny_sequenceKey ht.typeIs (by decide) ?_);refine Xv (X8 (name:=YU "__getitem__") ht.typeIs YG
  (Yc YG ht.typeIs entry_tuple_getitem ?_ (args_tuple_getitem _ _)))
 show wpAny _ _ (Builtin.Tuple.tupleItemsOf (.ref t) >>= _) _ _ s;refine Xv (tupleItemsOf_ ht ?_);refine Xv (wpAny_typeOf kU ?_);rw[if_pos (by decide)];have V7:∀{Q:Int×Int×Nat->Shared->Prop}{E:Value->Shared->Prop}{A:Around},Q ((items.size:Int)-1,-1,items.size) s->wpAny (model prog w) A (Zw (.ref sl) (pure (items.size:Int))) Q E s:=by
  intro Q E A q;unfold Zw Builtin.Slice.sliceFields;refine Xv (Xv (Yt be ev (x:=.none) rfl (Xv (Yt be ev (x:=.none) rfl (Xv (Yt be ev (x:=.int (-1) tk) rfl (Xy ?_)))))));refine Xv (slicePart_int ?_);show wpAny _ _ (if ((-1:Int) == 0)=true then _ else _) _ _ s
  rw[if_neg (by decide)];refine Xv (slicePart_none (Xv (slicePart_none (Xv (Xy ?_)))));refine Xy ?_;have e:YL ((items.size:Int)-1) (-1) (-1)=items.size:=by
   unfold YL;rw[if_neg (by decide)];split
   ·have:((items.size:Int)-1 - -1-1) / (- -1)=(items.size:Int)-1:=(by rw[show (- -1:Int)=1 from rfl,Int.ediv_one];lia);lia
   ·lia
  show Q ((items.size:Int)-1,-1,YL ((items.size:Int)-1) (-1) (-1)) s;rw[e];exact q
 refine Xv (V7 ?_);show wpAny _ _ (if (((items.size:Int)-1 == 0) && (-1:Int) == 1 && (items.size == items.size))=true then _ else _) _ _ s
 rw[if_neg (by simp),E2]
 first
  |exact Xv (m:=YD _) (Yk (Xy ⟨_,rfl,Xy h⟩) ge)
  |exact Xv (m:=YD _) (Yk (Xv (Xy (Xy ⟨_,rfl,Xy h⟩))) ge)
  |exact Xv (Xv (m:=YD _) (Yk (Xy (Xy ⟨_,rfl,Xy h⟩)) ge))
  |exact Xv (Xv (m:=YD _) (Yk (Xy ⟨_,rfl,Xy h⟩) ge))
end
end L2
namespace L2
open PySem PySem.Spec PyProof.Rows
theorem E4 {α:Type} (l:List α):l.eraseIdx (l.length-1)=l.dropLast:=by
 induction l with
 |nil=>rfl
 |cons a r ih=>
  cases r with
  |nil=>rfl
  |cons b r=>
   have e:(a::b::r).length-1=((b::r).length-1)+1:=by
    have h1:(a::b::r).length=r.length+2:=rfl;have h2:(b::r).length=r.length+1:=rfl;lia
   rw[e,List.eraseIdx_cons_succ,ih]
   all_goals rfl
end L2
namespace L2
open PySem PySem.Spec PyProof.Rows
end L2
end
section
set_option maxHeartbeats 1000000
namespace N
open PySem PySem.Spec PyProof.Rows L2
def cB (d:D) (M:Mp) (k:List (Key×D)->Prop):Prop:=match d with
 |.ao ks ds=>k (ks.zip ds)
 |.ref a=>∃kvs,M a=some (.ao kvs)/\k kvs
 |_=>False
structure jx (G:Gx) (F:Fz) (h:Heap) (a:Addr) (kvs:List (Key×D)) (vs:List (Key×Value)):Prop where
 r:KV G F kvs vs
 d:h.DictOf (bE G.P G.w) a vs
 z:kvs.length<=sizeLine
 n:(a == sysModules)=false
theorem KV.zip {G:Gx}{F:Fz}:∀{ks:List Key}{ds:List D}{us:List Value},ah G F ds us->KV G F (ks.zip ds) (ks.zip us)
 |[],ds,us,_=>by rw[List.zip_nil_left,List.zip_nil_left];exact .nil
 |k::ks,[],us,r=>by rw[ah]at r;subst r;exact .nil
 |k::ks,d::ds,us,r=>by rw[ah]at r;obtain⟨u,us,rfl,r1,r2⟩:=r;exact .cons ⟨rfl,r1⟩ (KV.zip r2)
section
variable {X:Cx} {τ:St} {z:Z}{d:D}{u:Value}{a:Addr}
theorem ae.jy (I:ae X τ z) {kvs:List (Key×D)} (h:z.M a=some (.ao kvs)):∃vs,jx X.G z.F z.s.heap a kvs vs:=by
 obtain⟨_,h1,h2,vs,r,dd⟩:=I.hok.ob a _ h;exact⟨vs,r,dd,h1,h2⟩
theorem ae.cB {k:List (Key×D)->Prop} (I:ae X τ z) (r:ab X.G z.F d u) (h:cB d z.M k):∃a kvs vs,u=.ref a/\jx X.G z.F z.s.heap a kvs vs/\k kvs:=by
 unfold N.cB at h;split at h
 ·rw[ab]at r;obtain⟨a,o,us,e,h1,h2,h4,h3⟩:=r;obtain⟨es,ep,g1,g2,g3⟩:=h2.bV;refine⟨a,_,_,e,⟨KV.zip h3,⟨o,es,ep,I.hok.fz a _ h1,h2.ex,g1,g2,g3,?_⟩,?_,h4⟩,h⟩
  ·rw[List.map_fst_zip (ZG h2.len.symm)];exact h2.nd
  ·rw[Zp];exact XG (Nat.min_le_left _ _) h2.sz
 ·rw[ab]at r;obtain⟨kvs,h1,h2⟩:=h;obtain⟨vs,l⟩:=I.jy h1;exact⟨_,kvs,vs,r,l,h2⟩
 ·exact h.elim
end
def dX (d:D) (k:Key->Prop):Prop:=match d with
 |.int i=>k (.inl i)
 |.str x=>k (.inr x)
 |_=>False
noncomputable def aT (kvs:List (Key×D)) (k:Key):Option D:=(kvs.find? λkv=>decide (kv.1=k)).map (·.2)
noncomputable def bq (kvs:List (Key×D)) (k:Key) (v:D):List (Key×D):=
 if (kvs.any λkv=>decide (kv.1=k))=true then kvs.map (λkv=>if kv.1=k then (kv.1,v) else kv) else kvs++[(k,v)]
theorem wD (kvs:List (Key×D)) (k:Key) (v:D):(bq kvs k v).length<=kvs.length+1:=by
 unfold bq;split
 ·rw[Xx];exact Y7 _
 ·rw[XU];exact XC _
theorem jz {G:Gx}{F:Fz}{P:Program}{w:World}{d:D}{k:Key->Prop}{u:Value} (h:dX d k) (r:ab G F d u):∃x,(bE P w).is x u=true/\k x:=by
 unfold dX at h;split at h
 ·rw[ab]at r;obtain⟨t,rfl⟩:=r;exact⟨_,vV P w _ t,h⟩
 ·rw[ab]at r;obtain⟨t,rfl⟩:=r;exact⟨_,vW P w _ t,h⟩
 ·exact h.elim
theorem KV.val {G:Gx}{F:Fz}{kvs:List (Key×D)}{vs:List (Key×Value)} (r:KV G F kvs vs) (k:Key):fX G F (aT kvs k) (valueAt vs k):=by
 unfold KV at r
 induction r with
 |nil=>exact ZJ
 |@cons p q ps qs h t ih=>
  by_cases e:p.1=k
  ·have e':q.1=k:=h.1.symm.trans e;rw[show valueAt (q::qs) k=some q.2 by simp [valueAt,Zr,e'],show aT (p::ps) k=some p.2 by simp [aT,Zr,e]];exact h.2
  ·have e':¬q.1=k:=λz=>e (h.1.trans z);rw[show valueAt (q::qs) k=valueAt qs k by simp [valueAt,Zr,e'],show aT (p::ps) k=aT ps k by simp [aT,Zr,e]];exact ih
theorem fX.so {G:Gx}{F:Fz}{o:Option D}{u:Option Value} (r:fX G F o u):o.isSome=u.isSome:=by
 cases o <;> cases u <;> first |rfl |exact r.elim
theorem KV.put {G:Gx}{F:Fz}{kvs:List (Key×D)}{vs:List (Key×Value)} (r:KV G F kvs vs) (k:Key) {y:D}{u:Value} (Vn:ab G F y u):KV G F (bq kvs k y) (stored vs k u):=by
 have any:(kvs.any λkv=>decide (kv.1=k))=vs.any λkv=>decide (kv.1=k):=by
  unfold KV at r
  induction r with
  |nil=>rfl
  |cons h t ih=>rw[ZK,ZK,h.1,ih]
 unfold bq stored;rw[any];by_cases e:(vs.any λkv=>decide (kv.1=k))=true
 ·rw[if_pos e,if_pos e];clear e any;unfold KV at r ⊢
  induction r with
  |nil=>exact .nil
  |@cons p q ps qs h t ih=>
   refine .cons ?_ ih;dsimp only;by_cases e:p.1=k
   ·rw[if_pos e,if_pos (h.1.symm.trans e)];exact⟨h.1,Vn⟩
   ·rw[if_neg e,if_neg λz=>e (h.1.trans z)];exact h
 ·rw[if_neg e,if_neg e];exact Paired.snoc r ⟨rfl,Vn⟩
def sI (C:Int->Int->Prop) (f:Int->Int->Int):Q2:=λx y M Q=>b9 x λi=>b9 y λj=>C i j/\Q (.int (f i j)) M
def qq (f:Int->Int->Int):Q2:=λx y M Q=>b9 x λi=>b9 y λj=>Q (.int (f i j)) M
def CM (i j:Int):Prop:=ql i j\/EC i j
noncomputable def nD (a:Addr):Option MO->D
 |some (.lst ds)=>.lst ds
 |_=>.ref a
noncomputable def cb (d:D) (M:Mp):D:=match d with
 |.ref a=>nD a (M a)
 |d=>d
def qr:Q2:=λx y M Q=>match x,y with
 |.int i,.int j=>Q (.int (i+j)) M
 |.str a,.str b=>a.length+b.length<=sizeLine/\Q (.str (a++b)) M
 |.tup a,.tup b=>a.length+b.length<=sizeLine/\Q (.tup (a++b)) M
 |x,y=>bp x M λa=>bp y M λb=>a.length+b.length<=sizeLine/\bZ (a++b) M Q
def qt:Q2:=λx y M Q=>match x with
 |.int i=>b9 y λj=>CM i j/\Q (.int (i * j)) M
 |x=>bp x M λds=>b9 y λk=>-(2 ^ 63)<=k/\k<2 ^ 63/\ds.length * k.toNat<=sizeLine/\bZ (Yz k.toNat ds).flatten M Q
def wF:Operator->Q2
 |.Add=>qr
 |.Sub=>qq λi j=>i-j
 |.Mult=>qt
 |.FloorDiv=>sI (λ_ j=>0<j/\j<2 ^ 200) λi j=>i / j
 |.Mod=>sI (λ_ j=>0<j) λi j=>i % j
 |.Pow=>sI vX λi j=>i ^ j.toNat
 |.LShift=>sI vX λi j=>i * 2 ^ j.toNat
 |.RShift=>sI (λ_ j=>0<=j) λi j=>i / 2 ^ j.toNat
 |.BitAnd=>qq λi j=>Builtin.bitAnd i j
 |_=>λ_ _ _ _=>False
section
variable {X:Cx}
theorem kW {f:Value->Value->Sem Value}{C:Int->Int->Prop}{g:Int->Int->Int} (rule:∀(i j:Int) (t u:Tok) (s:Shared) (Q E:Value->Shared->Prop),C i j->Q (.int (g i j) s.toks) { s with toks:=s.toks+1 }->wpAny (model X.G.P X.G.w) X.A (f (.int i t) (.int j u)) Q E s):O2 X f (sI C g):=fun τ z Q R d e v u I r1 r2 q k=>by
 obtain⟨i,t,rfl,q⟩:=cY q r1;obtain⟨j,t',rfl,hc,q⟩:=cY q r2;exact rule i j t t' z.s _ _ hc (I.fin k Le.rfl ck q _)
theorem wG {f:Value->Value->Sem Value}{g:Int->Int->Int} (rule:∀(i j:Int) (t u:Tok) (s:Shared) (Q E:Value->Shared->Prop),Q (.int (g i j) s.toks) { s with toks:=s.toks+1 }->wpAny (model X.G.P X.G.w) X.A (f (.int i t) (.int j u)) Q E s):O2 X f (qq g):=fun τ z Q R d e v u I r1 r2 q k=>by
 obtain⟨i,t,rfl,q⟩:=cY q r1;obtain⟨j,t',rfl,q⟩:=cY q r2;exact rule i j t t' z.s _ _ (I.fin k Le.rfl ck q _)
theorem ah.app {G:Gx}{F:Fz}:∀{ds es:List D}{us vs:List Value},ah G F ds us->ah G F es vs->ah G F (ds++es) (us++vs)
 |[],es,us,vs,r,r'=>by rw[ah]at r;subst r;exact r'
 |d::ds,es,us,vs,r,r'=>by rw[ah]at r;obtain⟨u,us,rfl,r1,r2⟩:=r;exact .cons r1 (ah.app r2 r')
theorem ah.nl {G:Gx}{F:Fz}{ds:List D}{us:List Value} (r:ah G F ds us):us=[] ↔ ds=[]:=by
 rw[<- List.length_eq_zero_iff,<- List.length_eq_zero_iff,r.len]
theorem E5:O2 X (binaryOp .Add) qr:=fun τ z Q R d e v u I r1 r2 q k=>by
 have lst:∀{d e:D},ab X.G z.F d v->ab X.G z.F e u->(bp d z.M λa=>bp e z.M λb=>a.length+b.length<=sizeLine/\bZ (a++b) z.M Q)->W X (binaryOp .Add v u) R z.s:=λr1 r2 q=>by
  obtain⟨a,ds,us,n,rfl,l,q⟩:=I.bp r1 q;obtain⟨b,es,vs,n',rfl,l',hz,q⟩:=I.bp r2 q;have hz':us.length+vs.length<=sizeLine:=by rw[<- l.r.len,<- l'.r.len];exact hz
  refine PySem.P.add_list l.e l'.e ?_ (by rw[Xz,Xz];exact hz');rw[show us.toArray++vs.toArray=(us++vs).toArray by simp];exact I.lst (t:=z.s.toks) (n:=0) k Le.rfl (l.r.app l'.r) (λb o e=>Xw _ e) (XC _) (XA _ rfl) (by rw[XU];exact hz') q
 unfold qr at q;split at q
 ·rw[ab]at r1 r2;obtain⟨t,rfl⟩:=r1;obtain⟨t',rfl⟩:=r2;exact add_int (I.fin k Le.rfl ck q _)
 ·rw[ab]at r1 r2;obtain⟨t,rfl⟩:=r1;obtain⟨t',rfl⟩:=r2;exact add_str (λt' tk=>I.fin k Le.rfl gF q.2 _) q.1
 ·obtain⟨a,us,o,rfl,l⟩:=I.cX r1;obtain⟨b,vs,o',rfl,l'⟩:=I.cX r2;rename_i ds es;have hz:us.length+vs.length<=sizeLine:=by rw[<- l.r.len,<- l'.r.len];exact q.1
  by_cases hx:us=[]
  ·cases l.r.nl.mp hx;subst hx;obtain⟨⟨cls,dd,data,sl⟩,ho,hc,n,hd⟩:=id l.p;obtain⟨⟨vY,f8,vZ,kT⟩,ef,fC,n2,gL⟩:=id l'.p;simp only at hc hd fC gL;subst hc hd fC gL;exact concat_meets ⟨_,ho,rfl⟩ ⟨_,ef,rfl⟩ noFill_tuple_add seq_tuple_add PySem.F.slot_tuple_add PySem.F.entry_tuple_add (PySem.F.args_tuple_add_2 _ _)
    (tuple_addW0 a b _ vs.toArray n n2 dd f8 sl kT (by simp)) ⟨ho,ef,k (.tup es) z _ Le.rfl I r2 q.2⟩
  ·refine HT.EB l.p l'.p hx (λe=>?_) (λe=>?_) hz
   ·rw[l'.r.nl.mp e,XX]at q;exact k (.tup ds) z _ Le.rfl I r1 q.2
   ·exact I.tup (t:=z.s.toks) k Le.rfl (l.r.app l'.r) (λb o e=>Xw _ e) (XC _) (XA _ rfl) ⟨rfl,rfl,⟨_,rfl⟩,by rw[XU];exact hz⟩ q.2
 ·exact lst r1 r2 q
end
end N
end
section
namespace L2
open PySem PySem.Spec PyProof.Rows PySem.W
section
variable {X:Cx}
section
open PySem.AutoSeq1 (wpAny_loadPart')
open PySem.MeetsSeq PySem.MeetsSeq2 PySem.MeetsSeq3 PySem.SeqAt
theorem E6 (l b:Addr) (xs ys:Array Value) (n m:Nat) (dd:Option Addr) (sl:Array (Option Value)) (V8:¬(!xs.isEmpty && YW (xs.size+ys.size))=true) (c1:xs.size<=sizeLine) (c2:xs.size+ys.size<=sizeLine+1) :
  Meets (Builtin.«list.extend» ⟨[.ref l,.ref b],[]⟩) (λ_ R s=>s.heap.get? l=some (seqObj "list" xs n)/\s.heap.get? b=some { cls:=.type "tuple",dict:=dd,data:=.seq ys m,slots:=sl }/\R (.ok (.ret .none)) { s with heap:=s.heap.update l (Yh (·++ys)),toks:=s.toks }):=
 .of_wp λprog w A R s ⟨h1,h2,h3⟩=>by
  obtain⟨hp,g,d,tk,os⟩:=s;have f1:=AutoSeq1.idx_int;have f2:=AutoSeq1.sub_tuple_tuple;have f3:=AutoSeq1.sub_list_list;have f4:=AutoSeq1.sub_tuple_list;have f5:=AutoSeq1.sub_list_tuple;have c3:(xs++ys).size<=sizeLine+1:=by rw[Array.size_append];exact c2
  wp_walk using (wpAny_updateSeq h1 rfl (hz:=c1) (_hz':=c3)),Yi h1,Yi h2
  exact⟨_,rfl,h3⟩
end
end
end L2
namespace L2
open PySem PySem.Spec PyProof.Rows
theorem qu {env:Env}:∀ (names:List (Str×NameKind)) (al:List (Str×Addr)),(∀ y∈names,y.2=.free->∃ c,env.cells.lookup y.1=some c) ->
  (∀x c,al.lookup x=some c->env.cells.lookup x=some c) ->
  ∃cl,(forIn names al (λy cs=>if (y.2 == Zi)=true then (cellOf env y.1 >>= λc=>pure (Zl ((y.1,c)::cs))) else pure (Zl cs)):Sem (List (Str×Addr)))=pure cl /\
   (∀x c,cl.lookup x=some c->env.cells.lookup x=some c)/\(∀y∈names,y.2=.free->∃c,cl.lookup y.1=some c)/\∀x c,al.lookup x=some c->∃c',cl.lookup x=some c'
 |[],al,_,ha=>⟨al,rfl,ha,λy hy=>(nomatch hy),λx c h=>⟨c,h⟩⟩
 |(n,k)::r,al,h,ha=>by
  by_cases hk:k=.free
  ·subst hk;obtain⟨c,hc⟩:=h (n,.free) XH rfl;have E7:∀ x c',((n,c)::al).lookup x=some c'->env.cells.lookup x=some c':=λx c' q=>by
    rw[YC]at q;cases e:x == n with
    |true=>
     rw[e]at q;cases q;rw[eq_of_beq e];exact hc
    |false=>
     rw[e]at q;exact ha x c' q
   obtain⟨cl,e1,e2,e3,e4⟩:=qu r ((n,c)::al) (λy hy=>h y (XF _ hy)) E7;refine⟨cl,?_,e2,λy hy hf=>?_,λx c' q=>?_⟩
   ·rw[List.forIn_cons];have T3:cellOf env n=pure c:=(by unfold cellOf;rw[hc]);simp only[beq_self_eq_true,if_true,T3,pure_bind];exact e1
   ·rcases List.mem_cons.mp hy with rfl |hy
    ·exact e4 n c (by simp)
    ·exact e3 y hy hf
   ·cases e:x == n with
    |true=>exact e4 x c (by rw[YC,e])
    |false=>exact e4 x c' (by rw[YC,e];exact q)
  ·obtain⟨cl,e1,e2,e3,e4⟩:=qu r al (λy hy=>h y (XF _ hy)) ha;refine⟨cl,?_,e2,λy hy hf=>?_,e4⟩
   ·rw[List.forIn_cons];have hb:(k == Zi)=false:=(by simpa using hk);simp only[hb,Bool.false_eq_true,if_false,pure_bind];exact e1
   ·rcases List.mem_cons.mp hy with rfl |hy
    ·exact absurd hf hk
    ·exact e3 y hy hf
theorem wH {scope:Scope}{env:Env} (h:∀ y∈scope.names,y.2=.free->∃ c,env.cells.lookup y.1=some c) :
  ∃cl,closureFor scope env=pure cl/\(∀x c,cl.lookup x=some c->env.cells.lookup x=some c)/\∀y∈scope.names,y.2=.free->∃c,cl.lookup y.1=some c:=by
 obtain⟨cl,e1,e2,e3,_⟩:=qu (env:=env) scope.names [] h (λx c q=>by simp at q);refine⟨cl,?_,e2,e3⟩;unfold closureFor
 first
  |exact e1
  |(simp only[bind_pure_comp,map_pure,bind_pure]at e1 ⊢;exact e1)
  |(rw[show (forIn scope.names [] _:Sem (List (Str×Addr)))=pure cl from e1];rfl)
theorem wI {env:Env}:∀ {names:List (Str×NameKind)}{x:Str},names.lookup x=some .free ->
  let l:=(names.map λ(n,k)=>if (k == Zi && env.scope.kind == .function && env.kindOf n == some .cell) then (n,NameKind.cell) else (n,k)).lookup x
  l=some .cell\/l=some .free
 |[],_,h=>by simp at h
 |(n,k)::r,x,h=>by
  have ih:=@wI env r x;simp only at ih ⊢;rw[XJ];cases hx:x == n with
  |true=>
   rw[YC,hx]at h;cases h;by_cases hc:(Zi == Zi && env.scope.kind == .function && env.kindOf n == some .cell)=true
   ·left;simp only[hc,if_true,YC,hx]
   ·right;simp only[if_neg hc,YC,hx]
  |false=>
   rw[YC,hx]at h;by_cases hc:(k == Zi && env.scope.kind == .function && env.kindOf n == some .cell)=true
   ·simp only[if_pos hc,YC,hx];exact ih h
   ·simp only[if_neg hc,YC,hx];exact ih h
theorem qv {env:Env}:∀ {names:List (Str×NameKind)}{x:Str}{k':NameKind},(∀ y∈names,y.2≠.cell)->(k'=.cell\/k'=.free) ->
  (names.map λ(n,k)=>if (k == Zi && env.scope.kind == .function && env.kindOf n == some .cell) then (n,NameKind.cell) else (n,k)).lookup x=some k'->(x,Zi)∈names
 |[],_,_,_,_,h=>by simp at h
 |(n,k)::r,x,k',hn,hk,h=>by
  rw[XJ]at h;cases hx:x == n with
  |true=>
   have e:x=n:=eq_of_beq hx;subst e;by_cases hc:(k == Zi && env.scope.kind == .function && env.kindOf x == some .cell)=true
   ·have hf:k=.free:=by
     simp only[XD,beq_iff_eq]at hc;exact hc.1.1
    subst hf;exact XH
   ·simp only[if_neg hc,YC,hx]at h;have e2:k=k':=Ym h;subst e2;rcases hk with rfl |rfl
    ·exact absurd rfl (hn _ XH)
    ·exact XH
  |false=>
   have ih:=@qv env r x k' (λy hy=>hn y (XF _ hy)) hk;by_cases hc:(k == Zi && env.scope.kind == .function && env.kindOf n == some .cell)=true
   ·simp only[if_pos hc,YC,hx]at h;exact XF _ (ih h)
   ·simp only[if_neg hc,YC,hx]at h;exact XF _ (ih h)
theorem E8 {prog:Program}{w:World}{A:Around}{s:Shared}{ap tg iter:Expr}{a1:List Expr}{scope:Scope}{pos:Pos}{it al:Value}{env:Env}{P:Shared->Prop}{R:Result->Shared->Prop}
  (Uk:∀s',P s'->R (.ok .next) s') (J:Nat->Shared->Prop)
  (b8:∀n s,J n s->wpAny (model prog w) A (pyNext it) (λr s1=>match r with
   |none=>P s1
   | some v=>wpAny (model prog w) A (letOwnedTupleGo tg it v) (λ_ s2=>wpAny (model prog w) A (assign tg env v) (λ_ s3=>
     wpAny (model prog w) A (forIn a1 true λc r=>if r=true then do let ok <- isTrue c env (eval c env);pure (Zl ok) else pure (Zl r)) (λok s4=>
      if ok=true then wpAny (model prog w) A (eval ap env) (λx s5=>
       wpAny (model prog w) A (call (.builtin "list.append") [al,x]) (λ_ Vo=>∃m,m<n/\J m Vo) (λ_ _=>False) s5) (λ_ _=>False) s4
      else ∃m,m<n/\J m s4) (λ_ _=>False) s3) (λ_ _=>False) s2) (λ_ _=>False) s1) (λ_ _=>False) s)
  (n:Nat) (h:J n s):codeAny (model prog w) A (.compLoop (.ListComp ap [⟨tg,iter,a1,0⟩] scope pos) 0 it al env) R s:=by
 refine codeAny_loop rfl J (λn s hJ=>?_) n h;show wpAny _ A ((compTurn (.ListComp ap [⟨tg,iter,a1,0⟩] scope pos) 0 it al env).onRaise (λx=>do noteFrame x env;theTreesLotGoes x)) _ _ s
 refine wpAny_noted (Zu (E:=λ_ _=>False) ?_ (λ_ _ q=>q) λ_ _ q=>q.elim);rw[compTurn_list];refine Xv (wpAny_standAt (Xv (eQ (b8 n s hJ) λr s1 h1=>?_)));cases r with
 |none=>exact Xy (Uk _ h1)
 |some v=>
  refine Xv (eQ h1 λ_ s2 h2=>Xv (eQ h2 λ_ s3 h3=>Xv (eQ h3 λok s4 h4=>?_)));cases ok with
  |false=>exact Xy ⟨rfl,h4⟩
  |true=>exact Xv (Xv (eQ h4 λx s5 h5=>Xv (eQ h5 λ_ Vo h6=>Xy (Xy ⟨rfl,h6⟩))))
end L2
namespace L2
open PySem PySem.Spec PyProof.Rows PySem.W
def wJ (t T:String) (b:Bool):Prop:=∀K:PySem.W.Frag,PySem.W.kitOne K (.type t) (.type T)=some b
theorem qw (t:String):wJ t t true:=λK=>by unfold PySem.W.kitOne;rw[if_pos (by simp)]
theorem E9:wJ "int" "str" false:=λK=>by kernel_rfl
end L2
namespace L2
open PySem PySem.Spec PyProof.Rows
noncomputable def b0:Expr->Bool
 |.Starred _ _=>false
 |_=>true
noncomputable def ba:List Expr->Bool
 |[]=>true
 |e::es=>b0 e && ba es
theorem bL {env:Env}{e:Expr}{es:List Expr} (h:b0 e=true):starEach (e::es) env=(false,eval e env)::starEach es env:=by
 cases e <;> first |rfl |exact absurd h Yo
theorem ei {env:Env}{pos:Pos}:∀{es:List Expr},ba es=true->(backTo pos (starEach es env)).any (·.1)=false
 |[],_=>rfl
 |e::es,h=>by
  have h':(b0 e && ba es)=true:=h;rw[XD]at h';rw[bL h'.1];show (false ||(backTo pos (starEach es env)).any (·.1))=false;rw[ei h'.2];rfl
end L2
namespace L2
open PySem PySem.Spec PyProof.Rows
section
variable {X:Cx}{pos:Pos}{a b c e o:Expr}{es:List Expr}{ta tb tc te to:TE}{t u:TS}{W7 W8:TT}{tA:TA}{st:Stmt}{rest:List Stmt}
theorem wK {env:Env}{cpos:Pos}{es:List Expr} (h:ba es=true) (hl:es.length<29) :
  ((backTo cpos (starEach es env)).all (λx=>!x.1) && (backToKw cpos (keywordEach [] env)).all (λx=>x.1.isSome)
   && decide (es.length+([]:List Keyword).length+(if ([]:List Keyword).isEmpty then 0 else 1)<30))=true:=by
 have h1:(backTo cpos (starEach es env)).all (λx=>!x.1)=true:=by
  have:=ei (env:=env) (pos:=cpos) h;rw[List.all_eq_not_any_not];simpa using this
 have h2:(backToKw cpos (keywordEach [] env)).all (λx=>x.1.isSome)=true:=rfl;rw[h1,h2];simp;lia
variable {tg iter:Expr}{wi:TI}{g:TG}
variable {a1:List Expr}{scope:Scope}{Nt:List Str}{fr:List (Str×Nat)}{W9:ZC->TG}{W':ZC->TT}{UE:ZC->TE}
end
end L2
namespace PL
open PySem L2
noncomputable def gh:Expr->Bool
 |.Call (.Name x _) [] [] _=>x == "super"
 |_=>false
theorem kX {o:Expr}{f:Str}{env:Env}{s:Sem Value} (h:gh o=false):attributeBase o f env s=s:=by
 unfold attributeBase;split
 ·rename_i id _ _;have h:(id == ("super" : Str))=false:=h;have h':(id != ("super" : Str))=true:=by rw[bne,h];rfl
  rw[h',Bool.true_or,Bool.true_or,Bool.true_or];rfl
 ·rfl
end PL
namespace L2
open PySem
noncomputable def nE (sc:Scope) (N:List Str) (scope:Scope) (fr:List (Str×Nat)):Bool:=
 (scope.kind == .function) && scope.names.all (λy=>decide (y.2≠.cell)) && scope.names.all (λy=>decide (y.2=.local->scope.names.lookup y.1=some .local)) &&
  scope.names.all (λy=>decide (y.2=.free->sc.names.lookup y.1=some .cell)) && fr.all (λp=>decide (N[p.2]?=some p.1) && decide (scope.names.lookup p.1=some .free))
end L2
namespace L2
open PySem PySem.Spec PyProof.Rows
noncomputable def ej (s:Stmt):Arguments:=match s with
 |.FunctionDef _ a _ _ _ _ _ _ _ _=>a
 |_=>{ posonlyargs:=[],args:=[],vararg:=none,kwonlyargs:=[],kw_defaults:=[],kwarg:=none,defaults:=[] }
noncomputable def aw (s:Stmt):List Stmt:=match s with
 |.FunctionDef _ _ b _ _ _ _ _ _ _=>b
 |_=>[]
noncomputable def ag (s:Stmt):Scope:=match s with
 |.FunctionDef _ _ _ _ _ _ sc _ _ _=>sc
 |_=>{ kind:=.function,names:=[],isGenerator:=false,isCoroutine:=false }
structure dH (K:PySem.W.Frag) (x qual:Str) (st:Stmt) (f:Addr) (fd:FuncData):Prop where
 ex:∃(oc:Value) (od:Option Addr) (kV doc pm:Value) (TC:Option Addr) (an ct:Value) (ch:Array (Option Value)),
  fd=PySem.W.fnOf x qual (ej st) (aw st) (ag st) .none kV doc pm TC an ct/\K.lookup f=some ⟨oc,od,.func fd,ch⟩/\PySem.W.codeIn K an qual=true
 kp:PySem.W.keepIn K (.ref f)=true
section
variable {P:Program}{w:World}{K:PySem.W.Frag}{mg:Str->Option Value}{base:Heap}
theorem dH.iu {x qual:Str}{st:Stmt}{f:Addr}{fd:FuncData}{ps:List Str} (F:dH K x qual st f fd)
  (h:∀(kV doc pm:Value) (TC:Option Addr) (an ct:Value) (us:List Value),us.length=ps.length->bindArgs (PySem.W.fnOf x qual (ej st) (aw st) (ag st) .none kV doc pm TC an ct) ⟨us,[]⟩=pure (ps.zip us)):bT K fd ps []:=by
 obtain⟨oc,od,kV,doc,pm,TC,an,ct,ch,rfl,lk,dF⟩:=F.ex;exact .all (h kV doc pm TC an ct)
theorem qx {x qual:Str}{st:Stmt}{f:Addr}{oc:Value}{od TC:Option Addr}{ch:Array (Option Value)}{kV doc pm an ct:Value} (l:K.lookup f=some ⟨oc,od,.func (PySem.W.fnOf x qual (ej st) (aw st) (ag st) .none kV doc pm TC an ct),ch⟩)
  (c:PySem.W.codeIn K an qual=true) (k:PySem.W.keepIn K (.ref f)=true):dH K x qual st f (PySem.W.fnOf x qual (ej st) (aw st) (ag st) .none kV doc pm TC an ct):=⟨⟨oc,od,kV,doc,pm,TC,an,ct,ch,rfl,l,c⟩,k⟩
end
end L2
namespace L2
open PySem PySem.Spec PyProof.Rows
def wL (P:Program) (w:World) (A:Around) (s:Shared) (x y:Value):Prop:=∀(E:Value->Shared->Prop) (Q:Bool->Shared->Prop),Q true s->wpAny (model P w) A (eqBool x y) Q E s
section
open PySem.AutoSeq1 (wpAny_loadPart')
open PySem.MeetsSeq PySem.MeetsSeq2 PySem.MeetsSeq3 PySem.SeqAt
variable {P:Program}{w:World}{a b:Addr}{xs ys:Array Value}{ea eb:Nat}{da TX:Option Addr}{sa sb:Array (Option Value)}
def wM (P:Program) (w:World) (a b:Addr) (xs ys:Array Value) (ea eb:Nat) (da TX:Option Addr) (sa sb:Array (Option Value)):PySem.Spec:=λA R s=>
 s.heap.get? a=some { cls:=.type "list",dict:=da,data:=.seq xs ea,slots:=sa }/\s.heap.get? b=some { cls:=.type "list",dict:=TX,data:=.seq ys eb,slots:=sb }/\(∀j (h1:j<xs.size) (h2:j<ys.size),wL P w A.in1 s xs[j] ys[j])/\R (.ok (.ret (.bool false))) s
theorem Fb (hz:xs.size=ys.size):∀(k i:Nat),xs.size-i=k->MeetsIn P w (Builtin.«list.__eq__.loop» ⟨[.ref a,.ref b,rawInt i,rawInt 3],[]⟩) (wM P w a b xs ys ea eb da TX sa sb):=by
 intro k
 induction k with
 |zero=>
  intro i hk A R s ⟨h1,h2,h3,h4⟩;obtain⟨hp,g,d,tk,os⟩:=s
  wp_walk using Yi h1,Yi h2
  have x1:xs[((i:Nat):Int).toNat]?=none:=by simp;lia
  have x2:ys[((i:Nat):Int).toNat]?=none:=by simp;lia
  rw[x1,x2]
  wp_walk using Yi h1,Yi h2
  show R (.ok (.ret (.bool (xs.size != ys.size)))) _;rw[hz];simpa using h4
 |succ k ih=>
  intro i hk A R s ⟨h1,h2,h3,h4⟩;obtain⟨hp,g,d,tk,os⟩:=s
  wp_walk using Yi h1,Yi h2
  have l1:i<xs.size:=by lia
  have l2:i<ys.size:=by lia
  have x1:xs[((i:Nat):Int).toNat]?=some xs[i]:=by simp [l1]
  have x2:ys[((i:Nat):Int).toNat]?=some ys[i]:=by simp [l2]
  have V9:((i:Int)+1)=((i+1:Nat):Int):=by lia
  rw[x1,x2];refine Xv (h3 i l1 l2 _ _ ?_)
  wp_walk
  rw[V9];exact⟨YV plain_eq_loop _,YQ entry_eq_loop (by
   rw[Yx plain_eq_loop _];exact ih (i+1) (by lia) A R _ ⟨h1,h2,h3,h4⟩)⟩
theorem Fc (hz:xs.size=ys.size):MeetsIn P w (Builtin.«list.__ne__» ⟨[.ref a,.ref b],[]⟩) (wM P w a b xs ys ea eb da TX sa sb):=by
 intro A R s ⟨h1,h2,h3,h4⟩;obtain⟨hp,g,d,tk,os⟩:=s;have f3:=AutoSeq1.sub_list_list;have db:¬(xs.size != ys.size)=true:=by simp [hz]
 wp_walk using Yi h1,Yi h2
 exact⟨YV plain_eq_loop _,YQ entry_eq_loop (by
  rw[Yx plain_eq_loop _];exact Fb hz _ 0 rfl A R _ ⟨h1,h2,h3,h4⟩)⟩
end
end L2
end
section
set_option maxHeartbeats 1000000
namespace N
open PySem PySem.Spec PyProof.Rows L2 PySem.W
def jA:D->Prop
 |.ao _ ds=>aJ ds=true/\aR ds<=50
 |_=>False
section
variable {G:Gx}{F:Fz}{M:Mp}{s:Shared}{A:Around}
theorem wN (ok:aK G F M s.heap) (hu:A.units+60<cLine) {kvs:List (Key×D)}{vb:List (Key×Value)} (rb:KV G F kvs vb):∀{U6:List (Key×D)}{va:List (Key×Value)},KV G F U6 va->(∀p∈U6,aT kvs p.1=some p.2/\ax p.2=true/\aM p.2<=50)->KeqHits A s vb va true
 |_,_,.nil,_=>.nil
 |p::U6,q::va,.cons v2 t,h=>by
  obtain⟨h1,h2,h3⟩:=h p XH;have hv:=KV.val rb p.1;rw[h1]at hv;cases e:valueAt vb p.1 with
  |none=>rw[e]at hv;exact hv.elim
  |some y=>
   rw[e]at hv;have he:=kR (G:=G) (F:=F) (M:=M) (A:=A) 50 ok (eP ok v2.2 h2) (eP ok hv h2) h3 (by lia);rw[gg _ h2]at he;exact KeqHits.hit (k:=q.1) (by rw[<- v2.1];exact e) he (wN ok hu rb t λp' gi=>h p' (XF _ gi))
theorem wQ:∀{kvs:List (Key×D)},(kvs.map (·.1)).Nodup->∀p∈kvs,aT kvs p.1=some p.2
 |q::r,nd,p,h=>by
  rw[XJ,ZA]at nd;unfold aT;rw[Zr];rcases List.mem_cons.mp h with e |h
  ·subst e;simp
  ·have:¬q.1=p.1:=λe=>nd.1 (e ▸ List.mem_map.mpr ⟨p,h,rfl⟩);simp only[this,decide_false];exact wQ nd.2 p h
theorem wR:∀{ds:List D},aJ ds=true->∀d∈ds,ax d=true/\aM d<=aR ds
 |x::r,h,d,hd=>by
  rw[aJ,XD]at h;rw[aR];rcases List.mem_cons.mp hd with e |hd
  ·subst e;exact⟨h.1,Zf _ _⟩
  ·obtain⟨h1,h2⟩:=wR h.2 d hd;exact⟨h1,XG h2 (Y8 _ _)⟩
theorem Fd (ok:aK G F M s.heap) (hu:A.units+62<cLine) {d:D}{u v:Value} (h:jA d) (r1:ab G F d u) (r2:ab G F d v):wL G.P G.w A s u v:=by
 cases d with
 |ao ks ds=>
  obtain⟨k1,k2⟩:=h;rw[ab]at r1 r2;have bV:∀{u:Value},(∃a o us,u=.ref a/\F a=some (.dat o)/\kr G o ks us/\(a == sysModules)=false/\ah G F ds us)->∃a vs,u=.ref a/\(a == sysModules)=false/\KV G F (ks.zip ds) vs/\s.heap.DictOf (bE G.P G.w) a vs/\((ks.zip ds).map (·.1)).Nodup:=by
   rintro u ⟨a,o,us,e,h1,h2,h4,h3⟩;obtain⟨es,ep,g1,g2,g3⟩:=h2.bV;refine⟨a,_,e,h4,KV.zip h3,⟨o,es,ep,ok.fz a _ h1,h2.ex,g1,g2,g3,?_⟩,?_⟩
   ·rw[List.map_fst_zip (ZG h2.len.symm)];exact h2.nd
   ·rw[List.map_fst_zip (ZG (by rw[h3.len,h2.len]))];exact h2.nd
  obtain⟨a,va,rfl,n1,Vp,da,nd⟩:=bV r1;obtain⟨b,vb,rfl,n2,rb,TX,_⟩:=bV r2;intro E Q q;unfold eqBool;refine Yv ?_;refine Zj (λ_=>?_) (λ_=>?_)
  ·exact Xy (M:=model G.P G.w) (E:=E) q
  have Fa:va.length=vb.length:=by rw[<- Vp.length,<- rb.length]
  refine Xv (keq_eq (knd:=bE G.P G.w) n1 n2 da TX (by lia) (r:=true) (λ_=>wN ok (by show A.units+1+60<cLine;lia) rb Vp λp hp=>⟨wQ nd p hp,?_⟩) ?_)
  ·obtain⟨h1,h2⟩:=wR k1 p.2 (Zd hp).2;exact⟨h1,XG h2 k2⟩
  rw[Fa];refine Zt ?_;simpa using q
 |_=>exact h.elim
end
theorem Fe {X:Cx} (hu:X.A.units+110<cLine) {τ:St} {z:Z}{ds:List D}{v u:Value}{R:Value->Shared->Prop} (I:ae X τ z) (r1:ab X.G z.F (.lst ds) v) (r2:ab X.G z.F (.lst ds) u) (h:∀d∈ds,jA d) (q:R (.bool false) z.s):W X (compareOp .NotEq v u) R z.s:=by
 obtain⟨a,us,n,rfl,l⟩:=I.f7 r1;obtain⟨b,vs,m,rfl,l'⟩:=I.f7 r2;have l1:us.toArray.size=ds.length:=by rw[Xz,l.r.len]
 have l2:vs.toArray.size=ds.length:=by rw[Xz,l'.r.len]
 obtain⟨⟨cls,dd,data,sl⟩,ho,hc,n,hd⟩:=id l.p.isList;obtain⟨⟨vY,f8,vZ,kT⟩,ef,fC,n2,gL⟩:=id l'.p.isList;simp only at hc hd fC gL;subst hc hd fC gL;refine wpAny_richCompare_same_room (op:=.NotEq) ⟨_,ho,rfl⟩ ⟨_,ef,rfl⟩ F.slot_list_ne (call_meetsIn F.slot_list_ne ⟨_,ho,rfl⟩ F.entry_list_ne (F.args_list_ne_2 _ _) (Fc (P:=X.G.P) (w:=X.G.w) (by rw[l1,l2])) ⟨ho,ef,λj h1 h2=>?_,?_⟩) (by lia)
 ·have g:j<ds.length:=by rw[<- l1];exact h1
  obtain⟨u1,e1,q1⟩:=fA l.r (XB g);obtain⟨u2,e2,q2⟩:=fA l'.r (XB g);rw[(Array.getElem?_eq_some_iff.mp e1).2,(Array.getElem?_eq_some_iff.mp e2).2];exact Fd I.hok (by show X.A.units+1+62<cLine;lia) (h _ (List.getElem_mem g)) q1 q2
 ·exact⟨λz=>(nomatch z),q⟩
end N
end
section
set_option maxHeartbeats 1000000
namespace N
open PySem PySem.Spec PyProof.Rows L2
section
variable {X:Cx}
theorem ah.wU {G:Gx}{F:Fz}{ds:List D}{us:List Value} (r:ah G F ds us):∀k:Nat,ah G F (Yz k ds).flatten (Yz k us).flatten
 | 0=>.nil
 |k+1=>by rw[ZS,ZS,List.flatten_cons,List.flatten_cons];exact r.app (ah.wU r k)
theorem Ff:O2 X (binaryOp .Mult) qt:=fun τ z Q R d e v u I r1 r2 q k=>by
 have lst:∀{d:D},ab X.G z.F d v->(bp d z.M λds=>b9 e λk=>-(2 ^ 63)<=k/\k<2 ^ 63/\ds.length * k.toNat<=sizeLine/\bZ (Yz k.toNat ds).flatten z.M Q)->W X (binaryOp .Mult v u) R z.s:=λr1 q=>by
  obtain⟨a,ds,us,n,rfl,l,q⟩:=I.bp r1 q;obtain⟨j,t,rfl,h1,h2,hz,q⟩:=cY q r2;have hlen:us.toArray.size * j.toNat<=sizeLine:=by rw[Xz,<- l.r.len];exact hz
  have Fh:¬us.toArray.size * j.toNat > (2 ^ 63-1) / 8:=by
   have:(sizeLine:Nat)<=(2 ^ 63-1) / 8:=(by decide);lia
  have pR:¬(!Builtin.List.listFitsIndex j)=true:=by rw[fitsIndex_both h1 h2];exact Yo
  have kY:¬YW (us.toArray.size * j.toNat)=true:=by rw[qn hlen];exact Yo
  have Fi:List.foldl (λx1 x2=>x1++x2) #[] (Yz (if us.toArray.isEmpty=true then 0 else j.toNat) us.toArray)=(Yz j.toNat us).flatten.toArray:=by
   have f0:∀m:Nat,List.foldl (λx1 x2=>x1++x2) #[] (Yz m us.toArray)=(Yz m us).flatten.toArray:=λm=>by
    have:=wj us m [];rw[List.nil_append]at this;exact this
   rw[f0];cases us with
   |nil=>simp
   |cons a r'=>rw[if_neg (by simp)]
  refine wpAny_binaryOp_repeat_ref (T:="list") (U:="int") (by decide) ⟨_,l.e,rfl⟩ (λs'=>typeIs_int s' j t) noFill_list_mul F.fills_int_mul F.slot_int_rmul repeat_list F.slot_int_index.lookup
   (call_meets F.slot_int_rmul (typeIs_int z.s j t) F.entry_int_rmul (F.args_int_rmul_2 _ _) (int___rmul___int_list j t a us.toArray n)
    ⟨l.e,rfl,⟨_,l.e,rfl⟩,call_meets F.slot_list_mul ⟨_,l.e,rfl⟩ F.entry_list_mul (F.args_list_mul_2 _ _) (AutoListH.list___mul___list_int_3 a us.toArray n j t pR Fh kY) ⟨l.e,?_⟩⟩)
  rw[Fi];exact I.lst (t:=z.s.toks) (n:=0) k Le.rfl (l.r.wU j.toNat) (λb o e=>Xw _ e) (XC _) (XA _ rfl) (by rw[ED,Nat.mul_comm,<- l.r.len];exact hz) q
 unfold qt at q;cases d with
 |int i=>
  rw[ab]at r1;obtain⟨t,rfl⟩:=r1;obtain⟨j,t',rfl,hc,q⟩:=cY q r2;exact mul_int (I.fin k Le.rfl ck q _) (hc.elim (·.ok) λh=>.of_bits (wg h.1) (wg h.2))
 |lst ds=>exact lst r1 q
 |ref a=>exact lst r1 q
 |_=>exact q.elim
theorem nF {f:Value->Value->Sem Value}:O2 X f λ_ _ _ _=>False:=λ_ _ _ _ _ _ _ _ _ _ _ q _=>q.elim
theorem Fj:∀o:Operator,O2 X (binaryOp o) (wF o)
 |.Add=>E5
 |.Sub=>wG λ_ _ _ _ _ _ _ q=>sub_int q
 |.Mult=>Ff
 |.FloorDiv=>kW λi j _ _ _ _ _ hc q=>by
  have h1:(0:Int)<j:=hc.1;have h2:j<2 ^ 200:=hc.2;have h3:j.natAbs<2 ^ 200:=by lia
  exact floordiv_int (by lia) (by rw[Int.fdiv_eq_ediv_of_nonneg i (by lia)];exact q) (.inl (PyProof.noPylong_of_log2 (XW ((Nat.log2_lt (by lia)).mpr h3) (by decide))))
 |.Mod=>kW λi j _ _ _ _ _ hc q=>mod_int' (by lia) (by rw[Int.fmod_eq_emod_of_nonneg i (by lia)];exact q)
 |.Pow=>kW λ_ _ _ _ _ _ _ hc q=>pow_int_small hc.1 hc.2.1 hc.2.2 q
 |.LShift=>kW λ_ _ _ _ _ _ _ hc q=>lshift_int_small hc.1 hc.2.1 hc.2.2 q
 |.RShift=>kW λi j _ _ _ _ _ hc q=>rshift_int hc (by rw[Int.fdiv_eq_ediv_of_nonneg i (EA _)];exact q)
 |.BitAnd=>wG λ_ _ _ _ _ _ _ q=>and_int q
 |.MatMult=>nF
 |.Div=>nF
 |.BitOr=>nF
 |.BitXor=>nF
noncomputable def wV:D->Bool
 |.lst []=>true
 |_=>false
inductive dI (ne:Bool) (x y:D) (M:Mp) (k:Bool->Prop):Prop
 |mk (h:(ax (cb x M)=true/\ax (cb y M)=true/\aM (cb x M)<=100)\/((qk (cb x M)).isSome=true/\wV (cb y M)=true)) (q:k (aD (cb x M) (cb y M)))
 |dd (n:ne=true) (ds:List D) (hx:x=.lst ds) (hy:y=.lst ds) (h:∀d∈ds,jA d) (q:k true)
noncomputable def cC (x:D) (ds:List D):Bool:=ds.any λd=>aD d x
def wW (x y:D) (M:Mp) (k:Bool->Prop):Prop:=match y with
 |.ao _ _=>cB y M λkvs=>dX x λc=>k (aT kvs c).isSome
 |.str b=>match x with
  |.str a=>k (!(Builtin.Str.occurrences b a 0 b.length 1).isEmpty)
  |_=>False
 |.ref a=>(∃kvs,M a=some (.ao kvs)/\dX x λc=>k (aT kvs c).isSome)\/∃ds,M a=some (.lst ds)/\ax x=true/\aJ ds=true/\aR ds<=100/\k (cC x ds)
 |y=>dG y M λds=>ax x=true/\aJ ds=true/\aR ds<=100/\k (cC x ds)
structure dJ (x y:D) (M:Mp) (k:Bool->Prop):Prop where
 h:wW x y M k
def nG (x y:D) (k:Bool->Prop):Prop:=match y with
 |.aj=>k (nu x)
 |_=>False
def qy (x y:D) (k:Bool->Prop):Prop:=match x with
 |.int i=>b9 y λj=>k (decide (i<j))
 |.str i=>match y with
  |.str j=>k (decide (i.cps.toList<j.cps.toList))
  |_=>False
 |_=>False
def nH (x y:D) (k:Int->Int->Prop):Prop:=b9 x λi=>b9 y λj=>k i j
def jB:CmpOp->D->D->Mp->(Bool->Prop)->Prop
 |.Eq=>λx y M k=>dI false x y M k
 |.NotEq=>λx y M k=>dI true x y M λb=>k (!b)
 |.Lt=>λx y M k=>qy x y k
 |.LtE=>λx y M k=>nH x y λi j=>k (decide (i<=j))
 |.Gt=>λx y M k=>nH x y λi j=>k (decide (j<i))
 |.GtE=>λx y M k=>nH x y λi j=>k (decide (j<=i))
 |.In=>λx y M k=>dJ x y M k
 |.NotIn=>λx y M k=>dJ x y M λb=>k (!b)
 |.Is=>λx y _ k=>nG x y k
 |.IsNot=>λx y _ k=>nG x y λb=>k (!b)
end
def OC (X:Cx) (f:Value->Value->Sem Value) (r:D->D->Mp->(Bool->Prop)->Prop):Prop:=∀ τ z (k:Bool->Prop) R d e v u,ae X τ z->ab X.G z.F d v->ab X.G z.F e u->r d e z.M k->(∀b t,k b->R (.bool b) { z.s with toks:=t })->W X (f v u) R z.s
def wX (r:D->D->Mp->(Bool->Prop)->Prop) (ta tb:DE):DE:=fun τ M q=>ta τ M λx M1=>tb τ M1 λy M2=>r x y M2 λb=>q (.bl b) M2
def wY (r:D->D->Mp->(Bool->Prop)->Prop) (ta tb:DE):DT:=fun τ M q=>ta τ M λx M1=>tb τ M1 λy M2=>r x y M2 λb=>q b M2
section
variable {X:Cx}{a b:Expr}{ta tb:DE}{pos:Pos}
theorem Fl {o:CmpOp}{r:D->D->Mp->(Bool->Prop)->Prop} (ho:OC X (compareOp o) r) (ha:PE X a ta) (hb:PE X b tb) (hm:behindInMarks o b=false):PE X (.Compare a [o] [b] pos) (wX r ta tb):=fun τ z Q R I h k=>
 wpAny_Compare1 (ha τ z _ _ I h λx z1 v l1 I1 r1 q1=>hb τ z1 _ _ I1 q1 λy z2 u l2 I2 r2 q2=>ho τ z2 _ _ x y v u I2 (r1.up l2.d) r2 q2 λb t q=>I2.fin k (l1.tr l2) kC q t) hm
theorem Fm {o:CmpOp}{r:D->D->Mp->(Bool->Prop)->Prop} (ho:OC X (compareOp o) r) (ha:PE X a ta) (hb:PE X b tb) (hm:behindInMarks o b=false):PT X (.Compare a [o] [b] pos) (wY r ta tb):=fun τ z Q R I h k=>
 wpAny_isTrue_Compare1 (ha τ z _ _ I h λx z1 v l1 I1 r1 q1=>hb τ z1 _ _ I1 q1 λy z2 u l2 I2 r2 q2=>ho τ z2 _ _ x y v u I2 (r1.up l2.d) r2 q2 λb t q=>Zt (k b ⟨z2.F,z2.M,{ z2.s with toks:=t }⟩ (l1.tr l2) (I2.mS t) q)) hm
end
section
variable {X:Cx}
theorem ae.wZ {τ:St} {z:Z}{d:D}{u:Value} (I:ae X τ z) (r:ab X.G z.F d u) (h:ax (cb d z.M)=true):Sh X.G z.F z.s (cb d z.M) u:=by
 cases d with
 |ref a=>
  change ax (nD a (z.M a))=true at h;show Sh X.G z.F z.s (nD a (z.M a)) u;rw[ab]at r;subst r;cases e:z.M a with
  |none=>rw[e]at h;cases h
  |some o=>cases o with
   |lst ds=>rw[e]at h;obtain⟨us,n,l⟩:=I.eO e;exact .lst l.p.isList l.r h
   |_=>rw[e]at h;cases h
 |_=>exact eP I.hok r h
theorem ae.w4 {τ:St} {z:Z}{d:D}{u:Value}{ds:List D} (I:ae X τ z) (r:ab X.G z.F d u) (h:cb d z.M=.lst ds):∃a us n,u=.ref a/\eM X.G z.F z.s.heap a ds us n:=by
 cases d with
 |ref a=>
  change nD a (z.M a)=.lst ds at h;rw[ab]at r;cases e:z.M a with
  |none=>rw[e]at h;cases h
  |some o=>cases o with
   |lst es=>rw[e]at h;cases h;obtain⟨us,n,l⟩:=I.eO e;exact⟨a,us,n,r,l⟩
   |_=>rw[e]at h;cases h
 |lst es=>cases h;exact I.f7 r
 |_=>cases h
theorem w5 (hu:X.A.units+110<cLine) {τ:St} {z:Z}{d e:D}{v u:Value}{k:Bool->Prop} (I:ae X τ z) (r1:ab X.G z.F d v) (r2:ab X.G z.F e u) (h:(ax (cb d z.M)=true/\ax (cb e z.M)=true/\aM (cb d z.M)<=100)\/((qk (cb d z.M)).isSome=true/\wV (cb e z.M)=true)) (q:k (aD (cb d z.M) (cb e z.M))):∃b,SeqAt.RcAt X.A z.s v u b/\SeqAt.RcNeAt X.A z.s v u (!b)/\k b:=by
 rcases h with ⟨h1,h2,h3⟩ |⟨h1,h2⟩
 ·have c:=Ez (A:=X.A) (n:=100) I.hok (I.wZ r1 h1) (I.wZ r2 h2) (Nat.le_succ_of_le h3) (by lia);exact⟨_,c.1,c.2,q⟩
 ·cases e1:cb d z.M with
  |lst ds=>cases e2:cb e z.M with
   |lst es=>cases es with
    |nil=>
     obtain⟨a,us,n,rfl,l⟩:=I.w4 r1 e1;obtain⟨b,vs,n',rfl,l'⟩:=I.w4 r2 e2;have:=l'.r;rw[ah]at this;subst this;rw[e1,e2]at q;cases ds with
     |nil=>
      have:=l.r;rw[ah]at this;subst this;exact⟨true,SeqAt.RcAt.lists (e:=λ_=>true) l.p.isList l'.p.isList rfl (by lia) λj h1=>absurd h1 (Nat.not_lt_zero j),SeqAt.RcNeAt.lists (e:=λ_=>true) l.p.isList l'.p.isList rfl (by lia) λj h1=>absurd h1 (Nat.not_lt_zero j),q⟩
     |cons d ds=>
      have:=l.r;rw[ah]at this;obtain⟨u,us,rfl,_⟩:=this;exact⟨false,SeqAt.RcAt.lists_lengths l.p.isList l'.p.isList (by simp) (by lia),SeqAt.RcNeAt.lists_lengths l.p.isList l'.p.isList (by simp) (by lia),q⟩
    |cons _ _=>rw[e2]at h2;cases h2
   |_=>rw[e2]at h2;cases h2
  |_=>rw[e1]at h1;cases h1
theorem Fs (hu:X.A.units+110<cLine):OC X (compareOp .Eq) (jB .Eq):=fun τ z k R d e v u I r1 r2 q K=>by
 cases q with
 |mk h q=>
  obtain⟨b,h1,_,q⟩:=w5 hu I r1 r2 h q;exact h1 _ _ _ _ (K b z.s.toks q)
 |dd n=>cases n
theorem Ft (hu:X.A.units+110<cLine):OC X (compareOp .NotEq) (jB .NotEq):=fun τ z k R d e v u I r1 r2 q K=>by
 cases q with
 |mk h q=>
  obtain⟨b,_,h1,q⟩:=w5 (k:=λb=>k (!b)) hu I r1 r2 h q;exact h1 _ _ _ _ (K (!b) z.s.toks q)
 |dd n ds hx hy h q=>subst hx;subst hy;exact Fe hu I r1 r2 h (K false z.s.toks q)
open Classical in
theorem Fu {τ:St} {z:Z}{x:D}{v:Value}{ds:List D}{us:List Value} (hu:X.A.units+110<cLine) (I:ae X τ z) (r:ab X.G z.F x v) (rs:ah X.G z.F ds us) (h1:ax x=true) (h2:aJ ds=true) (h3:aR ds<=100) :
  ∃e:Value->Bool,(∀y,y∈us.toArray->SeqAt.EqAt X.A.in1 z.s y v (e y))/\us.toArray.any e=cC x ds:=by
 have key:∀{d:D}{y:Value},ab X.G z.F d y->ax d=true->decide (∃d',ab X.G z.F d' y/\ax d'=true/\aD d' x=true)=aD d x:=λ{d y} r k=>by
  rw[YT,decide_eq_true_eq];exact⟨λ⟨d',a,b,c⟩=>by rw[vQ d r a k b];exact c,λc=>⟨d,r,k,c⟩⟩
 refine⟨λy=>decide (∃d',ab X.G z.F d' y/\ax d'=true/\aD d' x=true),λy hy=>?_,?_⟩
 ·obtain⟨i,hi⟩:=List.getElem?_of_mem (by simpa using hy:y∈us);have hl:i<ds.length:=by rw[rs.len];exact (List.getElem?_eq_some_iff.mp hi).1
  obtain⟨V',e,q⟩:=rs.get (XB hl);rw[hi]at e;cases e;have m:=ju h2 (XB hl);show SeqAt.EqAt X.A.in1 z.s y v (decide (∃d',ab X.G z.F d' y/\ax d'=true/\aD d' x=true));rw[key q m.1];exact kR 100 I.hok (eP I.hok q m.1) (eP I.hok r h1) (XG m.2 h3) (by show X.A.units+1+100<cLine;lia)
 ·rw[show us.toArray.any (λy=>decide (∃d',ab X.G z.F d' y/\ax d'=true/\aD d' x=true))=us.any (λy=>decide (∃d',ab X.G z.F d' y/\ax d'=true/\aD d' x=true)) by simp];clear h3;unfold cC
  induction ds generalizing us with
  |nil=>rw[ah]at rs;subst rs;rfl
  |cons d ds ih=>
   rw[ah]at rs;obtain⟨u,us,rfl,q1,q2⟩:=rs;rw[aJ,XD]at h2;rw[ZK,ZK,key q1 h2.1,ih q2 h2.2]
theorem w6 (hu:X.A.units+110<cLine) {τ:St} {z:Z}{d e:D}{v u:Value}{k:Bool->Prop} (I:ae X τ z) (r1:ab X.G z.F d v) (r2:ab X.G z.F e u) (h:dJ d e z.M k):∃b,k b/\(∀Q E:Value->Shared->Prop,(∀t,Q (.bool b) { z.s with toks:=t })->wpAny (model X.G.P X.G.w) X.A (compareOp .In v u) Q E z.s)/\∀Q E:Value->Shared->Prop,(∀t,Q (.bool (!b)) { z.s with toks:=t })->wpAny (model X.G.P X.G.w) X.A (compareOp .NotIn v u) Q E z.s:=by
 have ao:∀{e:D},ab X.G z.F e u->(cB e z.M λkvs=>dX d λc=>k (aT kvs c).isSome)->∃b,k b/\(∀Q E:Value->Shared->Prop,(∀t,Q (.bool b) { z.s with toks:=t })->wpAny (model X.G.P X.G.w) X.A (compareOp .In v u) Q E z.s)/\∀Q E:Value->Shared->Prop,(∀t,Q (.bool (!b)) { z.s with toks:=t })->wpAny (model X.G.P X.G.w) X.A (compareOp .NotIn v u) Q E z.s:=λr2 q=>by
  obtain⟨a,kvs,vs,rfl,l,q⟩:=I.cB r2 q;obtain⟨c,hc,q⟩:=jz (P:=X.G.P) (w:=X.G.w) q r1;have e:=(l.r.val c).so;exact⟨_,q,λQ E h=>wpAny_in_of hc l.n l.d.mapOf (by rw[<- e];exact h _),λQ E h=>wpAny_notIn_of hc l.n l.d.mapOf (by rw[<- e];exact h _)⟩
 have seq:∀{ds:List D}{us:List Value}{a:Addr},ah X.G z.F ds us->u=.ref a->(z.s.heap.IsList a us.toArray\/z.s.heap.IsTuple a us.toArray)->ax d=true/\aJ ds=true/\aR ds<=100/\k (cC d ds)->∃b,k b/\(∀Q E:Value->Shared->Prop,(∀t,Q (.bool b) { z.s with toks:=t })->wpAny (model X.G.P X.G.w) X.A (compareOp .In v u) Q E z.s)/\∀Q E:Value->Shared->Prop,(∀t,Q (.bool (!b)) { z.s with toks:=t })->wpAny (model X.G.P X.G.w) X.A (compareOp .NotIn v u) Q E z.s:=λrs Wa hs q=>by
  subst Wa;obtain⟨f,f1,f2⟩:=Fu hu I r1 rs q.1 q.2.1 q.2.2.1;refine⟨_,q.2.2.2,λQ E h=>?_,λQ E h=>?_⟩
  ·rcases hs with hs |hs
   ·exact SeqAt.in_listAt f hs f1 (by rw[f2];exact h z.s.toks)
   ·exact SeqAt.in_tupleAt f hs f1 (by rw[f2];exact h z.s.toks)
  ·rcases hs with hs |hs
   ·exact SeqAt.notIn_listAt f hs f1 (by rw[f2];exact h z.s.toks)
   ·exact SeqAt.notIn_tupleAt f hs f1 (by rw[f2];exact h z.s.toks)
 replace h:=h.h;unfold wW at h;cases e with
 |ao ks ds=>exact ao r2 h
 |str b=>cases d with
  |str a=>
   rw[ab]at r1 r2;obtain⟨t,rfl⟩:=r1;obtain⟨t',rfl⟩:=r2;exact⟨_,h,λQ E q=>in_str (q z.s.toks),λQ E q=>notIn_str (q z.s.toks)⟩
  |_=>exact h.elim
 |ref a=>
  rcases h with h |⟨ds,h1,h⟩
  ·exact ao (e:=.ref a) r2 h
  ·rw[ab]at r2;obtain⟨us,n,l⟩:=I.eO h1;exact seq l.r r2 (.inl l.p.isList) h
 |lst ds=>obtain⟨a,us,n,e,l⟩:=I.f7 r2;exact seq l.r e (.inl l.p.isList) h
 |tup ds=>obtain⟨a,us,o,e,l⟩:=I.cX r2;exact seq l.r e (.inr l.p) h
 |_=>exact h.elim
theorem w8 {G:Gx}{F:Fz}{d:D}{u:Value} (r:ab G F d u):(u == YE)=nu d:=by
 cases d with
 |aj=>rw[ab]at r;subst r;rfl
 |bl _=>rw[ab]at r;subst r;rfl
 |int _=>rw[ab]at r;obtain⟨t,rfl⟩:=r;rfl
 |str _=>rw[ab]at r;obtain⟨t,rfl⟩:=r;rfl
 |ref _=>rw[ab]at r;subst r;rfl
 |ty _=>rw[ab]at r;subst r;rfl
 |tup _=>rw[ab]at r;obtain⟨_,_,_,rfl,_⟩:=r;rfl
 |lst _=>rw[ab]at r;obtain⟨_,_,_,rfl,_⟩:=r;rfl
 |ao _ _=>rw[ab]at r;obtain⟨_,_,_,rfl,_⟩:=r;rfl
theorem w9 {G:Gx}{F:Fz}{x y:D}{k:Bool->Prop}{u:Value} (h:nG x y k) (r:ab G F y u):u=.none/\k (nu x):=by
 unfold nG at h;split at h
 ·rw[ab]at r;exact⟨r,h⟩
 ·exact h.elim
theorem qz {o:CmpOp}{f:Int->Int->Bool} (rule:∀(i j:Int) (t u:Tok) (s:Shared) (Q E:Value->Shared->Prop),Q (.bool (f i j)) s->wpAny (model X.G.P X.G.w) X.A (compareOp o (.int i t) (.int j u)) Q E s):OC X (compareOp o) (λx y _ k=>nH x y λi j=>k (f i j)):=fun τ z k R d e v u I r1 r2 q K=>by
 obtain⟨i,t,rfl,q⟩:=cY q r1;obtain⟨j,t',rfl,q⟩:=cY q r2;exact rule i j t t' z.s _ _ (K _ z.s.toks q)
theorem w' (hu:X.A.units+110<cLine):∀o:CmpOp,OC X (compareOp o) (jB o)
 |.Eq=>Fs hu
 |.NotEq=>Ft hu
 |.In=>fun τ z k R d e v u I r1 r2 q K=>by
  obtain⟨b,q,h,_⟩:=w6 hu I r1 r2 q;exact h _ _ λt=>K b t q
 |.NotIn=>fun τ z k R d e v u I r1 r2 q K=>by
  obtain⟨b,q,_,h⟩:=w6 (k:=λb=>k (!b)) hu I r1 r2 q;exact h _ _ λt=>K (!b) t q
 |.Lt=>fun τ z k R d e v u I r1 r2 q K=>by
  replace q:qy d e k:=q;unfold qy at q;cases d with
  |int i=>
   rw[ab]at r1;obtain⟨t,rfl⟩:=r1;obtain⟨j,t',rfl,q⟩:=cY q r2;exact lt_int (K _ z.s.toks q)
  |str i=>cases e with
   |str j=>
    rw[ab]at r1 r2;obtain⟨t,rfl⟩:=r1;obtain⟨t',rfl⟩:=r2;exact lt_str (K _ z.s.toks q)
   |_=>exact q.elim
  |_=>exact q.elim
 |.LtE=>qz λ_ _ _ _ _ _ _ q=>le_int q
 |.Gt=>qz λ_ _ _ _ _ _ _ q=>gt_int q
 |.GtE=>qz λ_ _ _ _ _ _ _ q=>ge_int q
 |.Is=>fun τ z k R d e v u I r1 r2 q K=>by
  obtain⟨rfl,q⟩:=w9 q r2;exact is_none_gen (by rw[w8 r1];exact K _ z.s.toks q)
 |.IsNot=>fun τ z k R d e v u I r1 r2 q K=>by
  obtain⟨rfl,q⟩:=w9 (k:=λb=>k (!b)) q r2;exact isnot_none_gen (by rw[w8 r1];exact K _ z.s.toks q)
end
end N
end
section
set_option maxHeartbeats 1000000
namespace N
open PySem PySem.Spec PyProof.Rows L2
def xc (x:D) (M:Mp) (k:Bool->Prop):Prop:=match x with
 |.aj=>k false
 |.bl b=>k b
 |.int i=>k (i != 0)
 |.str y=>y.length<=sizeLine/\k ((y.length:Int) != 0)
 |.tup ds=>k (!ds.isEmpty)
 |.lst ds=>k (!ds.isEmpty)
 |.ao ks ds=>k (!(ks.zip ds).isEmpty)
 |.ref p=>(∃xs,M p=some (.lst xs)/\k (!xs.isEmpty))\/∃kvs,M p=some (.ao kvs)/\k (!kvs.isEmpty)
 |_=>False
section
variable {X:Cx}{a b:Expr}{ta tb:DE}{pos:Pos}
theorem xd {G:Gx}{F:Fz}{ds:List D}{us:List Value} (r:ah G F ds us):(!us.toArray.isEmpty)=!ds.isEmpty:=by
 cases ds with
 |nil=>rw[ah]at r;subst r;rfl
 |cons d ds=>rw[ah]at r;obtain⟨u,us,rfl,_⟩:=r;rfl
theorem gN {n:Nat} (h:n<=sizeLine):(n:Int)<2 ^ 63:=by have:=nA;lia
theorem Fv {τ:St} {z:Z}{d:D}{v:Value}{k:Bool->Prop}{R:Bool->Shared->Prop} (I:ae X τ z) (r:ab X.G z.F d v) (h:xc d z.M k) (K:∀b t,k b->R b { z.s with toks:=t }):W X (truthy v) R z.s:=by
 have hl:=nA;have lst:∀{ds:List D}{us:List Value}{a:Addr}{n:Nat},eM X.G z.F z.s.heap a ds us n->k (!ds.isEmpty)->W X (truthy (.ref a)) R z.s:=λl q=>wpAny_truthy_list l.p.isList (by rw[Xz];exact gN l.z) (by rw[xd l.r];exact K _ _ q);have ao:∀{kvs:List (Key×D)}{vs:List (Key×Value)}{a:Addr},jx X.G z.F z.s.heap a kvs vs->k (!kvs.isEmpty)->W X (truthy (.ref a)) R z.s:=λ{kvs vs a} l q=>by
  have e:kvs.isEmpty=vs.isEmpty:=by have:=l.r;unfold KV at this;cases this <;> rfl
  have e2:kvs.length=vs.length:=Paired.length l.r;exact wpAny_truthy_dict l.n l.d (by rw[<- e2];exact gN l.z) (by rw[<- e];exact K _ _ q)
 cases d with
 |aj=>rw[ab]at r;subst r;exact truthy_none (K _ z.s.toks h)
 |bl b=>rw[ab]at r;subst r;exact Zt (K _ z.s.toks h)
 |int i=>rw[ab]at r;obtain⟨t,rfl⟩:=r;exact PySem.P.truthy_int (K _ z.s.toks h)
 |str y=>rw[ab]at r;obtain⟨t,rfl⟩:=r;exact PySem.P.truthy_str (Int.not_le.mpr (gN h.1)) (K _ _ h.2)
 |tup ds=>obtain⟨a,us,o,rfl,l⟩:=I.cX r;exact truthy_tuple l.p (by rw[Xz];exact gN l.t.len) (by rw[xd l.r];exact K _ _ h)
 |lst ds=>obtain⟨a,us,n,rfl,l⟩:=I.f7 r;exact lst l h
 |ao ks ds=>obtain⟨a,kvs,vs,rfl,l,h⟩:=I.cB (k:=λkvs=>k (!kvs.isEmpty)) r h;exact ao l h
 |ref a=>
  rw[ab]at r;subst r;rcases h with ⟨xs,h1,h2⟩ |⟨kvs,h1,h2⟩
  ·obtain⟨us,n,l⟩:=I.eO h1;exact lst l h2
  ·obtain⟨vs,l⟩:=I.jy h1;exact ao l h2
 |ty _=>exact h.elim
def xf (ta:DE):DT:=fun τ M q=>ta τ M λx M1=>xc x M1 λb=>q b M1
theorem Fw (h:PE X a ta) (he:∀ia,isTrue a X.env ia=(do let v <- ia;standAt a.pos;holding [v] (truthy v))):PT X a (xf ta):=fun τ z Q R I q k=>
 isTrue_plain (h τ z _ _ I q λd z1 u l1 I1 r1 q1=>Fv I1 r1 q1 λb t q=>k b ⟨z1.F,z1.M,{ z1.s with toks:=t }⟩ l1 (I1.mS t) q) (he _)
def aG:Q2:=λx y M Q=>match x with
 |.str w=>b9 y λi=>w.length<=sizeLine/\∃c,cM w.cps.toList i=some c/\Q (.str ⟨#[c]⟩) M
 |.tup ds=>b9 y λi=>∃d,cM ds i=some d/\Q d M
 |.lst ds=>b9 y λi=>∃d,cM ds i=some d/\Q d M
 |.ao ks ds=>dX y λc=>∃d,aT (ks.zip ds) c=some d/\Q d M
 |.ref a=>(∃ds,M a=some (.lst ds)/\b9 y λi=>∃d,cM ds i=some d/\Q d M)\/∃kvs,M a=some (.ao kvs)/\dX y λc=>∃d,aT kvs c=some d/\Q d M
 |_=>False
theorem Fx (ha:PE X a ta) (hb:PE X b tb) (hs:∀o i,subscripted b false o i=operate [o,i] (getItem o i)):PE X (.Subscript a b pos) (mV aG ta tb):=fun τ z Q R I h k=>
 Subscript_ (ha τ z _ _ I h λx z1 v l1 I1 r1 q1=>hb τ z1 _ _ I1 q1 λy z2 u l2 I2 r2 q2=>by
  have hs:=hs v u;have r1:=r1.up l2.d;have l:=l1.tr l2;have hn:=nA;have lst:∀{ds:List D}{us:List Value}{c:Addr}{n:Nat},v=.ref c->eM X.G z2.F z2.s.heap c ds us n->(b9 y λi=>∃d,cM ds i=some d/\Q d z2.M)->W X (subscriptTail a b v u) R z2.s:=λ{ds us c n} e p q=>by
   subst e;obtain⟨i,t,rfl,d,hd,q⟩:=cY q r2;obtain⟨j,h1,h2,h3,h4,h5⟩:=qm hd;obtain⟨w,UG,iz⟩:=p.r.get h2;have hl:=p.r.len;have hz:=p.z;have fin:=k d z2 w l I2 iz q;by_cases h0:0<=i
   ·have hj:i.toNat=j:=(by rw[seqIndex_of h0 h5]at h1;exact Ym h1);exact item_listR p.p.isList h0 (by lia) (by rw[hj];simpa using UG) fin hs
   ·have hj:(i+(us.toArray.size:Int)).toNat=j:=by
     rw[seqIndex_neg (by lia) h4]at h1;rw[Xz,<- hl];exact Ym h1
    exact subscriptTail_builtinR (x:=w) p.p.isList.typeIs slot_list_getitem.lookup (wpAny_getItem_list_neg (Q:=λr s'=>r=w/\R r s') p.p.isList (by lia) (by rw[Xz];lia) (by lia) (by rw[hj];simpa using UG) ⟨rfl,fin⟩) hs
  have ao:∀{kvs:List (Key×D)}{vs:List (Key×Value)}{c:Addr},v=.ref c->jx X.G z2.F z2.s.heap c kvs vs->(dX y λc=>∃d,aT kvs c=some d/\Q d z2.M)->W X (subscriptTail a b v u) R z2.s:=λ{kvs vs c} e p q=>by
   subst e;obtain⟨c',hc,d,hd,q⟩:=jz (P:=X.G.P) (w:=X.G.w) q r2;have hv:=p.r.val c';rw[hd]at hv;cases e:valueAt vs c' with
   |none=>rw[e]at hv;exact hv.elim
   |some w=>
    rw[e]at hv;exact tail_any (ops:=[.ref c,u]) p.d.typeIs PySem.F.slot_dict_getitem.lookup (wpAny_getItem_of hc p.d.mapOf e (I2.fin k l hv q _)) hs
  cases x with
  |str w=>
   rw[ab]at r1;obtain⟨t,rfl⟩:=r1;obtain⟨i,t',rfl,hz,c,he,q⟩:=cY q2 r2;obtain⟨j,h1,h2,h3,h4,h5⟩:=qm he;have hl:w.cps.toList.length=w.length:=(by simp [Str.length]);rw[hl]at h1 h4 h5;exact tail_any (typeIs_str z2.s w t) slot_str_getitem.lookup (getItem_str (c:=c) (by
    have e1:decide (i < -(2 ^ 63:Int))=false:=decide_eq_false (by lia);have e2:decide (i ≥ 2 ^ 63)=false:=decide_eq_false (by lia);rw[e1,e2,Bool.or_false]) (by rw[h1];simpa using h2) (I2.fin k l gF q _)) hs
  |tup ds=>
   obtain⟨c,us,o,rfl,p⟩:=I2.cX r1;obtain⟨i,t,rfl,d,hd,q⟩:=cY q2 r2;obtain⟨j,h1,h2,h3,h4,h5⟩:=qm hd;obtain⟨w,UG,iz⟩:=p.r.get h2;have hl:=p.r.len;have hz:=p.t.len;exact subscriptTail_builtinR (x:=w) p.p.typeIs slot_tuple_getitem.lookup (getItem_tuple (j:=j) (Q:=λr s'=>r=w/\R r s') p.p (by lia) (by lia) (by rw[Xz,<- hl];exact h1) (by simpa using UG) ⟨rfl,k d z2 w l I2 iz q⟩) hs
  |lst ds=>obtain⟨c,us,n,e,p⟩:=I2.f7 r1;exact lst e p q2
  |ao ks ds=>obtain⟨c,kvs,vs,e,p,q⟩:=I2.cB (k:=λkvs=>dX y λc=>∃d,aT kvs c=some d/\Q d z2.M) r1 q2;exact ao e p q
  |ref c=>
   rw[ab]at r1;rcases q2 with ⟨ds,h1,h2⟩ |⟨kvs,h1,h2⟩
   ·obtain⟨us,n,p⟩:=I2.eO h1;exact lst r1 p h2
   ·obtain⟨vs,p⟩:=I2.jy h1;exact ao r1 p h2
  |_=>exact q2.elim)
def nI:QS:=λo i d M k=>match o with
 |.ref a=>(∃xs,M a=some (.lst xs)/\b9 i λn=>∃j,fD xs.length n=some j/\k (up M a (.lst (xs.set j d))))\/∃kvs,M a=some (.ao kvs)/\dX i λc=>kvs.length<sizeLine/\k (up M a (.ao (bq kvs c d)))
 |_=>False
theorem ah.set {G:Gx}{F:Fz}{d:D}{u:Value} (r:ab G F d u):∀{ds:List D}{us:List Value} (i:Nat),ah G F ds us->ah G F (ds.set i d) (us.set i u)
 |[],us,i,h=>by rw[ah]at h;subst h;exact .nil
 |c::ds,us,0,h=>by rw[ah]at h;obtain⟨v,us,rfl,_,h2⟩:=h;exact .cons r h2
 |c::ds,us,i+1,h=>by rw[ah]at h;obtain⟨v,us,rfl,h1,h2⟩:=h;exact .cons h1 (ah.set r i h2)
theorem ae.xg {τ:St} {z:Z}{p:Addr}{xs ys:List D}{us us':List Value}{n n' t:Nat}{h':Heap} (I:ae X τ z) (h:z.M p=some (.lst xs)) (sb:∀ b,b≠p->bw z.s.heap h' b) (e:h'.get? p=some (bS us' n')) (r:ah X.G z.F ys us') (hz:us'.length<=sizeLine) :
  ae X τ ⟨z.F,up z.M p (.lst ys),{ z.s with heap:=h',toks:=t }⟩:=I.put h rfl (.inl rfl) sb ⟨_,e⟩ ⟨by rw[r.len];exact hz,us',n',r,e⟩
theorem Fy (hu:X.A.units+1<cLine):OS X nI:=fun τ z o i d ov iv u Q R I ro ri rd q k=>by
 unfold nI at q;cases o with
 |ref p=>
  rw[ab]at ro;subst ro;rcases q with ⟨xs,hp,q⟩ |⟨kvs,hp,q⟩
  ·obtain⟨n,t,rfl,j,hj,q⟩:=cY q ri;obtain⟨us,m,l⟩:=I.eO hp;obtain⟨h1,h2,h3,h4⟩:=wb hj;have hl:=l.r.len;have hn:=nA;have hz:=l.z;have e:(z.s.heap.update p (Yh (·.setIfInBounds j u))).get? p=some (bS (us.set j u) m):=by
    rw[Yg _ l.e (by unfold bS;rw[we];rfl)];unfold bS;rw[we]
   have fin:R () { z.s with heap:=z.s.heap.update p (Yh (·.setIfInBounds j u)) }:=
    k ⟨z.F,_,_⟩ Le.rfl (I.xg (us:=us) (n:=m) (t:=z.s.toks) hp (λb hb o q=>(Zy _ _ (Y0 hb)).trans q) e (ah.set rd j l.r) (by rw[List.length_set];exact hz)) q
   by_cases h0:0<=n
   ·have hk:n.toNat=j:=(by rw[seqIndex_of h0 h4]at h1;exact Ym h1);exact PySem.W.ki_setAt l.e h0 (by lia) (by rw[Xz,<- hl];exact h4) (by rw[hk];exact fin)
   ·have hk:(n+(us.toArray.size:Int)).toNat=j:=by
     rw[seqIndex_neg (by lia) h3]at h1;rw[Xz,<- hl];exact Ym h1
    exact PySem.W.ki_setBack l.e (by lia) (by rw[Xz,<- hl];exact h3) (by lia) (by rw[hk];exact fin)
  ·obtain⟨c,hc,hl,q⟩:=jz (P:=X.G.P) (w:=X.G.w) q ri;obtain⟨vs,l⟩:=I.jy hp;refine wpAny_setItem_pairs (hsz:=by rw[<- Paired.length l.r];exact l.z) hc l.d λh' nJ hs=>?_;have he:∃q,h'.get? p=some q:=let ⟨q,_,_,hq,_⟩:=nJ;⟨q,hq⟩
   exact k ⟨z.F,_,_⟩ Le.rfl (I.put (o':=.ao (bq kvs c d)) hp rfl (.inl rfl) (λb hb o q=>(hs.2 b hb).trans q) he ⟨XG (wD _ _ _) hl,l.n,_,l.r.put c rd,nJ⟩) q
 |_=>exact q.elim
end
end N
end
section
set_option maxHeartbeats 1000000
namespace N
open PySem PySem.Spec PyProof.Rows L2
abbrev XQ:=pU->Mp->Prop
abbrev Sp:=List D->Mp->QK->XQ->Prop
structure jC (G:Gx) (z z':Z) (s:Shared):Prop where
 s:z'.s=s
 l:Le z.F z'.F
 ok:aK G z'.F z'.M z'.s.heap
 os:z'.s.os=z.s.os
 bare:AllBare z'.s.gens
def CR (G:Gx) (z:Z) (Q:QK) (E:XQ) (r:Result) (s:Shared):Prop:=match r with
 |.ok (.ret u)=>∃d z',jC G z z' s/\ab G z'.F d u/\Q d z'.M
 |.ok _=>False
 |.error e=>∃x z',jC G z z' s/\vd G z' x e/\E x z'.M
structure bh (G:Gx) (k:Nat) (f:Addr) (fd:FuncData) (ps:List Str) (sp:Sp):Prop where
 len:∀ds M Q E,sp ds M Q E->ds.length=ps.length
 eI:∀(A:Around) (outer:List Env) (z:Z) (args:Args) (us:List Value) (ds:List D) (Q:QK) (E:XQ),bF k A->dV G A outer z->BindsTo z.s fd args (ps.zip us)->ah G z.F ds us->sp ds z.M Q E ->
  codeAny (model G.P G.w) A (.call (.ref f) args) (CR G z Q E) z.s
section
variable {G:Gx}{F:Fz}{M:Mp}{h:Heap}{A:Around}{outer:List Env}{z z':Z}{s:Shared} (e:Fz)
theorem kr.xe {o:Obj}{ks:List Key}{us:List Value} (h:kr G o ks us):kr { G with ex:=e } o ks us:=⟨h.ex,h.bV,h.nd,h.len,h.sz⟩
mutual
theorem ab.xe:∀{d:D}{u:Value},ab G F d u->ab { G with ex:=e } F d u
 |.aj,u,h=>by rw[ab]at h ⊢;exact h
 |.bl _,u,h=>by rw[ab]at h ⊢;exact h
 |.int _,u,h=>by rw[ab]at h ⊢;exact h
 |.str _,u,h=>by rw[ab]at h ⊢;exact h
 |.ref _,u,h=>by rw[ab]at h ⊢;exact h
 |.ty _,u,h=>by rw[ab]at h ⊢;exact h
 |.tup ds,u,h=>by rw[ab]at h ⊢;obtain⟨a,o,us,q,h1,h2,h3⟩:=h;exact⟨a,o,us,q,h1,h2,h3.xe⟩
 |.lst ds,u,h=>by rw[ab]at h ⊢;obtain⟨a,o,us,q,h1,h2,h3⟩:=h;exact⟨a,o,us,q,h1,h2,h3.xe⟩
 |.ao ks ds,u,h=>by rw[ab]at h ⊢;obtain⟨a,o,us,q,h1,h2,h4,h3⟩:=h;exact⟨a,o,us,q,h1,h2.xe e,h4,h3.xe⟩
theorem ah.xe:∀{ds:List D}{us:List Value},ah G F ds us->ah { G with ex:=e } F ds us
 |[],us,h=>by rw[ah]at h ⊢;exact h
 |d::ds,us,h=>by rw[ah]at h ⊢;obtain⟨u,r,q,h1,h2⟩:=h;exact⟨u,r,q,h1.xe,h2.xe⟩
end
theorem aK.xe (x:aK G F M h):aK { G with ex:=e } F M h:=⟨x.fz,λa o q=>⟨(x.ob a o q).1,by
 have y:=(x.ob a o q).2;cases o with
 |lst xs=>obtain⟨z,us,n,r,e1⟩:=y;exact⟨z,us,n,r.xe e,e1⟩
 |ao kvs=>obtain⟨z,y,vs,r,c⟩:=y;exact⟨z,y,vs,Paired.UZ (λ_ _ r=>⟨r.1,r.2.xe e⟩) r,c⟩
 |ins C dx fs=>
  obtain⟨d,z,ne,e1,mA,e2,r1,r2⟩:=y;refine⟨d,z,ne,e1,mA,e2,λf=>?_,r2⟩;have:=r1 f;cases q1:fs.lookup f <;> cases q2:mA f <;> rw[q1,q2]at this
  ·trivial
  ·exact this
  ·exact this
  ·exact ab.xe e this
 |own V'=>exact y
 |ku ps=>exact y⟩,x.tb⟩
theorem jC.xe (x:jC G z z' s):jC { G with ex:=e } z z' s:=⟨x.s,x.l,x.ok.xe e,x.os,x.bare⟩
theorem dV.xe (x:dV G A outer z) (l:Le e z.F):dV { G with ex:=e } A outer z:=⟨x.frames,⟨x.bC.fv,x.bC.dE,x.bC.kA,x.bC.jn⟩,⟨x.bs.b,l⟩,x.cj,x.hok.xe e,x.bare⟩
theorem CR.xe {Q:QK}{E:XQ}{r:Result} (x:CR G z Q E r s):CR { G with ex:=e } z Q E r s:=by
 cases r with
 |error v=>obtain⟨y,z',h1,h2,h3⟩:=x;exact h2.elim
 |ok fl=>
  cases fl with
  |ret u=>obtain⟨d,z',h1,h2,h3⟩:=x;exact⟨d,z',h1.xe e,h2.xe e,h3⟩
  |next=>exact x
  |brk=>exact x
  |cont=>exact x
end
section
variable {G:Gx}{j k:Nat}{f:Addr}{fd:FuncData}{ps:List Str}{sp kZ:Sp}{A:Around}{outer:List Env}{z:Z}
theorem bh.mono (F:bh G j f fd ps sp) (h:j<=k):bh G k f fd ps sp:=⟨F.len,λA outer z args us ds Q E hr=>F.eI A outer z args us ds Q E (hr.mono h)⟩
theorem bh.imp (F:bh G k f fd ps sp) (h:∀ds M Q E,kZ ds M Q E->sp ds M Q E):bh G k f fd ps kZ:=
 ⟨λds M Q E q=>F.len ds M Q E (h _ _ _ _ q),λA outer z args us ds Q E hr he hb hv hs=>F.eI A outer z args us ds Q E hr he hb hv (h _ _ _ _ hs)⟩
theorem dV.qo (e:dV G A outer z) (C:Addr) (us:List Value) (kw:List (Str×Value)):dV G (A.under (.builtin "type.__call__" ⟨.ref C::us,kw⟩)) outer z:=
 ⟨by first |exact e.frames |(simpa [Around.under,Code.envs,Code.isFrame,SU] using e.frames),e.bC,e.bs,e.cj,e.hok,e.bare⟩
theorem dV.bk (e:dV G A outer z):∀b o,G.base.get? b=some o->z.s.heap.get? b=some o:=λb o q=>e.hok.fz b _ (e.bs.b b o q)
end
def qA (sp:Sp) (bg:List D) (E:XQ) (t:DA):DE:=fun τ M q=>t τ M λds M1=>sp (ds++bg) M1 q E
def dY (X:Cx) (E:XQ):Prop:=∀x τ M,E x M->X.x x τ M
def eR (X:Cx) (ds:List D) (us:List Value):Prop:=∀ τ z,ae X τ z->ah X.G z.F ds us
theorem ah.append {G:Gx}{F:Fz}{ds es:List D}{us vs:List Value} (a:ah G F ds us) (b:ah G F es vs):ah G F (ds++es) (us++vs):=by
 induction ds generalizing us with
 |nil=>rw[ah]at a;subst a;exact b
 |cons d ds ih=>rw[ah]at a;obtain⟨u,us,rfl,h1,h2⟩:=a;exact .cons h1 (ih h2)
section
variable {X:Cx}{k:Nat}{f C:Addr}{fd:FuncData}{ps:List Str}{sp:Sp}{bg:List D}{ds:List Value}{E:XQ}{x m:Str}{p pos cr:Pos}{e o:Expr}{es:List Expr}{ta:DE}{t:DA} {τ:St} {z:Z}{Q:QK}{R:Value->Shared->Prop}
theorem ae.FA {z':Z}{s:Shared} (I:ae X τ z) (h:jC X.G ⟨a3 z.F (X.aZ z.s.heap),z.M,z.s⟩ z' s):∃z2:Z,z2.s=s/\z2.M=z'.M/\Le z.F z2.F/\ae X τ z2/\cg z'.F z2.F:=by
 obtain⟨rfl,l,ok,os,bare⟩:=h;exact⟨⟨N.aQ z'.F (X.aZ z.s.heap),z'.M,z'.s⟩,rfl,rfl,Le.aQ (λb e=>(I.fZ e).2) l,I.after l ok os bare,cg.aQ X.pV l⟩
theorem xh {Q0:QK}{r:Result}{s':Shared} (hx:dY X E) (I:ae X τ z) (h:CR X.G ⟨a3 z.F (X.aZ z.s.heap),z.M,z.s⟩ Q E r s') (K:∀ u d (z2:Z),z2.s=s'->Le z.F z2.F->ae X τ z2->ab X.G z2.F d u->Q d z2.M->R u s') :
  (match (generalizing:=false) r with |.ok (.ret u)=>R u s' |.ok _=>False |.error e=>XE X e s'):=by
 cases r with
 |error e=>obtain⟨_,_,_,h,_⟩:=h;exact h.elim
 |ok fl=>
  cases fl with
  |ret u=>
   obtain⟨d,z',h,r,q⟩:=h;obtain⟨z2,e1,e2,l,J,ld⟩:=I.FA h;exact K u d z2 e1 l J (r.up ld) (by rw[e2];exact q)
  |next=>exact h.elim
  |brk=>exact h.elim
  |cont=>exact h.elim
theorem nK {K0:PySem.W.Frag}{x:Fz}{us:List Value}{vs:List D} (F:bh { X.G with ex:=x } k f fd ps sp) (hr:bF k X.A) (hb:bT K0 fd ps ds) (hd:eR X bg ds) (hx:dY X E) (I:ae X τ z) (lx:Le x (a3 z.F (X.aZ z.s.heap))) (hk:K0.In z.s.heap) (r:ah X.G z.F vs us) (h:sp (vs++bg) z.M Q E) (K:KE X τ z.F Q R):W X (call (.ref f) us) R z.s:=by
 have r2:ah X.G z.F (vs++bg) (us++ds):=r.append (hd τ z I);have hl:(us++ds).length=ps.length:=by rw[<- r2.len];exact F.len _ _ _ _ h
 refine wpAny_call (Y5 (F.eI X.A X.stk ⟨a3 z.F (X.aZ z.s.heap),z.M,z.s⟩ ⟨us,[]⟩ (us++ds) (vs++bg) Q E hr (I.pW.xe x lx) (hb z.s us hk hl) ((r2.up I.cA.d).xe x) h) λr s' hq=>?_);have:=xh (Q0:=Q) hx I (hq.xe X.G.ex) λu d z2 e l J r q=>e ▸ K d z2 u l J r q;cases r with
 |error e=>exact this
 |ok fl=>cases fl <;> exact this
theorem qB {us:List Value}{vs:List D} (F:bh X.G k f fd ps sp) (hr:bF k X.A) (hb:bT X.G.K fd ps ds) (hd:eR X bg ds) (hx:dY X E) (I:ae X τ z) (r:ah X.G z.F vs us) (h:sp (vs++bg) z.M Q E) (K:KE X τ z.F Q R):W X (call (.ref f) us) R z.s:=
 nK (x:=X.G.ex) F hr hb hd hx I (I.bs.x.tr I.cA) I.bW r h K
theorem FC (F:bh X.G k f fd ps sp) (hr:bF k X.A) (hg:Gl X x) (hm:X.G.mg x=some (.ref f)) (hk:PySem.W.keepIn X.G.K (.ref f)=true) (hb:bT X.G.K fd ps ds) (hd:eR X bg ds) (hx:dY X E)
  (ha:PA X (e::es) t) (cN:(x == ("__debug__" : Str))=false) (he:starEach (e::es) X.env=(false,eval e X.env)::starEach es X.env) (c0:(backTo pos (starEach es X.env)).any (·.1)=false) :
  PE X (.Call (.Name x p) (e::es) [] pos) (qA sp bg E t):=fun τ z Q R I h K=>
 Yw (ib I hg hm cN (PySem.W.callWith_K (h₀:=X.G.base) I.ok.bC.fv hk (ha pos τ z _ _ I h λvs z1 us l1 I1 r q=>⟨I1.bW,qB F hr hb hd hx I1 r q λd z2 u l2=>K d z2 u (l1.tr l2)⟩) he c0))
theorem FD (F:bh X.G k f fd ps sp) (hr:bF k X.A) (hg:Gl X x) (hm:X.G.mg x=some (.ref f)) (hk:PySem.W.keepIn X.G.K (.ref f)=true) (hb:bT X.G.K fd ps ds) (hd:eR X bg ds) (hx:dY X E)
  (cN:(x == ("__debug__" : Str))=false):PE X (.Call (.Name x p) [] [] pos) (qA sp bg E eK):=fun τ z Q R I h K=>
 Yw (ib I hg hm cN (PySem.W.callWith_K0 I.bW hk (qB (us:=[]) F hr hb hd hx I .nil h K)))
end
noncomputable def start (N:List Str) (ds:List D):St:=ds.map some++Yz (N.length-ds.length) none
noncomputable def cc (G:Gx) (N:List Str) (qual:Str) (scope:Scope) (f:Addr) (cd:Value) (A:Around) (outer:List Env) (s:Shared) (E:XQ):Cx where
 G:=G
 A:=A.deeper (envOfC qual scope s.heap.objs.size f cd)
 N:=N
 os:=s.os
 env:=envOfC qual scope s.heap.objs.size f cd
 outer:=outer
 stk:=envOfC qual scope s.heap.objs.size f cd::outer
 fn:=λ_=>true
 calm:=true
 x:=λx _ M=>E x M
theorem FE {G:Gx}{N ps:List Str}{qual:Str}{scope:Scope}{f:Addr}{cd:Value}{A:Around}{outer:List Env}{z:Z}{s1:Shared}{E:XQ}{us:List Value}{ds:List D}
  (S:aB N ps scope) (hd:A.handled=none) (e0:dV G A outer z) (hl:ds.length=ps.length) (r:ah G z.F ds us)
  (x:InCallC z.s z.s.heap.objs.size (bindL (envOfC qual scope z.s.heap.objs.size f cd).kindOf (ps.zip us) λ_=>none) (cellsFrom (z.s.heap.objs.size+1) scope.names []) (bindC (envOfC qual scope z.s.heap.objs.size f cd).kindOf (ps.zip us) λ_=>none) s1) :
  ae (cc G N qual scope f cd A outer z.s E) (start N ds) ⟨z.F,z.M,s1⟩:=by
 have c0:ps.length<=N.length:=by have:=congrArg List.length S.pre;rw[List.length_take]at this;lia
 obtain⟨h1,tk,rfl,hk⟩:=x.done;refine⟨⟨e0.bC,S.kind,rfl,rfl,λy w c h1 h2=>?_,λy hy=>?_,λ_=>hd,Around.frames_deeper e0.frames,.inr ⟨rfl,rfl⟩⟩,e0.bs,rfl,e0.bare,e0.cj,⟨_,x.toInCall.ns,λi y v h1 h2 h3=>?_⟩,λy c h=>?_,⟨e0.hok.cz (XC _),e0.hok.dj (XC _)⟩,e0.hok.keep λb _ o q=>hk b o q,?_⟩
 ·exact name_of_addr x.apart (PySem.mem_of_lookup h1) (PySem.mem_of_lookup h2)
 ·have hy:scope.names.lookup y=some .cell\/scope.names.lookup y=some .free:=hy;rcases hy with hy |hy
  ·exact wC hy
  ·exact absurd rfl (S.EP _ (PySem.mem_of_lookup hy))
 ·have hi:i<ds.length:=by
   unfold start at h2;by_cases hi:i<ds.length
   ·exact hi
   ·rw[Yp (by simpa using hi),List.getElem?_replicate]at h2;split at h2 <;> cases h2
  have ha:ds[i]?=some v:=by
   unfold start at h2;rw[Yr (by simpa using hi),XS]at h2;cases e:ds[i]? with
   |none=>rw[e]at h2;cases h2
   |some a=>rw[e]at h2;cases h2;rfl
  obtain⟨u,hu,rv⟩:=r.get ha;have hp:ps[i]?=some y:=by rw[<- S.pre,List.getElem?_take_of_lt (by lia)];exact h1
  have wn:ps.Nodup:=by rw[<- S.pre];exact S.nd.sublist (List.take_sublist _ _)
  refine⟨u,rv,?_⟩;rcases S.wx y (Yq hp) with k |k
  ·exact .inl ⟨k,wA wn hp hu k⟩
  ·obtain⟨c,e⟩:=wC (n:=z.s.heap.objs.size+1) k;refine .inr ⟨.inl k,c,e,?_⟩;have q:=x.cell y c e;rw[wB wn hp hu (by show scope.names.lookup y≠_;rw[k];decide)]at q;exact q
 ·have:=Nat.le_of_lt (x.above y c (PySem.mem_of_lookup h));exact⟨⟨_,x.cell y c h⟩,e0.hok.dj this,.inl ⟨rfl,e0.hok.cz this⟩⟩
 ·unfold start;show _=N.length;rw[XU,Xx,List.length_replicate];lia
theorem qC {G:Gx}{k:Nat}{f:Addr}{name qual:Str}{params:Arguments}{body:List Stmt}{scope:Scope}{UH kV doc pm an ct oc:Value}{TC od:Option Addr}{ch:Array (Option Value)}{N ps:List Str}{sp:Sp}
  (lk:G.K.lookup f=some ⟨oc,od,.func (PySem.W.fnOf name qual params body scope UH kV doc pm TC an ct),ch⟩) (dF:PySem.W.codeIn G.K an qual=true) (S:aB N ps scope) (len:∀ds M Q E,sp ds M Q E->ds.length=ps.length)
  (Fk:∀(A:Around) (outer:List Env) (s:Shared) (M:Mp) (ds:List D) (Q:QK) (E:XQ),bF k (A.deeper (envOfC qual scope s.heap.objs.size f an))->sp ds M Q E ->
   ∃t,ed (cc G N qual scope f an A outer s E) body t/\t { nx:=λ_ M'=>Q .aj M',rt:=Q } (start N ds) M) :
  bh G (k+1) f (PySem.W.fnOf name qual params body scope UH kV doc pm TC an ct) ps sp:=by
 refine⟨len,λA outer z args us ds Q E hr e0 hb r jp=>?_⟩;have hl:=len _ _ _ _ jp;have KX:G.K.In z.s.heap:=e0.bC.fv.keeps e0.bk;have jn:z.s.heap.NoLimit:=e0.bC.jn.keeps e0.bk;have FF:∀y∈ps.zip us,scope.names.lookup y.1=some .local\/(scope.names.lookup y.1=some .cell/\((cellsFrom (z.s.heap.objs.size+1) scope.names []).lookup y.1).isSome=true):=λ⟨n,v⟩ hy=>by
  rcases S.wx n (Zd hy).1 with q |q
  ·exact .inl q
  ·exact .inr ⟨q,PySem.W.cellsFrom_some _ _ _ (.inl q)⟩
 refine codeAny_call_function hr.depth (KX _ _ lk) rfl S.UD S.jv rfl (PySem.W.codeRec_of KX dF) (hb _ _ _ _ ?_);refine wpAny_newFunctionEnv_cells S.kind FF λenv he s1 x=>?_;subst he;refine⟨jn.keeps x.toInCall.keep,codeAny_func ?_⟩;obtain⟨t,ht,hq⟩:=Fk A outer z.s z.M ds Q E (hr.deeper _) jp;refine Zu (ht (start N ds) ⟨z.F,z.M,s1⟩ _ (λfl s'=>match fl with |.ret u=>CR G z Q E (.ok (.ret u)) s' |.next=>CR G z Q E (.ok (.ret .none)) s' |_=>False) (FE S hr.hd e0 hl r x) hq
  ⟨fun τ z1 l J q=>⟨.aj,z1,⟨rfl,l,J.hok,J.os,J.bare⟩,by rw[ab],q⟩,λd τ z1 u l J rd q=>⟨d,z1,⟨rfl,l,J.hok,J.os,J.bare⟩,rd,q⟩,λ_ _ _ _ q=>q,λ_ _ _ _ q=>q⟩) (λfl s' hs=>?_) λe s' hs=>hs.no.elim
 cases fl <;> first |exact hs |exact False.elim hs
end N
end
section
set_option maxHeartbeats 1000000
namespace N
open PySem PySem.Spec PyProof.Rows L2
noncomputable def fE (f:Str) (d:D):List (Str×D)->List (Str×D)
 |[]=>[(f,d)]
 |p::r=>if p.1=f then (f,d)::r else p::fE f d r
theorem jD (g:Str) (p:Str×D) (r:List (Str×D)):(p::r).lookup g=if g=p.1 then some p.2 else r.lookup g:=by
 by_cases h:g=p.1
 ·rw[if_pos h,List.lookup,beq_iff_eq.mpr h]
 ·rw[if_neg h,List.lookup,beq_eq_false_iff_ne.mpr h]
theorem qE (f g:Str) (d:D):∀fs:List (Str×D),(fE f d fs).lookup g=if g=f then some d else fs.lookup g
 |[]=>jD g (f,d) []
 |p::r=>by
  unfold fE;by_cases h:p.1=f
  ·rw[if_pos h,jD,jD,h];by_cases q:g=f
   ·rw[if_pos q,if_pos q]
   ·rw[if_neg q,if_neg q,if_neg q]
  ·rw[if_neg h,jD,jD,qE f g d r];by_cases q:g=p.1
   ·rw[if_pos q,if_neg λe=>h (q.symm.trans e)];rw[if_pos q]
   ·rw[if_neg q,if_neg q]
theorem xi (f:Str) (d:D):∀fs:List (Str×D),(fE f d fs).length<=fs.length+1
 |[]=>XC _
 |p::r=>by
  unfold fE;split
  ·exact Y7 _
  ·exact YK (xi f d r)
theorem xj {g:Str}:∀{fs:List (Str×D)},fs.lookup g≠none->g∈fs.map (·.1)
 |[],h=>absurd rfl h
 |p::r,h=>by
  rw[jD]at h;by_cases q:g=p.1
  ·rw[q];exact XH
  ·rw[if_neg q]at h;exact XF _ (xj h)
theorem FH {G:Gx}{F:Fz}{d:D}{u:Value} (r:ab G F d u):PySem.W.handedIn u=true:=by
 cases d <;> rw[ab]at r <;> first |(subst r;rfl) |(obtain⟨t,rfl⟩:=r;rfl) |(obtain⟨a,_,_,rfl,_⟩:=r;rfl) |(obtain⟨a,_,rfl,_⟩:=r;rfl)
def cD (d:D) (M:Mp) (k:Addr->Addr->Addr->List (Str×D)->Prop):Prop:=match d with
 |.ref a=>∃C dx fs,M a=some (.ins C dx fs)/\k a C dx fs
 |_=>False
def qF (K:PySem.W.Frag) (f:Str):Q1:=λx M q=>cD x M λa C dx fs=>∃d,(cZ K C/\eh K C f)/\fs.lookup f=some d/\q d M
def qG (K:PySem.W.Frag) (f:Str) (o d:D) (M:Mp) (k:Mp->Prop):Prop:=cD o M λa C dx fs=>(cZ K C/\eh K C f)/\fs.length<1000/\k (up M a (.ins C dx (fE f d fs)))
def k4 (C:Addr) (m:Str) (sp:Sp) (bg:List D) (E:XQ) (to:DE) (t:DA):DE:=fun τ M q=>to τ M λo M1=>cD o M1 λ_ C' _ fs=>C'=C/\fs.lookup m=none/\t τ M1 λds M2=>sp (o::(ds++bg)) M2 q E
def qH (C:Addr) (sp:Sp) (bg:List D) (E:XQ) (t:DA):DE:=fun τ M q=>t τ M λds M1=>∀x dx,M1 x=none->M1 dx=none->dx≠x ->
 sp (.ref x::(ds++bg)) (up (up M1 dx (.own x)) x (.ins C dx [])) (λv M2=>v=.aj/\q (.ref x) M2) E
section
variable {X:Cx} {τ:St} {z:Z}{C:Addr}{f m:Str}{o e value:Expr}{es:List Expr}{to tv:DE}{t:DA}{pos cr qI SV p:Pos}{d:D}{v u:Value}
theorem ae.cD {k:Addr->Addr->Addr->List (Str×D)->Prop} (I:ae X τ z) (r:ab X.G z.F d u) (h:cD d z.M k):∃a C dx fs mA,u=.ref a/\z.M a=some (.ins C dx fs)/\iw z.s.heap a dx C mA/\(∀f,fX X.G z.F (fs.lookup f) (mA f))/\PySem.Within mA (fs.map (·.1))/\z.M dx=some (.own a)/\k a C dx fs:=by
 unfold N.cD at h;split at h
 ·rename_i a;obtain⟨C,dx,fs,e,h⟩:=h;rw[ab]at r;obtain⟨d,_,ne,ob,mA,n,rr,q⟩:=(I.hok.ob a _ e).2;exact⟨a,C,dx,fs,mA,r,e,⟨ob,n,ne⟩,rr,q,d,h⟩
 ·exact h.elim
theorem FI {b:Bool}:O1 X (λv=>getAttr v f b) (qF X.G.K f):=fun τ z Q R d v I r h k=>by
 obtain⟨a,C,dx,fs,mA,rfl,e,O,rr,_,_,d',⟨c,n⟩,l,q⟩:=I.cD r h;have rf:=rr f;rw[l]at rf;cases e':mA f with
 |none=>rw[e']at rf;exact rf.elim
 |some w=>rw[e']at rf;exact ES I.bW O (c.get f) c.hd n e' (FH rf) (k d' ⟨z.F,z.M,_⟩ w Le.rfl (I.mS _) rf q)
theorem FJ {Q:Mp->Prop}{R:Unit->Shared->Prop}{od:D}{ov:Value} (I:ae X τ z) (ro:ab X.G z.F od ov) (rd:ab X.G z.F d u) (h:qG X.G.K f od d z.M Q) (k:∀z',z'.F=z.F->ae X τ z'->Q z'.M->R () z'.s):W X (setAttr ov f u) R z.s:=by
 obtain⟨a,C,dx,fs,mA,rfl,e,O,rr,wi,ho,⟨c,n⟩,hl,q⟩:=I.cD ro h;have hz:(fs.map (·.1)).length<=sizeLine:=by rw[Xx,ZO];lia
 refine EU I.bW O c.sa c.V6 n.EZ c.hd wi hz λh' O' sb=>k ⟨z.F,_,_⟩ rfl (I.put (o':=.ins C dx (fE f d fs)) e rfl (.inr ho) (λb hb o q=>(sb.2 b hb).trans q) (let ⟨o,_,_,e',_⟩:=O'.ns;⟨o,e'⟩) ?_) q
 refine⟨by rw[aF O.ne];exact ho,XG (xi f d fs) hl,O.ne,O'.obj,_,O'.ns,λg=>?_,λg hg=>xj ?_⟩
 ·show fX _ _ ((fE f d fs).lookup g) (if g=f then some u else mA g)
  rw[qE];by_cases q:g=f
  ·rw[if_pos q,if_pos q];exact rd
  ·rw[if_neg q,if_neg q];exact rr g
 ·rw[qE];by_cases q:g=f
  ·rw[if_pos q];exact Yn d
  ·have hg:(if g=f then some u else mA g)≠none:=hg
   rw[if_neg q]at hg ⊢;have:=rr g;cases e1:fs.lookup g with
   |some _=>exact Yn _
   |none=>rw[e1]at this;cases e2:mA g with
    |none=>exact absurd e2 hg
    |some _=>rw[e2]at this;exact this.elim
variable {k:Nat}{g:Addr}{fd:FuncData}{ps:List Str}{sp:Sp}{bg:List D}{ds:List Value}{E:XQ}{x:Str}
theorem xk {pl:Sem Bool}{args:List Expr} (ho:PE X o to) (c:cZ X.G.K C) (hm:jw X.G.K C m g) (F:bh X.G k g fd ps sp) (hr:bF k X.A) (hb:bT X.G.K fd ps ds) (hd:eR X bg ds) (hx:dY X E)
  (ht:eval (.Call (.Attribute o m cr) args [] pos) X.env=(do
   let ov <- eval o X.env
   standAt cr.atName
   let (f,first) <- holding [ov] (getMethod ov m pl)
   callWith pos f first (backTo pos (starEach args X.env)) (backToKw pos (keywordEach [] X.env))))
  (ha:∀ τ z a R Q,ae X τ z->t τ z.M Q->(∀ds z' us,Le z.F z'.F->ae X τ z'->ah X.G z'.F ds us->Q ds z'.M->W X (call (.ref g) (.ref a::us)) R z'.s)->W X (callWith pos (.ref g) [.ref a] (backTo pos (starEach args X.env)) (backToKw pos (keywordEach [] X.env))) R z.s) :
  PE X (.Call (.Attribute o m cr) args [] pos) (k4 C m sp bg E to t):=fun τ z Q R I h K=>
 PySem.W.methodCall_KW (pl:=pl) (ho τ z _ _ I h λod z1 u l1 I1 r1 q1=>by
  obtain⟨a,C',dx,fs,mA,rfl,e,O,rr,wi,ho,rfl,l,q⟩:=I1.cD r1 q1;have hn:mA m=none:=by have:=rr m;rw[l]at this;cases e2:mA m with
   |none=>rfl
   |some _=>rw[e2]at this;exact this.elim
  exact ET I1.bW O (c.get m) hm.bV hm.fn hn (ha τ z1 a R _ I1 q λds z2 us l2 I2 r2 q2=>qB F hr hb hd hx I2 (.cons (r1.up l2.d) r2) q2 λd z3 u l3=>K d z3 u (l1.tr (l2.tr l3)))) ht
theorem FK {pl:Sem Bool} (ho:PE X o to) (c:cZ X.G.K C) (hm:jw X.G.K C m g) (F:bh X.G k g fd ps sp) (hr:bF k X.A) (hb:bT X.G.K fd ps ds) (hd:eR X bg ds) (hx:dY X E) (ha:PA X (e::es) t)
  (eS:starEach (e::es) X.env=(false,eval e X.env)::starEach es X.env) (c0:(backTo pos (starEach es X.env)).any (·.1)=false)
  (ht:eval (.Call (.Attribute o m cr) (e::es) [] pos) X.env=(do
   let ov <- eval o X.env
   standAt cr.atName
   let (f,first) <- holding [ov] (getMethod ov m pl)
   callWith pos f first (backTo pos (starEach (e::es) X.env)) (backToKw pos (keywordEach [] X.env)))):PE X (.Call (.Attribute o m cr) (e::es) [] pos) (k4 C m sp bg E to t):=
 xk ho c hm F hr hb hd hx ht fun τ z a R Q I q K=>PySem.W.callWith_K (first:=[.ref a]) (h₀:=X.G.base) I.ok.bC.fv hm.kp (ha pos τ z _ _ I q λds z2 us l2 I2 r2 q2=>⟨I2.bW,K ds z2 us l2 I2 r2 q2⟩) eS c0
theorem FL {pl:Sem Bool} (ho:PE X o to) (c:cZ X.G.K C) (hm:jw X.G.K C m g) (F:bh X.G k g fd ps sp) (hr:bF k X.A) (hb:bT X.G.K fd ps ds) (hd:eR X bg ds) (hx:dY X E)
  (ht:eval (.Call (.Attribute o m cr) [] [] pos) X.env=(do
   let ov <- eval o X.env
   standAt cr.atName
   let (f,first) <- holding [ov] (getMethod ov m pl)
   callWith pos f first (backTo pos (starEach [] X.env)) (backToKw pos (keywordEach [] X.env)))):PE X (.Call (.Attribute o m cr) [] [] pos) (k4 C m sp bg E to eK):=
 xk ho c hm F hr hb hd hx ht fun τ z a R Q I q K=>PySem.W.callWith_K0 (first:=[.ref a]) I.bW hm.kp (K [] z [] Le.rfl I .nil q)
theorem ae.made (I:ae X τ z):ae X τ ⟨z.F,up (up z.M z.s.heap.objs.size (.own (z.s.heap.objs.size+1))) (z.s.heap.objs.size+1) (.ins C z.s.heap.objs.size []),{ z.s with heap:=(z.s.heap.push PySem.W.emptyDict).push (PySem.W.instObj C z.s.heap.objs.size) }⟩:=by
 have e1:(z.s.heap.push PySem.W.emptyDict).get? z.s.heap.objs.size=some PySem.W.emptyDict:=XA z.s.heap rfl;have e2:((z.s.heap.push PySem.W.emptyDict).push (PySem.W.instObj C z.s.heap.objs.size)).get? (z.s.heap.objs.size+1)=some (PySem.W.instObj C z.s.heap.objs.size):=by
  have:=XA (z.s.heap.push PySem.W.emptyDict) (o:=PySem.W.instObj C z.s.heap.objs.size) rfl
  rwa [Yd]at this
 have e3:(z.s.heap.push PySem.W.emptyDict).Ns z.s.heap.objs.size (λ_=>none):=⟨PySem.W.emptyDict,#[],_,e1,rfl,(λe he=>absurd he (by simp)),λ_=>rfl⟩;have ne:z.s.heap.objs.size≠z.s.heap.objs.size+1:=XR (Y6 _);have I1:=I.kx (a:=z.s.heap.objs.size) (o:=.own (z.s.heap.objs.size+1)) (h':=z.s.heap.push PySem.W.emptyDict) (t:=z.s.toks) (λb u q=>Xw _ q) (XC _) ⟨_,e1⟩;exact I1.kx (a:=z.s.heap.objs.size+1) (o:=.ins C z.s.heap.objs.size []) (t:=z.s.toks) (λb u q=>Xw _ q) (ZG (Yd _ _))
  ⟨by rw[aF ne];exact av,XM _,ne,e2,λ_=>none,(Heap.Ns1.of_empty e3).at λo q=>Xw _ q,λ_=>ZJ,λy hy=>absurd rfl hy⟩
theorem xl {us:List Value}{vs:List D}{Q:QK}{R:Value->Shared->Prop} (M:Mk X.G.K C g) (F:bh X.G k g fd ps sp) (hr:bF (k+1) X.A) (hb:bT X.G.K fd ps ds) (hd:eR X bg ds) (hx:dY X E) (I:ae X τ z) (r:ah X.G z.F vs us)
  (h:∀x dx,z.M x=none->z.M dx=none->dx≠x->sp (.ref x::(vs++bg)) (up (up z.M dx (.own x)) x (.ins C dx [])) (λv M2=>v=.aj/\Q (.ref x) M2) E) (K:KE X τ z.F Q R):W X (call (.ref C) us) R z.s:=by
 have hq:=h (z.s.heap.objs.size+1) z.s.heap.objs.size (I.hok.dj (Y7 _)) (I.hok.dj (XC _)) (XR (Y6 _));have I2:=ae.made (C:=C) I;have r2:ah X.G z.F (D.ref (z.s.heap.objs.size+1)::(vs++bg)) (Yj (z.s.heap.objs.size+1)::(us++ds)):=.cons (by rw[ab]) (r.append (hd τ z I));have hl:(Yj (z.s.heap.objs.size+1)::us++ds).length=ps.length:=by
  have e:=r2.len;rw[F.len _ _ _ _ hq]at e;exact e.symm
 refine wpAny_call (EY (f:=g) I.bW M.E1 M.init (beq_iff_eq.mp M.fn) (Y5 (F.eI _ X.stk _ ⟨Yj (z.s.heap.objs.size+1)::us,[]⟩ (Yj (z.s.heap.objs.size+1)::(us++ds)) _ _ E (hr.qo C us [])
  (I2.pW.qo C us []) (hb _ (Yj (z.s.heap.objs.size+1)::us) I2.bW hl) (r2.up I2.cA.d) hq) λr s' hq'=>?_))
 have:=xh (Q0:=Q) (R:=λu s'=>u=.none/\R (.ref (z.s.heap.objs.size+1)) s') hx I2 hq' λu d z2 e l J r q=>by
  obtain⟨rfl,q⟩:=q;rw[ab]at r;exact⟨r,e ▸ K _ z2 _ l J (by rw[ab]) q⟩
 cases r with
 |error e=>exact this
 |ok fl=>cases fl <;> exact this
theorem FN (M:Mk X.G.K C g) (F:bh X.G k g fd ps sp) (hr:bF (k+1) X.A) (hg:Gl X x) (hm:X.G.mg x=some (.ref C)) (hb:bT X.G.K fd ps ds) (hd:eR X bg ds) (hx:dY X E)
  (ha:PA X (e::es) t) (cN:(x == ("__debug__" : Str))=false) (he:starEach (e::es) X.env=(false,eval e X.env)::starEach es X.env) (c0:(backTo pos (starEach es X.env)).any (·.1)=false) :
  PE X (.Call (.Name x p) (e::es) [] pos) (qH C sp bg E t):=fun τ z Q R I h K=>
 Yw (ib I hg hm cN (PySem.W.callWith_K (h₀:=X.G.base) I.ok.bC.fv M.kp (ha pos τ z _ _ I h λvs z1 us l1 I1 r q=>⟨I1.bW,xl M F hr hb hd hx I1 r q λd z2 u l2=>K d z2 u (l1.tr l2)⟩) he c0))
theorem FP (M:Mk X.G.K C g) (F:bh X.G k g fd ps sp) (hr:bF (k+1) X.A) (hg:Gl X x) (hm:X.G.mg x=some (.ref C)) (hb:bT X.G.K fd ps ds) (hd:eR X bg ds) (hx:dY X E)
  (cN:(x == ("__debug__" : Str))=false):PE X (.Call (.Name x p) [] [] pos) (qH C sp bg E eK):=fun τ z Q R I h K=>
 Yw (ib I hg hm cN (PySem.W.callWith_K0 I.bW M.kp (xl (us:=[]) M F hr hb hd hx I .nil h K)))
end
end N
end
section
set_option maxHeartbeats 1000000
namespace N
open PySem PySem.Spec PyProof.Rows L2
def xm:Q1:=λx M q=>b9 x λi=>q (.int (-i)) M
abbrev DO:=St->Mp->(Option Int->Mp->Prop)->Prop
def xn:DO:=λ_ M q=>q none M
def xo (t:DE):DO:=fun τ M q=>t τ M λx M1=>b9 x λi=>q (some i) M1
noncomputable def dK (xs:List D) (lo hi:Option Int):List D:=(xs.drop (HT.aG xs.length 0 lo)).take (HT.aG xs.length xs.length hi-HT.aG xs.length 0 lo)
def qJ (x:D) (lo hi:Option Int) (M:Mp) (Q:QK):Prop:=match x with
 |.tup ds=>Q (.tup (dK ds lo hi)) M
 |.str w=>w.length<=sizeLine/\Q (.str (Txt.slice w lo hi)) M
 |x=>bp x M λxs=>bZ (dK xs lo hi) M Q
def xp (te:DE) (tl th:DO):DE:=fun τ M q=>te τ M λx M1=>tl τ M1 λl M2=>th τ M2 λh M3=>qJ x l h M3 q
def qK:Q1:=λx M q=>match x with
 |.tup ds=>q (.tup ds.reverse) M
 |x=>bp x M λds=>bZ ds.reverse M q
section
variable {X:Cx}{e:Expr}{te:DE}{lo hi:Option Expr}{tl th:DO}{pos p2 p3 p4:Pos}
theorem xq {op:UnaryOp}{r:Q1} (ho:O1 X (unaryOp op) r) (h:PE X e te):PE X (.UnaryOp op e pos) (jr r te):=fun τ z Q R I q k=>
 UnaryOp_ (h τ z _ _ I q λd z1 u l1 I1 r1 q1=>ho τ z1 Q R d u I1 r1 q1 λd z2 u l2=>k d z2 u (l1.tr l2))
theorem xr:O1 X (unaryOp .USub) xm:=fun τ z Q R d v I r q k=>by
 obtain⟨i,t,rfl,q⟩:=cY q r;exact neg_int (I.fin k Le.rfl ck q _)
def PO (X:Cx) (e:Option Expr) (t:DO):Prop:=∀ τ z Q R,ae X τ z->t τ z.M Q->(∀o z' u,Le z.F z'.F->ae X τ z'->IsPart u o->Q o z'.M->R u z'.s)->W X (evalPart e X.env) R z.s
theorem FQ:PO X none xn:=fun τ z Q R I h k=>by rw[evalPart_none];exact Xy (k none z .none Le.rfl I .none h)
theorem FR (h:PE X e te):PO X (some e) (xo te):=fun τ z Q R I hw k=>by
 rw[evalPart_some];exact h τ z _ _ I hw λd z1 u l1 I1 r1 q1=>by
  obtain⟨i,t,rfl,q⟩:=cY q1 r1;exact k (some i) z1 _ l1 I1 (.int i t) q
theorem xt (xs:List D) (lo hi:Option Int):(dK xs lo hi).length<=xs.length:=by
 unfold dK;rw[List.length_take,List.length_drop];lia
theorem ah.qL {G:Gx}{F:Fz}{ds:List D}{us:List Value} (r:ah G F ds us) (i j:Nat):ah G F ((ds.drop i).take j) ((us.drop i).take j):=by
 have T4:∀(i:Nat) {ds:List D}{us:List Value},ah G F ds us->ah G F (ds.drop i) (us.drop i):=λi=>by
  induction i with
  |zero=>exact λr=>r
  |succ i ih=>intro ds us r;cases ds with
   |nil=>rw[ah]at r;subst r;exact .nil
   |cons d ds=>rw[ah]at r;obtain⟨u,us,rfl,_,r⟩:=r;exact ih r
 have tk:∀(i:Nat) {ds:List D}{us:List Value},ah G F ds us->ah G F (ds.take i) (us.take i):=λi=>by
  induction i with
  |zero=>exact λr=>by rw[List.take_zero,List.take_zero];exact .nil
  |succ i ih=>intro ds us r;cases ds with
   |nil=>rw[ah]at r;subst r;exact .nil
   |cons d ds=>rw[ah]at r;obtain⟨u,us,rfl,h,r⟩:=r;exact .cons h (ih r)
 exact tk j (T4 i r)
theorem ah.rev {G:Gx}{F:Fz}:∀{ds:List D}{us:List Value},ah G F ds us->ah G F ds.reverse us.reverse
 |[],us,r=>by rw[ah]at r;subst r;exact .nil
 |d::ds,us,r=>by rw[ah]at r;obtain⟨u,us,rfl,h,r⟩:=r;rw[YX,YX];exact (ah.rev r).app (.cons h .nil)
theorem FT {τ:St} {z:Z}{x:D}{v vl vu:Value}{lo hi:Option Int}{sl:Addr}{Q:QK}{R:Value->Shared->Prop} (I:ae X τ z) (r:ab X.G z.F x v) (hs:z.s.heap.IsSliceOf sl vl vu .none) (pl:IsPart vl lo) (pu:IsPart vu hi) (q:qJ x lo hi z.M Q) (K:KE X τ z.F Q R) :
  ∃T id,typeLookup (.type T) "__getitem__"=pure (some (.builtin id))/\z.s.TypeIs v T/\W X (getItem v (.ref sl)) R z.s:=by
 have lst:(bp x z.M λxs=>bZ (dK xs lo hi) z.M Q)->∃T id,typeLookup (.type T) "__getitem__"=pure (some (.builtin id))/\z.s.TypeIs v T/\W X (getItem v (.ref sl)) R z.s:=λq=>by
  obtain⟨a,ds,us,n,rfl,l,q⟩:=I.bp r q;have hlen:=l.r.len;have hz:=l.z;have hc:(dK ds lo hi).length<=sizeLine:=XG (xt ds lo hi) (by rw[hlen];exact hz);refine⟨"list",_,slot_list_getitem.lookup,l.p.isList.typeIs,wpAny_getItem_list_slice l.p.isList hs pl pu .none (by simp) ?_ (by rw[Xz] <;> lia)⟩;have rc:ah X.G z.F (dK ds lo hi) _:=l.r.qL (HT.aG ds.length 0 lo) (HT.aG ds.length ds.length hi-HT.aG ds.length 0 lo);rw[EK,<- hlen];exact I.lst (n:=0) (t:=z.s.toks) K Le.rfl rc (λb ob q=>Xw _ q) (XC _) (XA _ rfl) (by rw[<- rc.len];exact hc) q
 unfold qJ at q;split at q
 ·rename_i ds;obtain⟨a,us,o,rfl,p⟩:=I.cX r;have hl:=p.r.len;have hlen:us.toArray.size=ds.length:=by rw[Xz];exact hl.symm
  refine⟨"tuple",_,PyProof.Rows.slot_tuple_getitem.lookup,p.p.typeIs,?_⟩;by_cases w:HT.aG ds.length 0 lo=0/\HT.aG ds.length ds.length hi=ds.length
  ·have e:dK ds lo hi=ds:=by
    unfold dK;rw[w.1,w.2,List.drop_zero,Nat.sub_zero,List.take_length]
   rw[e]at q;exact EL p.p hs pl pu (by rw[hlen];exact w) (K _ z _ Le.rfl I r q)
  ·have rc:ah X.G z.F (dK ds lo hi) _:=p.r.qL (HT.aG ds.length 0 lo) (HT.aG ds.length ds.length hi-HT.aG ds.length 0 lo);refine HT.EI p.p hs pl pu (by rw[hlen];exact w) ?_ (by rw[Xz];exact p.t.len);rw[hlen];exact I.tup (t:=z.s.toks) K Le.rfl rc (λb ob q=>Xw _ q) (XC _) (XA _ rfl) ⟨rfl,rfl,⟨_,rfl⟩,by rw[<- rc.len];exact XG (xt ds lo hi) (by rw[hl];exact p.t.len)⟩ q
 ·rename_i w;rw[ab]at r;obtain⟨t,rfl⟩:=r;obtain⟨hz,q⟩:=q;have fin:∀ (t':Tok) (k:Nat),R (.str (Txt.slice w lo hi) t') { z.s with toks:=k }:=λt' k=>I.fin K Le.rfl gF q _;refine⟨"str",_,F.slot_str_getitem.lookup,typeIs_str _ _ _,?_⟩;obtain⟨os,be,gM,ev⟩:=hs;have Vq:∀ {v:Value}{o:Option Int},IsPart v o->∃ l:Option (Int×Tok),v=(match l with | some p=>.int p.1 p.2 | none=>.none)/\o=l.map (·.1):=λp=>by
   cases p with
   |none=>exact⟨none,rfl,rfl⟩
   |int i t=>exact⟨some (i,t),rfl,rfl⟩
  obtain⟨l,rfl,rfl⟩:=Vq pl;obtain⟨u,rfl,rfl⟩:=Vq pu;refine wpAny_getItem_str_slice (l:=l) (u:=u) (st:=none) ⟨os,be,gM,?_⟩ rfl (post_val_or_str ⟨XG (Txt.slice_le w _ _) hz,fin⟩);cases l <;> cases u <;> exact ev
 ·exact lst q
theorem FU (he:PE X e te) (hl:PO X lo tl) (hu:PO X hi th) (hs:∀o i,subscripted (.Slice lo hi none p2) false o i=operate [i,o] (getItem o i)):PE X (.Subscript e (.Slice lo hi none p2) pos) (xp te tl th):=fun τ z Q R I h K=>
 Subscript_ (he τ z _ _ I h λx z1 v l1 I1 r1 q1=>wpAny_Slice (hl τ z1 _ _ I1 q1 λl z2 vl l2 I2 pl q2=>hu τ z2 _ _ I2 q2 λu z3 vu l3 I3 pu q3=>by
  rw[evalPart_none];have I4:ae X τ ⟨z3.F,z3.M,{ z3.s with heap:=z3.s.heap.push { cls:=.type "slice",data:=.fields #[vl,vu,.none] } }⟩:=I3.bX (t:=z3.s.toks) λb ob q=>Xw _ q;obtain⟨T,id,hT,ht,hg⟩:=FT I4 (r1.up (l2.tr l3).d) (Heap.IsSliceOf.new ..) pl pu q3 λd z u l=>K d z u ((l1.tr (l2.tr l3)).tr l);exact Xy (tail_any (ops:=[.ref z3.s.heap.objs.size,v]) ht hT hg (hs _ _))))
theorem FV {k:Nat} (he:PE X e te) (hs:∀o i,subscripted (.Slice none none (some (.UnaryOp .USub (.Constant (.int 1) k p3) p4)) p2) false o i=operate [o,i] (getItem o i)):PE X (.Subscript e (.Slice none none (some (.UnaryOp .USub (.Constant (.int 1) k p3) p4)) p2) pos) (jr qK te):=fun τ z Q R I h K=>
 Subscript_ (he τ z _ _ I h λx z1 v l1 I1 r1 q1=>wpAny_Slice (by
  rw[evalPart_none];refine Xy (Xy ?_);rw[evalPart_some];refine xq xr (te:=TU (.int 1)) vx τ z1 (λy M=>y=.int (-1)/\M=z1.M) _ I1 ⟨rfl,rfl⟩ λy z2 u l2 I2 r2 q2=>?_;obtain⟨rfl,q2⟩:=q2;rw[ab]at r2;obtain⟨t,rfl⟩:=r2;have I4:ae X τ ⟨z2.F,z2.M,{ z2.s with heap:=z2.s.heap.push { cls:=.type "slice",data:=.fields #[.none,.none,.int (-1) t] } }⟩:=I2.bX (t:=z2.s.toks) λb ob q=>Xw _ q;have r1:=r1.up l2.d;have K:KE X τ z2.F Q R:=λd z u l=>K d z u ((l1.tr l2).tr l);rw[<- q2]at q1;have lst:(bp x z2.M λds=>bZ ds.reverse z2.M Q)->W X (subscriptTail e (.Slice none none (some (.UnaryOp .USub (.Constant (.int 1) k p3) p4)) p2) v (.ref z2.s.heap.objs.size)) R { z2.s with heap:=z2.s.heap.push { cls:=.type "slice",data:=.fields #[.none,.none,.int (-1) t] } }:=λq=>by
   obtain⟨a,ds,us,n,rfl,l,q⟩:=I4.bp r1 q;have hz:=l.z;refine tail_any (ops:=[.ref a,.ref z2.s.heap.objs.size]) (T:="list") l.p.isList.typeIs slot_list_getitem.lookup ?_ (hs _ _);refine wpAny_getItem_list_slice l.p.isList (Heap.IsSliceOf.new ..) .none .none (.int (-1) t) (by simp) ?_ (by rw[Xz] <;> lia);rw[PySem.W.krv_pick];exact I4.lst (n:=0) (t:=z2.s.toks) K Le.rfl l.r.rev (λb ob q=>Xw _ q) (XC _) (XA _ rfl) (by rw[Zs];exact hz) q
  unfold qK at q1;split at q1
  ·obtain⟨a,us,o,rfl,p⟩:=I4.cX r1;refine tail_any (ops:=[.ref a,.ref z2.s.heap.objs.size]) (T:="tuple") p.p.typeIs slot_tuple_getitem.lookup (E3 p.p (Heap.IsSliceOf.new ..) ?_ (by rw[Xz];exact p.t.len)) (hs _ _);exact I4.tup (t:=z2.s.toks) K Le.rfl p.r.rev (λb ob q=>Xw _ q) (XC _) (XA _ rfl) ⟨rfl,rfl,⟨_,rfl⟩,by rw[Zs];exact p.t.len⟩ q1
  ·exact lst q1))
end
end N
end
section
set_option maxHeartbeats 1000000
namespace N
open PySem PySem.Spec PyProof.Rows L2 PyProof.V
def FW (x:D) (M:Mp) (k:Nat->Prop):Prop:=match x with
 |.str w=>w.length<=sizeLine/\k w.length
 |.tup ds=>k ds.length
 |.lst ds=>k ds.length
 |.ao ks ds=>k (ks.zip ds).length
 |.ref p=>(∃xs,M p=some (.lst xs)/\k xs.length)\/∃kvs,M p=some (.ao kvs)/\k kvs.length
 |_=>False
def n1 (r:Q1):QN:=λds M q=>match ds with
 |[x]=>r x M q
 |_=>False
def xu:QN:=n1 λx M q=>FW x M λn=>q (.int n) M
def qM:QN:=n1 λx M q=>dG x M λds=>q (.tup ds) M
def xv:QN:=n1 λx M q=>match x with
 |.int i=>q (.int i) M
 |.bl b=>q (.int (if b then 1 else 0)) M
 |_=>False
def qN:QN:=λds M q=>match ds with
 |[.int i,.int j]=>q (.int (if j > i then j else i)) M
 |[x]=>bp x M λds=>∃ns:List Int,ds=ns.map D.int/\0<ns.length/\∀m,m∈ns->(∀a∈ns,a<=m)->q (.int m) M
 |_=>False
def xw (f:List Bool->Bool):QN:=n1 λx M q=>bp x M λds=>∃bs:List Bool,ds=bs.map D.bl/\q (.bl (f bs)) M
abbrev CB (X:Cx) (f:Value) (r:QN):Prop:=ON X (λus=>call f us) r
def T9 (r:QN) (t:DA):DE:=fun τ M q=>t τ M λds M1=>r ds M1 q
section
variable {X:Cx}{x:Str}{p pos:Pos}{e:Expr}{es:List Expr}{t:DA}{id T:String}{r:QN}
theorem FX (hc:CB X (.builtin id) r) (hg:Gl X x) (hm:X.G.mg x=none) (hv:bootBuiltins x=some (.builtin id)) (ha:PA X (e::es) t) (hn:x≠"__name__") (cN:(x == ("__debug__" : Str))=false)
  (he:starEach (e::es) X.env=(false,eval e X.env)::starEach es X.env) (c0:(backTo pos (starEach es X.env)).any (·.1)=false):PE X (.Call (.Name x p) (e::es) [] pos) (T9 r t):=fun τ z Q R I h k=>
 Yw (eL I hg hm hv hn cN (PyProof.Rows.callWith_builtin1 (ha pos τ z _ _ I h λds z1 us l1 I1 r1 q1=>hc τ z1 Q R ds us I1 r1 q1 λd z2 u l2=>k d z2 u (l1.tr l2)) he c0))
theorem FY (hc:CB X (.type T) r) (hg:Gl X x) (hm:X.G.mg x=none) (hv:bootBuiltins x=some (.type T)) (ha:PA X (e::es) t) (hn:x≠"__name__") (cN:(x == ("__debug__" : Str))=false)
  (he:starEach (e::es) X.env=(false,eval e X.env)::starEach es X.env) (c0:(backTo pos (starEach es X.env)).any (·.1)=false):PE X (.Call (.Name x p) (e::es) [] pos) (T9 r t):=fun τ z Q R I h k=>
 Yw (eL I hg hm hv hn cN (YF (ha pos τ z _ _ I h λds z1 us l1 I1 r1 q1=>hc τ z1 Q R ds us I1 r1 q1 λd z2 u l2=>k d z2 u (l1.tr l2)) he c0))
theorem jE {f:List Value->Sem Value}{r:Q1} (h:O1 X (λv=>f [v]) r):ON X f (n1 r):=fun τ z Q R ds us I rs q k=>by
 unfold n1 at q;split at q
 ·obtain⟨u,rfl,ru⟩:=gI rs;exact h τ z Q R _ u I ru q k
 ·exact q.elim
theorem FZ:CB X (.builtin "len") xu:=jE fun τ z Q R d v I r q k=>by
 have fin:∀{n m:Nat} (t:Nat),n=m->Q (.int n) z.M->R (.int m z.s.toks) { z.s with toks:=t }:=λt e q=>I.fin k Le.rfl (e ▸ ck) q _;have lst:∀{ds:List D}{us:List Value}{a:Addr}{n:Nat},eM X.G z.F z.s.heap a ds us n->Q (.int ds.length) z.M->W X (call (.builtin "len") [.ref a]) R z.s:=λl q=>Calls.call_len_list l.p.isList (by rw[Xz];exact gN l.z) (I.fin k Le.rfl (by rw[Xz,<- l.r.len];exact ck) q _);have ao:∀{kvs:List (Key×D)}{vs:List (Key×Value)}{a:Addr},jx X.G z.F z.s.heap a kvs vs->Q (.int kvs.length) z.M->W X (call (.builtin "len") [.ref a]) R z.s:=λl q=>by
  have e:=Paired.length l.r;refine call_len_dict l.n l.d (by rw[<- e];exact gN l.z) ?_;rw[<- e];exact I.fin k Le.rfl ck q _
 cases d with
 |str y=>rw[ab]at r;obtain⟨t,rfl⟩:=r;exact len_str (Int.not_le.mpr (gN q.1)) (I.fin k Le.rfl ck q.2 _)
 |tup ds=>obtain⟨a,us,o,rfl,l⟩:=I.cX r;exact len_tuple l.p (by rw[Xz];exact gN l.t.len) (I.fin k Le.rfl (by rw[Xz,<- l.r.len];exact ck) q _)
 |lst ds=>obtain⟨a,us,n,rfl,l⟩:=I.f7 r;exact lst l q
 |ao ks ds=>obtain⟨a,kvs,vs,rfl,l,h⟩:=I.cB (k:=λkvs=>Q (.int kvs.length) z.M) r q;exact ao l h
 |ref a=>
  rw[ab]at r;subst r;rcases q with ⟨xs,h1,h2⟩ |⟨kvs,h1,h2⟩
  ·obtain⟨us,n,l⟩:=I.eO h1;exact lst l h2
  ·obtain⟨vs,l⟩:=I.jy h1;exact ao l h2
 |_=>exact q.elim
theorem F3:CB X (.type "int") xv:=jE fun τ z Q R d v I r q k=>by
 cases d with
 |int i=>rw[ab]at r;obtain⟨t,rfl⟩:=r;exact call_int_int (k _ z _ Le.rfl I ck q)
 |bl b=>rw[ab]at r;subst r;exact call_int_bool (I.fin k Le.rfl ck q _)
 |_=>exact q.elim
theorem ae.dG {τ:St} {z:Z}{d:D}{u:Value}{k:List D->Prop} (I:ae X τ z) (r:ab X.G z.F d u) (h:dG d z.M k):∃a ds us,u=.ref a/\k ds/\ah X.G z.F ds us/\us.length<=sizeLine/\((∃n,z.s.heap.get? a=some (bS us n))\/(d=.tup ds/\IsTup z.s.heap a us.toArray)):=by
 unfold N.dG at h;split at h
 ·obtain⟨a,us,o,rfl,l⟩:=I.cX r;exact⟨a,_,us,rfl,h,l.r,l.t.len,.inr ⟨rfl,l.p⟩⟩
 ·obtain⟨a,ds,us,n,rfl,l,q⟩:=I.bp r h;exact⟨a,ds,us,rfl,q,l.r,l.z,.inl ⟨n,l.e⟩⟩
theorem F4:CB X (.type "tuple") qM:=jE fun τ z Q R d v I ru q k=>by
 obtain⟨a,ds,us,rfl,q,r,hz,h⟩:=I.dG ru q;rcases h with ⟨n,e⟩ |⟨rfl,p⟩
 ·refine call_tuple_list ⟨_,e,rfl,_,rfl⟩ (λh' kp=>?_) (by rw[Xz];exact hz);exact (I.bX (t:=z.s.toks) kp).tup (t:=z.s.toks) k Le.rfl r (λb o e=>Xw _ e) (XC _) (XA _ rfl) ⟨rfl,rfl,⟨_,rfl⟩,hz⟩ q
 ·exact call_tuple_same p (k _ z _ Le.rfl I ru q)
theorem ints_of {G:Gx}{F:Fz}:∀{ns:List Int}{us:List Value},ah G F (ns.map D.int) us->IntsAre us ns
 |[],us,r=>by rw[YA,ah]at r;subst r;exact .nil
 |n::ns,us,r=>by rw[XJ,ah]at r;obtain⟨u,us,rfl,h,r⟩:=r;rw[ab]at h;obtain⟨t,rfl⟩:=h;exact .cons n t (ints_of r)
theorem F6 (hc:X.calm=true):CB X (.builtin "max") qN:=fun τ z Q R ds us I rs q k=>by
 unfold qN at q;split at q
 ·rename_i i j;obtain⟨u,v,rfl,h1,h2⟩:=gJ rs;rw[ab]at h1 h2;obtain⟨t,rfl⟩:=h1;obtain⟨t',rfl⟩:=h2;refine max_two_ints (I.ok.hd hc) λh' tk kp=>k _ ⟨z.F,z.M,_⟩ _ Le.rfl (I.bX (t:=tk) kp) ?_ q;by_cases hj:j > i
  ·rw[if_pos hj,if_pos hj];exact ck
  ·rw[if_neg hj,if_neg hj];exact ck
 ·obtain⟨u,rfl,ru⟩:=gI rs;obtain⟨a,ds,its,n,rfl,l,ns,rfl,h0,q⟩:=I.bp ru q;have hi:IntsAre its ns:=ints_of l.r;have hl:z.s.heap.IsList a its.toArray:=l.p.isList;obtain⟨xs,hx⟩:=hi.allInts.items;have hn:numsOf its.toArray.toList=ns:=by rw[show its.toArray.toList=its from rfl,hi.numsOf]
  rw[hx]at hl hn;rw[nums_intItems]at hn;have hsz:0<xs.size:=by
   have:=congrArg List.length hn;rw[Xx,XY]at this;lia
  refine max_intList (I.ok.hd hc) hl hsz λv h' tk hv hk=>?_;obtain⟨t,rfl⟩:=intItems_at hv;obtain⟨h1,h2⟩:=argBest_gt (numAt xs) (xs.size-1);refine k _ ⟨z.F,z.M,_⟩ _ Le.rfl (I.bX (t:=tk) hk) ck (q _ ?_ λa ha=>?_)
  ·rw[<- hn,numAt_eq];exact getD_mem (by rw[Xx,XY];lia)
  ·rw[<- hn]at ha;obtain⟨j,hj,rfl⟩:=mem_getD ha;rw[Xx,XY]at hj;rw[<- numAt_eq];exact h2 j (by lia)
 ·exact q.elim
theorem ae.F7 {τ:St} {z:Z}{s':Shared} (I:ae X τ z) (g:s'.gens=z.s.gens) (d:s'.drawn=z.s.drawn) (o:s'.os=z.s.os) (k:∀b ob,z.s.heap.get? b=some ob->s'.heap.get? b=some ob):ae X τ ⟨z.F,z.M,s'⟩:=by
 obtain⟨h',U7,d',dZ,qO⟩:=s';obtain rfl:U7=z.s.gens:=g;obtain rfl:d'=z.s.drawn:=d;obtain rfl:qO=z.s.os:=o;exact I.bX (t:=dZ) k
theorem xx {G:Gx}{F:Fz}:∀{bs:List Bool}{us:List Value}{i:Nat}{v:Value},ah G F (bs.map D.bl) us->us[i]?=some v->v=.bool (bs.getD i false)
 |[],us,i,v,r,e=>by rw[YA,ah]at r;subst r;simp at e
 |b::bs,us,0,v,r,e=>by rw[XJ,ah]at r;obtain⟨u,us,rfl,h,r⟩:=r;rw[ab]at h;subst h;cases e;rfl
 |b::bs,us,i+1,v,r,e=>by rw[XJ,ah]at r;obtain⟨u,us,rfl,h,r⟩:=r;exact xx (i:=i) r e
theorem xy (f:Bool->Bool):∀bs:List Bool,(YY bs.length).map (λi=>bs.getD i false)=bs
 |[]=>rfl
 |b::bs=>by rw[XI,List.range_succ_eq_map,XJ,YI];exact congrArg (b::·) (xy f bs)
theorem F8 (hc:X.calm=true):CB X (.builtin "any") (xw (·.any _root_.id)):=jE fun τ z Q R d v I ru q k=>by
 obtain⟨p,ds,its,n,rfl,l,bs,rfl,q⟩:=I.bp ru q;have hl:z.s.heap.IsList p its.toArray:=l.p.isList;have ne:p≠z.s.heap.objs.size:=XR (XO l.e);have W:=(Walks.list (prog:=X.G.P) (w:=X.G.w) (A:=X.A.in1) (I.ok.hd hc) z.s.heap.objs.size p ne its.toArray).toS;have lb:its.length=bs.length:=by have:=l.r.len;rw[Xx]at this;exact this.symm
 refine call_any_walkS (wpAny_pyIter_list hl ?_);refine⟨z.s.heap.objs.size,_,_,_,_,_,_,λi=>bs.getD i false,rfl,W,⟨⟨_,XA _ rfl,rfl,rfl⟩,hl.push _⟩,?_,λs' hm=>?_⟩
 ·intro i v s' Q' E' hP hq';have e:=xx (i:=i) (v:=v) l.r (by simpa using hP);subst e;exact Zt hq'
 ·have J:=I.F7 hm.gens hm.drawn hm.os λb o e=>hm.heap b o (λhb=>absurd (XO e) ((List.mem_singleton.mp hb) ▸ Y' _)) (Xw _ e);refine k (.bl (bs.any _root_.id)) ⟨z.F,z.M,s'⟩ _ Le.rfl J ?_ q;have e:(YY its.toArray.size).any (λi=>bs.getD i false)=bs.any _root_.id:=by
   rw[Xz,lb];exact (List.any_map (f:=λi=>bs.getD i false) (p:=_root_.id)).symm.trans (by rw[xy _root_.id])
  rw[e,ab]
end
end N
end
section
set_option maxHeartbeats 1000000
namespace N
open PySem PySem.Spec PyProof.Rows L2
abbrev QM:=D->QN
def OM (X:Cx) (id:String) (r:QM):Prop:=∀ τ z Q R d v ds us,ae X τ z->ab X.G z.F d v->ah X.G z.F ds us->r d ds z.M Q->KE X τ z.F Q R->W X (call (.builtin id) (v::us)) R z.s
def xA (T:String) (x:D) (M:Mp):Prop:=match x with
 |.str _=>T="str"
 |.tup _=>T="tuple"
 |.lst _=>T="list"
 |.ao _ _=>T="dict"
 |.ref a=>(T="list"/\∃xs,M a=some (.lst xs))\/(T="dict"/\∃kvs,M a=some (.ao kvs))
 |_=>False
def k5 (T:String) (r:QM) (to:DE) (t:DA):DE:=fun τ M q=>to τ M λx M1=>xA T x M1/\t τ M1 λds M2=>r x ds M2 q
def gj (o:D) (M:Mp) (k:Addr->List D->Prop):Prop:=match o with
 |.ref l=>∃xs,M l=some (.lst xs)/\k l xs
 |_=>False
def qP:QM:=λo ds M q=>match ds with
 |[y]=>gj o M λl xs=>xs.length<sizeLine/\q .aj (up M l (.lst (xs++[y])))
 |_=>False
def qQ:QM:=λo ds M q=>match ds with
 |[]=>gj o M λl xs=>∃y,xs[xs.length-1]?=some y/\q y (up M l (.lst xs.dropLast))
 |_=>False
def qR:QM:=λo ds M q=>match ds with
 |[y]=>gj o M λl xs=>dG y M λys=>xs.length+ys.length<=sizeLine/\q .aj (up M l (.lst (xs++ys)))
 |_=>False
def qS:QM:=λo ds M q=>match ds with
 |[y]=>cB o M λkvs=>dX y λk=>q ((aT kvs k).getD .aj) M
 |[y,w]=>cB o M λkvs=>dX y λk=>q ((aT kvs k).getD w) M
 |_=>False
section
variable {X:Cx}{o e:Expr}{es:List Expr}{to:DE}{t:DA}{name:Str}{cr cpos:Pos}{T id:String}{r:QM} {τ:St} {z:Z}
theorem qT {x:D}{v:Value} (I:ae X τ z) (r:ab X.G z.F x v) (ty:xA T x z.M):z.s.TypeIs v T/\∀a,v=.ref a->∃ob,z.s.heap.get? a=some ob/\ob.dict=none:=by
 have lst:∀{ds:List D}{us:List Value}{a:Addr}{n:Nat},eM X.G z.F z.s.heap a ds us n->z.s.TypeIs (.ref a) "list"/\∀b,Yj a=.ref b->∃ob,z.s.heap.get? b=some ob/\ob.dict=none:=λl=>⟨l.p.isList.typeIs,λb e=>by cases e;exact⟨_,l.e,rfl⟩⟩;have ao:∀{kvs:List (Key×D)}{vs:List (Key×Value)}{a:Addr},jx X.G z.F z.s.heap a kvs vs->z.s.TypeIs (.ref a) "dict"/\∀b,Yj a=.ref b->∃ob,z.s.heap.get? b=some ob/\ob.dict=none:=λl=>by
  obtain⟨o,_,_,e,ex,_⟩:=l.d;exact⟨⟨o,e,ex.1⟩,λb q=>by cases q;exact⟨o,e,ex.2.1⟩⟩
 cases x with
 |str w=>rw[ab]at r;obtain⟨t,rfl⟩:=r;cases (show T="str" from ty);exact⟨typeIs_str z.s w t,λ_ e=>nomatch e⟩
 |tup ds=>obtain⟨a,us,o,rfl,l⟩:=I.cX r;cases (show T="tuple" from ty);exact⟨l.p.typeIs,λb e=>by cases e;exact⟨_,l.e,l.t.dict⟩⟩
 |lst ds=>obtain⟨a,us,n,rfl,l⟩:=I.f7 r;cases (show T="list" from ty);exact lst l
 |ao ks ds=>obtain⟨a,kvs,vs,rfl,l,_⟩:=I.cB (k:=λ_=>True) r trivial;cases (show T="dict" from ty);exact ao l
 |ref a=>
  rw[ab]at r;subst r;rcases ty with ⟨rfl,xs,h⟩ |⟨rfl,kvs,h⟩
  ·obtain⟨us,n,l⟩:=I.eO h;exact lst l
  ·obtain⟨vs,l⟩:=I.jy h;exact ao l
 |_=>exact ty.elim
theorem F9 (pa:PlainAttrs T) (slot:Slot T name id) (qU:typeOf (.builtin id)=pure (.type "method_descriptor")) (hm:OM X id r) (ho:PE X o to)
  (iA:attributeBase o name X.env (eval o X.env)=eval o X.env) (c5:(cr.endLine == cpos.line)=true):PE X (.Call (.Attribute o name cr) [] [] cpos) (k5 T r to eK):=fun τ z Q R I h k=>
 wpAny_Call_method0_late iA c5 (ho τ z _ _ I h λx z1 v l1 I1 r1 q1=>by
  obtain⟨h1,h2⟩:=qT I1 r1 q1.1;exact⟨T,id,pa,slot,qU,h1,h2,Calls.callWith_builtin rfl (PySem.evalArgs_none (hm τ z1 Q R x v [] [] I1 r1 .nil q1.2 λd z2 u l2=>k d z2 u (l1.tr l2)))⟩)
theorem Ga (pa:PlainAttrs T) (slot:Slot T name id) (qU:typeOf (.builtin id)=pure (.type "method_descriptor")) (hm:OM X id r) (ho:PE X o to) (ha:PA X (e::es) t)
  (iA:attributeBase o name X.env (eval o X.env)=eval o X.env)
  (FM:((backTo cpos (starEach (e::es) X.env)).all (λx=>!x.1) && (backToKw cpos (keywordEach [] X.env)).all (λx=>x.1.isSome)
   && decide ((e::es).length+([]:List Keyword).length+(if ([]:List Keyword).isEmpty then 0 else 1)<30))=true)
  (c5:(cr.endLine == cpos.line)=true) (hs:starEach (e::es) X.env=(false,eval e X.env)::starEach es X.env) (FS:(backTo cpos (starEach es X.env)).any (·.1)=false) :
  PE X (.Call (.Attribute o name cr) (e::es) [] cpos) (k5 T r to t):=fun τ z Q R I h k=>
 wpAny_Call_method_late iA FM c5 rfl (ho τ z _ _ I h λx z1 v l1 I1 r1 q1=>by
  obtain⟨h1,h2⟩:=qT I1 r1 q1.1;refine⟨T,id,pa,slot,qU,h1,h2,?_⟩;have hA:=ha cpos τ z1 _ (λus s=>W X (call (.builtin id) (v::us)) R s) I1 q1.2 λds z2 us l2 I2 r2 q2=>hm τ z2 Q R x v ds us I2 (r1.up l2.d) r2 q2 λd z3 u l3=>k d z3 u (l1.tr (l2.tr l3));rw[hs]at hA ⊢;exact Calls.callWith_builtin (by show (false ||(backTo cpos (starEach es X.env)).any (·.1))=false;rw[FS] <;> rfl) (Calls.evalArgs_plain hA))
theorem ae.gj {d:D}{u:Value}{k:Addr->List D->Prop} (I:ae X τ z) (r:ab X.G z.F d u) (h:gj d z.M k):∃a ds us n,u=.ref a/\z.M a=some (.lst ds)/\eM X.G z.F z.s.heap a ds us n/\k a ds:=by
 unfold N.gj at h;split at h
 ·obtain⟨xs,h1,h2⟩:=h;rw[ab]at r;obtain⟨us,n,l⟩:=I.eO h1;exact⟨_,xs,us,n,r,h1,l,h2⟩
 ·exact h.elim
theorem ae.nL {a:Addr}{xs ys:List D}{us us':List Value}{n t:Nat}{f:Array Value->Array Value} (I:ae X τ z) (h:z.M a=some (.lst xs)) (e:z.s.heap.get? a=some (bS us n)) (hf:f us.toArray=us'.toArray) (r:ah X.G z.F ys us') (hz:us'.length<=sizeLine) :
  ae X τ ⟨z.F,up z.M a (.lst ys),{ z.s with heap:=z.s.heap.update a (Yh f),toks:=t }⟩:=by
 have q:=PySem.IsL.update e f;rw[hf]at q;exact I.xg (us:=us) (n:=n) h (λb hb o q=>(Zy _ _ (Y0 hb)).trans q) q r hz
theorem Gb:OM X "list.append" qP:=fun τ z Q R d v ds us I rv rs h k=>by
 unfold qP at h;split at h
 ·obtain⟨u,rfl,ru⟩:=gI rs;obtain⟨a,xs,its,n,rfl,hM,l,hz,q⟩:=I.gj rv h;have hl:=l.r.len;refine call_meets F.slot_list_append ⟨_,l.e,rfl⟩ F.entry_list_append (F.args_list_append_2 _ _) (PySem.list_append a its.toArray n u (by rw[Xz];lia)) ⟨l.e,?_⟩;exact k .aj ⟨z.F,_,_⟩ _ Le.rfl (I.nL (us':=its++[u]) hM l.e (by simp) (l.r.app (.cons ru .nil)) (by rw[XU,List.length_singleton];lia)) (by rw[ab]) q
 ·exact h.elim
theorem ah.init {G:Gx}{F:Fz}{ds:List D}{us:List Value} (r:ah G F ds us):ah G F ds.dropLast us.dropLast:=by
 rw[List.dropLast_eq_take,List.dropLast_eq_take,<- r.len];exact r.qL 0 _
theorem Ge:OM X "list.pop" qQ:=fun τ z Q R d v ds us I rv rs h k=>by
 unfold qQ at h;split at h
 ·rw[ah]at rs;subst rs;obtain⟨a,xs,its,n,rfl,hM,l,y,hy,q⟩:=I.gj rv h;have hl:=l.r.len;have hz:=l.z;obtain⟨u,hu,ru⟩:=l.r.get hy;have Gc:its.toArray[its.toArray.size-1]?=some u:=by
   show its.toArray[its.length-1]?=some u;rw[<- Y2,<- hl];exact hu
  refine call_meets F.slot_list_pop ⟨_,l.e,rfl⟩ F.entry_list_pop (F.args_list_pop_1 _) (MeetsSeq.list_pop_last a its.toArray n u Gc (by rw[Xz];lia)) ⟨l.e,?_⟩;refine k y ⟨z.F,_,_⟩ _ Le.rfl (I.nL (us':=its.dropLast) hM l.e ?_ l.r.init (by rw[List.length_dropLast];lia)) ru q;show its.toArray.eraseIdxIfInBounds (its.toArray.size-1)=its.dropLast.toArray;rw[Xz,List.eraseIdxIfInBounds_toArray,E4]
 ·exact h.elim
theorem Gf:OM X "dict.get" qS:=fun τ z Q R d v ds us I rv rs h k=>by
 have val:∀{kvs:List (Key×D)}{vs:List (Key×Value)}{c:Key}{w:D}{r:Value},KV X.G z.F kvs vs->ab X.G z.F w r->ab X.G z.F ((aT kvs c).getD w) ((valueAt vs c).getD r):=λ{kvs vs c w r} rel iz=>by
  have:=rel.val c;cases e1:aT kvs c <;> cases e2:valueAt vs c <;> rw[e1,e2]at this <;> first |exact this.elim |exact iz |exact this
 unfold qS at h;split at h
 ·obtain⟨u,rfl,ru⟩:=gI rs;obtain⟨a,kvs,vs,rfl,l,h⟩:=I.cB rv h;obtain⟨c,hc,q⟩:=jz (P:=X.G.P) (w:=X.G.w) h ru;exact call_meetsIn PySem.F.slot_dict_get l.d.typeIs PySem.F.entry_dict_get (PySem.F.args_dict_get_2 _ _) (meets_dict_get (bE X.G.P X.G.w) a hc l.n) ⟨_,l.d.mapOf,I.fin k Le.rfl (val l.r (by rw[ab])) q _⟩
 ·obtain⟨u,w,rfl,ru,iz⟩:=gJ rs;obtain⟨a,kvs,vs,rfl,l,h⟩:=I.cB rv h;obtain⟨c,hc,q⟩:=jz (P:=X.G.P) (w:=X.G.w) h ru;exact call_meetsIn PySem.F.slot_dict_get l.d.typeIs PySem.F.entry_dict_get (PySem.F.args_dict_get_3 _ _ _) (meets_dict_get_default (bE X.G.P X.G.w) a hc l.n w) ⟨_,l.d.mapOf,I.fin k Le.rfl (val l.r iz) q _⟩
 ·exact h.elim
end
end N
end
section
namespace L2
open PySem PySem.Spec PyProof.Rows PySem.W
section
variable {prog:Program}{w:World}{A:Around}{E:Value->Shared->Prop}{s:Shared}
theorem Gg:typeLookup (.type "tuple") "keys"=pure none:=by rw[Y4,YB];kernel_rfl
theorem Gh:typeLookup (.type "list") "keys"=pure none:=by rw[Y4,YB];kernel_rfl
theorem Gi {a:Addr}{o:Obj}{xs:Array Value}{k:Nat}{Q:Option Value->Shared->Prop} (hx:s.heap.get? a=some o) (hc:o.cls=.type "tuple") (iB:o.data=.seq xs k) (hd:o.dict=none) (hA:A.handled=none)
  (h:∀h' tk,(∀b o,s.heap.get? b=some o->h'.get? b=some o)->Q none { s with heap:=h',toks:=tk }):wpAny (model prog w) A (getAttr? (.ref a) "keys") Q E s:=by
 obtain⟨c,ao,dat,sl⟩:=o;simp only at hc iB hd;subst hc iB hd;obtain⟨hp,g,d,tk,os⟩:=s;have hT:∀dZ,(⟨hp,g,d,dZ,os⟩:Shared).TypeIs (.ref a) "tuple":=λ_=>⟨_,hx,rfl⟩;have f1:=sub_AttributeError;have f3:=F.slot_tuple_getattribute.lookup;have f4:=F.slot_tuple_getattribute.bind (.ref a);have f5:=am_tuple_getattr_none;have qV:(["__module__","__name__","__qualname__","__doc__","__annotations__"]:List Str).contains "keys"=false:=by decide
 unfold getAttr? getAttrBy? getAttrBy
 repeat (any_goals (first |assumption |exact hT _ |((with_reducible show wpAny _ _ (call (Value.builtin "tuple.__getattribute__") _ _) _ _ _);refine call_meets F.slot_tuple_getattribute (hT _) am_entry_tuple_getattribute (F.args_tuple_getattribute_2 _ _) (meets_getattribute_miss_tuple a xs k sl "keys" _ Gg qV) ⟨hx,hA,λh' dZ e cW=>?_⟩) |wp_step))
 obtain⟨t',u',he⟩:=cW.there;show wpAny _ _ (getattributeRaised _ _ _ _ _ _ _) _ _ _;unfold getattributeRaised
 repeat (any_goals (first |assumption |wp_step))
 exact h _ _ cW.keeps
theorem Gj {a:Addr}{o:Obj}{xs:Array Value}{k:Nat}{Q:Option Value->Shared->Prop} (hx:s.heap.get? a=some o) (hc:o.cls=.type "list") (iB:o.data=.seq xs k) (hd:o.dict=none) (hA:A.handled=none)
  (h:∀h' tk,(∀b o,s.heap.get? b=some o->h'.get? b=some o)->Q none { s with heap:=h',toks:=tk }):wpAny (model prog w) A (getAttr? (.ref a) "keys") Q E s:=by
 obtain⟨c,ao,dat,sl⟩:=o;simp only at hc iB hd;subst hc iB hd;obtain⟨hp,g,d,tk,os⟩:=s;have hT:∀dZ,(⟨hp,g,d,dZ,os⟩:Shared).TypeIs (.ref a) "list":=λ_=>⟨_,hx,rfl⟩;have f1:=sub_AttributeError;have f3:=F.slot_list_getattribute.lookup;have f4:=F.slot_list_getattribute.bind (.ref a);have f5:=am_list_getattr_none;have qV:(["__module__","__name__","__qualname__","__doc__","__annotations__"]:List Str).contains "keys"=false:=by decide
 unfold getAttr? getAttrBy? getAttrBy
 repeat (any_goals (first |assumption |exact hT _ |((with_reducible show wpAny _ _ (call (Value.builtin "list.__getattribute__") _ _) _ _ _);refine call_meets F.slot_list_getattribute (hT _) am_entry_list_getattribute (F.args_list_getattribute_2 _ _) (meets_getattribute_miss_list a xs k sl "keys" _ Gh qV) ⟨hx,hA,λh' dZ e cW=>?_⟩) |wp_step))
 obtain⟨t',u',he⟩:=cW.there;show wpAny _ _ (getattributeRaised _ _ _ _ _ _ _) _ _ _;unfold getattributeRaised
 repeat (any_goals (first |assumption |wp_step))
 exact h _ _ cW.keeps
theorem xB:entryFor table "dict.update.loop"=some Builtin.«dict.update.loop»:=entryFor_of_tree (by kernel_rfl)
theorem jF:plainId "dict.update.loop"=true:=by decide +kernel
variable {I:Addr}{fp wr:List Addr}{n:Nat}{P:Nat->Value->Prop}{St:Nat->Heap->Prop}
def xC (prog:Program) (w:World) (A:Around) (d:Addr) (n:Nat) (P:Nat->Value->Prop) (DK:Nat->Heap->Prop):Prop:=
 ∀(i:Nat) (v:Value) (s:Shared),i<n->P i v->DK i s.heap->∃(a:Addr) (o:Obj) (xs:Array Value) (m:Nat) (k x:Value),v=.ref a/\s.heap.get? a=some o/\o.cls=.type "tuple"/\o.data=.seq xs m/\xs.toList=[k,x] /\
  ∀(Q:Unit->Shared->Prop) (E:Value->Shared->Prop),(∀h' tk,DK (i+1) h'->Za d s.heap h'->Q () { s with heap:=h',toks:=tk })->wpAny (model prog w) A (dictSet d k x) Q E s
theorem Gk {R:Result->Shared->Prop}{DK:Nat->Heap->Prop} (W:Walks prog w A.in1 I fp wr n P St) (d:Addr) (jG:d ∉ fp) (hfr:∀ i h h',DK i h->(∀ b o,b ∉ wr->h.get? b=some o->h'.get? b=some o)->DK i h') (put:xC prog w A.in1 d n P DK) (res:Value) :
  ∀(k i:Nat) (t:Tok) (s:Shared),n-i=k->i<=n->St i s.heap->DK i s.heap ->
  (∀h' tk,DK n h'->(∀b o,b ∉ d::wr->s.heap.get? b=some o->h'.get? b=some o)->R (.ok (.ret res)) { s with heap:=h',toks:=tk }) ->
  codeAny (model prog w) A (.builtin "dict.update.loop" ⟨[.ref d,.ref I,.int i t,res],[]⟩) R s:=by
 have SW:d ∉ wr:=λh=>jG (W.sub _ h);intro k
 induction k with
 |zero=>
  intro i t s hk hi eS hD Uk;have Gm:i=n:=by lia
  subst Gm;refine YQ xB ?_;rw[Yx jF _];show wpAny _ A.in1 (pyNext (.ref I) >>= _) _ _ s;refine Xv (W.done s _ _ eS λh' tk hm=>?_);dsimp only;unfold Builtin.Dict.addKeywords;refine Xv (Xy ?_);exact Xy (Uk h' tk (hfr _ _ _ hD hm) λb o hb e=>hm b o (λz=>hb (XF _ z)) e)
 |succ k ih=>
  intro i t s hk hi eS hD Uk;have a2:i<n:=by lia
  refine YQ xB ?_;rw[Yx jF _];show wpAny _ A.in1 (pyNext (.ref I) >>= _) _ _ s;refine Xv (W.item i s _ _ a2 eS λv h' tk hP Go hm=>?_);dsimp only;obtain⟨a,o,xs,m,Xd,x,rfl,ho,hc,iB,Gq,Gr⟩:=put i v { s with heap:=h',toks:=tk } a2 hP (hfr _ _ _ hD hm);refine Xv (Yv (Xv (wpAny_tryCatch ?_)));unfold Builtin.Dict.pairItems;refine Xv (wpAny_typeOf (T:="tuple") ⟨o,ho,hc⟩ ?_);rw[if_pos (by decide)];refine Xv (Zg ho iB (Xy ?_));dsimp only[Option.getD_some];rw[Gq];dsimp only;refine Yv (Gr _ _ λim dZ Gs hs=>?_);refine Xy ⟨YV jF _,?_⟩;have:=ih (i+1) 0 { s with heap:=im,toks:=dZ } (by lia) a2 (W.frame _ _ _ Go λb hb o e=>(hs.2 b (λz=>jG (z ▸ hb))).trans e) Gs (λh3 Gu Gv Gw=>Uk h3 Gu Gv λb o hb e=>Gw b o hb ((hs.2 b (λz=>hb (by simp [z]))).trans (hm b o (λz=>hb (XF _ z)) e)));exact this
end
end L2
namespace L2
open PySem PySem.Spec PyProof.Rows PySem.W
structure nM (prog:Program) (w:World) (T:String) (r:Addr) (n:Nat) (P:Nat->Value->Prop) (OK:Heap->Prop):Prop where
 type:∀s:Shared,OK s.heap->s.TypeIs (.ref r) T
 there:∀h:Heap,OK h->r<h.objs.size
 keep:∀h h':Heap,OK h->(∀o,h.get? r=some o->h'.get? r=some o)->OK h'
 notDict:(ZF T != ZF "dict")=true
 qW:∀(A:Around) (E:Value->Shared->Prop) (s:Shared) (Q:Option Value->Shared->Prop),A.handled=none->OK s.heap->(∀h' tk,(∀b o,s.heap.get? b=some o->h'.get? b=some o)->Q none { s with heap:=h',toks:=tk })->wpAny (model prog w) A (getAttr? (.ref r) "keys") Q E s
 iter:∀(A:Around) (s:Shared),A.handled=none->OK s.heap->∃(oI:Obj) (St:Nat->Heap->Prop),
  (∀(E:Value->Shared->Prop) (Q:Value->Shared->Prop),Q (.ref s.heap.objs.size) { s with heap:=s.heap.push oI }->wpAny (model prog w) A (pyIter (.ref r)) Q E s) /\
  Walks prog w A s.heap.objs.size [s.heap.objs.size,r] [s.heap.objs.size] n P St/\St 0 (s.heap.push oI)
section
variable {prog:Program}{w:World}{A:Around}{E:Value->Shared->Prop}{s:Shared}{T:String}{r:Addr}{n:Nat}{P:Nat->Value->Prop}{OK:Heap->Prop}
theorem Gy {k:Nat}{its:Array Value}:nM prog w "list" r its.size (λi v=>its[i]?=some v) (λh=>h.get? r=some { cls:=.type "list",data:=.seq its k }) where
 type:=λs h=>⟨_,h,rfl⟩
 there:=λh e=>XO e
 keep:=λh h' e k=>k _ e
 notDict:=by decide
 qW:=λA E s Q hA e q=>Gj e rfl rfl rfl hA q
 iter:=λA s hA e=>by
  have hl:s.heap.IsList r its:=⟨_,e,rfl,k,rfl⟩;have ne:r≠s.heap.objs.size:=XR (XO e);exact⟨_,_,λ_ _ q=>wpAny_pyIter_list hl q,Walks.list hA s.heap.objs.size r ne its,⟨⟨_,XA _ rfl,rfl,rfl⟩,hl.push _⟩⟩
theorem Gz {its:Array Value}:nM prog w "tuple" r its.size (λi v=>its[i]?=some v) (λh=>∃o k,h.get? r=some o/\o.cls=.type "tuple"/\o.data=.seq its k/\o.dict=none) where
 type:=λs ⟨o,k,h,c,_⟩=>⟨_,h,c⟩
 there:=λh ⟨o,k,e,_⟩=>XO e
 keep:=λh h' ⟨o,k,e,c⟩ q=>⟨o,k,q _ e,c⟩
 notDict:=by decide
 qW:=λA E s Q hA ⟨o,k,e,c,d,z⟩ q=>Gi e c d z hA q
 iter:=λA s hA ⟨o,k,e,c,d,z⟩=>by
  have hl:s.heap.IsTuple r its:=⟨o,e,c,k,d⟩;have ne:r≠s.heap.objs.size:=XR (XO e);exact⟨_,_,λ_ _ q=>ZI hl q,Walks.tuple hA s.heap.objs.size r ne its,⟨⟨_,XA _ rfl,rfl,rfl⟩,hl.push _⟩⟩
theorem GA {DK:Nat->Heap->Prop}{Q:Value->Shared->Prop} (K:nM prog w T r n P OK) (hA:A.handled=none) (hok:OK s.heap) (d0:DK 0 (s.heap.push { cls:=.type "dict",data:=.dict #[] }))
  (hfr:∀i h h' (it:Addr),s.heap.objs.size<it->DK i h->(∀b o,b≠it->h.get? b=some o->h'.get? b=some o)->DK i h') (put:∀A':Around,A'.units<=A.units+5->xC prog w A' s.heap.objs.size n P DK)
  (h:∀h' tk,DK n h'->(∀b o,s.heap.get? b=some o->h'.get? b=some o)->Q (.ref s.heap.objs.size) { s with heap:=h',toks:=tk }):wpAny (model prog w) A (call (.type "dict") [.ref r]) Q E s:=by
 refine callType_codes (Q₁:=λobj s₁=>obj=.ref s.heap.objs.size/\s₁={ s with heap:=s.heap.push { cls:=.type "dict",data:=.dict #[] } }) F.kt_called_dict (F.kt_typeCall_dict_1 _) F.entry_dict_init (kt_code_dict_new _ ⟨rfl,rfl⟩) ?_;rintro obj s₁ ⟨rfl,rfl⟩;have k1:∀ b o,s.heap.get? b=some o->(s.heap.push { cls:=.type "dict",data:=.dict #[] }).get? b=some o:=λb o e=>Xw _ e;have qX:OK (s.heap.push { cls:=.type "dict",data:=.dict #[] }):=K.keep _ _ hok λo e=>k1 _ o e;have wv:(Shared.TypeIs { s with heap:=s.heap.push { cls:=.type "dict",data:=.dict #[] } } (.ref s.heap.objs.size) "dict"):=⟨_,XA _ rfl,rfl⟩;refine⟨wv,F.args_dict_init_2 _ _,?_⟩;unfold Builtin.«dict.__init__»;refine Xv ?_;unfold Builtin.Dict.selfAndRest;refine Xv (wpAny_notOrdered_dict wv ?_);show wpAny _ _ (pure (s.heap.objs.size,[Yj r])) _ _ _;refine Xy ?_;show wpAny _ _ (Builtin.Dict.updateFrom "dict.__init__" s.heap.objs.size (.ref r) [] .none) _ _ _;unfold Builtin.Dict.updateFrom;refine Xv (wpAny_typeOf (K.type _ qX) ?_);rw[if_pos K.notDict];refine Xv (K.qW A.in1.in1 _ { s with heap:=s.heap.push { cls:=.type "dict",data:=.dict #[] } } _ hA qX λh2 ww k2=>?_);simp only[Option.isNone_none,if_true];refine Xv (wpAny_rule ?_);have GB:OK h2:=K.keep _ _ qX λo e=>k2 _ o e;obtain⟨oI,St,hit,W,st⟩:=K.iter A.in1.in1 { s with heap:=h2,toks:=ww } hA GB;have nN:s.heap.objs.size<h2.objs.size:=XO (k2 _ _ (XA _ rfl));refine Xv (hit _ _ ?_);have hr:r<s.heap.objs.size:=K.there _ hok;have loop:=Gk (A:=A.in1) (R:=wants (λr' s₂=>r'=.none/\Q (.ref s.heap.objs.size) s₂) E) (DK:=DK) W s.heap.objs.size (by
   simp only[X5,XT,or_false,not_or];exact⟨XR nN,YJ hr⟩)
  (λi h h' x k=>hfr i h h' h2.objs.size nN x λb o hb e=>k b o (by simpa using hb) e) (put _ (by show A.units+1+1<=_;lia)) .none n 0 0 { s with heap:=h2.push oI,toks:=ww } rfl (XM _) st
  (hfr 0 _ _ h2.objs.size nN d0 λb o _ e=>Xw _ (k2 b o e)) (λh' tk hD hk=>⟨rfl,h h' tk hD λb o e=>hk b o (by
   have hb:=XO e;simp only[X5,XT,or_false,not_or];exact⟨XR hb,XR (Ys hb nN)⟩) (Xw _ (k2 b o (k1 b o e)))⟩)
 first
  |exact Xy ⟨YV jF _,loop⟩
  |exact Xy (Xy ⟨YV jF _,loop⟩)
  |exact Xv (Xy (Xy ⟨YV jF _,loop⟩))
end
end L2
end
section
set_option maxHeartbeats 1000000
namespace N
open PySem PySem.Spec PyProof.Rows L2
def iC (kvs:List (Key×D)) (M:Mp) (q:QK):Prop:=q (.ao (kvs.map (·.1)) (kvs.map (·.2))) M\/∀p,M p=none->q (.ref p) (up M p (.ao kvs))
noncomputable def cO (kvs:List (Key×D)):List (Key×D):=kvs.foldl (λal kv=>bq al kv.1 kv.2) []
def xD:DE:=λ_ M q=>iC [] M q
def qY:List (DE×DE)->St->Mp->(List (Key×D)->Mp->Prop)->Prop
 |[],_,M,q=>q [] M
 |(tk,tv)::r,τ,M,q=>tk τ M λx M1=>dX x λc=>tv τ M1 λy M2=>qY r τ M2 λkvs M3=>q ((c,y)::kvs) M3
def xE (ps:List (DE×DE)):DE:=fun τ M q=>qY ps τ M λkvs M2=>iC (cO kvs) M2 q
noncomputable def iE:Key->D
 |.inl i=>.int i
 |.inr x=>.str x
noncomputable def ek (p:Key×D):D:=.tup [iE p.1,p.2]
def xF:QN:=n1 λx M q=>(cB x M λkvs=>iC kvs M q)\/dG x M λds=>∃kvs:List (Key×D),ds=kvs.map ek/\iC (cO kvs) M q
section
variable {X:Cx} {τ:St} {z:Z}
theorem ae.nP (I:ae X τ z):sysModules<z.s.heap.objs.size:=Ys (by decide) (I.ok.bC.dE.keeps I.bk).lt
theorem k6 {G:Gx}{F:Fz}:∀{kvs:List (Key×D)}{vs:List (Key×Value)},KV G F kvs vs->ah G F (kvs.map (·.2)) (vs.map (·.2))/\kvs.map (·.1)=vs.map (·.1)
 |_,_,.nil=>⟨.nil,rfl⟩
 |_,_,.cons r t=>⟨.cons r.2 (k6 t).1,by rw[XJ,XJ,r.1,(k6 t).2]⟩
theorem xG (vs:List (Key×Value)):(vs.map (·.1)).zip (vs.map (·.2))=vs:=by
 induction vs with
 |nil=>rfl
 |cons p r ih=>rw[XJ,XJ,YN,ih]
theorem aK.GC {G:Gx}{F:Fz}{M:Mp}{h:Heap}{a:Addr}{o:MO} (x:aK G F M h) (hF:F a=none) (hM:M a=none) (new:ec G F (N.up M a o) h a o):aK G F (N.up M a o) h:=
 ⟨x.fz,λb u e=>by
  by_cases hb:b=a
  ·subst hb;rw[av]at e;cases e;exact⟨hF,new⟩
  ·rw[aF hb]at e;exact⟨(x.ob b u e).1,(x.ob b u e).2.go Le.rfl.d (λ_ _ _ q=>q) λc q=>by rw[aF (di q hM)];exact q⟩,x.tb⟩
theorem ae.xH {a:Addr}{o:Obj} (I:ae X τ z) (f:Fp X z a) (e:z.s.heap.get? a=some o):Le z.F (N.up z.F a (.dat o))/\ae X τ ⟨N.up z.F a (.dat o),z.M,z.s⟩:=
 ⟨Le.new f.f,I.go (Le.new f.f) (I.hok.ky f.f f.m e) (λb hb=>⟨bw.s λ_ e=>e,I.dk hb,aF λq=>f.o (q ▸ hb)⟩) rfl I.bare⟩
theorem ae.take {a:Addr}{o:MO} (I:ae X τ z) (f:Fp X z a) (new:ec X.G z.F (N.up z.M a o) z.s.heap a o):ae X τ ⟨z.F,N.up z.M a o,z.s⟩:=
 I.go Le.rfl (I.hok.GC f.f f.m new) (λb hb=>⟨bw.s λ_ e=>e,(aF (show b≠a from λq=>f.o (q ▸ hb))).trans (I.dk hb),rfl⟩) rfl I.bare
theorem ae.qZ {ds:List D}{us:List Value}{a:Addr}{n:Nat}{Q:QK}{R:Value->Shared->Prop}{F:Fz} (I:ae X τ z) (f:Fp X z a) (k:KE X τ F Q R) (l:Le F z.F) (r:ah X.G z.F ds us) (ho:z.s.heap.get? a=some (bS us n)) (hz:us.length<=sizeLine) (q:bZ ds z.M Q):R (.ref a) z.s:=by
 rcases q with q |q
 ·obtain⟨l1,J⟩:=I.xH f ho;exact k (.lst ds) ⟨N.up z.F a (.dat (bS us n)),z.M,z.s⟩ _ (l.tr l1) J (m6 av hz (r.up l1.d)) q
 ·exact k (.ref a) ⟨z.F,N.up z.M a (.lst ds),z.s⟩ _ l (I.take (o:=.lst ds) f ⟨by rw[r.len];exact hz,us,n,r,ho⟩) p0 (q a f.m)
theorem ae.xI {kvs:List (Key×D)}{vs:List (Key×Value)}{a:Addr}{Q:QK}{R:Value->Shared->Prop}{F:Fz} (I:ae X τ z) (f:Fp X z a) (nP:(a == sysModules)=false) (k:KE X τ F Q R) (l:Le F z.F) (r:KV X.G z.F kvs vs) (ho:z.s.heap.DictOf (bE X.G.P X.G.w) a vs) (hz:kvs.length<=sizeLine) (q:iC kvs z.M Q):R (.ref a) z.s:=by
 rcases q with q |q
 ·obtain⟨o,es,ep,e,ex,g1,g2,g3,nd⟩:=ho;obtain⟨l1,J⟩:=I.xH f e;obtain⟨k1,k2⟩:=k6 (r.up l1.d);refine k (.ao (kvs.map (·.1)) (kvs.map (·.2))) ⟨N.up z.F a (.dat o),z.M,z.s⟩ _ (l.tr l1) J ?_ q;rw[ab];refine⟨a,o,vs.map (·.2),rfl,av,⟨ex,⟨es,ep,g1,g2,?_⟩,by rw[k2];exact nd,by rw[k2,Xx,Xx],by rw[Xx];exact hz⟩,nP,k1⟩;rw[k2,xG];exact g3
 ·exact k (.ref a) ⟨z.F,N.up z.M a (.ao kvs),z.s⟩ _ l (I.take (o:=.ao kvs) f ⟨hz,nP,vs,r,ho⟩) p0 (q a f.m)
theorem ae.xJ {a:Addr} (I:ae X τ z) (hp:z.s.heap.objs.size<=a):(a == sysModules)=false:=beq_eq_false_iff_ne.mpr (Y0 (XR (XW I.nP hp)))
theorem ae.ao {kvs:List (Key×D)}{vs:List (Key×Value)}{h':Heap}{a:Addr}{t:Nat}{Q:QK}{R:Value->Shared->Prop}{F:Fz} (I:ae X τ z) (k:KE X τ F Q R) (l:Le F z.F) (r:KV X.G z.F kvs vs) (kp:∀b,bw z.s.heap h' b) (hp:z.s.heap.objs.size<=a) (ho:h'.DictOf (bE X.G.P X.G.w) a vs) (hz:kvs.length<=sizeLine) (q:iC kvs z.M Q):R (.ref a) { z.s with heap:=h',toks:=t }:=
 (I.bX (t:=t) kp).xI (I.kI hp) (I.xJ hp) k l r ho hz q
variable {pos:Pos}{eT:List (Option Expr)}{iF:List Expr}{ps:List (DE×DE)}{k v:Expr}{tk tv:DE}
theorem GD:PE X (.Dict [] [] pos) xD:=fun τ z Q R I h k=>
 wpAny_Dict_empty (I.ao (vs:=[]) (t:=z.s.toks) k Le.rfl .nil (λ_ _ q=>Xw _ q) (XC _) (Heap.DictOf.new _) (XM _) h)
def PP (X:Cx) (pos:Pos) (eT:List (Option Expr)) (iF:List Expr) (ps:List (DE×DE)):Prop:=∀ τ z Q R,ae X τ z->qY ps τ z.M Q ->
 (∀kvs z' rs ws,Le z.F z'.F->ae X τ z'->Carries (bE X.G.P X.G.w) ws rs->KV X.G z'.F kvs rs->kvs.length=eT.length->Q kvs z'.M->R ws z'.s)->W X (evalPairs (pairTrees eT iF X.env pos)) R z.s
theorem GF:PP X pos [] [] []:=fun τ z Q R I h k=>pairTrees_nil_walk (k [] z [] [] Le.rfl I ZJ .nil rfl h)
theorem GG (hk:PE X k tk) (hv:PE X v tv) (hr:PP X pos eT iF ps):PP X pos (some k::eT) (v::iF) ((tk,tv)::ps):=fun τ z Q R I h K=>
 pairTrees_cons_walk (hk τ z _ _ I h λx z1 u l1 I1 r1 q1=>by
  obtain⟨c,hc,q1⟩:=jz (P:=X.G.P) (w:=X.G.w) q1 r1;exact hv τ z1 _ _ I1 q1 λy z2 w l2 I2 r2 q2=>hr τ z2 _ _ I2 q2 λkvs z3 rs ws l3 I3 ca rel hl q3=>K ((c,y)::kvs) z3 ((c,w)::rs) ((u,w)::ws) (l1.tr (l2.tr l3)) I3 ⟨hc,rfl,ca⟩ (.cons ⟨rfl,r2.up l3.d⟩ rel) (by rw[XI,XI,hl]) q3)
theorem KV.cO:∀{more:List (Key×D)}{rs:List (Key×Value)}{G:Gx}{F:Fz}{kvs:List (Key×D)}{vs:List (Key×Value)},KV G F more rs->KV G F kvs vs->KV G F (more.foldl (λal kv=>bq al kv.1 kv.2) kvs) (merged vs rs)/\(more.foldl (λal kv=>bq al kv.1 kv.2) kvs).length<=kvs.length+more.length:=by
 intro more rs G F kvs vs r;unfold KV at r
 induction r generalizing kvs vs with
 |nil=>intro q;exact⟨q,XC _⟩
 |@cons p q ps qs h t ih=>
  intro r0;have e:KV G F (bq kvs p.1 p.2) (stored vs q.1 q.2):=by
   have:=r0.put p.1 h.2;rw[<- h.1];exact this
  refine⟨(ih e).1,XG (ih e).2 ?_⟩;have:=wD kvs p.1 p.2;rw[XI];lia
theorem GH (h:PP X pos eT iF ps) (q8:eT.all (·.isSome)=true) (hl:eT.length=iF.length) (h0:eT≠[]) (GI:eT.length<=15):PE X (.Dict eT iF pos) (xE ps):=fun τ z Q R I q K=>by
 have hb:=XC z.s.heap.objs.size;have e0:(z.s.heap.push { cls:=.type "dict",data:=.dict #[] }).get? z.s.heap.objs.size=some { cls:=.type "dict",data:=.dict #[] }:=XA _ rfl;have I1:ae X τ ⟨z.F,z.M,{ z.s with heap:=z.s.heap.push { cls:=.type "dict",data:=.dict #[] } }⟩:=I.bX (t:=z.s.toks) λ_ _ q=>Xw _ q;have fp:∀b∈[z.s.heap.objs.size],Fp X ⟨z.F,z.M,{ z.s with heap:=z.s.heap.push { cls:=.type "dict",data:=.dict #[] } }⟩ b:=λb m=>by rw[List.mem_singleton.mp m];exact I.kI hb
 obtain⟨lp,I2⟩:=I1.kH fp;refine wpAny_Dict_walk (knd:=bE X.G.P X.G.w) q8 hl h0 GI (h τ _ _ _ I2 q λkvs z3 rs ws l3 I3 ca rel hk q3=>?_);have xK:=l3 _ _ (dC (gH (List.mem_singleton.mpr rfl) e0));have h3:z3.s.heap.get? z.s.heap.objs.size=some { cls:=.type "dict",data:=.dict #[] }:=I3.hok.fz _ _ xK;obtain⟨l4,I4⟩:=I3.jt (F:=z.F) (λb m=>⟨(fp b m).f,(fp b m).o⟩) l3 I.bs I.cj;have GJ:=rel.up (cg.aQ js l3);obtain⟨rm,hm⟩:=KV.cO GJ (kvs:=[]) (vs:=[]) .nil;obtain⟨o,es,ep,e,rest⟩:=Heap.DictOf.new (knd:=bE X.G.P X.G.w) z.s.heap;rw[e0]at e;cases e;refine⟨rs,ca,⟨_,es,ep,h3,rest⟩,λh' nJ hs=>?_⟩;have wE:z3.M z.s.heap.objs.size=none:=by
  cases r':z3.M z.s.heap.objs.size with
  |none=>rfl
  |some o'=>have:=(I3.hok.ob _ o' r').1;rw[xK]at this;cases this
 have f4:aQ z3.F (aW [z.s.heap.objs.size] (z.s.heap.push { cls:=.type "dict",data:=.dict #[] })) z.s.heap.objs.size=none:=ft (gH (List.mem_singleton.mpr rfl) e0);have nO:=(fp _ (List.mem_singleton.mpr rfl)).o;have I5:=I4.b8 (t:=z3.s.toks+ws.length) (h':=h') (λb hb o q=>(hs.2 b hb).trans q) f4 wE nO;exact I5.xI (a:=z.s.heap.objs.size) ⟨f4,wE,nO⟩ (I.xJ hb) K l4 rm nJ (XG hm (by rw[hk,ZO,List.length_nil];lia)) q3
theorem xM {kvs:List (Key×D)}{i:Nat}{p:Key×D} (h:kvs[i]?=some p):cO (kvs.take (i+1))=bq (cO (kvs.take i)) p.1 p.2:=by
 rw[List.take_add_one,h];unfold cO;rw[List.foldl_append];rfl
theorem GK (kvs:List (Key×D)) (k:Key) (v:D):(bq kvs k v).length<=kvs.length+1:=by
 unfold bq;split
 ·rw[Xx];lia
 ·rw[XU];exact XC _
theorem q9 (kvs:List (Key×D)):∀i,(cO (kvs.take i)).length<=i
 | 0=>by simp [cO]
 |i+1=>by
  have ih:=q9 kvs i;cases h:kvs[i]? with
  |none=>rw[List.take_add_one,h,Option.toList_none,XX];lia
  |some p=>rw[xM h];have:=GK (cO (kvs.take i)) p.1 p.2;lia
theorem GL {G:Gx}{F:Fz}{P:Program}{w:World}{k:Key}{u:Value} (r:ab G F (iE k) u):(bE P w).is k u=true:=by
 cases k with
 |inl i=>rw[iE,ab]at r;obtain⟨t,rfl⟩:=r;exact vV P w _ t
 |inr x=>rw[iE,ab]at r;obtain⟨t,rfl⟩:=r;exact vW P w _ t
theorem xN {kvs:List (Key×D)}{its:List Value}{T:String}{a:Addr}{OK:Heap->Prop}{Q:QK}{R:Value->Shared->Prop} (hc:X.calm=true) (I:ae X τ z) (rs:ah X.G z.F (kvs.map ek) its) (hz:its.length<=sizeLine) (hok:OK z.s.heap) (S:nM X.G.P X.G.w T a its.toArray.size (λi v=>its.toArray[i]?=some v) OK)
  (q:iC (cO kvs) z.M Q) (k:KE X τ z.F Q R):W X (call (.type "dict") [.ref a]) R z.s:=by
 have lt:∀b,z.F b≠none\/z.M b≠none->b<z.s.heap.objs.size:=λb h=>by
  rcases h with h |h
  ·cases e:z.F b with
   |none=>exact absurd e h
   |some f=>exact (I.hok.fz b f e).lt
  ·cases e:z.M b with
   |none=>exact absurd e h
   |some f=>exact (I.hok.ob b f e).2.lt
 have lk:kvs.length=its.length:=by rw[<- rs.len,Xx]
 refine GA (DK:=λi h=>aK X.G z.F z.M h/\∃vs,KV X.G z.F (cO (kvs.take i)) vs/\h.DictOf (bE X.G.P X.G.w) z.s.heap.objs.size vs) S (I.ok.hd hc) hok ⟨I.hok.keep λb _ o e=>Xw _ e,[],.nil,Heap.DictOf.new _⟩ (λi h h' it hit x k=>?_) (λA' SX i v s' hi hP hD=>?_) λh' tk hD keep=>?_
 ·obtain⟨ok,vs,rel,o,es,ep,e,rest⟩:=x;exact⟨ok.keep λb hb o e=>k b o (XR (Ys (lt b hb) hit)) e,vs,rel,o,es,ep,k _ _ (XR hit) e,rest⟩
 ·obtain⟨ok,vs,rel,dd⟩:=hD;have e1:its[i]?=some v:=by simpa using hP
  have c6:i<kvs.length:=by rw[lk];exact (List.getElem?_eq_some_iff.mp e1).1
  have gl:kvs[i]?=some kvs[i]:=XB c6;obtain⟨u,hu,r1⟩:=rs.get (i:=i) (d:=ek kvs[i]) (by rw[XS,gl];rfl);rw[e1]at hu;cases hu;rw[ek,ab]at r1;obtain⟨b,o,us,rfl,h1,h2,h3⟩:=r1;obtain⟨Wb,We,rfl,q1,q2⟩:=gJ h3;obtain⟨n,hd⟩:=h2.data;refine⟨b,o,_,n,Wb,We,rfl,ok.fz b _ h1,h2.cls,hd,rfl,λQ E hq=>?_⟩;have hv:vs.length<=sizeLine:=by
   rw[<- Paired.length rel];exact XG (q9 kvs i) (by lia)
  refine wpAny_dictSet_pairs (hsz:=hv) (GL q1) dd λh2 f8 sb=>hq _ _ ⟨ok.keep λb hb o e=>sb.extBut b o (XR (lt b hb)) e,_,?_,f8⟩ sb;rw[xM gl];exact rel.put kvs[i].1 q2
 ·obtain⟨ok,vs,rel,dd⟩:=hD;have ls:its.toArray.size=kvs.length:=by rw[Xz,lk]
  rw[ls,List.take_length]at rel;have hl:(cO kvs).length<=sizeLine:=by
   have:=q9 kvs kvs.length;rw[List.take_length]at this;lia
  exact I.ao (t:=tk) k Le.rfl rel (λb o e=>keep b o e) (XC _) dd hl q
open PySem.W in
theorem GN (hc:X.calm=true):CB X (.type "dict") xF:=jE fun τ z Q R d v I r q k=>by
 rcases q with q |q
 ·obtain⟨a,kvs,vs,rfl,l,q⟩:=I.cB r q;refine kt_call_dict l.n l.d (by rw[<- Paired.length l.r];exact l.z) λh' hm hs=>?_;exact I.ao (t:=z.s.toks) k Le.rfl l.r (λb o e=>hs.extBut b o (XR (XO e)) (Xw _ e)) (XC _) hm l.z q
 ·unfold dG at q;split at q
  ·obtain⟨kvs,rfl,q⟩:=q;obtain⟨a,us,o,rfl,l⟩:=I.cX r;obtain⟨n,hd⟩:=l.t.data;exact xN hc I l.r l.t.len ⟨o,n,l.e,l.t.cls,hd,l.t.dict⟩ Gz q k
  ·obtain⟨a,ds,us,n,rfl,l,kvs,rfl,q⟩:=I.bp r q;exact xN hc I l.r l.z l.e Gy q k
end
theorem GO {X:Cx}:OM X "list.extend" qR:=fun τ z Q R d v ds us I rv rs h k=>by
 unfold qR at h;split at h
 ·obtain⟨u,rfl,ru⟩:=gI rs;obtain⟨a,xs,its,n,rfl,hM,l,h⟩:=I.gj rv h;have hl:=l.r.len;unfold dG at h;split at h
  ·obtain⟨hz,q⟩:=h;obtain⟨b,gm,⟨cls,dd,data,sl⟩,rfl,l2⟩:=I.cX ru;obtain⟨e1,e2,⟨n2,e3⟩,_⟩:=l2.t;have hl2:=l2.r.len;have he:=l2.e;simp only at e1 e3;subst e1 e3;have hsz:its.toArray.size+gm.toArray.size<=sizeLine:=(by rw[Xz,Xz];lia);have kY:¬(!its.toArray.isEmpty && YW (its.toArray.size+gm.toArray.size))=true:=by
    rw[qn hsz,Bool.and_false];exact Yo
   refine call_meets F.slot_list_extend ⟨_,l.e,rfl⟩ F.entry_list_extend (F.args_list_extend_2 _ _) (E6 a b its.toArray gm.toArray n n2 dd sl kY (by rw[Xz];lia) (by lia)) ⟨l.e,he,?_⟩;exact k .aj ⟨z.F,_,_⟩ _ Le.rfl (I.nL (us':=its++gm) hM l.e (by simp) (l.r.app l2.r) (by rw[XU];lia)) (by rw[ab]) q
  ·obtain⟨b,ys,gm,n2,rfl,l2,hz,q⟩:=I.bp ru h;have hl2:=l2.r.len;have hsz:its.toArray.size+gm.toArray.size<=sizeLine:=(by rw[Xz,Xz];lia);have kY:¬(!its.toArray.isEmpty && YW (its.toArray.size+gm.toArray.size))=true:=by
    rw[qn hsz,Bool.and_false];exact Yo
   refine call_meets F.slot_list_extend ⟨_,l.e,rfl⟩ F.entry_list_extend (F.args_list_extend_2 _ _) (AutoSeq1.list_extend_list_list_0 a its.toArray n b gm.toArray n2 kY (by rw[Xz];lia) (by lia)) ⟨l.e,l2.e,?_⟩;exact k .aj ⟨z.F,_,_⟩ _ Le.rfl (I.nL (us':=its++gm) hM l.e (by simp) (l.r.app l2.r) (by rw[XU];lia)) (by rw[ab]) q
 ·exact h.elim
end N
end
section
set_option maxHeartbeats 1000000
namespace N
open PySem PySem.Spec PyProof.Rows L2
def c7 (ok:Mp->Prop) (g:G) (tc:DT) (te:DE) (τ:St) (k:List D->Mp->Prop):List D->List D->Mp->Prop
 |[],ys,M=>ok M/\ys.length<sizeLine/\k ys M
 |x::xs,ys,M=>ok M/\ys.length<sizeLine/\cm g x τ M fun τ1 M0=>tc τ1 M0 λb M1=>if b=true then te τ1 M1 λy M2=>c7 ok g tc te τ k xs (ys++[y]) M2 else c7 ok g tc te τ k xs ys M1
noncomputable def dM (n:Nat) (fr:List (Str×Nat)) (τ:St):St:=Yz n none++fr.map λp=>(τ[p.2]?).join
def ra (n:Nat) (fr:List (Str×Nat)) (g:G) (ti:DI) (tc:DT) (te:DE):DE:=fun τ M q=>ti τ M λxs ok M1=>c7 ok g tc te (dM n fr τ) (λys M2=>bZ ys M2 q) xs [] M1
def GP (n:Nat) (fr:List (Str×Nat)) (g:G) (ti:DI) (tc:DT) (te:DE) (j:Nat):DS:=λe τ M=>ti τ M λxs ok M1=>c7 ok g tc te (dM n fr τ) (λys M2=>bZ ys M2 λd M3=>e.nx (τ.set j (some d)) M3) xs [] M1
noncomputable def dN (X:Cx) (scope:Scope) (N':List Str) (cl:List (Str×Addr)) (C:Addr):Cx where
 G:=X.G
 A:=X.A
 N:=N'
 os:=X.os
 env:=compEnvC scope cl C X.env
 outer:=X.stk
 stk:=X.stk
 fn:=λ_=>false
 calm:=X.calm
 x:=λ_ _ _=>False
def PF (X:Cx) (a1:List Expr) (t:DT):Prop:=∀ τ z Q R,ae X τ z->t τ z.M Q->KT X τ z.F Q R ->
 W X (forIn a1 true λc r=>if r=true then do let ok <- isTrue c X.env (eval c X.env);pure (Zl ok) else pure (Zl r)) R z.s
def gO:DT:=λ_ M q=>q true M
theorem GR {X:Cx}:PF X [] gO:=fun τ z Q R I h k=>wpAny_tests_nil (k true z Le.rfl I h)
theorem GS {X:Cx}{c:Expr}{t:DT} (h:PT X c t):PF X [c] t:=fun τ z Q R I q k=>wpAny_tests_one (h τ z Q R I q k)
noncomputable def G.lt (k:Nat):G->Bool
 |.one i=>decide (i<k)
 |.many is=>is.all λi=>decide (i<k)
theorem xO:∀(is:List Nat) (ds:List D) (τ:St) (k:Nat),(is.all λi=>decide (i<k))=true->(fy is ds τ).length=τ.length/\(fy is ds τ).drop k=τ.drop k
 |[],ds,τ,k,_=>by unfold fy;exact⟨rfl,rfl⟩
 |i::is,[],τ,k,_=>by unfold fy;exact⟨rfl,rfl⟩
 |i::is,d::ds,τ,k,h=>by
  rw[List.all_cons,XD]at h;obtain⟨h1,h2⟩:=xO is ds (τ.set i (some d)) k h.2;unfold fy;exact⟨h1.trans List.length_set,h2.trans (List.drop_set_of_lt (of_decide_eq_true h.1))⟩
theorem GU {g:G}{k:Nat} (h:g.lt k=true) {x:D} {τ:St} {M:Mp}{Q:St->Mp->Prop} (q:cm g x τ M Q):cm g x τ M fun τ2 M2=>Q τ2 M2/\τ2.length=τ.length/\τ2.drop k=τ.drop k:=by
 cases g with
 |one i=>exact⟨q,List.length_set,List.drop_set_of_lt (of_decide_eq_true h)⟩
 |many is=>
  have imp:∀{k k':List D->Prop},(∀ds,k ds->k' ds)->dG x M k->dG x M k':=λ{k k'} f h=>by
   cases x <;> first |exact f _ h |exact h |(obtain⟨ds,h1,h2⟩:=h;exact⟨ds,h1,f _ h2⟩)
  exact imp (λds p=>⟨p.1,p.2,xO is ds τ k h⟩) q
structure iG (X:Cx) (scope:Scope) (Nt:List Str) (fr:List (Str×Nat)):Prop where
 kind:scope.kind=.function
 cell:∀y∈scope.names,y.2≠.cell
 names:∀y∈scope.names,y.2=.local->scope.names.lookup y.1=some .local
 free:∀y∈scope.names,y.2=.free->X.env.kindOf y.1=some .cell
 fr:∀p∈fr,X.N[p.2]?=some p.1/\scope.names.lookup p.1=some .free
section
variable {X:Cx} {τ:St} {z:Z}{tg ap iter:Expr}{a1:List Expr}{scope:Scope}{pos:Pos}{Nt:List Str}{fr:List (Str×Nat)}{g:G}{tc:DT}{te:DE}{cl:List (Str×Addr)}{C:Addr}
theorem GV {h1:Heap}{t1:Nat}{m:Str->Option Value} (L:iG X scope Nt fr) (I:ae X τ z) (bn:∀ x c,cl.lookup x=some c->X.env.cells.lookup x=some c) (k7:∀ y∈scope.names,y.2=.free->∃ c,cl.lookup y.1=some c)
  (hC:z.s.heap.objs.size<=C) (dh:∀b,bw z.s.heap h1 b) (hn:h1.Ns C m):ae (dN X scope (Nt++fr.map (·.1)) cl C) (dM Nt.length fr τ) ⟨a3 z.F (X.aZ z.s.heap),z.M,{ z.s with heap:=h1,toks:=t1 }⟩:=by
 have e0:=I.pW;refine⟨⟨I.ok.bC,L.kind,I.ok.dE,I.ok.kA,λx y c e1 e2=>I.ok.inj x y c (bn _ _ e1) (bn _ _ e2),λx hx=>?_,I.ok.hd,I.ok.frames,.inl rfl⟩,e0.bs,I.os,I.bare,e0.cj,⟨m,hn,λi x v k8 h2 h3=>?_⟩,λx c e=>?_,⟨I.mT.cz hC,I.hok.dj hC⟩,I.mT.keep λb _=>dh b,?_⟩
 ·have cW:((relabel scope X.env).names.lookup x=some .cell\/(relabel scope X.env).names.lookup x=some .free):=hx;rcases cW with q |q
  ·exact k7 _ (qv L.cell (.inl rfl) q) rfl
  ·exact k7 _ (qv L.cell (.inr rfl) q) rfl
 ·have re:(Nt++fr.map (·.1))[i]?=some x:=k8;have hi:¬i<Nt.length:=λhi=>by
   unfold dM at h2;rw[Yr (by simpa using hi),List.getElem?_replicate]at h2;split at h2 <;> cases h2
  unfold dM at h2;rw[Yp (by simpa using hi),List.length_replicate,XS]at h2;rw[Yp (by lia),XS]at re;cases e:fr[i-Nt.length]? with
  |none=>rw[e]at h2;cases h2
  |some p=>
   rw[e]at h2 re;have ex:p.1=x:=Ym re;have Ua:(τ[p.2]?).join=some v:=Ym h2;obtain⟨hN,hfr⟩:=L.fr p (Yq e);have es:τ[p.2]?=some (some v):=by
    cases q:τ[p.2]? with
    |none=>rw[q]at Ua;cases Ua
    |some o=>rw[q]at Ua;exact congrArg some Ua
   have hkc:=L.free (p.1,.free) (PySem.mem_of_lookup hfr) rfl;obtain⟨Xe,SY,GW⟩:=I.loc;obtain⟨u,ru,lk⟩:=GW p.2 p.1 v hN es (.inr (.inl hkc));refine⟨u,ru.up I.cA.d,?_⟩;rcases lk with ⟨kk,_⟩ |⟨_,c,hc,mY⟩
   ·rw[hkc]at kk;cases kk
   ·obtain⟨c',f6⟩:=k7 _ (PySem.mem_of_lookup hfr) rfl;have hcc:=bn _ _ f6;rw[hc]at hcc;cases hcc;subst ex;refine .inr ⟨wI hfr,c,f6,?_⟩;obtain⟨o,q1,q2⟩:=mY;exact⟨o,dh _ _ q1,q2⟩
 ·have hc:=bn x c e;obtain⟨⟨v,o,q1,q2⟩,hM,hF⟩:=I.cell x c hc;refine⟨⟨v,o,dh _ _ q1,q2⟩,hM,.inr ⟨rfl,?_⟩⟩;rcases hF with ⟨hf,hF⟩ |⟨hf,o',hF⟩
  ·refine⟨o,dC ?_⟩;unfold Cx.aZ;rw[if_neg (I.jq hc),if_pos ⟨x,hf,hc⟩,q1];rfl
  ·exact⟨o',I.cA c _ hF⟩
 ·unfold dM;show _=(Nt++fr.map (·.1)).length;simp
end
end N
end
section
set_option maxHeartbeats 1000000
namespace N
open PySem PySem.Spec PyProof.Rows L2
section
variable {X:Cx} {τ:St} {z:Z}{tg ap iter:Expr}{a1:List Expr}{scope:Scope}{pos:Pos}{Nt:List Str}{fr:List (Str×Nat)}{g:G}{tc:DT}{te:DE}{cl:List (Str×Addr)}
structure xP (X:Cx) (τ:St) (z:Z) (fin:List D->Mp->Prop) (L C:Addr) (z':Z) (ys:List D) (its:List Value) (n:Nat) (m':Str->Option Value):Prop where
 le:Le z.F z'.F
 nQ:ae X τ z'
 fl:Fp X z' L
 Ul:Fp X z' C
 ne:L≠C
 ns:z'.s.heap.Ns C m'
 obj:z'.s.heap.get? L=some (bS its n)
 rel:ah X.G z'.F ys its
 sz:its.length<=sizeLine
 fin:fin ys z'.M
theorem k9 {a b:Addr} (h:b∈[a]):b=a:=List.mem_singleton.mp h
theorem rh {X:Cx} {τ:St} {z:Z}{b:Addr}{f:Fo} (I:ae X τ z) (h:z.F b=some f):z.M b=none:=by
 cases q:z.M b with
 |none=>rfl
 |some o=>have:=(I.hok.ob b o q).1;rw[h]at this;cases this
theorem xQ {it:Addr}{xs:List D}{ok:Mp->Prop}{fin:List D->Mp->Prop}{E:Value->Shared->Prop}{RR:Value->Addr->Result->Shared->Prop}
  (L:iG X scope Nt fr) (lg:X.calm=true) (I:ae X τ z) (bn:∀x c,cl.lookup x=some c->X.env.cells.lookup x=some c) (k7:∀y∈scope.names,y.2=.free->∃c,cl.lookup y.1=some c)
  (hit:qe X tg xs ok z it) (hg:∀C,PG (dN X scope (Nt++fr.map (·.1)) cl C) tg (cm g)) (lh:g.lt Nt.length=true) (hc:∀C,PF (dN X scope (Nt++fr.map (·.1)) cl C) a1 tc) (he:∀C,PE (dN X scope (Nt++fr.map (·.1)) cl C) ap te)
  (w0:c7 ok g tc te (dM Nt.length fr τ) fin xs [] z.M)
  (GX:∀A C z' ys its n m',xP X τ z fin A C z' ys its n m'->RR (.ref A) C (.ok .next) z'.s) :
  wpAny (model X.G.P X.G.w) X.A (newList []) (λal s3=>wpAny (model X.G.P X.G.w) X.A (newFunctionEnv scope X.env.globals cl [] X.env.qual none .none (some X.env)) (λwP s4=>
   codeAny (model X.G.P X.G.w) X.A (.compStart (.ListComp ap [⟨tg,iter,a1,0⟩] scope pos) 0 (.ref it) al { wP with scope:=relabel scope X.env }) (RR al wP.locals) s4) E s3) E z.s:=by
 obtain⟨T,t0,f0⟩:=hit;rename_i fp tn;refine Yk (wpAny_newFunctionEnv L.cell (by intro y hy;simp at hy) (λh1 bv d1=>?_) L.kind);dsimp only at bv d1 ⊢;generalize rj:z.s.heap.push { cls:=.type "list",dict:=none,data:=.seq ([]:List Value).toArray }=H2 at bv d1 ⊢;have hC:H2.objs.size=z.s.heap.objs.size+1:=by rw[<- rj,Yd]
 have dh:∀b,bw z.s.heap h1 b:=λb o q=>
  d1.extBut b o (by rw[hC];exact XR (YM (XO q))) (Xw _ (rj ▸ Xw _ q))
 have lj:z.s.heap.objs.size≠H2.objs.size:=by rw[hC];exact XR (Y6 _)
 have iH:h1.get? z.s.heap.objs.size=some (bS [] 0):=d1.extBut _ _ lj (Xw _ (rj ▸ XA _ rfl));have jH:z.s.heap.objs.size<=H2.objs.size:=by rw[hC];exact Y7 _
 have I0:=GV (t1:=z.s.toks+([]:List (Str×Value)).length) (C:=H2.objs.size) L I bn k7 jH dh bv;have nR:tn 0 h1:=T.keep 0 _ _ t0 λb _=>dh b;have a2:∀b∈fp,b<z.s.heap.objs.size:=λb hb=>let ⟨o,q⟩:=T.obj 0 _ t0 b hb;XO q
 generalize iI:z.s.heap.objs.size=a at lj iH jH a2;generalize H2.objs.size=C at lj bv d1 jH I0;generalize hX:dN X scope (Nt++fr.map (·.1)) cl C=X' at I0;have UI:X'.G=X.G:=by subst hX;rfl
 have Vr:X'.A=X.A:=by subst hX;rfl
 have Xf:X'.env=compEnvC scope cl C X.env:=by subst hX;rfl
 have Vs:X'.calm=true:=by subst hX;exact lg
 have nS:PG X' tg (cm g):=by subst hX;exact hg _
 have f6:PF X' a1 tc:=by subst hX;exact hc _
 have h8:PE X' ap te:=by subst hX;exact he _
 have go:∀{α:Type} {t:Env->Sem α}{R:α->Shared->Prop}{s:Shared},W X' (t X'.env) R s->wpAny (model X.G.P X.G.w) X.A (t (compEnvC scope cl C X.env)) R (λ_ _=>False) s:=λh=>by
  subst hX;exact Zu h (λ_ _ q=>q) λ_ _ q=>q.no.elim
 have own:∀b,cL X' b->b=C\/cL X b:=λb hb=>by
  subst hX;rcases hb with h |⟨x,h⟩
  ·exact .inl h
  ·exact .inr (.inr ⟨x,bn x b h⟩)
 have nT:∀b∈fp,¬cL X' b:=λb hb o=>by
  rcases own b o with h |h
  ·exact absurd (XW (a2 b hb) jH) (by rw[h];exact Y' _)
  ·exact (f0 b hb).o h
 have rl:¬cL X' a:=λo=>by
  rcases own a o with h |h
  ·exact lj h
  ·exact absurd (I.fY h) (by rw[iI];exact Y' _)
 have rn:∀b∈fp,b≠a:=λb hb=>XR (a2 b hb)
 -- mU S2 S3 lq S4
 let J:Nat->Shared->Prop:=λn s'=>∃i ys its c z',z'.s=s'/\Le (a3 z.F (X.aZ z.s.heap)) z'.F/\ae X' (dM Nt.length fr τ) z'/\ah X.G z'.F ys its/\tn i z'.s.heap/\(∀b∈fp,Fp X' z' b)/\Fp X' z' a/\z'.s.heap.get? a=some (bS its c) /\
  c7 ok g tc te (dM Nt.length fr τ) fin (xs.drop i) ys z'.M/\n+i=xs.length
 have loop:∀ s3:Shared,s3={ z.s with heap:=h1,toks:=z.s.toks+([]:List (Str×Value)).length } ->
   codeAny (model X.G.P X.G.w) X.A (.compLoop (.ListComp ap [⟨tg,iter,a1,0⟩] scope pos) 0 (.ref it) (.ref a) (compEnvC scope cl C X.env)) (RR (.ref a) C) s3:=by
  rintro s3 rfl;refine E8 (P:=λs'=>∃z' ys its n m',z'.s=s'/\xP X τ z fin a C z' ys its n m') (λs' ⟨z',ys,its,n,m',e,q⟩=>e ▸ GX _ _ z' ys its n m' q) J ?_ xs.length
   ⟨0,[],[],0,⟨a3 z.F (X.aZ z.s.heap),z.M,_⟩,rfl,Le.rfl,I0,.nil,nR,λb hb=>⟨?_,(f0 b hb).m,nT b hb⟩,⟨I.mT.cz (ZG iI),I.hok.dj (ZG iI),rl⟩,iH,w0,rfl⟩
  ·rintro n s' ⟨i,ys,its,c,z1,rfl,l1,I1,rv,st,UJ,Vt,Wf,w,hn⟩;have lm:∀b∈[a],Fp X' z1 b:=λb hb=>(by rw[k9 hb];exact Vt);obtain⟨lp,Ip⟩:=I1.kH lm;have pA:aW [a] z1.s.heap a=some (.pin (bS its c)):=gH (List.mem_singleton.mpr rfl) Wf;have wS:∀b∈fp,Fp X' ⟨a3 z1.F (aW [a] z1.s.heap),z1.M,z1.s⟩ b:=λb hb=>⟨(fq (kG λm=>rn b hb (k9 m))).trans (UJ b hb).f,(UJ b hb).m,(UJ b hb).o⟩;have lz:Le z.F (a3 z1.F (aW [a] z1.s.heap)):=I.cA.tr (l1.tr lp);cases hx:xs[i]? with
   |none=>
    have hl:xs.length<=i:=List.getElem?_eq_none_iff.mp hx;rw[List.drop_of_length_le hl]at w;have A1:=T.done X' UI Vs i _ ⟨a3 z1.F (aW [a] z1.s.heap),z1.M,z1.s⟩ (λ_ _=>False) Ip lz wS st w.1 hl;rw[Vr]at A1;refine eQ A1 λr s1 ⟨hr,I2⟩=>?_;subst hr;obtain⟨l3,I3⟩:=I2.jt (F:=z1.F) (λb hb=>⟨(lm b hb).f,(lm b hb).o⟩) Le.rfl I1.bs I1.cj;have e2:s1.heap.get? a=some (bS its c):=I2.hok.fz a _ (dC pA);have hL:X'.env.locals=C:=(by subst hX;rfl);obtain⟨m',wT,_⟩:=I3.loc;rw[hL]at wT;have l4:=l1.tr l3;have be:s1.os=z.s.os:=by have:=I3.os;subst hX;exact this.trans I.os.symm
    have I5:=I.after (z':=⟨aQ (a3 z1.F (aW [a] z1.s.heap)) (aW [a] z1.s.heap),z1.M,s1⟩) l4 (by rw[<- UI];exact I3.hok) be I3.bare;have GY:aQ (a3 z1.F (aW [a] z1.s.heap)) (aW [a] z1.s.heap) a=none:=ft pA;have GZ:aQ (a3 z1.F (aW [a] z1.s.heap)) (aW [a] z1.s.heap) C=none:=by have:=I3.free.1;rw[hL]at this;exact this
    have G1:z1.M C=none:=by have:=I3.free.2;rw[hL]at this;exact this
    have no:∀{b:Addr},z.s.heap.objs.size<=b->X.aZ z.s.heap b=none:=λ{b} hb=>by
     cases q:X.aZ z.s.heap b with
     |none=>rfl
     |some f=>exact absurd (XW (I.fY (I.fZ (h:=z.s.heap) (by rw[q];exact Yn f)).1) hb) (Y' _)
    have nO:∀{b:Addr},z.s.heap.objs.size<=b->¬cL X b:=λhb o=>absurd (XW (I.fY o) hb) (Y' _);exact⟨_,ys,its,c,m',rfl,⟨Le.aQ (λb e=>(I.fZ e).2) l4,I5,⟨(fu (no (ZG iI))).trans GY,Vt.m,nO (ZG iI)⟩,⟨(fu (no (iI ▸ jH))).trans GZ,G1,nO (iI ▸ jH)⟩,lj,wT,e2,
     (rv.up l3.d).up (cg.aQ X.pV l4),by rw[<- rv.len];exact Nat.le_of_lt w.2.1,w.2.2⟩⟩
   |some d=>
    obtain⟨rq,hd⟩:=List.getElem?_eq_some_iff.mp hx;rw[List.drop_eq_getElem_cons rq,hd]at w;have A1:=T.item X' UI Vs i _ ⟨a3 z1.F (aW [a] z1.s.heap),z1.M,z1.s⟩ d (λ_ _=>False) Ip lz wS st w.1 hx;rw[Vr]at A1;refine eQ A1 λr s1 ⟨u,hr,h4⟩=>?_;subst hr;refine eQ h4 λ_ s5 h5=>?_;obtain⟨l5,I5,r5,t5,n5⟩:=h5;rename_i F5;have f5:∀b∈fp,Fp X' ⟨F5,z1.M,s5⟩ b:=λb hb=>⟨n5 b hb,(UJ b hb).m,nT b hb⟩;obtain⟨UK,Iq⟩:=I5.kH f5
    -- mU aZ jI S5 ii,mU list S6 have grown
    have ii:∀ {τ7:St} {z7:Z}{gn:List D}{nU:List Value}{c':Nat}{h9:Heap},Le (a3 F5 (aW fp s5.heap)) z7.F->ae X' τ7 z7->τ7.length=(dM Nt.length fr τ).length->τ7.drop Nt.length=(dM Nt.length fr τ).drop Nt.length->(∀ b,b≠a->bw z7.s.heap h9 b)->h9.get? a=some (bS nU c') ->
      (∀F,cg z7.F F->ah X.G F gn nU)->c7 ok g tc te (dM Nt.length fr τ) fin (xs.drop (i+1)) gn z7.M->∃m,m<n/\J m { z7.s with heap:=h9 }:=λ{τ7 z7 gn nU c' h9} l7 I7 len T4 kp o9 rel w7=>by
     obtain⟨u1,u2⟩:=I7.jt (fp:=fp) (h:=s5.heap) (F:=F5) (λb hb=>⟨n5 b hb,nT b hb⟩) l7 I5.bs I5.cj;have bV:∀b∈fp,∃o,s5.heap.get? b=some o/\z7.F b=some (.pin o):=λb hb=>by
      obtain⟨o,ho⟩:=T.obj _ _ t5 b hb;exact⟨o,ho,l7 b _ (dC (gH hb ho))⟩
     have l8:Le (a3 z1.F (aW [a] z1.s.heap)) (aQ z7.F (aW fp s5.heap)):=l5.tr u1;obtain⟨Wg,Wh⟩:=u2.jt (fp:=[a]) (h:=z1.s.heap) (F:=z1.F) (λb hb=>⟨(lm b hb).f,(lm b hb).o⟩) l8 I1.bs I1.cj;have g0:=l8 a _ (dC pA);have UL:z7.M a=none:=rh (z:=⟨aQ z7.F (aW fp s5.heap),z7.M,z7.s⟩) u2 g0;have UM:aQ (aQ z7.F (aW fp s5.heap)) (aW [a] z1.s.heap) a=none:=ft pA;have v3:=(Wh.b8 (t:=z7.s.toks) kp UM UL rl).Dn len.symm λk v q=>by
      have hk:¬k<Nt.length:=λhk=>by
       unfold dM at q;rw[Yr (by simpa using hk),List.getElem?_replicate]at q;split at q <;> cases q
      have y:∀l:St,l[k]?=(l.drop Nt.length)[k-Nt.length]?:=λl=>by
       rw[List.getElem?_drop]
       congr 1
       lia
      rw[y,T4,<- y];exact q
     refine⟨n-1,by lia,i+1,gn,nU,c',⟨_,_,_⟩,rfl,l1.tr Wg,v3,rel _ λb o e=>cg.aQ js l8 b o (cg.aQ js l7 b o e),?_,λb hb=>?_,⟨UM,UL,rl⟩,o9,w7,by lia⟩
     ·refine T.keep _ _ _ t5 λb hb o ho=>kp b (rn b hb) o ?_;obtain⟨o',h1,h2⟩:=bV b hb;rw[ho]at h1;cases h1;exact I7.hok.fz b _ h2
     ·obtain⟨o',h1,h2⟩:=bV b hb;refine⟨(fu (kG λm=>rn b hb (k9 m))).trans (ft (gH hb h1)),rh (z:=z7) I7 h2,nT b hb⟩
    refine go (t:=λenv=>assign tg env u) (nS _ ⟨_,z1.M,s5⟩ d u _ _ Iq (r5.up UK.d) (GU lh w.2.2) fun τ6 z6 l6 I6 q6=>?_);obtain⟨q6,xz,xL⟩:=q6;refine go (t:=λenv=>forIn a1 true λc r=>if r=true then do let ok <- isTrue c env (eval c env);pure (Zl ok) else pure (Zl r)) (f6 τ6 z6 _ _ I6 q6 λG2 z7 l7 I7 q7=>?_)
    have xR:∀{τ8:St} {z8:Z},Le (a3 F5 (aW fp s5.heap)) z8.F->ae X' τ8 z8->z8.s.heap.get? a=some (bS its c):=λl8 I8=>I8.hok.fz a _ (l8 a _ (UK a _ (l5 a _ (dC pA))));cases G2 with
    |false=>
     rw[if_neg Yo]at q7 ⊢;exact ii (h9:=z7.s.heap) (l6.tr l7) I7 xz xL (λ_ _ _ e=>e) (xR (l6.tr l7) I7) (λF l=>rv.up λb o e=>l b o ((l6.tr l7) b _ (UK b _ (l5 b _ (lp b _ e))))) q7
    |true=>
     rw[if_pos rfl]at q7 ⊢;refine go (t:=λenv=>eval ap env) (h8 τ6 z7 _ _ I7 q7 λy z8 v l8 I8 Wi Wj=>?_);have l8:=l6.tr (l7.tr l8);refine append_at (hsz:=by rw[Xz,<- rv.len];exact Nat.le_of_lt w.2.1) (xR l8 I8) λh9 sb o9=>?_;rw[show its.toArray.push v=(its++[v]).toArray by simp]at o9;exact ii (h9:=h9) l8 I8 xz xL (λb hb o q=>(sb.2 b hb).trans q) o9 (λF l=>(rv.up λb o e=>l b o (l8 b _ (UK b _ (l5 b _ (lp b _ e))))).app (.cons (by rw[<- UI];exact Wi.up l) .nil)) Wj
  ·exact (fq (by
    cases q:X.aZ z.s.heap b with
    |none=>rfl
    |some f=>exact absurd (I.fZ (h:=z.s.heap) (by rw[q];exact Yn f)).1 (f0 b hb).o)).trans (f0 b hb).f
 exact codeAny_compStart_list (loop _ rfl) (T.self X.A 0 _ _ _ nR (loop _ rfl))
theorem G3 {ti:DI} (L:iG X scope Nt fr) (lg:X.calm=true) (hi:PI X tg iter ti) (hg:∀ cl C,PG (dN X scope (Nt++fr.map (·.1)) cl C) tg (cm g)) (lh:g.lt Nt.length=true)
  (hc:∀cl C,PF (dN X scope (Nt++fr.map (·.1)) cl C) a1 tc) (he:∀cl C,PE (dN X scope (Nt++fr.map (·.1)) cl C) ap te) (hs:∀x,foldedSetIterable iter X.env x=pure x) :
  PE X (.ListComp ap [⟨tg,iter,a1,0⟩] scope pos) (ra Nt.length fr g ti tc te):=fun τ z Q R I h k=>by
 obtain⟨cl,e1,e2,e3⟩:=wH (scope:=scope) (env:=X.env) λy hy hf=>I.ok.has _ (.inl (L.free y hy hf));rw[eval_ListComp];refine wpAny_comprehension_free (use:=none) rfl hs e1 L.kind L.names (hi τ z _ _ I h λxs ok z2 it l2 I2 hit w0=>?_);refine xQ (RR:=λal C r s'=>compPost (model X.G.P X.G.w) X.A (XE X) none R al C r s') L lg I2 e2 e3 hit (hg cl) lh (hc cl) (he cl) w0 λA C z' ys its n m' q=>?_;refine⟨m',q.ns,λh' sb=>?_⟩;have J:=q.nQ.b8 (t:=z'.s.toks) (h':=h') (λb hb o e=>(sb.2 b hb).trans e) q.Ul.f q.Ul.m q.Ul.o;exact J.qZ ⟨q.fl.f,q.fl.m,q.fl.o⟩ k (l2.tr q.le) q.rel ((sb.2 A q.ne).trans q.obj) q.sz q.fin
theorem G4 {ti:DI}{y:Str}{j:Nat}{py jJ:Pos} (L:iG X scope Nt fr) (lg:X.calm=true) (hN:ic X [j] [y]) (hi:PI X tg iter ti) (hg:∀ cl C,PG (dN X scope (Nt++fr.map (·.1)) cl C) tg (cm g)) (lh:g.lt Nt.length=true)
  (hc:∀cl C,PF (dN X scope (Nt++fr.map (·.1)) cl C) a1 tc) (he:∀cl C,PE (dN X scope (Nt++fr.map (·.1)) cl C) ap te) (hs:∀x,foldedSetIterable iter X.env x=pure x)
  (rx:swapsWith (.ListComp ap [⟨tg,iter,a1,0⟩] scope pos) (some (.Name y py)) jJ.line X.env=pure true) :
  PS X (.Assign [.Name y py] (.ListComp ap [⟨tg,iter,a1,0⟩] scope pos) jJ) (GP Nt.length fr g ti tc te j):=fun τ z e R I h k=>by
 obtain⟨cl,e1,e2,e3⟩:=wH (scope:=scope) (env:=X.env) λy hy hf=>I.ok.has _ (.inl (L.free y hy hf));rw[exec_Assign_Name_used _ _ _ _ rx];refine Xv (wpAny_standAt (Xv ?_));show W X (do let _ <- comprehension (.ListComp ap [⟨tg,iter,a1,0⟩] scope pos) scope X.env _ (newList []) false (eval iter X.env) (some (assign (.Name y py) X.env))) _ z.s
 refine Xv (eQ (wpAny_comprehension_free (use:=some (assign (.Name y py) X.env)) (Q:=λ_ s'=>R .next s') rfl hs e1 L.kind L.names (hi τ z _ _ I h λxs ok z2 it l2 I2 hit w0=>?_)) λ_ s' hq=>Xy (Xy hq));refine xQ (RR:=λal C r s'=>compPost (model X.G.P X.G.w) X.A (XE X) (some (assign (.Name y py) X.env)) (λ_ s'=>R .next s') al C r s') L lg I2 e2 e3 hit (hg cl) lh (hc cl) (he cl) w0 λA C z' ys its n m' q=>?_;obtain⟨oC,es,ep,G5,rest⟩:=id q.ns;have U8:∀b∈[C],Fp X z' b:=λb hb=>by rw[k9 hb];exact q.Ul
 obtain⟨lp,Ip⟩:=q.nQ.kH U8;have Vu:aW [C] z'.s.heap C=some (.pin oC):=gH (List.mem_singleton.mpr rfl) G5;have Wk:Fp X ⟨a3 z'.F (aW [C] z'.s.heap),z'.M,z'.s⟩ A:=⟨(fq (kG λm=>q.ne (k9 m))).trans q.fl.f,q.fl.m,q.fl.o⟩;show W X (assign (.Name y py) X.env (.ref A)) (λ_ s'=>∃m,_/\_) z'.s;refine Ip.qZ (R:=λv s'=>W X (assign (.Name y py) X.env v) _ s') Wk (λd z3 u l3 I3 r3 q3=>?_) Le.rfl (q.rel.up lp.d) q.obj q.sz q.fin;refine vC hN τ z3 d u (fun τ' M'=>τ'=τ.set j (some d)/\M'=z3.M) _ I3 r3 ⟨rfl,rfl⟩ fun τ4 z4 l4 I4 q4=>?_;have g4:=(l3.tr l4) C _ (dC Vu);have h4:z4.s.heap.get? C=some oC:=I4.hok.fz C _ g4;refine⟨m',⟨oC,es,ep,h4,rest⟩,λim sb=>?_⟩;obtain⟨u1,u2⟩:=I4.jt (fp:=[C]) (F:=z'.F) (λb hb=>⟨(U8 b hb).f,(U8 b hb).o⟩) (l3.tr l4) q.nQ.bs q.nQ.cj;have I6:=u2.b8 (t:=z4.s.toks) (h':=im) (λb hb o e=>(sb.2 b hb).trans e) (ft Vu) (rh (z:=z4) I4 g4) q.Ul.o;refine k.nx τ4 ⟨_,_,_⟩ ((l2.tr q.le).tr u1) I6 ?_;rw[q4.1];show e.nx _ z4.M;rw[q4.2];exact q3
end
end N
end
section
set_option maxHeartbeats 1000000
namespace N
open PySem PySem.Spec PyProof.Rows L2
def cP (G:Gx) (k:Nat) (f:Addr) (sp:Sp):Prop:=∃(fd:FuncData) (ps:List Str) (K:PySem.W.Frag),bh G k f fd ps sp/\PySem.W.keepIn K (.ref f)=true/\bT K fd ps []/\∀z:Z,Mod G->Bs G z.F->aK G z.F z.M z.s.heap->K.In z.s.heap
def ry (d:D) (k:Addr->Prop):Prop:=match d with
 |.ref a=>k a
 |_=>False
def xS (ca:Addr->Sp->Prop) (E:XQ) (ta:DE) (t:DA):DE:=fun τ M q=>ta τ M λx M1=>ry x λf=>∃sp,ca f sp/\t τ M1 λds M2=>sp ds M2 q E
noncomputable def xT:D->String->Option Bool
 |.tup _,"tuple"=>some true
 |.str _,"tuple"=>some false
 |.str _,"bool"=>some false
 |.str _,"str"=>some true
 |.str _,"int"=>some false
 |.int _,"tuple"=>some false
 |.int _,"bool"=>some false
 |.int _,"str"=>some false
 |.int _,"int"=>some true
 |.bl _,"bool"=>some true
 |_,_=>none
def rz:QN:=λds M q=>match ds with
 |[x,.ty "list"]=>bp x M λ_=>q (.bl true) M
 |[x,.ty T]=>∃b,xT x T=some b/\q (.bl b) M
 |[.int _,.tup [.ty "str",.ty "int"]]=>q (.bl true) M
 |[.str _,.tup [.ty "str",.ty "int"]]=>q (.bl true) M
 |_=>False
section
variable {X:Cx}{x:Str}{pos:Pos}{T:String}
theorem G6 (hg:Gl X x) (hm:X.G.mg x=none) (hv:bootBuiltins x=some (.type T)) (hn:x≠"__name__") (cN:(x == ("__debug__" : Str))=false):PE X (.Name x pos) (TU (.ty T)):=fun τ z Q R I h k=>
 eL I hg hm hv hn cN (k (.ty T) z _ Le.rfl I (by rw[ab]) h)
theorem xU {k:Nat}{ca:Addr->Sp->Prop}{E:XQ}{UN e:Expr}{es:List Expr}{ta:DE}{t:DA} (hC:∀ f sp,ca f sp->cP X.G k f sp) (hr:bF k X.A) (hx:dY X E) (hf:PE X UN ta) (ha:PA X (e::es) t)
  (eS:starEach (e::es) X.env=(false,eval e X.env)::starEach es X.env) (c0:(backTo pos (starEach es X.env)).any (·.1)=false)
  (G7:eval (.Call UN (e::es) [] pos) X.env=(do callWith pos (<- eval UN X.env) [] (backTo pos (starEach (e::es) X.env)) (backToKw pos (keywordEach [] X.env)))) :
  PE X (.Call UN (e::es) [] pos) (xS ca E ta t):=fun τ z Q R I h K=>
 Call_ (hf τ z _ _ I h λd z1 u l1 I1 r1 q1=>by
  unfold ry at q1;split at q1
  ·obtain⟨sp,hc,q1⟩:=q1;rw[ab]at r1;subst r1;obtain⟨fd,ps,K0,F,hk,hb,hi⟩:=hC _ sp hc;exact PySem.W.callWith_K (hi z1 I1.ok.bC I1.bs I1.hok) hk (ha pos τ z1 _ _ I1 q1 λvs z2 us l2 I2 r q=>⟨hi z2 I2.ok.bC I2.bs I2.hok,nK (x:=X.G.ex) (bg:=[]) (ds:=[]) F hr hb (λ_ _ _=>.nil) hx I2 (I2.bs.x.tr I2.cA) (hi z2 I2.ok.bC I2.bs I2.hok) r (by rw[XX];exact q) λd z3 u l3=>K d z3 u (l1.tr (l2.tr l3))⟩) eS c0
  ·exact q1.elim) G7
theorem G8:CB X (.builtin "isinstance") rz:=fun τ z Q R ds us I rs q k=>by
  have tp:∀ {t:Value},ab X.G z.F (.tup [.ty "str",.ty "int"]) t->∃ a dd n sl,t=.ref a/\z.s.heap.get? a=some { cls:=.type "tuple",dict:=dd,data:=.seq [ZF "str",ZF "int"].toArray n,slots:=sl }:=λr=>by
    obtain⟨a,us,⟨cls,dd,data,sl⟩,rfl,l⟩:=I.cX r;obtain⟨e1,_,⟨n,e3⟩,_⟩:=l.t;obtain⟨u1,u2,rfl,q1,q2⟩:=gJ l.r;rw[ab]at q1 q2;have he:=l.e;simp only at e1 e3;subst e1 e3 q1 q2;exact⟨a,dd,n,sl,rfl,he⟩
  unfold rz at q;split at q
  · obtain⟨u,v,rfl,ru,rv⟩:=gJ rs;rw[ab]at rv;subst rv;obtain⟨a,ds,us,n,rfl,l,q⟩:=I.bp ru q;exact PySem.W.kia_one (K:=X.G.K) PySem.W.kitx_list I.bW ⟨_,l.e,rfl⟩ (qw "list" X.G.K) (λz=>nomatch z) λtk=>I.fin k Le.rfl (by rw[ab]) q _
  · rename_i x T;obtain⟨b,hb,q⟩:=q;obtain⟨u,v,rfl,ru,rv⟩:=gJ rs;rw[ab]at rv;subst rv;have bl:∀ {b:Bool},ab X.G z.F (.bl b) (.bool b):=(by intro b;rw[ab]);unfold xT at hb;split at hb <;> cases hb
    · obtain⟨a,us,o,rfl,l⟩:=I.cX ru;exact IsiPair.tuple_tuple l.e l.t.cls (k _ z _ Le.rfl I bl q)
    all_goals rw[ab]at ru
    all_goals first
      | (obtain⟨t,rfl⟩:=ru
         first
          |exact IsiPair.str_tuple (I.fin k Le.rfl bl q _)
          |exact IsiPair.str_bool (I.fin k Le.rfl bl q _)
          |exact IsiPair.str_str (k _ z _ Le.rfl I bl q)
          |exact IsiPair.str_int (I.fin k Le.rfl bl q _)
          |exact IsiPair.int_tuple (I.fin k Le.rfl bl q _)
          |exact IsiPair.int_bool (I.fin k Le.rfl bl q _)
          |exact IsiPair.int_str (I.fin k Le.rfl bl q _)
          |exact IsiPair.int_int (k _ z _ Le.rfl I bl q))
      |(subst ru;exact IsiPair.bool_bool (k _ z _ Le.rfl I bl q))
  · obtain⟨u,v,rfl,ru,rv⟩:=gJ rs;obtain⟨a,dd,n,sl,rfl,h1⟩:=tp rv;rw[ab]at ru;obtain⟨t,rfl⟩:=ru;refine PySem.W.kia_tup (its:=[.type "str",.type "int"]) PySem.W.kitx_int I.bW ZJ h1 ?_ (λz=>nomatch z) λtk=>I.fin k Le.rfl (by rw[ab]) q _;unfold PySem.W.kitAny;rw[E9 X.G.K];show PySem.W.kitAny X.G.K (.type "int") [.type "int"]=_;unfold PySem.W.kitAny;rw[qw "int" X.G.K]
  · obtain⟨u,v,rfl,ru,rv⟩:=gJ rs;obtain⟨a,dd,n,sl,rfl,h1⟩:=tp rv;rw[ab]at ru;obtain⟨t,rfl⟩:=ru;refine PySem.W.kia_tup (its:=[.type "str",.type "int"]) PySem.W.kitx_str I.bW ZJ h1 ?_ (λz=>nomatch z) λtk=>I.fin k Le.rfl (by rw[ab]) q _;unfold PySem.W.kitAny;rw[qw "str" X.G.K]
  · exact q.elim
theorem jK {G:Gx}{F:Fz}:∀{us:List Value}{ys:List Str},StrsAre us ys->ah G F (ys.map D.str) us
 |_,_,.nil=>.nil
 |_,_,.cons x t r=>.cons gF (jK r)
end
end N
end
section
set_option maxHeartbeats 1000000
namespace N
open PySem PySem.Spec PyProof.Rows L2
open PySem.W (kdu_collect kdl_dict)
def xV:QN:=n1 λx M q=>cB x M λkvs=>∃ss:List Str,kvs.map (·.1)=ss.map YO/\ss.length<64/\∀ys:List Str,ys.Perm ss->sortedS ys=true->bZ (ys.map D.str) M q
theorem xW:∀{al:List Value}{ss:List Str},al.length=ss.length->(∀(i:Nat) (v:Value) (x:Str),al[i]?=some v->ss[i]?=some x->∃t,v=.str x t)->StrsAre al ss
 |[],[],_,_=>.nil
 |[],_::_,h,_=>by cases h
 |_::_,[],h,_=>by cases h
 |v::al,x::ss,h,g=>by
  obtain⟨t,rfl⟩:=g 0 v x rfl rfl;exact .cons x t (xW (by simpa using h) λi v' Wn h1 h2=>g (i+1) v' Wn h1 h2)
theorem G9 {X:Cx} (hc:X.calm=true):CB X (.builtin "sorted") xV:=jE fun τ z Q R d v I r q k=>by
 obtain⟨a,kvs,vs,rfl,l,ss,hk,gP,q⟩:=I.cB r q;obtain⟨ep,iJ⟩:=l.d.dictAt;have hlen:kvs.length=vs.length:=Paired.length l.r;have rA:kvs.length=ss.length:=by have:=congrArg List.length hk;rw[Xx,Xx]at this;exact this
 have z0:=l.z;refine Calls.call_function_entry kind_sorted plain_sorted entry_sorted (args_sorted1 _) ?_;unfold Builtin.«sorted»;refine Xv (m:=checkCount "sorted" 1 1 _) (Xy ?_);refine Xv (kdu_collect (A:=X.A.in1) (kdl_dict (knd:=bE X.G.P X.G.w) (kvs:=vs) (ep:=ep) l.n) (I.ok.hd hc) iJ (by rw[<- hlen];exact z0) λh' tk al keep items=>?_);have hl:al.toList.length=vs.length:=by rw[XY];exact items.1
 refine Xv (wpAny_newList ?_ (by rw[hl,<- hlen];exact z0));have hS:StrsAre al.toList ss:=xW (by rw[hl,<- hlen,rA]) λi v x h1 h2=>by
  obtain⟨c,y,hx,Ha⟩:=items.2 i v (by rw[<- Y2];exact h1);have e1:(vs.map (·.1))[i]?=some c:=by rw[XS,hx];rfl
  rw[<- (k6 l.r).2,hk,XS,h2]at e1;have e2:YO x=c:=Ym e1;subst e2;rcases d8 (show fm (YO x) _=true from Ha) with ⟨i,t,e1,_⟩ |⟨y,t,e1,e2⟩
  ·cases e1
  ·cases e1;exact⟨t,e2⟩
 have eU:(h'.push { cls:=.type "list",data:=.seq al.toList.toArray }).get? h'.objs.size=some (seqObj "list" al.toList.toArray 0):=XA _ rfl;refine Xv (Yv (Yc slot_list_sort ⟨_,eU,rfl⟩ entry_list_sort (list_sort_treeK strKind_oneLt eU hS.keysOf (λv₁ v₂ rest e=>keyKind_strs (by rw[<- e];exact hS)) (by rw[hl,<- hlen,rA];exact gP) λbd TJ TF=>⟨_,rfl,?_⟩) (args_list_sort _)));obtain⟨ys,b1,b2,TH⟩:=sorted_out_str hS TJ TF;refine Xy ⟨_,rfl,?_⟩;obtain⟨e,rB⟩:=sortedHeap_at (out:=(arrOf bd).map (·.2)) eU;have rs:=jK (G:=X.G) (F:=z.F) b1;have J:=I.bX (t:=tk) keep;refine J.lst (n:=e) (t:=tk) k Le.rfl rs (λb o hb=>?_) (XC _) ?_ (by rw[<- rs.len,Xx,b2.length_eq,<- rA];exact z0) (q ys b2 TH)
 ·have a2:b<h'.objs.size:=XO hb;rw[sortedHeap_old (XR a2) (by rw[Yd];exact YM a2)];exact Xw _ hb
 ·rw[rB];rfl
end N
end
section
namespace L2
open PySem PySem.Spec PyProof.Rows
theorem Hb (t:SetTable) (n:Nat):(t.orStandIn n).led=t.led:=by
 unfold SetTable.orStandIn;split <;> rfl
theorem Hc (t:SetTable) (es:Array (Int×Value)) (h:Int) (x:Value):(layNew t es h x).2.1.led=t.led:=by
 unfold layNew;split
 ·exact Hb _ _
 ·rfl
theorem xX {xY Hd He:Nat}{led plain:Bool}{hs:Array Int}{r:SetTable×Array Nat} (h:SetTable.laid xY Hd He led plain hs=some r):r.1.led=led/\r.1.plain=plain:=by
 unfold SetTable.laid at h;cases hc:SetTable.layClean xY hs with
 |none=>rw[hc]at h;cases h
 |some Xg=>rw[hc]at h;cases h;exact⟨rfl,rfl⟩
theorem Hf (t:SetTable) (es:Array (Int×Value)) (n:Nat):(relayAll t es n).2.1.led=t.led:=by
 unfold relayAll;cases hr:t.relaid (es.map (·.1)) n with
 |none=>rfl
 |some r=>
  obtain⟨t',Hg⟩:=r;have:=xX hr;dsimp only;split
  ·exact this.1
  ·rfl
theorem Hh (t:SetTable) (es:Array (Int×Value)) (n:Nat) (hp:t.plain=false):(relayAll t es n).2.1.plain=false:=by
 unfold relayAll;cases hr:t.relaid (es.map (·.1)) n with
 |none=>rfl
 |some r=>
  obtain⟨t',Hg⟩:=r;have:=xX hr;dsimp only;split
  ·exact this.2.trans hp
  ·rfl
noncomputable def eV:Value->Str
 |.str x _=>x
 |_=>Str.empty
noncomputable def eW (es:List (Int×Value)):List Str:=es.map λe=>eV e.2
def cQ (prog:Program) (w:World) (h:Heap) (a:Addr) (zs:List Str):Prop:=
 ∃(es:Array (Int×Value)) (ep:Nat) (t:SetTable),h.get? a=some { cls:=.type "set",dict:=none,data:=.set es ep t,slots:=#[] }/\ElemsOf (strKind prog w) es.toList/\t.fits es.size=true /\
  t.led=(!w.params.followText "set-order")/\(t.plain=false\/es=#[])/\es.size<4000/\(eW es.toList).Nodup/\∀x,x∈eW es.toList ↔ x∈zs
theorem cQ.at {prog:Program}{w:World}{h h':Heap}{a:Addr}{zs:List Str} (S:cQ prog w h a zs) (k:∀o,h.get? a=some o->h'.get? a=some o):cQ prog w h' a zs:=by
 obtain⟨es,ep,t,ho,r⟩:=S;exact⟨es,ep,t,k _ ho,r⟩
section
variable {prog:Program}{w:World}{A:Around}{E:Value->Shared->Prop}{s:Shared}{a:Addr}{zs:List Str}
theorem xZ {es:List (Int×Value)} (h:ElemsOf (strKind prog w) es) {e:Int×Value} (he:e∈es):∃t,e.2=.str (eV e.2) t/\e.1=(strKind prog w).hash (eV e.2):=by
 obtain⟨⟨k,hk,hh⟩,_⟩:=h e he;obtain⟨t,ht⟩:=Value.isStrOf_shape (x:=k) (v:=e.2) hk;have:eV e.2=k:=by rw[ht];rfl
 exact⟨t,by rw[this];exact ht,by rw[this];exact hh⟩
theorem x3 {es:List (Int×Value)} (h:ElemsOf (strKind prog w) es) (x:Str):(∃e∈es,(strKind prog w).is x e.2=true) ↔ x∈eW es:=by
 constructor
 ·rintro⟨e,he,hx⟩;obtain⟨t,ht⟩:=Value.isStrOf_shape (x:=x) (v:=e.2) hx;exact List.mem_map.mpr ⟨e,he,by rw[ht];rfl⟩
 ·intro hx;obtain⟨e,he,rfl⟩:=List.mem_map.mp hx;obtain⟨t,ht,_⟩:=xZ h he;refine⟨e,he,?_⟩;rw[ht];exact strKind_is _ _ _ _
theorem x4 {es jL:Array (Int×Value)}{ep:Nat}{t t':SetTable}{Q:Unit->Shared->Prop} (ho:s.heap.get? a=some { cls:=.type "set",dict:=none,data:=.set es ep t,slots:=#[] }) (hz:jL.size<4096)
  (h:∀h',Za a s.heap h'->h'.get? a=some { cls:=.type "set",dict:=none,data:=.set jL (ep+1) t',slots:=#[] }->Q () { s with heap:=h' }):wpAny (model prog w) A (storeSet a jL t') Q E s:=by
 refine wpAny_storeSet_of (ep:=ep) (t:=t) ho rfl (h _ (Yb s.heap a _) ?_) (fits_of_scanBound hz);have:=Yg (Obj.putSet jL t') ho (by rw[putSet_of (ep:=ep) (t:=t) jL t' rfl];rfl);rw[this,putSet_of (ep:=ep) (t:=t) jL t' rfl]
theorem Hi {l l':List Str}{x:Str} (p:List.Perm l' (l++[x])) (nd:l.Nodup) (h:x ∉ l):l'.Nodup:=by
 refine p.nodup_iff.mpr (List.nodup_append.mpr ⟨nd,by simp,λy hy z hz=>?_⟩);rw[List.mem_singleton.mp hz];exact λe=>h (e ▸ hy)
theorem Hj {x:Str}{tk:Tok}{Q:Bool->Shared->Prop} (S:cQ prog w s.heap a zs) (hl:zs.length<3900)
  (h:∀b h',Za a s.heap h'->cQ prog w h' a (zs++[x])->Q b { s with heap:=h' }):wpAny (model prog w) A (setAddHashed a (.str x tk) ((strKind prog w).hash x)) Q E s:=by
 obtain⟨es,ep,t,ho,eg,hf,jM,c0,hsz,nd,hm⟩:=S;have S7:es.size<3950:=by
  have:=List.Nodup.length_le_of_subset nd λy hy=>(hm y).mp hy;rw[eW,Xx,XY]at this;lia
 have nw:(strKind prog w).is x (.str x tk)=true:=strKind_is _ _ _ _;have eX:(Value.str x tk).scannable=true:=rfl;unfold setAddHashed setAddHashedIn;refine Yv (Xv (YR ho rfl hf ?_));dsimp only;rw[byScan_of eX (by show es.size<4096;lia) eg,if_pos rfl];unfold setAddByScan;refine Xv (Xv (wpAny_rule (Xv (wpAny_setScan_of nw ho rfl hf eg ?_))));cases hr:List.findIdx? (λe=>(strKind prog w).is x e.2) es.toList with
 |some j=>
  obtain⟨hj,Hk,_⟩:=List.findIdx?_eq_some_iff_getElem.mp hr;have hx:x∈zs:=(hm x).mp ((x3 eg x).mp ⟨es.toList[j],List.getElem_mem hj,Hk⟩);refine Xy (Xy ?_);refine h false s.heap (Heap.SameBut.refl a s.heap) ⟨es,ep,t,ho,eg,hf,jM,c0,hsz,nd,λy=>?_⟩;rw[hm y,Ze,List.mem_singleton];exact⟨.inl,λz=>z.elim id λe=>e ▸ hx⟩
 |none=>
  have hx:x ∉ eW es.toList:=λz=>by
   obtain⟨e,he,q⟩:=(x3 eg x).mpr z;have:=List.findIdx?_eq_none_iff.mp hr e he;rw[q]at this;cases this
  have jN:=layNew_perm t es ((strKind prog w).hash x) (.str x tk);have jO:=layNew_fits t es ((strKind prog w).hash x) (.str x tk);have jP:=Hc t es ((strKind prog w).hash x) (.str x tk);dsimp only;generalize layNew t es ((strKind prog w).hash x) (.str x tk)=L at jN jO jP ⊢;obtain⟨cR,t1,S8,S9⟩:=L;dsimp only at jN jO jP ⊢;rw[Array.toList_push]at jN;have x0:ElemsOf (strKind prog w) cR.toList:=(eg.push nw eX).perm jN;have jQ:(eW cR.toList).Perm (eW es.toList++[x]):=by
   have:=jN.map (λe:Int×Value=>eV e.2);rw[XZ]at this;exact this
  have x5:=Hi jQ nd hx;have jR:∀y,y∈eW cR.toList ↔ y∈zs++[x]:=λy=>by
   rw[jQ.mem_iff,Ze,Ze,hm y]
  have hs1:cR.size=es.size+1:=by
   have:=jN.length_eq;rw[XU,XY,XY]at this;simpa using this
  have Vv:∀(b:Bool) {s₁:Shared}{Q':Unit->Shared->Prop},Q' () s₁->wpAny (model prog w) A (match b with |true=>rule "set.scan.the-table-gave-way" |false=>pure ()) Q' E s₁:=λb s₁ Q' q=>by
   cases b
   ·exact Xy q
   ·exact wpAny_rule q
  refine Xv (Vv _ ?_);cases e:t1.plain
  case' false=>
   rw[if_neg Yo];refine Xv (Xy ?_);simp only[if_true];have hf2:=jO;have hl2:t1.led=t.led:=jP;have lr:t1.plain=false:=e;clear e jO jP;generalize t1=t2 at hf2 hl2 lr ⊢
  case' true=>
   rw[if_pos rfl,hashByValue_scannable 8 eX];refine Xv (Xy ?_);simp only[show plainKind (.str x tk)=false from rfl,Bool.false_eq_true,if_false];have hf2:=SetTable.fits_plain_off jO;have hl2:({ t1 with plain:=false }:SetTable).led=t.led:=jP;have lr:({ t1 with plain:=false }:SetTable).plain=false:=rfl;clear e jO jP;generalize ({ t1 with plain:=false }:SetTable)=t2 at hf2 hl2 lr ⊢
  all_goals
   refine Xv (x4 ho (by lia) λh1 x6 x7=>?_);split
   ·have hp:=relayAll_perm t2 cR (SetTable.grown cR.size);have hfr:=relayAll_fits t2 cR (SetTable.grown cR.size);have hlr:=Hf t2 cR (SetTable.grown cR.size);have rC:=Hh t2 cR (SetTable.grown cR.size) lr;generalize relayAll t2 cR (SetTable.grown cR.size)=R at hp hfr hlr rC ⊢;obtain⟨rD,t3,g2⟩:=R;dsimp only at hp hfr hlr rC ⊢;have hs2:rD.size=cR.size:=(by rw[<- XY,hp.length_eq,XY]);have gi:(eW rD.toList).Perm (eW cR.toList):=hp.map _;refine Xv (Vv _ (Xv (x4 (s:={ s with heap:=h1 }) x7 (by lia) λh2 Hl ef=>Xy (Xy ?_))));exact h true h2 (x6.trans Hl) ⟨rD,_,t3,ef,x0.perm hp,hfr,by rw[hlr,hl2,jM],.inl rC,by lia,gi.nodup_iff.mpr x5,λy=>(gi.mem_iff).trans (jR y)⟩
   ·exact Xy (Xy (h true h1 x6 ⟨cR,_,t2,x7,x0,hf2,by rw[hl2,jM],.inl lr,by lia,x5,jR⟩))
end
end L2
namespace L2
open PySem PySem.Spec PyProof.Rows
theorem x8:∀{vs:List Value}{ss:List Str}{i:Nat}{v:Value},StrsAre vs ss->vs[i]?=some v->∃(x:Str) (t:Tok),ss[i]?=some x/\v=.str x t
 |_,_,i,v,.nil,e=>by simp at e
 |_,_,0,v,.cons x t _,e=>by simp at e;exact⟨x,t,rfl,e.symm⟩
 |_,_,i+1,v,.cons x t r,e=>by
  obtain⟨y,u,h1,h2⟩:=x8 (i:=i) r (by simpa using e);exact⟨y,u,by simpa using h1,h2⟩
section
variable {prog:Program}{w:World}{A:Around}{E:Value->Shared->Prop}{s:Shared}
noncomputable def eY (w:World):Obj:={ cls:=.type "set",dict:=none,data:=.set #[] 0 (.fresh 0 0 (!w.params.followText "set-order")) }
theorem Hm {h:Heap}{a:Addr} (e:h.get? a=some (eY w)):cQ prog w h a []:=by
 refine⟨#[],0,_,e,λx hx=>?_,by rfl,rfl,.inr rfl,by decide,List.nodup_nil,λx=>Iff.rfl⟩;simp at hx
theorem Hn (a:Value) {Q₁:Value->Shared->Prop} (h:Q₁ (.ref s.heap.objs.size) { s with heap:=s.heap.push (eY w) }) :
  codeAny (model prog w) A (.call (.builtin "set.__new__") ⟨[.type "set",a],[]⟩) (wants Q₁ E) s:=by
 refine codeAny_of_tree ?_;show wpAny _ A.in1 (checkBuiltinCall "set.__new__" ⟨[.type "set",a],[]⟩ >>= λ_=>again (.builtin "set.__new__" ⟨[.type "set",a],[]⟩)) _ _ s;refine Xv (wpAny_of_eq (F.newCall_set_1 a) (Xy ⟨YV F.plain_set_new _,YQ F.entry_set_new ?_⟩));rw[Yx F.plain_set_new _];unfold Builtin.«set.__new__» Builtin.Frozenset.newClass;have hsub:=sub_set_self;obtain⟨hp,g,d,tk,os⟩:=s;dsimp only at h ⊢
 wp_walk
 refine wpAny_askSetting (Xy ?_);dsimp only;simp only[newObj];exact Xv (wpAny_alloc (Xy (Xy h)))
end
end L2
namespace L2
open PySem PySem.Spec PyProof.Rows
theorem nV {ys N:List Str} (h:∀x∈ys,x∈N):∀x,x∈ys ↔ x∈N.filter (λz=>decide (z∈ys)):=λx=>by
 rw[List.mem_filter,decide_eq_true_iff];exact⟨λz=>⟨h x z,z⟩,λz=>z.2⟩
theorem cQ.eZ {prog:Program}{w:World}{h:Heap}{a:Addr}{zs zs':List Str} (S:cQ prog w h a zs) (e:∀x,x∈zs ↔ x∈zs'):cQ prog w h a zs':=by
 obtain⟨es,ep,t,ho,r1,r2,r3,r4,r5,Vw,r7⟩:=S;exact⟨es,ep,t,ho,r1,r2,r3,r4,r5,Vw,λx=>(r7 x).trans (e x)⟩
section
variable {prog:Program}{w:World}{A:Around}{R:Result->Shared->Prop}{I:Addr}{fp wr:List Addr}{G:Array GenState->Array GenState->Prop}{n:Nat}{P:Nat->Value->Prop}{St:Nat->Shared->Prop}
theorem Ho (W:WalksS prog w A.in1 I fp wr G n P St) (S:Addr) (hS:S ∉ fp) (zs:List Str) (hn:n=zs.length) (Hr:∀ i v,P i v->∃ (x:Str) (t:Tok),zs[i]?=some x/\v=.str x t) {N:List Str} (hN:N.length<3900) (hb:∀ x∈zs,x∈N) :
  ∀(k i:Nat) (s:Shared),n-i=k->i<=n->St i s->cQ prog w s.heap S (zs.take i)->(∀s',Moved (S::wr) G s s'->cQ prog w s'.heap S zs->R (.ok (.ret .none)) s') ->
   codeAny (model prog w) A (.builtin "set.update.loop" ⟨[.ref S,.ref I],[]⟩) R s:=by
 have hw:S ∉ wr:=λh=>hS (W.sub _ h);have sub:∀b∈wr,b∈S::wr:=λb h=>XF _ h;intro k
 induction k with
 |zero=>
  intro i s hk hi st hs q;obtain rfl:i=n:=by lia
  refine YQ F.entry_set_update_loop ?_;rw[Yx F.plain_set_update_loop _];show wpAny _ A.in1 (pyNext (.ref I) >>= _) _ _ s;refine Xv (W.done s _ _ st λs' m=>?_);refine Xy (q s' (m.mono sub) ?_);rw[List.take_of_length_le (by lia)]at hs;exact hs.at λo e=>m.heap S o hw e
 |succ k ih=>
  intro i s hk hi st hs q;have lt:i<n:=by lia
  refine YQ F.entry_set_update_loop ?_;rw[Yx F.plain_set_update_loop _];show wpAny _ A.in1 (pyNext (.ref I) >>= _) _ _ s;refine Xv (W.item i s _ _ lt st λv s1 hP nR m=>?_);obtain⟨x,t,hx,rfl⟩:=Hr i v hP;have hs1:=hs.at (h':=s1.heap) λo e=>m.heap S o hw e;show wpAny _ A.in1 (holding [Value.str x t] (setAdd S (.str x t)) >>= _) _ _ s1;unfold setAdd;refine Xv (Yv (Yv (Xv ((strKind prog w).pyHash (k:=x) (strKind_is _ _ _ _) ?_))));have hsm:=hs1.eZ (nV (ys:=zs.take i) (λx hx=>hb x (List.mem_of_mem_take hx)));refine Hj (s:={ s1 with toks:=s1.toks+1 }) hsm (XN (List.length_filter_le _ _) hN) λb h' nW Ht=>?_;have hs2:=Ht.eZ (zs':=zs.take i++[x]) (λy=>by rw[Ze,Ze,<- nV (ys:=zs.take i) (λx hx=>hb x (List.mem_of_mem_take hx)) y]);have e2:zs.take i++[x]=zs.take (i+1):=by rw[List.take_add_one,hx];rfl
  rw[e2]at hs2;refine Xy ⟨YV F.plain_set_update_loop _,ih (i+1) _ (by lia) lt (W.frame _ s1 _ _ nR (Y7 _) λc hc o e=>?_) hs2 λs2 m2 q2=>?_⟩
  ·rw[nW.2 c λz:c=S=>hS (z ▸ hc)];exact e
  ·exact q s2 (Moved.trans W.gtrans ((m.mono sub).then_heap (Y7 _) λc o hc e=>by rw[nW.2 c λz:c=S=>hc (z ▸ XH)];exact e) m2) q2
end
section
variable {prog:Program}{w:World}{A:Around}{E:Value->Shared->Prop}{s:Shared}
theorem Hu {l:Addr}{its:Array Value}{zs:List Str}{Q:Value->Shared->Prop} (hh:A.handled=none) (hl:s.heap.IsList l its) (hi:StrsAre its.toList zs) {N:List Str} (hN:N.length<3900) (hb:∀ x∈zs,x∈N)
  (h:∀(h':Heap) (tk:Nat),cQ prog w h' s.heap.objs.size zs->(∀b o,s.heap.get? b=some o->h'.get? b=some o)->Q (.ref s.heap.objs.size) { s with heap:=h',toks:=tk }) :
  wpAny (model prog w) A (call (.type "set") [.ref l]) Q E s:=by
 obtain⟨c,tl,Ta⟩:=F.called_set.mro;have made:=F.called_set.made;have sub:=F.called_set.sub;refine wpAny_call (codeAny_of_tree ?_);show wpAny _ _ (callAny (.type "set") _) _ _ _;refine Xy ⟨Code.quiet_builtin _ (by decide +kernel),YQ F.entry_type_call ?_⟩;rw[Around.under_plain (weight_type_call_type "set" [.ref l] []) rfl];have g1:=F.called_set.notType;have g2:=F.called_set.canCreate;have g3:=F.typeCall_set_1 (.ref l)
 repeat (any_goals (first |assumption |wp_step))
 refine Y5 (Hn (.ref l) (E:=E) (Q₁:=λu s1=>u=.ref s.heap.objs.size/\s1={ s with heap:=s.heap.push (eY w) }) ⟨rfl,rfl⟩) λr s1 hr=>?_;cases r with
 |error e=>exact hr
 |ok fl=>
  cases fl with
  |ret obj=>
   obtain⟨rfl,rfl⟩:=hr;have hS:(s.heap.push (eY w)).get? s.heap.objs.size=some (eY w):=XA _ rfl;have hT:Shared.TypeIs { s with heap:=s.heap.push (eY w) } (.ref s.heap.objs.size) "set":=⟨_,hS,rfl⟩;have Tc:∀{k:Nat},Shared.TypeIs { s with heap:=s.heap.push (eY w),toks:=k } (.ref s.heap.objs.size) "set":=⟨_,hS,rfl⟩;have li:=F.called_set.init.lookup;have bi:=F.called_set.init.bind (.ref s.heap.objs.size)
   repeat (any_goals (first |assumption |wp_step))
   refine Y5 (codeAny_call_builtin (R:=wants (λr s2=>r=.none/\∃h' tk,s2={ s with heap:=h',toks:=tk }/\cQ prog w h' s.heap.objs.size zs/\(∀b o,s.heap.get? b=some o->h'.get? b=some o)) E) F.called_set.init.plain F.entry_set_init (check_set_init_1 hT ?_)) λr2 s2 rE=>?_
   ·obtain⟨ol,x9,bn,nl,x'⟩:=hl;obtain⟨oc,od,Td,os⟩:=ol;simp only at bn x';subst bn;subst x';have Hv:(s.heap.push (eY w)).get? l=some { cls:=.type "list",dict:=od,data:=.seq its nl,slots:=os }:=Xw _ x9;have e1:=F.sub_list_set;have e2:=F.sub_list_frozenset;have e3:(ZF "list" == ZF "dict")=false:=(by decide);have lu:(s.heap.push (eY w)).IsList l its:=⟨_,Hv,rfl,nl,rfl⟩;unfold Builtin.«set.__init__» noKeywords Builtin.Frozenset.updateFrom;generalize Hw:pyIter=PI
    wp_walk
    subst Hw;refine wpAny_pyIter_list lu (Xv (wpAny_runValue ?_));have UO:l<s.heap.objs.size:=XO x9;have Hx:A.in1.in1.in1.handled=none:=(by simp [hh]);have Vx:l≠(s.heap.push (eY w)).objs.size:=(by rw[Yd];exact XR (YM UO));have Wq:s.heap.objs.size ∉ [(s.heap.push (eY w)).objs.size,l]:=by
     rw[Yd];simp only[X5,XT,or_false,not_or];exact⟨XR (Y6 _),YJ UO⟩
    have len:its.size=zs.length:=(by rw[<- XY];exact hi.length);have val:∀(i:Nat) (v:Value),its[i]?=some v->∃(x:Str) (t:Tok),zs[i]?=some x/\v=.str x t:=λi v e=>x8 hi (by rw[Y2];exact e);refine Ho ((Walks.list Hx _ l Vx its).toS) s.heap.objs.size Wq zs len val hN hb (its.size-0) 0 _ (by lia) (XM _) ⟨⟨_,XA _ rfl,rfl,rfl⟩,(lu.push _)⟩ ?start ?fin
    case start=>
     rw[List.take_zero];exact Hm (Xw _ hS)
    case fin=>
     intro s' m fo;obtain⟨h',U7,d',dZ,qO⟩:=s';have T5:U7=s.gens:=m.gens;have U9:d'=s.drawn:=m.drawn;have Ub:qO=s.os:=m.os;subst T5;subst U9;subst Ub;refine Xy ?_;show wpAny _ _ (ret YE) _ _ _;refine Xy ⟨rfl,h',dZ,rfl,fo,λb o e=>?_⟩;have lb:=XO e;refine m.heap b o ?_ (Xw _ (Xw _ e));simp only[X5,XT,or_false,not_or];exact⟨XR lb,by rw[Yd];exact XR (YM lb)⟩
   ·cases r2 with
    |error e=>exact rE
    |ok f2=>
     cases f2 with
     |ret r=>
      obtain⟨rfl,h',tk,rfl,fo,k⟩:=rE
      repeat (any_goals (first |assumption |wp_step))
      exact h _ _ fo k
     |_=>exact rE.elim
  |_=>exact hr.elim
end
end L2
namespace L2
open PySem PySem.Spec PyProof.Rows
theorem gQ:Slot "set_iterator" "__next__" "set_iterator.__next__":=.of (owner:="set_iterator") (n:="__next__") (by rw[Y4,YB];kernel_rfl) (by decide +kernel) (by decide +kernel) (by decide +kernel) (by first |exact .inl (by decide +kernel) |exact .inr (by decide +kernel)) (by rw[Zz];kernel_rfl)
theorem ya:Slot "set_iterator" "__iter__" "set_iterator.__iter__":=.of (owner:="set_iterator") (n:="__iter__") (by rw[Y4,YB];kernel_rfl) (by decide +kernel) (by decide +kernel) (by decide +kernel) (by first |exact .inl (by decide +kernel) |exact .inr (by decide +kernel)) (by rw[Zz];kernel_rfl)
theorem yb:entryFor table "set_iterator.__next__"=some Builtin.«set_iterator.__next__»:=entryFor_of_tree (by kernel_rfl)
theorem yc:Manifest.owners.lookup (String.ofList ['r','o','t','a','r','e','t','i','_','t','e','s'].reverse)=some Manifest.sig_set_iterator:=by kernel_rfl
theorem yd (a:Value):argsOk "set_iterator.__next__" ⟨[a],[]⟩:=by
 unfold argsOk;rw[signature?_of (id:="set_iterator.__next__") (n:=['_','_','t','x','e','n','_','_']) (o:=['r','o','t','a','r','e','t','i','_','t','e','s']) (by kernel_rfl) yc];kernel_rfl
theorem Hy:entryFor table "set.__iter__"=some Builtin.«frozenset.__iter__»:=entryFor_alias (id':="frozenset.__iter__") (by kernel_rfl) rfl (by decide +kernel) (by kernel_rfl)
theorem rF {α:Type}:∀(l:List α) (i:Nat) (h:i<l.length),(l[i]::l.eraseIdx i).Perm l
 |x::l,0,_=>.refl _
 |x::l,i+1,h=>by
  have hi:i<l.length:=by simpa using h
  have:=rF l i hi;show (l[i]::x::l.eraseIdx i).Perm (x::l);exact (List.Perm.swap x l[i] _).trans (List.Perm.cons x this)
section
variable {M:Model}{prog:Program}{w:World}{A:Around}{E:Value->Shared->Prop}{s:Shared}
theorem Hz {il:Source}{n:Nat}{Q:Nat->Shared->Prop} (h0:n≠0) (h:∀i d,i<n->Q i { s with drawn:=d }):wpAny M A (choose il n) Q E s:=fun Γ p hΓ=>by
 show Sem.wp M Γ (.choose il n .pure) _ _ p s;rw[Sem.wp_choose];exact⟨h0,h _ _ (Nat.mod_lt _ (by lia))⟩
theorem ye {α:Type}:∀(n:Nat) (xs:List α) (s:Shared) (Q:List α->Shared->Prop),xs.length=n->(∀ys d,ys.Perm xs->Q ys { s with drawn:=d })->wpAny M A (drawOrder n xs) Q E s
 | 0,xs,s,Q,hl,q=>by
  have:xs=[]:=List.length_eq_zero_iff.mp hl;subst this;exact Xy (q [] s.drawn (.refl _))
 |n+1,[],s,Q,hl,q=>by simp at hl
 |n+1,x::xs,s,Q,hl,q=>by
  unfold drawOrder;refine Xv (Hz (by simp) λi d hi=>?_);rw[XB hi];dsimp only;refine Xv (ye n _ _ _ (by rw[List.length_eraseIdx,if_pos hi];simp at hl ⊢;lia) λys d' p=>Xy (q _ d' ?_));exact (List.Perm.cons _ p).trans (rF _ _ hi)
theorem yf {α:Type} (next:Nat->Nat):∀(fuel k:Nat) (left:List α) (out:Array α),left.length=fuel->(pickOrder.go next fuel k left out).toList.Perm (out.toList++left)
 | 0,k,left,out,hl=>by
  have:left=[]:=List.length_eq_zero_iff.mp hl;subst this;unfold pickOrder.go;simp
 |fuel+1,k,left,out,hl=>by
  have hi:next k % left.length<left.length:=Nat.mod_lt _ (by lia)
  unfold pickOrder.go;rw[XB hi];dsimp only;refine (yf next fuel (k+1) _ _ (by rw[List.length_eraseIdx,if_pos hi];lia)).trans ?_
  rw[Array.toList_push,Ye];exact List.Perm.append_left _ (rF _ _ hi)
theorem rG {α:Type} (next:Nat->Nat) (xs:Array α):(pickOrder next xs).toList.Perm xs.toList:=by
 have:=yf next xs.size 0 xs.toList #[] (by simp)
 simpa [pickOrder] using this
noncomputable def eo (first:Value) (i:Nat) (a:Addr) (n ep:Nat):Obj:={ cls:=.type "set_iterator",data:=.fields #[first,.int i 0,.ref a,.int n 0,.int ep 0] }
theorem yg {α:Type} {Q':α->Shared->Prop}{E':Value->Shared->Prop} (hh:A.handled=none) (h:∀ e h',Shared.TypeIs { s with heap:=h' } e "StopIteration"->(∀ b o,s.heap.get? b=some o->h'.get? b=some o)->E' e { s with heap:=h' }) :
  wpAny (model prog w) A.in1 (newExc (.type "StopIteration") [] >>= λe=>(raiseNew e:Sem α)) Q' E' s:=by
 refine Xv ?_;simp only[newExc,newTuple];refine Xv (Yk ?_ (by size_fits));refine Xv (m:=firstArgMember _ _) (wpAny_of_eq (a:=YE) (by first |rfl |(simp only[firstArgMember];rfl)) (Yk ?_ (by size_fits)))
 simp only[raiseNew];refine Xv (wpAny_handled ?_);rw[show A.in1.handled=none from hh];refine Xv (Xy (wpAny_throw (h (.ref _) _ ⟨_,XA _ rfl,rfl⟩ λb o e=>Xw _ (Xw _ e))))
def fF (h:Heap) (a:Addr) (es:Array (Int×Value)) (ep:Nat) (t:SetTable):Prop:=h.get? a=some { cls:=.type "set",dict:=none,data:=.set es ep t,slots:=#[] }/\t.fits es.size=true
theorem rH {a:Addr}{es:Array (Int×Value)}{ep:Nat}{t:SetTable}{Q:Array (Int×Value)->Shared->Prop} (S:fF s.heap a es ep t) (h:Q es s):wpAny (model prog w) A (setEntries a) Q E s:=by
 unfold setEntries;exact Xv (YR S.1 rfl S.2 (Xy h))
theorem jS {I:Addr}{vs:Array Value}{k:Nat}{v:Value}{Q:Unit->Shared->Prop} (ho:s.heap.get? I=some { cls:=.type "set_iterator",data:=.fields vs }) (hk:k<vs.size)
  (h:∀h',(∀b o,b≠I->s.heap.get? b=some o->h'.get? b=some o)->h'.get? I=some { cls:=.type "set_iterator",data:=.fields (vs.setIfInBounds k v) }->Q () { s with heap:=h' }):wpAny (model prog w) A (setField (.ref I) k v) Q E s:=by
 refine wpAny_setField ho rfl hk (h _ (λb o hb e=>?_) ?_)
 ·exact (Zy _ _ (Y0 hb)).trans e
 ·have:=Yg (Y9 (·.setIfInBounds k v)) ho (Obj.isFreed_of_fields (Obj.data_mapFields rfl _));rw[this];rfl
theorem nX {I a:Addr}{slot i n ep:Nat}{es:Array (Int×Value)}{t:SetTable}{r:Option (Value×Nat)}{Q:Option Value->Shared->Prop} (hh:A.handled=none) (hI:s.heap.get? I=some (eo (.int slot 0) i a n ep)) (S:fF s.heap a es ep t) (hn:es.size=n)
  (hr:∀(A':Around) (E':Value->Shared->Prop) (Q':Option (Value×Nat)->Shared->Prop),Q' r s->wpAny (model prog w) A' (setNext a slot i ep) Q' E' s)
  (h:match r with
   |some (x,nx)=>∀h',(∀b o,b≠I->s.heap.get? b=some o->h'.get? b=some o)->h'.get? I=some (eo (.int nx 0) (i+1) a n ep)->Q (some x) { s with heap:=h' }
   |none=>∀h',(∀b o,b≠I->s.heap.get? b=some o->h'.get? b=some o)->Q none { s with heap:=h' }):wpAny (model prog w) A (pyNext (.ref I)) Q E s:=by
 have hT:s.TypeIs (.ref I) "set_iterator":=⟨_,hI,rfl⟩;unfold pyNext;refine Xv (Zn (X8 (name:=YU "__next__") hT gQ (Yc gQ hT yb ?_ (yd _))));unfold Builtin.«set_iterator.__next__»;refine Xv (Xy ?_);refine Xv (wpAny_fieldsOf hI rfl ?_);refine Xv (rH S ?_);rw[if_neg (by rw[hn];simp)];refine Xv (hr _ _ _ ?_);have Xh:((slot:Int)).toNat=slot:=ZL _;cases r with
 |some p=>
  obtain⟨x,nx⟩:=p;dsimp only at h ⊢;refine Xv (jS hI (by simp) λh1 k1 i1=>Xv (jS (s:={ s with heap:=h1 }) i1 (by simp) λh2 k2 i2=>?_));exact Xy ⟨_,rfl,Xy (h h2 (λb o hb e=>k2 b o hb (k1 b o hb e)) (by rw[i2];simp [eo,rawInt]))⟩
 |none=>
  dsimp only at h ⊢;refine Xv (jS hI (by simp) λh1 k1 i1=>?_);refine yg (s:={ s with heap:=h1 }) hh λe h2 lA k2=>?_;refine Xv (Zm (T:="StopIteration") (b:=true) lA isSubtype_stop ?_);exact Xy (h h2 λb o hb e=>k2 b o (k1 b o hb e))
end
end L2
namespace L2
open PySem PySem.Spec PyProof.Rows PySem.W
section
variable {prog:Program}{w:World}{A:Around}{E:Value->Shared->Prop}{s:Shared}
theorem yh {I a tp:Addr}{i n ep:Nat}{es:Array (Int×Value)}{t:SetTable}{vs:Array Value}{m:Nat}{Q:Option Value->Shared->Prop} (hh:A.handled=none) (hI:s.heap.get? I=some (eo (.ref tp) i a n ep)) (S:fF s.heap a es ep t) (hn:es.size=n)
  (hP:s.heap.get? tp=some { cls:=.type "tuple",data:=.seq vs m })
  (h:(∃(j:Nat) (u:Tok) (e:Int×Value),vs[i]?=some (.int j u)/\es[j]?=some e/\∀h',(∀b o,b≠I->s.heap.get? b=some o->h'.get? b=some o)->h'.get? I=some (eo (.ref tp) (i+1) a n ep)->Q (some e.2) { s with heap:=h' }) \/
   (vs[i]?=none/\∀h',(∀b o,b≠I->s.heap.get? b=some o->h'.get? b=some o)->Q none { s with heap:=h' })):wpAny (model prog w) A (pyNext (.ref I)) Q E s:=by
 have hT:s.TypeIs (.ref I) "set_iterator":=⟨_,hI,rfl⟩;unfold pyNext;refine Xv (Zn (X8 (name:=YU "__next__") hT gQ (Yc gQ hT yb ?_ (yd _))));unfold Builtin.«set_iterator.__next__»;refine Xv (Xy ?_);refine Xv (wpAny_fieldsOf hI rfl ?_);refine Xv (rH S ?_);rw[if_neg (by rw[hn];simp)];dsimp only;refine Xv (Zg hP rfl ?_);dsimp only;rw[ZL];rcases h with ⟨j,u,e,h1,h2,h3⟩ |⟨h1,h2⟩
 ·rw[h1];dsimp only;rw[ZL,ZL];have Ws:∀ {R:Value->Shared->Prop}{E':Value->Shared->Prop}{A':Around},R e.2 s->wpAny (model prog w) A' (setNextDrawn a j ep) R E' s:=λ{R E' A'} q=>by
   unfold setNextDrawn;refine Xv (YR S.1 rfl S.2 ?_);dsimp only;rw[if_neg (by simp),h2];exact Xv (Xy (Xy q))
  refine Xv (Ws (Xv (jS hI (by simp) λh' k1 i1=>?_)));exact Xy ⟨_,rfl,Xy (h3 h' k1 (by rw[i1];simp [eo,rawInt]))⟩
 ·rw[h1];dsimp only;refine Xv (jS hI (by simp) λh3 k3 Wu=>Xv (jS (s:={ s with heap:=h3 }) Wu (by simp) λh4 Wv Xi=>?_));refine yg (s:={ s with heap:=h4 }) hh λe h5 lA UC=>?_;refine Xv (Zm (T:="StopIteration") (b:=true) lA isSubtype_stop ?_);exact Xy (h2 h5 λb o hb e=>UC b o (Wv b o hb (k3 b o hb e)))
theorem iK {Q:Bool->Shared->Prop} (h:Q (w.params.followText "set-order") s):wpAny (model prog w) A setsByText Q E s:=by
 unfold setsByText;exact Xv (wpAny_askSetting (Xy h))
theorem rI {I:Addr}{o:Obj}{Q:Value->Shared->Prop} (hI:s.heap.get? I=some o) (hc:o.cls=.type "set_iterator") (h:Q (.ref I) s):wpAny (model prog w) A (pyIter (.ref I)) Q E s:=by
 have hT:s.TypeIs (.ref I) "set_iterator":=⟨_,hI,hc⟩;have HA:entryFor table "set_iterator.__iter__"=some Builtin.«dict_keyiterator.__iter__»:=entryFor_alias (id':="dict_keyiterator.__iter__") (by kernel_rfl) rfl (by decide +kernel) (by kernel_rfl);have arg:argsOk "set_iterator.__iter__" ⟨[.ref I],[]⟩:=by
  unfold argsOk;rw[signature?_of (id:="set_iterator.__iter__") (n:=['_','_','r','e','t','i','_','_']) (o:=['r','o','t','a','r','e','t','i','_','t','e','s']) (by kernel_rfl) yc];kernel_rfl
 refine wpAny_pyIter_slot hT ya (Yc ya hT HA ?_ arg);unfold Builtin.«dict_keyiterator.__iter__»;refine Xv (Xy ?_);exact Xy ⟨_,rfl,"set_iterator",_,hT,gQ.lookup,h⟩
theorem HB {I a:Addr} (db:a≠I) {es:Array (Int×Value)}{ep:Nat}{t:SetTable} (bt:w.params.followText "set-order"=true) (hh:A.handled=none) :
  WalksS prog w A I [I,a] [I] (λx y=>y=x) es.size (λi v=>((pickOrder (w.params.setOrder a ep) es).toList.map (·.2))[i]?=some v) (λi s=>s.heap.get? I=some (eo (.int 0 0) i a es.size ep)/\fF s.heap a es ep t) where
 sub:=λb hb=>by simp at hb;simp [hb]
 grefl:=λ_=>rfl
 gtrans:=λ_ _ _ h1 h2=>h2.trans h1
 frame:=λi s h' tk st _ k=>⟨k I (by simp) _ st.1,k a (by simp) _ st.2.1,st.2.2⟩
 item:=λi s Q E hi st q=>by
  have hs:(pickOrder (w.params.setOrder a ep) es).toList.length=es.size:=by rw[(rG _ es).length_eq,XY]
  have c6:i<(pickOrder (w.params.setOrder a ep) es).toList.length:=by lia
  have hx:(pickOrder (w.params.setOrder a ep) es)[i]?=some ((pickOrder (w.params.setOrder a ep) es).toList[i]):=by rw[<- Y2];exact XB c6
  refine nX (slot:=0) (r:=some (((pickOrder (w.params.setOrder a ep) es).toList[i]).2,0)) hh st.1 st.2 rfl (λA' E' Q' q'=>?_) λh' k hI=>?_
  ·unfold setNext;refine Xv (YR st.2.1 rfl st.2.2 (Xv (iK ?_)));rw[bt,if_pos rfl,if_neg (by simp)];unfold setWalk;refine Xv (Xv (YR st.2.1 rfl st.2.2 (Xv (iK ?_))));rw[bt,if_pos rfl];refine Xv (wpAny_askSetting (Xy (Xy ?_)));show Q' (((pickOrder (w.params.setOrder a ep) es)[i]?).map λe=>(e.2,0)) s;rw[hx];exact q'
  ·refine q _ _ ?_ ⟨hI,k a _ db st.2.1,st.2.2⟩ ⟨λb o hb e=>k b o (λz=>hb (by simp [z])) e,rfl,rfl,rfl,XC _⟩;rw[XS,XB c6];rfl
 done:=λs Q E st q=>by
  have hs:(pickOrder (w.params.setOrder a ep) es).toList.length=es.size:=by rw[(rG _ es).length_eq,XY]
  have hx:(pickOrder (w.params.setOrder a ep) es)[es.size]?=none:=by rw[<- Y2];exact List.getElem?_eq_none (by lia)
  refine nX (slot:=0) (r:=none) hh st.1 st.2 rfl (λA' E' Q' q'=>?_) λh' k=>q _ ⟨λb o hb e=>k b o (λz=>hb (by simp [z])) e,rfl,rfl,rfl,XC _⟩;unfold setNext;refine Xv (YR st.2.1 rfl st.2.2 (Xv (iK ?_)));rw[bt,if_pos rfl,if_neg (by simp)];unfold setWalk;refine Xv (Xv (YR st.2.1 rfl st.2.2 (Xv (iK ?_))));rw[bt,if_pos rfl];refine Xv (wpAny_askSetting (Xy (Xy ?_)));show Q' (((pickOrder (w.params.setOrder a ep) es)[es.size]?).map λe=>(e.2,0)) s;rw[hx];exact q'
 self:=λi s Q E st q=>rI st.1 rfl q
theorem HC {I a:Addr} (db:a≠I) {es:Array (Int×Value)}{ep:Nat}{t:SetTable} (bt:w.params.followText "set-order"=false) (led:t.led=true) (h1:es.size<=1) (hh:A.handled=none) :
  WalksS prog w A I [I,a] [I] (λx y=>y=x) es.size (λi v=>(es.toList.map (·.2))[i]?=some v) (λi s=>s.heap.get? I=some (eo (.int (if i=0 then 0 else t.place.getD 0 0+1:Nat) 0) i a es.size ep)/\fF s.heap a es ep t) where
 sub:=λb hb=>by simp at hb;simp [hb]
 grefl:=λ_=>rfl
 gtrans:=λ_ _ _ h1 h2=>h2.trans h1
 frame:=λi s h' tk st _ k=>⟨k I (by simp) _ st.1,k a (by simp) _ st.2.1,st.2.2⟩
 item:=λi s Q E hi st q=>by
  obtain rfl:i=0:=by lia
  have hz:es.size=1:=by lia
  have hp:t.place.size=1:=by
   have:=st.2.2;simp only[SetTable.fits,XD,beq_iff_eq]at this;lia
  have lB:(!t.plain && decide (es.size > 1))=false:=by rw[hz];simp
  refine nX (slot:=0) (r:=some ((es[0]'(by lia)).2,t.place.getD 0 0+1)) hh (by simpa using st.1) st.2 rfl (λA' E' Q' q'=>?_) λh' k hI=>?_
  ·unfold setNext;refine Xv (YR st.2.1 rfl st.2.2 (Xv (iK ?_)));rw[bt,if_neg Yo];dsimp only;refine Zj (λz=>absurd (lB.symm.trans (show (!t.plain && decide (es.size > 1))=true from z)) Yo) (λ_=>?_);refine Xv ?_;show wpAny _ _ (if (!t.led && !es.isEmpty)=true then _ else pure PUnit.unit) _ _ s
   rw[led,if_neg (by simp)];refine Xy (Xy ?_);have eb:SetTable.below t.place 0=0:=by
    unfold SetTable.below;rw[hp];simp [SetTable.below.go]
   rw[eb,Yu (show 0<es.size by lia),Yu (show 0<t.place.size by lia)];have T5:t.place.getD 0 0=t.place[0]'(by lia):=(by rw[Zc,Yu (show 0<t.place.size by lia)];rfl);rw[T5]at q';exact q'
  ·refine q _ _ ?_ ⟨by rw[if_neg (by lia)];exact hI,k a _ db st.2.1,st.2.2⟩ ⟨λb o hb e=>k b o (λz=>hb (by simp [z])) e,rfl,rfl,rfl,XC _⟩;rw[XS,Y2,Yu (show 0<es.size by lia)];rfl
 done:=λs Q E st q=>by
  have hp:t.place.size=es.size:=by
   have:=st.2.2;simp only[SetTable.fits,XD,beq_iff_eq]at this;lia
  have lB:(!t.plain && decide (es.size > 1))=false:=by simp;lia
  refine nX (r:=none) hh st.1 st.2 rfl (λA' E' Q' q'=>?_) λh' k=>q _ ⟨λb o hb e=>k b o (λz=>hb (by simp [z])) e,rfl,rfl,rfl,XC _⟩;unfold setNext;refine Xv (YR st.2.1 rfl st.2.2 (Xv (iK ?_)));rw[bt,if_neg Yo];dsimp only;refine Zj (λz=>absurd (lB.symm.trans (show (!t.plain && decide (es.size > 1))=true from z)) Yo) (λ_=>?_);refine Xv ?_;show wpAny _ _ (if (!t.led && !es.isEmpty)=true then _ else pure PUnit.unit) _ _ s
  rw[led,if_neg (by simp)];refine Xy (Xy ?_);have eb:SetTable.below t.place (if es.size=0 then 0 else t.place.getD 0 0+1)=es.size:=by
   rcases Nat.lt_or_ge es.size 1 with hz |hz
   ·have z0:es.size=0:=(by lia);unfold SetTable.below;rw[hp,z0];simp [SetTable.below.go]
   ·have z1:es.size=1:=(by lia);have T5:∀d,t.place.getD 0 d=t.place[0]'(by lia):=λd=>(by rw[Zc,Yu (show 0<t.place.size by lia)];rfl);unfold SetTable.below;rw[hp,z1];simp [SetTable.below.go,T5]
  rw[eb,Array.getElem?_eq_none (XC _)];exact q'
 self:=λi s Q E st q=>rI st.1 rfl q
theorem HD {I a tp:Addr} (db:a≠I) (HE:tp≠I) {es:Array (Int×Value)}{ep m:Nat}{t:SetTable}{ps:List Nat} (hp:ps.Perm (YY es.size)) (hh:A.handled=none) :
  WalksS prog w A I [I,a,tp] [I] (λx y=>y=x) es.size (λi v=>(ps.map λj=>(es.getD j (0,.none)).2)[i]?=some v)
   (λi s=>s.heap.get? I=some (eo (.ref tp) i a es.size ep)/\fF s.heap a es ep t/\s.heap.get? tp=some { cls:=.type "tuple",data:=.seq (ps.map λi=>rawInt (i:Nat)).toArray m }) where
 sub:=λb hb=>by simp at hb;simp [hb]
 grefl:=λ_=>rfl
 gtrans:=λ_ _ _ h1 h2=>h2.trans h1
 frame:=λi s h' tk st _ k=>⟨k I (by simp) _ st.1,⟨k a (by simp) _ st.2.1.1,st.2.1.2⟩,k tp (by simp) _ st.2.2⟩
 item:=λi s Q E hi st q=>by
  have hl:ps.length=es.size:=by rw[hp.length_eq,Zb]
  have c6:i<ps.length:=by lia
  have hj:ps[i]<es.size:=List.mem_range.mp (hp.mem_iff.mp (List.getElem_mem c6));refine yh hh st.1 st.2.1 rfl st.2.2 (.inl ⟨ps[i],0,es[ps[i]],?_,Yu hj,λh' k hI=>?_⟩)
  ·simp [XB c6,rawInt]
  ·refine q _ _ ?_ ⟨hI,⟨k a _ db st.2.1.1,st.2.1.2⟩,k tp _ HE st.2.2⟩ ⟨λb o hb e=>k b o (λz=>hb (by simp [z])) e,rfl,rfl,rfl,XC _⟩;rw[XS,XB c6];simp [Zc,Yu hj]
 done:=λs Q E st q=>by
  have hl:ps.length=es.size:=by rw[hp.length_eq,Zb]
  refine yh hh st.1 st.2.1 rfl st.2.2 (.inr ⟨?_,λh' k=>q _ ⟨λb o hb e=>k b o (λz=>hb (by simp [z])) e,rfl,rfl,rfl,XC _⟩⟩);simp [hl]
 self:=λi s Q E st q=>rI st.1 rfl q
end
end L2
namespace L2
open PySem PySem.Spec PyProof.Rows PySem.W
section
variable {prog:Program}{w:World}{A:Around}{E:Value->Shared->Prop}{s:Shared}
theorem HF {a:Addr}{zs:List Str}{Q:Value->Shared->Prop} (S:cQ prog w s.heap a zs)
  (h:∀(I:Addr) (h':Heap) (d:Drawn) (fp:List Addr) (St:Nat->Shared->Prop) (os:List Value),(∀b o,s.heap.get? b=some o->h'.get? b=some o)->(∀b∈fp,s.heap.objs.size<=b\/b=a)->s.heap.objs.size<=I ->
   (∃ys:List Str,StrsAre os ys/\ys.Nodup/\∀x,x∈ys ↔ x∈zs)->(∀A':Around,A'.handled=none->WalksS prog w A' I fp [I] (λx y=>y=x) os.length (λi v=>os[i]?=some v) St)->(∀tk,St 0 { s with heap:=h',drawn:=d,toks:=tk })->Q (.ref I) { s with heap:=h',drawn:=d }) :
  wpAny (model prog w) A (pyIter (.ref a)) Q E s:=by
 obtain⟨es,ep,t,ho,eg,hf,jM,c0,hsz,nd,hm⟩:=S;have hT:s.TypeIs (.ref a) "set":=⟨_,ho,rfl⟩;have S0:fF s.heap a es ep t:=⟨ho,hf⟩;have la:a<s.heap.objs.size:=XO ho;have iL:∀os:List Value,os.Perm (es.toList.map (·.2))->∃ys:List Str,StrsAre os ys/\ys.Nodup/\∀x,x∈ys ↔ x∈zs:=λos p=>by
  have all:∀v∈os,∃u,v=.str (eV v) u:=λv hv=>by
   obtain⟨e,he,rfl⟩:=List.mem_map.mp (p.mem_iff.mp hv);obtain⟨u,h1,_⟩:=xZ eg he;exact⟨u,h1⟩
  have jI:∀l:List Value,(∀v∈l,∃u,v=.str (eV v) u)->StrsAre l (l.map eV):=by
   intro l
   induction l with
   |nil=>intro _;exact .nil
   |cons v l ih=>
    intro hv;obtain⟨u,e⟩:=hv v XH;have:=ih λx hx=>hv x (XF _ hx);rw[XJ];rw[e];exact .cons _ u this
  have pp:(os.map eV).Perm (eW es.toList):=by
   have:=p.map eV;rw[YI]at this;exact this
  exact⟨os.map eV,jI os all,pp.nodup_iff.mpr nd,λx=>(pp.mem_iff).trans (hm x)⟩
 refine wpAny_pyIter_slot hT F.slot_set_iter (Yc F.slot_set_iter hT Hy ?_ (F.args_set_iter_1 _));unfold Builtin.«frozenset.__iter__» Builtin.Frozenset.slot0;refine Xv (Xy ?_);unfold Builtin.Frozenset.sizeOf;refine Xv (Xv (rH S0 (Xy ?_)));unfold setDrawn;refine Xv (Xv (YR S0.1 rfl S0.2 (Xv (iK (Xy ?_)))));have yi:a≠s.heap.objs.size:=XR la;cases bt:w.params.followText "set-order" with
 |true=>
  refine Zj (λz=>absurd z (by simp)) (λ_=>?_);refine Xv (Xy ?_);refine Xv (wpAny_setEpoch_of S0.1 rfl S0.2 ?_);unfold newFields;refine Xv (Yk (Xy ⟨_,rfl,"set_iterator",_,⟨_,XA _ rfl,rfl⟩,gQ.lookup,?_⟩) (by size_fits));have pp:=(rG (w.params.setOrder a ep) es).map (·.2);have ol:((pickOrder (w.params.setOrder a ep) es).toList.map (·.2)).length=es.size:=by rw[pp.length_eq];simp
  refine h s.heap.objs.size _ s.drawn [s.heap.objs.size,a] (λi s'=>s'.heap.get? s.heap.objs.size=some (eo (.int 0 0) i a es.size ep)/\fF s'.heap a es ep t) ((pickOrder (w.params.setOrder a ep) es).toList.map (·.2)) (λb o e=>Xw _ e) (λb hb=>?_) (XC _) (iL _ pp) (λA' hA=>by rw[ol];exact HB yi (t:=t) bt hA) (λtk=>⟨XA _ rfl,Xw _ S0.1,S0.2⟩);simp at hb;rcases hb with rfl |rfl
  ·exact .inl (XC _)
  ·exact .inr rfl
 |false=>
  rw[bt]at jM;rcases Nat.lt_or_ge 1 es.size with h2 |h1
  ·have pl:t.plain=false:=by
    rcases c0 with z |z
    ·exact z
    ·rw[z]at h2;simp at h2
   refine Zj (λ_=>?_) (λz=>absurd (show (!false && (!t.plain && decide (es.size > 1)))=true by rw[pl];simp;lia) z);refine Xv (ye es.size (YY es.size) s _ (by simp) λps d hp=>?_);refine Xv (wpAny_newTuple ?_ (by rw[Xx,hp.length_eq,Zb];exact fits_of_scanBound (by show es.size<4096;lia)));have o1:∀{o:Obj}{b:Addr},s.heap.get? b=some o->(s.heap.push { cls:=.type "tuple",data:=.seq (ps.map λ(i:Nat)=>rawInt i).toArray }).get? b=some o:=λe=>Xw _ e;refine Xv (wpAny_setEpoch_of (o1 S0.1) rfl S0.2 ?_);unfold newFields;refine Xv (Yk (Xy ⟨_,rfl,"set_iterator",_,⟨_,XA _ rfl,rfl⟩,gQ.lookup,?_⟩) (by size_fits));have hl:ps.length=es.size:=(by rw[hp.length_eq,Zb]);have pp:(ps.map λj=>(es.getD j (0,.none)).2).Perm (es.toList.map (·.2)):=by
    refine (hp.map _).trans ?_;have e:(YY es.size).map (λj=>(es.getD j (0,.none)).2)=es.toList.map (·.2):=by
     refine List.ext_getElem? λi=>?_;rw[XS,XS];by_cases hi:i<es.size
     ·have TJ:(YY es.size)[i]?=some i:=(by simp [hi]);have TF:es.toList[i]?=some es[i]:=(by simp [hi]);rw[TJ,TF];simp [Zc,Yu hi]
     ·have TJ:(YY es.size)[i]?=none:=(by simp;lia);have TF:es.toList[i]?=none:=(by simp;lia);rw[TJ,TF];rfl
    rw[e]
   have e5:(s.heap.push { cls:=.type "tuple",data:=.seq (ps.map λ(i:Nat)=>rawInt i).toArray }).objs.size=s.heap.objs.size+1:=Yd _ _;have n1:a≠(s.heap.push { cls:=.type "tuple",data:=.seq (ps.map λ(i:Nat)=>rawInt i).toArray }).objs.size:=(by rw[e5];exact XR (YM la));have n2:s.heap.objs.size≠(s.heap.push { cls:=.type "tuple",data:=.seq (ps.map λ(i:Nat)=>rawInt i).toArray }).objs.size:=(by rw[e5];exact XR (Y6 _));refine h (s.heap.push { cls:=.type "tuple",data:=.seq (ps.map λ(i:Nat)=>rawInt i).toArray }).objs.size _ d [(s.heap.push { cls:=.type "tuple",data:=.seq (ps.map λ(i:Nat)=>rawInt i).toArray }).objs.size,a,s.heap.objs.size]
    (λi s'=>s'.heap.get? (s.heap.push { cls:=.type "tuple",data:=.seq (ps.map λ(i:Nat)=>rawInt i).toArray }).objs.size=some (eo (.ref s.heap.objs.size) i a es.size ep)/\fF s'.heap a es ep t/\s'.heap.get? s.heap.objs.size=some { cls:=.type "tuple",data:=.seq (ps.map λi=>rawInt (i:Nat)).toArray 0 })
    (ps.map λj=>(es.getD j (0,.none)).2) (λb o e=>Xw _ (o1 e)) (λb hb=>?_) (by rw[e5];exact Y7 _) (iL _ pp) (λA' hA=>by rw[Xx,hl];exact HD (m:=0) n1 n2 (t:=t) (ep:=ep) hp hA) (λtk=>⟨XA _ rfl,⟨Xw _ (o1 S0.1),S0.2⟩,Xw _ (XA _ rfl)⟩)
   simp only[X5,XT,or_false]at hb;rcases hb with rfl |rfl |rfl
   ·exact .inl (by rw[e5];exact Y7 _)
   ·exact .inr rfl
   ·exact .inl (XC _)
  ·refine Zj (λz=>absurd (show (!false && (!t.plain && decide (es.size > 1)))=true from z) (by simp;lia)) (λ_=>?_);refine Xv (Xy ?_);refine Xv (wpAny_setEpoch_of S0.1 rfl S0.2 ?_);unfold newFields;refine Xv (Yk (Xy ⟨_,rfl,"set_iterator",_,⟨_,XA _ rfl,rfl⟩,gQ.lookup,?_⟩) (by size_fits));have ol:(es.toList.map (·.2)).length=es.size:=(by simp);refine h s.heap.objs.size _ s.drawn [s.heap.objs.size,a] (λi s'=>s'.heap.get? s.heap.objs.size=some (eo (.int (if i=0 then 0 else t.place.getD 0 0+1:Nat) 0) i a es.size ep)/\fF s'.heap a es ep t) (es.toList.map (·.2)) (λb o e=>Xw _ e) (λb hb=>?_) (XC _) (iL _ (.refl _)) (λA' hA=>by rw[ol];exact HC yi (t:=t) bt (by simpa using jM) h1 hA) (λtk=>⟨XA _ rfl,Xw _ S0.1,S0.2⟩)
   simp at hb;rcases hb with rfl |rfl
   ·exact .inl (XC _)
   ·exact .inr rfl
theorem HG {r:Addr}{Q:Bool->Shared->Prop} (hT:s.TypeIs (.ref r) "set") (h:Q false s):wpAny (model prog w) A (Builtin.List.listLengthHint (.ref r)) Q E s:=by
 unfold Builtin.List.listLengthHint;refine Xv (wpAny_specialOf hT PySem.F.slot_set_len.lookup ?_);generalize yj:("set.__len__" : String)=HH
 wp_delta
 rw[show splitId HH=some ("set","__len__") from by subst yj;decide +kernel];subst yj;refine Xv (Zm (T:="set") (b:=true) hT (by rw[Zz];kernel_rfl) ?_);refine Zj (λz=>absurd z (by decide)) (λ_=>Zj (λ_=>Xv (wpAny_typeOf hT (Xy h))) (λz=>absurd (by decide +kernel) z))
theorem HI {a : Addr} {zs : List Str} {R : List Value -> Shared -> Prop} (hh : A.handled = none) (S : cQ prog w s.heap a zs) (hz : zs.length < 3900)
    (h:∀(h':Heap) (tk:Nat) (d:Drawn) (os:List Value) (ys:List Str),(∀b o,s.heap.get? b=some o->h'.get? b=some o)->StrsAre os ys->ys.Nodup->(∀x,x∈ys ↔ x∈zs)->R os { s with heap:=h',toks:=tk,drawn:=d }) :
    wpAny (model prog w) A (collect (.ref a)) R E s:=by
  have la:a<s.heap.objs.size:=let ⟨_,_,_,ho,_⟩:=S;XO ho
  unfold collect;refine Xv (wpAny_runValue (YQ entry_proto_collect' ?_));rw[Yx PySem.F.plain_proto_collect _];show wpAny _ A.in1 (newList [] >>= λu=>again (.builtin "list.__iadd__" ⟨[u,.ref a],[]⟩)) _ _ s;refine Xv (Yk (Xy ⟨YV PySem.F.plain_list_iadd _,YQ entry_list_iadd' ?_⟩));rw[Yx PySem.F.plain_list_iadd _];have hL:(s.heap.push { cls:=.type "list",data:=.seq ([]:List Value).toArray }).get? s.heap.objs.size=some { cls:=.type "list",data:=.seq #[] }:=XA _ rfl;have S1:cQ prog w (s.heap.push { cls:=.type "list",data:=.seq ([]:List Value).toArray }) a zs:=S.at λo e=>Xw _ e;have hT:Shared.TypeIs { s with heap:=s.heap.push { cls:=.type "list",data:=.seq ([]:List Value).toArray } } (.ref a) "set":=let ⟨_,_,_,ho,_⟩:=S1;⟨_,ho,rfl⟩
  have e5:(s.heap.push { cls:=.type "list",data:=.seq ([]:List Value).toArray }).objs.size=s.heap.objs.size+1:=Yd _ _;have k0:∀b o,s.heap.get? b=some o->(s.heap.push { cls:=.type "list",data:=.seq ([]:List Value).toArray }).get? b=some o:=λb o e=>Xw _ e;show wpAny _ A.in1 (Builtin.List.listExtendWith (.ref s.heap.objs.size) (.ref a) (.ref s.heap.objs.size)) _ _ _;generalize s.heap.push { cls:=.type "list",data:=.seq ([]:List Value).toArray }=g1 at hL S1 hT e5 k0 ⊢;have yk:s.heap.objs.size≠a:=YJ la;unfold Builtin.List.listExtendWith;refine Xv (wpAny_typeOf (T:="set") hT ?_);have e1:Builtin.List.listSameRef (.ref s.heap.objs.size) (.ref a)=false:=by simp [Builtin.List.listSameRef,yk]
  simp only[e1,show (ZF "set" == ZF "list")=false by decide,show (ZF "set" == ZF "tuple")=false by decide,Bool.or_false,Bool.false_eq_true,if_false];refine Xv (HF S1 λI h2 d fp St os k2 HJ hI jI W st=>?_);obtain⟨ys,sa,nd,eZ⟩:=jI;have rJ:=k2 _ _ hL;have nf:s.heap.objs.size ∉ fp:=λz=>by
    rcases HJ _ z with q |q
    · rw[e5]at q;lia
    · exact yk q
  have Vx:s.heap.objs.size≠I:=by rw[e5]at hI;lia
  have lA:Shared.TypeIs { s with heap:=h2,drawn:=d } (.ref a) "set":=let ⟨_,_,_,ho,_⟩:=S1;⟨_,k2 _ _ ho,rfl⟩
  refine Xv (Yv (HG lA ?_));have lo:os.length=ys.length:=sa.length;have nY:os.length<=sizeLine:=by
    have:=List.Nodup.length_le_of_subset nd λy hy=>(eZ y).mp hy;exact XG (show os.length<=4000 by lia) (by decide)
  have key : ∀ (g : Heap) (c tk : Nat), St 0 { s with heap := g, drawn := d, toks := tk } -> (∀ b o, b ≠ s.heap.objs.size -> h2.get? b = some o -> g.get? b = some o) -> g.get? s.heap.objs.size = some { cls := .type "list", data := .seq #[] c } ->
      codeAny (model prog w) A (.builtin "list.extend.loop" ⟨[.ref s.heap.objs.size,.ref I,.ref s.heap.objs.size],[]⟩) (λr s'=>∃ (h':Heap) (tk:Nat) (al:Array Value) (c':Nat),r=.ok (.ret (.ref s.heap.objs.size))/\s'={ s with heap:=h',toks:=tk,drawn:=d }/\(∀ b o,s.heap.get? b=some o->h'.get? b=some o) /\
        h'.get? s.heap.objs.size=some { cls:=.type "list",dict:=none,data:=.seq al c',slots:=#[] }/\ItemsOf (λi v=>os[i]?=some v) al os.length) { s with heap:=g,drawn:=d,toks:=tk }:=by
    intro g c tk bd Ww hg;refine codeAny_extend_loopS (W A.in1 (by simpa using hh)) nY s.heap.objs.size nf (.ref s.heap.objs.size) os.length 0 _ #[] c rfl (XM _) bd hg (ItemsOf.nil _) λs' al c' m hS' iH=>?_;obtain⟨hx,gx,dx,Wx,Wz⟩:=s';have T5:gx=s.gens:=m.gens;have U9:dx=d:=m.drawn;have Ub:Wz=s.os:=m.os;subst T5;subst U9;subst Ub;refine⟨hx,Wx,al,c',rfl,rfl,λb o e=>?_,hS',iH⟩;have lb:=XO e;refine m.heap b o ?_ (Ww b o (XR lb) (k2 b o (k0 b o e)));simp only[X5,XT,or_false,not_or];exact⟨XR lb,XR (Ys lb (by rw[e5]at hI;exact hI))⟩
  have fin : ∀ (r : Result) (s' : Shared), (∃ (h' : Heap) (tk : Nat) (al : Array Value) (c' : Nat), r = .ok (.ret (.ref s.heap.objs.size)) ∧ s' = { s with heap := h', toks := tk, drawn := d } ∧ (∀ b o, s.heap.get? b = some o → h'.get? b = some o) ∧
        h'.get? s.heap.objs.size=some { cls:=.type "list",dict:=none,data:=.seq al c',slots:=#[] }/\ItemsOf (λi v=>os[i]?=some v) al os.length)->∃(h':Heap) (tk c':Nat),r=.ok (.ret (.ref s.heap.objs.size))/\s'={ s with heap:=h',toks:=tk,drawn:=d }/\h'.get? s.heap.objs.size=some { cls:=.type "list",dict:=none,data:=.seq os.toArray c',slots:=#[] }/\R os { s with heap:=h',toks:=tk,drawn:=d }:=by
    rintro r s' ⟨h',tk,al,c',rfl,rfl,k,hS',iH⟩;have e:al=os.toArray:=by
      refine Array.ext (by rw[Xz];exact iH.1) λi h1 h2=>?_;have:=iH.2 i al[i] (Yu h1);rw[Xz]at h2;rw[XB h2]at this;injection this with this;rw[<- this];simp
    subst e;exact⟨h',tk,c',rfl,rfl,hS',h h' tk d os ys k sa nd eZ⟩
  refine Zj (λ_=>?HK) (λ_=>Xy ⟨YV PySem.F.plain_extend_loop _,Y5 (key h2 0 s.toks (st _) (λb o _ e=>e) rJ) λr s' y=>?last⟩)
  case last=>
    obtain⟨h',tk,c',rfl,rfl,hS',q⟩:=fin r s' y;show wpAny _ A (load s.heap.objs.size >>= _) _ _ _;exact Xv (wpAny_load hS' (Xy q))
  case HK=>
    refine Xv (wpAny_rule (Xv ?_));show wpAny _ _ (updateSeq s.heap.objs.size (·.push .none) >>= λ_=>updateSeq s.heap.objs.size (·.pop)) _ _ _;refine Xv (wpAny_updateSeq rJ rfl ?_);have u2:=Yg (Yh (·.push YE)) rJ rfl;refine wpAny_updateSeq (hz:=by seq_fits) u2 rfl ?_;have u3:=Yg (Yh (·.pop)) u2 rfl;have yl:∀b o,b≠s.heap.objs.size->h2.get? b=some o->((h2.update s.heap.objs.size (Yh (·.push YE))).update s.heap.objs.size (Yh (·.pop))).get? b=some o:=λb o hb e=>(Zy _ _ (Y0 hb)).trans ((Zy _ _ (Y0 hb)).trans e);refine Xy ⟨YV PySem.F.plain_extend_loop _,Y5 (key _ _ s.toks ((W A hh).frame 0 _ _ _ (st s.toks) (XC _) λb hb o e=>yl b o (λz=>nf (z ▸ hb)) e) yl u3) λr s' y=>?_⟩;obtain⟨h',tk,c',rfl,rfl,hS',q⟩:=fin r s' y;show wpAny _ A (load s.heap.objs.size >>= _) _ _ _;exact Xv (wpAny_load hS' (Xy q))
end
end L2
end
section
set_option maxHeartbeats 1000000
namespace N
open PySem PySem.Spec PyProof.Rows L2
def ym (ta:DE):DE:=fun τ M q=>ta τ M λx M1=>bp x M1 λds=>∃zs N:List Str,ds=zs.map D.str/\N.length<64/\(∀x∈zs,x∈N)/\∀ys:List Str,ys.Nodup->(∀x,x∈ys ↔ x∈zs)->sortedS ys=true->bZ (ys.map D.str) M1 q
section
variable {X:Cx} {τ:St} {z:Z}
theorem ae.HM (I:ae X τ z) (d:Drawn):ae X τ ⟨z.F,z.M,{ z.s with drawn:=d }⟩:=⟨I.ok,I.bs,I.os,I.bare,I.cj,I.loc,I.cell,I.free,I.hok,I.len⟩
theorem yn {G:Gx}{F:Fz}:∀{ys:List Str}{us:List Value},ah G F (ys.map D.str) us->StrsAre us ys
 |[],us,r=>by rw[YA,ah]at r;subst r;exact .nil
 |y::ys,us,r=>by rw[XJ,ah]at r;obtain⟨u,us,rfl,h,r⟩:=r;rw[ab]at h;obtain⟨t,rfl⟩:=h;exact .cons _ _ (yn r)
theorem HN {a:Addr}{zs:List Str}{Q:QK}{R:Value->Shared->Prop}{F:Fz} (hc:X.calm=true) (I:ae X τ z) (S:cQ X.G.P X.G.w z.s.heap a zs) (gP:zs.length<64) (k:KE X τ F Q R) (l:Le F z.F)
  (q:∀ys:List Str,ys.Nodup->(∀x,x∈ys ↔ x∈zs)->sortedS ys=true->bZ (ys.map D.str) z.M Q):W X (call (.builtin "sorted") [.ref a]) R z.s:=by
 refine Calls.call_function_entry kind_sorted plain_sorted entry_sorted (args_sorted1 _) ?_;unfold Builtin.«sorted»;refine Xv (m:=checkCount "sorted" 1 1 _) (Xy ?_);refine Xv (HI (A:=X.A.in1) (I.ok.hd hc) S (by lia) λh' tk d os ss keep hS nd eZ=>?_);have hl:os.length=ss.length:=hS.length;have le:ss.length<=zs.length:=List.Nodup.length_le_of_subset nd λy hy=>(eZ y).mp hy;have nY:os.length<=sizeLine:=XG (show os.length<=64 by lia) (by decide);refine Xv (wpAny_newList ?_ nY);have eU:(h'.push { cls:=.type "list",data:=.seq os.toArray }).get? h'.objs.size=some (seqObj "list" os.toArray 0):=XA _ rfl;refine Xv (Yv (Yc slot_list_sort ⟨_,eU,rfl⟩ entry_list_sort (list_sort_treeK strKind_oneLt eU hS.keysOf (λv₁ v₂ rest e=>keyKind_strs (by rw[<- e];exact hS)) (by lia) λbd TJ TF=>⟨_,rfl,?_⟩) (args_list_sort _)));obtain⟨ys,b1,b2,TH⟩:=sorted_out_str hS TJ TF;refine Xy ⟨_,rfl,?_⟩;have J:ae X τ ⟨z.F,z.M,{ z.s with heap:=h',toks:=tk,drawn:=d }⟩:=(I.bX (t:=tk) keep).HM d;obtain⟨e,rB⟩:=sortedHeap_at (out:=(arrOf bd).map (·.2)) eU;have rs:=jK (G:=X.G) (F:=z.F) b1;refine J.lst (n:=e) (t:=tk) k l rs (λb o hb=>?_) (XC _) ?_ (by rw[<- rs.len,Xx,b2.length_eq,<- hl];exact nY) (q ys (b2.nodup_iff.mpr nd) (λx=>b2.mem_iff.trans (eZ x)) TH)
 ·have a2:b<h'.objs.size:=XO hb;rw[sortedHeap_old (XR a2) (by rw[Yd];exact YM a2)];exact Xw _ hb
 ·rw[rB];rfl
theorem HO {e:Expr}{te:DE}{p1 p2 gR dL:Pos} (hc:X.calm=true) (rK:Gl X "sorted") (jR:X.G.mg "sorted"=none) (rL:Gl X "set") (rM:X.G.mg "set"=none) (he:PE X e te) (hs:b0 e=true) :
  PE X (.Call (.Name "sorted" p1) [.Call (.Name "set" p2) [e] [] dL] [] gR) (ym te):=fun τ z Q R I h k=>by
 refine Yw (eL I rK jR (by decide +kernel:bootBuiltins "sorted"=some (.builtin "sorted")) (by decide) (by decide) ?_);refine PyProof.Rows.callWith_builtin1 ?_ (bL rfl) rfl;rw[bL (e:=.Call (.Name "set" p2) [e] [] dL) rfl];show W X (spliced ((false,eval (.Call (.Name "set" p2) [e] [] dL) X.env)::backTo gR (starEach [] X.env))) _ z.s;refine YS ?_;refine Yw (eL I rL rM (by decide +kernel:bootBuiltins "set"=some (.type "set")) (by decide) (by decide) ?_);refine YF ?_ (bL hs) rfl;refine p7 he p6 (bL hs) dL τ z (λds M=>n1 (λd M Q=>bp d M λes=>∃zs N:List Str,es=zs.map D.str/\N.length<64/\(∀x∈zs,x∈N)/\∀ys:List Str,ys.Nodup->(∀x,x∈ys ↔ x∈zs)->sortedS ys=true->bZ (ys.map D.str) M Q) ds M Q) _ I h λds z1 us l1 I1 r1 q1=>?_;unfold n1 at q1;dsimp only at q1;split at q1
 case h_2=>exact q1.elim
 obtain⟨u,rfl,ru⟩:=gI r1;obtain⟨a,ds,its,n,rfl,l,zs,N,rfl,gP,hb,q⟩:=I1.bp ru q1;have jI:StrsAre its zs:=yn l.r;refine Hu (A:=X.A) (its:=its.toArray) (N:=N) (I1.ok.hd hc) ⟨_,l.e,rfl,n,rfl⟩ (by simpa using jI) (by lia) hb λh' tk S keep=>?_;refine Zo ?_;exact HN hc (I1.bX (t:=tk) keep) (S.eZ (nV hb)) (XN (List.length_filter_le _ _) gP) k l1 λys h1 h2 h3=>q ys h1 (λx=>(h2 x).trans (nV hb x).symm) h3
end
end N
end
section
namespace L2
open PySem PySem.Spec PyProof.Rows PySem.W
section
variable {prog:Program}{w:World}{A:Around}{E:Value->Shared->Prop}{s:Shared}
theorem HP {M:Model}{a:Addr}{o:Obj}{Q:Option Obj->Shared->Prop} (ho:s.heap.get? a=some o) (h:Q (some o) s):wpAny M A (Sem.loadIfAlive a Sem.pure) Q E s:=fun Γ p x=>by
 rw[Sem.wp_loadIfAlive,ho];exact h
def rN (h:Heap) (e it a:Addr) (b:Bool) (i:Nat):Prop:=∃f5,h.get? e=some { cls:=.type "enumerate",data:=.fields #[rawInt (a:Int),.bool b,.ref it,rawInt (i:Int),.none,f5] }
theorem HQ {e it l a:Addr}{b:Bool}{i:Nat}{items:Array Value}{x:Value}{oa:Obj}{Q:Option Value->Shared->Prop} (he:rN s.heap e it a b i) (ha:s.heap.get? a=some oa)
  (hit:s.heap.IsTupleIter it l i) (hl:s.heap.IsTuple l items) (hx:items[i]?=some x) (ne:e≠it) (nl:l≠e) (gS:l≠it) (na:a≠e) (HR:a≠it)
  (q:∀h' tk,rN h' e it a true (i+1)->h'.IsTupleIter it l (i+1)->h'.get? s.heap.objs.size=some { cls:=.type "tuple",data:=.seq #[.int i tk,x] }->h'.objs.size=s.heap.objs.size+1 ->
   (∀c o,c≠e->c≠it->s.heap.get? c=some o->h'.get? c=some o)->Q (some (.ref s.heap.objs.size)) { s with heap:=h',toks:=tk+1 }):wpAny (model prog w) A (pyNext (.ref e)) Q E s:=by
 obtain⟨f5,he⟩:=he;have hT:s.TypeIs (.ref e) "enumerate":=⟨_,he,rfl⟩;unfold pyNext;refine Xv (Zn (X8 (name:=YU "__next__") hT F.slot_enumerate_next
  (Yc F.slot_enumerate_next hT F.entry_enumerate_next ?_ (F.args_enumerate_next_1 _))))
 show wpAny _ _ (field (.ref e) 2 >>= _) _ _ _;refine Xv (Yt he rfl (x:=.ref it) rfl ?_);refine Xv (pP hit hl hx λh1 HS nZ=>?_);have rO:h1.get? e=_:=nZ.extBut _ _ ne he;obtain⟨U',n4,rP⟩:=id HS;obtain⟨hp,g,d,tk,os⟩:=s;have HU:h1.get? a=some oa:=nZ.extBut _ _ HR ha;have z1:h1.objs.size=hp.objs.size:=nZ.1
 wp_walk using Yi rO
 have zz:((h1.update e (Y9 λx=>x.setIfInBounds 3 (rawInt ((i:Int)+1)))).update e (Y9 λx=>x.setIfInBounds 4 YE)).objs.size=hp.objs.size:=by rw[Zv,Zv,z1]
 have b1:∀c o,c≠e->h1.get? c=some o->((h1.update e (Y9 λx=>x.setIfInBounds 3 (rawInt ((i:Int)+1)))).update e (Y9 λx=>x.setIfInBounds 4 YE)).get? c=some o:=λc o n q=>
  (Yb ..).extBut c o n ((Yb ..).extBut c o n q)
 have e3:((h1.update e (Y9 λx=>x.setIfInBounds 3 (rawInt ((i:Int)+1)))).update e (Y9 λx=>x.setIfInBounds 4 YE)).get? e=some { cls:=.type "enumerate",data:=.fields #[rawInt (a:Int),.bool b,.ref it,rawInt ((i:Int)+1),.none,f5] }:=
  Yg (Y9 λx=>x.setIfInBounds 4 YE) (Yg (Y9 λx=>x.setIfInBounds 3 (rawInt ((i:Int)+1))) rO rfl) rfl
 generalize ((h1.update e (Y9 λx=>x.setIfInBounds 3 (rawInt ((i:Int)+1)))).update e (Y9 λx=>x.setIfInBounds 4 YE))=h2 at *;have tp:=XA h2 (o:={ cls:=.type "tuple",data:=.seq #[.int (i:Int) tk,x] }) rfl;have kp:∀c o,h2.get? c=some o->(h2.push { cls:=.type "tuple",data:=.seq #[.int (i:Int) tk,x] }).get? c=some o:=λc o q=>Xw _ q;have sz:(h2.push { cls:=.type "tuple",data:=.seq #[.int (i:Int) tk,x] }).objs.size=hp.objs.size+1:=by rw[Yd,zz]
 rw[zz]at tp;refine HP (o:=oa) (kp _ _ (b1 _ _ na HU)) ?_;have e4:=kp _ _ e3;have k2:∀c o,c≠e->c≠it->hp.get? c=some o->(h2.push { cls:=.type "tuple",data:=.seq #[.int (i:Int) tk,x] }).get? c=some o:=λc o n n' q=>kp _ _ (b1 c o n (nZ.extBut c o n' q));have yo:=kp _ _ (b1 it _ ne.symm n4);dsimp only;generalize (h2.push { cls:=.type "tuple",data:=.seq #[.int (i:Int) tk,x] })=h3 at *;rw[zz];cases b with
 |true=>
  refine Xv (Yt e4 rfl (x:=.bool true) rfl (Xy (Xy ⟨_,rfl,Xy (q h3 tk ⟨f5,e4⟩ ⟨_,yo,rP⟩ tp sz k2)⟩)))
 |false=>
  refine Xv (Yt e4 rfl (x:=.bool false) rfl ?_);have n:e≠hp.objs.size:=XR (XO he);refine Xv (wpAny_setField e4 rfl (by show 1<6;decide) (Xy (Xy ⟨_,rfl,Xy (q _ tk ⟨f5,Yg _ e4 rfl⟩ ⟨U',(Yb ..).extBut _ _ ne.symm yo,rP⟩ ((Yb ..).extBut _ _ n.symm tp) (by rw[Zv];exact sz) λc o n1 n2 z=>(Yb ..).extBut _ _ n1 (k2 c o n1 n2 z))⟩)))
theorem HV {e it l:Addr}{i:Nat}{items:Array Value}{f0 f1 f5:Value}{Q:Option Value->Shared->Prop} (hh:A.handled=none)
  (he:s.heap.get? e=some { cls:=.type "enumerate",data:=.fields #[f0,f1,.ref it,rawInt (i:Int),.none,f5] }) (hit:s.heap.IsTupleIter it l i) (hl:s.heap.IsTuple l items) (hx:items[i]?=none)
  (hQ:∀h',ZE it s.heap h'->Q none { s with heap:=h' }):wpAny (model prog w) A (pyNext (.ref e)) Q E s:=by
 have hT:s.TypeIs (.ref e) "enumerate":=⟨_,he,rfl⟩;unfold pyNext;refine Xv (Zn (X8 (name:=YU "__next__") hT F.slot_enumerate_next
  (Yc F.slot_enumerate_next hT F.entry_enumerate_next ?_ (F.args_enumerate_next_1 _))))
 show wpAny _ _ (field (.ref e) 2 >>= _) _ _ _;refine Xv (Yt he rfl (x:=.ref it) rfl ?_);refine Xv (mN hh hit hl hx λh' x h8 cW=>?_);obtain⟨o,ho,hc⟩:=cW;refine Xv (Zm (T:="StopIteration") (b:=true) ⟨o,ho,hc⟩ isSubtype_stop ?_);exact Xy (hQ _ h8)
def rQ (h:Heap) (e it:Addr) (i:Nat) (as:List Addr):Prop:=(as=[]/\∃dh,IsEnum h e it (i:Int) dh)\/∃a r b,as=a::r/\rN h e it a b i
def n6 (h:Heap) (items:Array Value) (as:List Addr):Prop:=∀(j:Nat) (b:Addr),as[j]?=some b->∃tk x,items[j]?=some x/\h.get? b=some { cls:=.type "tuple",data:=.seq #[.int (j:Int) tk,x] }
theorem HW {e it l:Addr}{i:Nat}{items:Array Value}{x:Value}{as:List Addr}{Q:Option Value->Shared->Prop} (hh:A.handled=none) (he:rQ s.heap e it i as) (hA:n6 s.heap items as)
  (hit:s.heap.IsTupleIter it l i) (hl:s.heap.IsTuple l items) (hx:items[i]?=some x) (ne:e≠it) (nl:l≠e) (gS:l≠it) (na:∀a∈as,a≠e/\a≠it)
  (q:∀h' tk,rQ h' e it (i+1) (as++[s.heap.objs.size])->h'.IsTupleIter it l (i+1)->h'.get? s.heap.objs.size=some { cls:=.type "tuple",data:=.seq #[.int i tk,x] }->h'.objs.size=s.heap.objs.size+1 ->
   (∀c o,c≠e->c≠it->s.heap.get? c=some o->h'.get? c=some o)->Q (some (.ref s.heap.objs.size)) { s with heap:=h',toks:=tk+1 }):wpAny (model prog w) A (pyNext (.ref e)) Q E s:=by
 rcases he with ⟨rfl,dh,he⟩ |⟨a,r,b,rfl,he⟩
 ·refine wpAny_pyNext_enum_itemD (Draws.tuple (A:=A.in1) hh it l gS items) he ⟨hit,hl⟩ (Array.getElem?_eq_some_iff.mp hx).1 ne (by simp only[X5,XT,or_false,not_or];exact⟨ne,nl.symm⟩) λu h' tk hP Z' J T n k=>?_;have hP:items[i]?=some u:=hP;rw[hx]at hP;cases hP;exact q h' tk (.inr ⟨_,[],false,rfl,x,by have Z2:=Z';unfold IsEnumOut at Z2;rw[Int.natCast_add];exact Z2⟩) J.1 T n k
 ·obtain⟨tk,y,_,ha⟩:=hA 0 a rfl;obtain⟨n1,n2⟩:=na a (by simp);exact HQ he ha hit hl hx ne nl gS n1 n2 λh' tk z1 z2 z3 z4 z5=>q h' tk (.inr ⟨a,r++[_],true,rfl,z1⟩) z2 z3 z4 z5
theorem HX {R:Result->Shared->Prop} (hh:A.handled=none) {e it l S:Addr}{items:Array Value} (hz:items.size<sizeLine) (ne:e≠it) (nl:l≠e) (gS:l≠it) (ns:S≠e) (rR:S≠it) (HY:l≠S) (res:Value) (n0:Nat) (le:e<n0) (li:it<n0) (UO:S<n0) :
  ∀(k i:Nat) (s:Shared) (as:List Addr) (c:Nat),items.size-i=k->i<=items.size->rQ s.heap e it i as->s.heap.IsTupleIter it l i->s.heap.IsTuple l items->s.heap.get? S=some { cls:=.type "list",data:=.seq (as.map Yj).toArray c }->n6 s.heap items as->as.length=i ->
   n0<=s.heap.objs.size->(∀a∈as,n0<=a)->as.Pairwise (· < ·) ->
   (∀h' tk iM c',(∀b o,b≠e->b≠it->b≠S->s.heap.get? b=some o->h'.get? b=some o)->h'.get? S=some { cls:=.type "list",data:=.seq (iM.map Yj).toArray c' }->n6 h' items iM->iM.length=items.size->(∀a∈iM,n0<=a)->iM.Pairwise (· < ·) ->
    R (.ok (.ret res)) { s with heap:=h',toks:=tk })->codeAny (model prog w) A (.builtin "list.extend.loop" ⟨[.ref S,.ref e,res],[]⟩) R s:=by
 intro k
 induction k with
 |zero=>
  intro i s as c hk hi he hit hl hS hA la hn h0 pw q;have c6:i=items.size:=by lia
  subst c6;refine YQ F.entry_extend_loop ?_;rw[Yx F.plain_extend_loop];unfold Builtin.«list.extend.loop»;have fin:∀h',ZE it s.heap h'->R (.ok (.ret res)) { s with heap:=h' }:=λh' eb=>q h' s.toks as c (λb o _ n2 _ z=>eb b o n2 z) (eb _ _ rR hS) (λj b z=>by
   obtain⟨tk,x,z1,z2⟩:=hA j b z;exact⟨tk,x,z1,eb _ _ (YJ (XW li (h0 b (Yq z)))) z2⟩) la h0 pw
  have nx:items[items.size]?=none:=by simp
  rcases he with ⟨_,dh,he⟩ |⟨a,r,b,_,f5,he⟩
  ·exact Xv (C8 hh he hit hl nx λh' eb=>Xy (fin h' eb))
  ·exact Xv (HV hh he hit hl nx λh' eb=>Xy (fin h' eb))
 |succ k ih=>
  intro i s as c hk hi he hit hl hS hA la hn h0 pw q;have a2:i<items.size:=by lia
  obtain⟨x,hx⟩:∃x,items[i]?=some x:=⟨items[i],by simp [a2]⟩;refine YQ F.entry_extend_loop ?_;rw[Yx F.plain_extend_loop];unfold Builtin.«list.extend.loop»;refine Xv (HW hh he hA hit hl hx ne nl gS (λa ha=>⟨YJ (XW le (h0 a ha)),YJ (XW li (h0 a ha))⟩) λh' tk h8 pt T' n' kp=>?_);have hS':=kp S _ ns rR hS;refine (show wpAny _ _ (updateSeq S (λy=>y.push (.ref s.heap.objs.size)) >>= _) _ _ _ from Xv (wpAny_updateSeq hS' rfl ?_ (by rw[Xz,Xx,la];lia) (by rw[Array.size_push,Xz,Xx,la];lia)));have HZ:S<s.heap.objs.size:=XO hS;have sb:=Yb h' S (Yh λy=>y.push (.ref s.heap.objs.size));have H0:=Yg (Yh λy=>y.push (.ref s.heap.objs.size)) hS' rfl;obtain⟨c',H1⟩:∃c',(h'.update S (Yh λy=>y.push (.ref s.heap.objs.size))).get? S=some { cls:=.type "list",data:=.seq ((as++[s.heap.objs.size]).map Yj).toArray c' }:=by
   have Va:((as++[s.heap.objs.size]).map Yj).toArray=((as.map Yj).toArray).push (.ref s.heap.objs.size):=(by simp);rw[Va];exact⟨_,H0⟩
  have rq:∀a∈as,a<s.heap.objs.size:=λa ha=>by
   obtain⟨j,hj⟩:=List.getElem?_of_mem ha;obtain⟨_,_,_,z⟩:=hA j a hj;exact XO z
  refine Xy ⟨YV F.plain_extend_loop _,ih (i+1) _ (as++[s.heap.objs.size]) c' (by lia) a2 ?_ ?_ ?_ H1 ?_ (by simp [la]) ?_ ?_ ?_ ?_⟩
  ·rcases h8 with ⟨z,_⟩ |⟨a,r,b,z,f5,z'⟩
   ·simp at z
   ·exact .inr ⟨a,r,b,z,f5,sb.extBut _ _ ns.symm z'⟩
  ·exact pt.at λo z=>sb.extBut _ _ rR.symm z
  ·exact hl.at λo z=>sb.extBut _ _ HY (kp _ _ nl gS z)
  ·intro j b hj;by_cases hb:j<as.length
   ·rw[Yr hb]at hj;obtain⟨tk,y,z1,z2⟩:=hA j b hj;have:=h0 b (Yq hj);exact⟨tk,y,z1,sb.extBut _ _ (YJ (XW UO this)) (kp _ _ (YJ (XW le this)) (YJ (XW li this)) z2)⟩
   ·rw[Yp (by lia)]at hj;have H3:j-as.length=0:=by
     rcases Nat.eq_zero_or_pos (j-as.length) with z |z
     ·exact z
     ·rw[List.getElem?_eq_none (by simp;lia)]at hj;cases hj
    rw[H3]at hj;cases hj;have:j=i:=(by lia);subst this;exact⟨tk,x,hx,sb.extBut _ _ (YJ HZ) T'⟩
  ·show n0<=(h'.update S _).objs.size;rw[Zv,n'];lia
  ·intro a ha;rcases List.mem_append.mp ha with z |z
   ·exact h0 a z
   ·rw[List.mem_singleton.mp z];exact hn
  ·rw[List.pairwise_append];exact⟨pw,List.pairwise_singleton _ _,λa ha b hb=>by rw[List.mem_singleton.mp hb];exact rq a ha⟩
  ·intro im H4 H5 H6 kk z2 z3 z4 z5 z6;exact q im H4 H5 H6 (λb o n1 n2 n3 z=>kk b o n1 n2 n3 (sb.extBut _ _ n3 (kp b o n1 n2 z))) z2 z3 z4 z5 z6
theorem H7:typeLookup (.type "enumerate") "__len__"=pure none:=by rw[Y4,YB];kernel_rfl
theorem H8:typeLookup (.type "enumerate") "__length_hint__"=pure none:=by rw[Y4,YB];kernel_rfl
theorem H9 {Q:Value->Shared->Prop} (hh:A.handled=none) {e it l:Addr}{items:Array Value}{dh:Value} (hz:items.size<sizeLine) (he:IsEnum s.heap e it 0 dh) (hit:s.heap.IsTupleIter it l 0) (hl:s.heap.IsTuple l items) (ne:e≠it) (nl:l≠e) (gS:l≠it)
  (q:∀h' tk as c,(∀b o,b≠e->b≠it->s.heap.get? b=some o->h'.get? b=some o)->h'.get? s.heap.objs.size=some { cls:=.type "list",data:=.seq (as.map Yj).toArray c }->n6 h' items as->as.length=items.size->(∀a∈as,s.heap.objs.size<a)->as.Pairwise (· < ·) ->
   Q (.ref s.heap.objs.size) { s with heap:=h',toks:=tk }):wpAny (model prog w) A (call (.type "list") [.ref e]) Q E s:=by
 have le:=XO he;obtain⟨U',n4,rP⟩:=id hit;obtain⟨ol,lu,hl2⟩:=id hl;have li:=XO n4;have ll:=XO lu;refine callType_codes F.called_list (F.typeCall_list_1 _) F.entry_list_init (code_list_new (Q₁:=λv s1=>v=.ref s.heap.objs.size/\s1={ s with heap:=s.heap.push { cls:=.type "list",data:=.seq #[] } }) _ ⟨rfl,rfl⟩) ?_;rintro obj s1 ⟨rfl,rfl⟩;have h0:=XA s.heap (o:={ cls:=.type "list",data:=.seq #[] }) rfl;refine⟨⟨_,h0,rfl⟩,F.args_list_init_2 _ _,?_⟩;have kp:∀c o,s.heap.get? c=some o->(s.heap.push { cls:=.type "list",data:=.seq #[] }).get? c=some o:=λc o z=>Xw _ z;have rO:=kp _ _ he;have Te:=kp _ _ n4;have Tf:=kp _ _ lu;have f1:=H7;have f2:=H8;have sz:(s.heap.push { cls:=.type "list",data:=.seq #[] }).objs.size=s.heap.objs.size+1:=Yd ..;obtain⟨hp,g,d,tk,os⟩:=s;dsimp only at *
 wp_walk using Yi h0
 obtain⟨c1,yp⟩:∃c,((hp.push { cls:=.type "list",data:=.seq #[] }).update hp.objs.size (Yh λx=>#[])).get? hp.objs.size=some { cls:=.type "list",data:=.seq #[] c }:=⟨_,Yg _ h0 rfl⟩;have k1:∀c o,hp.get? c=some o->((hp.push { cls:=.type "list",data:=.seq #[] }).update hp.objs.size (Yh λx=>#[])).get? c=some o:=λc o z=>(Yb ..).extBut _ _ (XR (XO z)) (kp _ _ z);have e5:((hp.push { cls:=.type "list",data:=.seq #[] }).update hp.objs.size (Yh λx=>#[])).objs.size=hp.objs.size+1:=by rw[Zv,sz]
 generalize ((hp.push { cls:=.type "list",data:=.seq #[] }).update hp.objs.size (Yh λx=>#[]))=h1 at *;have rS:=k1 _ _ he;have hT:Shared.TypeIs (⟨h1,g,d,tk,os⟩:Shared) (.ref e) "enumerate":=⟨_,rS,rfl⟩;have ns:(Builtin.List.listSameRef (Yj hp.objs.size) (Yj e))=false:=by
  show (hp.objs.size == e)=false;simpa using YJ le
 refine Yi rS (Xy ?_);rw[ns];refine Xv (wpAny_pyIter_enum rS (Xv (Yv ?_)));unfold Builtin.List.listLengthHint;refine Xv (wpAny_specialOf hT f1 ?_);refine (show wpAny _ _ (specialOf (.ref e) "__length_hint__" >>= _) _ _ _ from Xv (wpAny_specialOf hT f2 (Xy ?_)));refine (show wpAny _ _ (rule "list.extend.makes-room" >>= _) _ _ _ from Xv (wpAny_rule ?_));refine (show wpAny _ _ (Builtin.List.listTouch (.ref hp.objs.size) >>= _) _ _ _ from ?_);unfold Builtin.List.listTouch;obtain⟨c2,yq⟩:∃c,(h1.update hp.objs.size (Yh λx=>x.push .none)).get? hp.objs.size=some { cls:=.type "list",data:=.seq #[.none] c }:=⟨_,Yg _ yp rfl⟩;obtain⟨c3,H'⟩:∃c,((h1.update hp.objs.size (Yh λx=>x.push .none)).update hp.objs.size (Yh λx=>x.pop)).get? hp.objs.size=some { cls:=.type "list",data:=.seq #[] c }:=⟨_,Yg _ yq rfl⟩;have k3:∀c o,hp.get? c=some o->((h1.update hp.objs.size (Yh λx=>x.push .none)).update hp.objs.size (Yh λx=>x.pop)).get? c=some o:=λc o z=>(Yb ..).extBut _ _ (XR (XO z)) ((Yb ..).extBut _ _ (XR (XO z)) (k1 _ _ z));have Ia:((h1.update hp.objs.size (Yh λx=>x.push .none)).update hp.objs.size (Yh λx=>x.pop)).objs.size=hp.objs.size+1:=by rw[Zv,Zv,e5]
 refine Xv (Xv (show wpAny _ _ (updateSeq hp.objs.size λx=>x.push .none) _ _ _ from wpAny_updateSeq yp rfl ?_ (XM _) (by show 1<=sizeLine+1;lia)));refine (show wpAny _ _ (updateSeq hp.objs.size λx=>x.pop) _ _ _ from wpAny_updateSeq yq rfl ?_ (by show 1<=sizeLine;decide) (XM _));dsimp only;generalize ((h1.update hp.objs.size (Yh λx=>x.push .none)).update hp.objs.size (Yh λx=>x.pop))=h3 at *;refine Xy ⟨YV F.plain_extend_loop _,HX (A:=A.in1) hh hz ne nl gS (YJ le) (YJ li) (XR ll) _ (hp.objs.size+1) (YM le) (YM li) (Y6 _) _ 0 _ [] c3 rfl (XM _) (.inl ⟨rfl,dh,k3 _ _ he⟩) (hit.at λo z=>k3 _ _ z) (hl.at λo z=>k3 _ _ z) H' (λj b z=>by cases z) rfl (ZG Ia.symm) (λ_ z=>nomatch z) .nil
  λh' dZ iM c' kk z2 z3 z4 z5 z6=>⟨rfl,q h' dZ iM c' (λb o n1 n2 z=>kk b o n1 n2 (XR (XO z)) (k3 _ _ z)) z2 z3 z4 z5 z6⟩⟩
end
end L2
end
section
set_option maxHeartbeats 1000000
namespace N
open PySem PySem.Spec PyProof.Rows L2
open Classical in
noncomputable def cE (F:Fz) (as:List Addr) (h:Heap):Fz:=λb=>if b∈as then (h.get? b).map Fo.dat else F b
section
variable {X:Cx} {τ:St} {z:Z}
theorem n7 {F:Fz}{as:List Addr}{h:Heap}{b:Addr}{o:Obj} (hb:b∈as) (e:h.get? b=some o):cE F as h b=some (.dat o):=by unfold cE;rw[if_pos hb,e];rfl
theorem jT {F:Fz}{as:List Addr}{h:Heap}{b:Addr} (hb:b ∉ as):cE F as h b=F b:=if_neg hb
theorem ae.many {as:List Addr}{h':Heap}{t:Nat} (I:ae X τ z) (kp:∀ b,bw z.s.heap h' b) (new:∀ b∈as,z.s.heap.objs.size<=b):Le z.F (cE z.F as h')/\ae X τ ⟨cE z.F as h',z.M,{ z.s with heap:=h',toks:=t }⟩:=by
  have l:Le z.F (cE z.F as h'):=λb f e=>by
    rw[jT λhb=>by rw[I.hok.cz (new b hb)]at e;cases e];exact e
  have ok:aK X.G (cE z.F as h') z.M h':=by
   refine⟨λb f e=>?_,λb o e=>?_,I.hok.tb.go (λT p q e=>?_) l.d λT _ _ _=>kp T⟩
   · by_cases hb:b∈as
     · cases q:h'.get? b with
       |none=>unfold cE at e;rw[if_pos hb,q]at e;cases e
       |some o=>rw[n7 hb q]at e;cases e;exact q
     · rw[jT hb]at e;exact (I.hok.fz b f e).go (kp b)
   case refine_3=>
     by_cases hb:T∈as
     · cases r:h'.get? T with
       |none=>unfold cE at e;rw[if_pos hb,r]at e;cases e
       |some o=>rw[n7 hb r]at e;cases e
     · rw[jT hb]at e;exact e
   · have hb:b ∉ as:=λm=>by have:=I.hok.dj (new b m);rw[e]at this;cases this
     exact⟨(jT hb).trans (I.hok.ob b o e).1,(I.hok.ob b o e).2.go l.d (λc _=>kp c) λ_ q=>q⟩
  exact⟨l,I.go l ok (λb hb=>⟨(kp b).s,I.dk hb,jT λm=>Y' _ (XW (I.fY hb) (new b m))⟩) rfl I.bare⟩
def yr (ta:DE):DE:=fun τ M q=>ta τ M λx M1=>match x with
 |.tup ds=>ds.length<sizeLine/\bZ (gK ds) M1 q
 |_=>False
theorem yt {G:Gx}{F:Fz}:∀ {ds:List D}{us:List Value}{as:List Addr}{k:Nat},ah G F ds us->as.length=us.length->(∀ (j:Nat) (b:Addr),as[j]?=some b->∃ tk x,us[j]?=some x/\F b=some (.dat { cls:=.type "tuple",data:=.seq #[.int ((k+j:Nat):Int) tk,x] })) ->
  ah G F (ds.mapIdx λi d=>.tup [.int ((k+i:Nat):Int),d]) (as.map Yj)
 |[],us,as,k,r,l,h=>by
  rw[ah]at r;subst r;rw[List.length_eq_zero_iff.mp l];exact .nil
 |d::ds,us,as,k,r,l,h=>by
  rw[ah]at r;obtain⟨u,us,rfl,r1,r2⟩:=r;cases as with
  |nil=>cases l
  |cons a as=>
   obtain⟨tk,x,e1,e2⟩:=h 0 a rfl;cases e1;rw[List.mapIdx_cons,XJ];refine .cons ?_ ?_
   ·rw[ab];exact⟨a,_,[.int ((k+0:Nat):Int) tk,u],rfl,e2,⟨rfl,rfl,⟨_,rfl⟩,by show 2<=sizeLine;decide⟩,.cons ck (.cons r1 .nil)⟩
   ·have:=yt (k:=k+1) (as:=as) r2 (ZQ l) λj b hb=>by
     obtain⟨tk,x,e1,e2⟩:=h (j+1) b hb;exact⟨tk,x,e1,by rw[show k+1+j=k+(j+1) by lia];exact e2⟩
    have e:(λ(i:Nat) (d:D)=>D.tup [.int ((k+(i+1):Nat):Int),d])=λi d=>.tup [.int ((k+1+i:Nat):Int),d]:=(by funext i d;rw[show k+(i+1)=k+1+i by lia]);rw[e];exact this
theorem Ib {e:Expr}{te:DE}{p1 p2 gR dL:Pos} (hc:X.calm=true) (rK:Gl X "list") (jR:X.G.mg "list"=none) (rL:Gl X "enumerate") (rM:X.G.mg "enumerate"=none) (he:PE X e te) (hs:b0 e=true) :
  PE X (.Call (.Name "list" p1) [.Call (.Name "enumerate" p2) [e] [] dL] [] gR) (yr te):=fun τ z Q R I h k=>by
 refine Yw (eL I rK jR (by decide +kernel:bootBuiltins "list"=some (.type "list")) (by decide) (by decide) ?_);refine YF ?_ (bL rfl) rfl;rw[bL (e:=.Call (.Name "enumerate" p2) [e] [] dL) rfl];show W X (spliced ((false,eval (.Call (.Name "enumerate" p2) [e] [] dL) X.env)::backTo gR (starEach [] X.env))) _ z.s;refine YS ?_;refine Yw (eL I rL rM boot_enumerate (by decide) (by decide) ?_);refine YF ?_ (bL hs) rfl;refine p7 he p6 (bL hs) dL τ z (λds M=>n1 (λd M Q=>match d with
  |.tup ds=>ds.length<sizeLine/\bZ (gK ds) M Q
  |_=>False) ds M Q) _ I h λds z1 us l1 I1 r1 q1=>?_
 unfold n1 at q1;dsimp only at q1;split at q1
 case h_2=>exact q1.elim
 obtain⟨u,rfl,ru⟩:=gI r1;split at q1
 case h_2=>exact q1.elim
 rename_i ds;obtain⟨hz,q⟩:=q1;obtain⟨a,us,o,rfl,l⟩:=I1.cX ru;have hl:=l.r.len;refine C7 l.p λh' Z J n2 keep=>?_;refine Zo ?_;have hL:h'.IsTuple a us.toArray:=(show z1.s.heap.IsTuple a us.toArray from l.p).at λo e=>keep _ _ e;obtain⟨ol,e1,_⟩:=id l.p;have la:=XO e1;refine H9 (s:={ z1.s with heap:=h' }) (I1.ok.hd hc) (by rw[Xz,<- hl];exact hz) Z J hL (YJ (Y6 _)) (XR (YM la)) (XR la) λh2 tk as c kp hS hA ln hn pw=>?_;have kk:∀b,bw z1.s.heap h2 b:=λb o e=>kp b o (XR (YM (XO e))) (XR (XO e)) (keep b o e);have sz:z1.s.heap.objs.size<=h'.objs.size:=by rw[n2];lia
 obtain⟨l2,I2⟩:=I1.many (as:=as) (t:=tk) kk λb hb=>XG sz (Nat.le_of_lt (hn b hb));have rs:ah X.G (cE z1.F as h2) (gK ds) (as.map Yj):=by
  have:=yt (k:=0) (as:=as) (l.r.up l2.d) (by rw[ln,Xz]) λj b hb=>by
   obtain⟨tk,x,e1,e2⟩:=hA j b hb;exact⟨tk,x,by simpa using e1,n7 (Yq hb) (by rw[Nat.zero_add];exact e2)⟩
  simpa [gK] using this
 have fp:Fp X ⟨cE z1.F as h2,z1.M,{ z1.s with heap:=h2,toks:=tk }⟩ h'.objs.size:=⟨(jT (F:=z1.F) (h:=h2) λm=>Y' _ (hn _ m)).trans (I1.hok.cz sz),I1.hok.dj sz,λo=>Y' _ (XW (I1.fY o) sz)⟩;exact I2.qZ (n:=c) fp k (l1.tr l2) rs hS (by rw[Xx,ln,Xz,<- hl];exact Nat.le_of_lt hz) q
end
end N
end
section
set_option maxHeartbeats 1000000
namespace N
open PySem PySem.Spec PyProof.Rows L2
section
variable {X:Cx} {τ:St} {z:Z}
end
end N
end
section
set_option maxHeartbeats 1000000
namespace N
open PySem PySem.Spec PyProof.Rows L2
mutual
inductive Fr (M K:Mp):D->D->Prop
 |rfl {d:D}:Fr M K d d
 |lst {p:Addr}{ds es:List D}:M p=some (.lst ds)->K p=none->gq M K ds es->Fr M K (.ref p) (.lst es)
 |ao {p:Addr}{kvs:List (Key×D)}{es:List D}:M p=some (.ao kvs)->K p=none->gq M K (kvs.map (·.2)) es->Fr M K (.ref p) (.ao (kvs.map (·.1)) es)
 |tup {ds es:List D}:gq M K ds es->Fr M K (.tup ds) (.tup es)
 |Ic {ds es:List D}:gq M K ds es->Fr M K (.lst ds) (.lst es)
inductive gq (M K:Mp):List D->List D->Prop
 |rfl {ds:List D}:gq M K ds ds
 |cons {d e:D}{ds es:List D}:Fr M K d e->gq M K ds es->gq M K (d::ds) (e::es)
end
structure cy (K M:Mp):Prop where
 sub:∀a o,K a=some o->M a=some o
 own:∀a b,K a≠none->M b=some (.own a)->K b=some (.own a)
theorem cy.rfl {M:Mp}:cy M M:=⟨λ_ _ h=>h,λ_ _ _ h=>h⟩
noncomputable def dm (F:Fz) (M K:Mp) (h:Heap):Fz:=λa=>match M a,K a with
 |some _,none=>(h.get? a).map Fo.dat
 |_,_=>F a
section
variable {G:Gx}{F:Fz}{M K:Mp}{h:Heap}
theorem e6 (x:aK G F M h):Le F (dm F M K h):=λa f e=>by
 unfold dm;cases q:M a with
 |none=>exact e
 |some o=>have:=(x.ob a o q).1;rw[e]at this;cases this
theorem yu {a:Addr}{o:MO}{ob:Obj} (hM:M a=some o) (UP:K a=none) (e:h.get? a=some ob):dm F M K h a=some (.dat ob):=by
 unfold dm;rw[hM,UP];show (h.get? a).map Fo.dat=_;rw[e];rfl
theorem yv (x:aK G F M h) (s:cy K M):aK G (dm F M K h) K h:=by
 refine⟨λa f e=>?_,λa o e=>?_,x.tb.go (λT p q e=>?_) (e6 x).d λ_ _ _ _ _ e=>e⟩
 case refine_3=>
  unfold dm at e;split at e
  ·cases q:h.get? T <;> rw[q]at e <;> cases e
  ·exact e
 ·unfold dm at e;split at e
  ·cases q:h.get? a with
   |none=>rw[q]at e;cases e
   |some ob=>rw[q]at e;cases e;exact q
  ·exact x.fz a f e
 ·have hM:=s.sub a o e;obtain⟨h1,h2⟩:=x.ob a o hM;refine⟨by unfold dm;rw[hM,e];exact h1,h2.go (e6 x).d (λ_ _ _ q=>q) λb q=>s.own a b (by rw[e];exact Yn o) q⟩
mutual
theorem Fr.rel (x:aK G F M h):∀{d e:D}{u:Value},Fr M K d e->ab G F d u->ab G (dm F M K h) e u
 |_,_,u,.rfl,r=>r.up (e6 x).d
 |_,_,u,.lst h1 h2 h3,r=>by
  rw[ab]at r;subst r;obtain⟨_,hz,us,n,rs,e⟩:=x.ob _ _ h1;exact m6 (yu h1 h2 e) (by rw[<- rs.len];exact hz) (h3.rel x rs)
 |_,_,u,.ao (kvs:=kvs) h1 h2 h3,r=>by
  rw[ab]at r;subst r;obtain⟨_,hz,hs,vs,rs,o,es,ep,e,ex,g1,g2,g3,nd⟩:=x.ob _ _ h1;obtain⟨k1,k2⟩:=k6 rs;rw[ab];refine⟨_,o,vs.map (·.2),rfl,yu h1 h2 e,⟨ex,⟨es,ep,g1,g2,?_⟩,by rw[k2];exact nd,by rw[k2,Xx,Xx],by rw[Xx];exact hz⟩,hs,h3.rel x k1⟩;rw[k2,xG];exact g3
 |_,_,u,.tup h3,r=>by
  rw[ab]at r ⊢;obtain⟨a,o,us,e,h1,h2,rs⟩:=r;exact⟨a,o,us,e,e6 x a _ h1,h2,h3.rel x rs⟩
 |_,_,u,.Ic h3,r=>by
  rw[ab]at r ⊢;obtain⟨a,n,us,e,h1,h2,rs⟩:=r;exact⟨a,n,us,e,e6 x a _ h1,h2,h3.rel x rs⟩
theorem gq.rel (x:aK G F M h):∀{ds es:List D}{us:List Value},gq M K ds es->ah G F ds us->ah G (dm F M K h) es us
 |_,_,us,.rfl,r=>r.up (e6 x).d
 |_,_,us,.cons h1 h2,r=>by
  rw[ah]at r;obtain⟨u,us,rfl,r1,r2⟩:=r;exact .cons (h1.rel x r1) (h2.rel x r2)
end
end
theorem ae.Ie {X:Cx} {τ:St} {z:Z}{K:Mp} (I:ae X τ z) (s:cy K z.M):ae X τ ⟨dm z.F z.M K z.s.heap,K,z.s⟩ where
 ok:=I.ok
 bs:=I.bs.up (e6 I.hok)
 os:=I.os
 bare:=I.bare
 cj:=λenv h=>let ⟨h1,L,o,h2,h3,h4⟩:=I.cj env h;⟨h1,L,o,h2,e6 I.hok _ _ h3,h4⟩
 loc:=let ⟨m,h1,h2⟩:=I.loc;⟨m,h1,λi x d a b c=>let ⟨u,r,l⟩:=h2 i x d a b c;⟨u,r.up (e6 I.hok).d,l⟩⟩
 cell:=λx c h=>by
  obtain⟨h1,h2,h3⟩:=I.cell x c h;have e:dm z.F z.M K z.s.heap c=z.F c:=by unfold dm;rw[h2]
  refine⟨h1,?_,?_⟩
  ·cases q:K c with
   |none=>exact q
   |some o=>rw[s.sub c o q]at h2;cases h2
  ·dsimp only;rw[e];exact h3
 free:=by
  obtain⟨h1,h2⟩:=I.free;refine⟨by dsimp only;unfold dm;rw[h2];exact h1,?_⟩;cases q:K X.env.locals with
  |none=>exact q
  |some o=>rw[s.sub _ o q]at h2;cases h2
 hok:=yv I.hok s
 len:=I.len
noncomputable def br (a:Addr) (d:D):Option D->Option D
 |some (.ref b)=>if b=a then some d else some (.ref b)
 |o=>o
theorem Ig {M:Mp}{a:Addr}{o:MO} (h:M a=some o) (n:∀b,o≠.own b):cy (rm M a) M:=⟨λb u e=>by
 by_cases z:b=a
 ·rw[z,mO]at e;cases e
 ·rw[pS z]at e;exact e,λb c e q=>by
 by_cases z:c=a
 ·rw[z,h]at q;cases q;exact absurd rfl (n b)
 ·rw[pS z];exact q⟩
theorem ae.yw {X:Cx} {τ:St} {z:Z}{a:Addr}{o:MO}{d:D} (I:ae X τ z) (h:z.M a=some o) (n:∀b,o≠.own b) (f:Fr z.M (rm z.M a) (.ref a) d):∃F',Le z.F F'/\ae X (τ.map (br a d)) ⟨F',rm z.M a,z.s⟩:=by
 have I':=I.Ie (Ig h n);refine⟨_,e6 I.hok,{ I' with loc:=?_,len:=by rw[Xx];exact I.len }⟩;obtain⟨m,h1,h2⟩:=I'.loc;refine⟨m,h1,λi x e hx he hv=>?_⟩;rw[XS]at he;obtain⟨y,hy,hs⟩:=Option.map_eq_some_iff.mp he;cases y with
 |none=>cases hs
 |some y=>
  obtain⟨u,r,l⟩:=h2 i x y hx hy hv;cases y with
  |ref b=>
   unfold br at hs;dsimp only at hs;split at hs
   ·rename_i e0;subst e0;cases hs;rw[ab]at r;exact⟨u,by rw[r];exact f.rel I.hok (by rw[ab]),l⟩
   ·cases hs;exact⟨u,r,l⟩
  |_=>cases hs;exact⟨u,r,l⟩
inductive dr (P:St->Mp->Prop):St->Mp->Prop
 |rfl {τ:St} {M:Mp}:P τ M->dr P τ M
 |lst {τ:St} {M:Mp} (a:Addr) (ds:List D):M a=some (.lst ds)->dr P (τ.map (br a (.lst ds))) (rm M a)->dr P τ M
 |ao {τ:St} {M:Mp} (a:Addr) (kvs:List (Key×D)):M a=some (.ao kvs)->dr P (τ.map (br a (.ao (kvs.map (·.1)) (kvs.map (·.2))))) (rm M a)->dr P τ M
theorem KS.Ih {X:Cx}{F:Fz}{e:En}{R:Flow->Shared->Prop} (k:KS X F e R):KS X F { e with nx:=dr e.nx } R where
 rt:=k.rt
 bk:=k.bk
 ct:=k.ct
 nx:=fun τ z l I h=>by
  have go:∀{τ:St} {M:Mp},dr e.nx τ M->∀z:Z,z.M=M->Le F z.F->ae X τ z->R .next z.s:=λh=>by
   induction h with
   |rfl h=>intro z e l I;subst e;exact k.nx _ z l I h
   |lst a ds h1 _ ih=>
    intro z e l I;subst e;obtain⟨F',l',I'⟩:=I.yw h1 (λb q=>by cases q) (.lst h1 mO .rfl);exact ih ⟨F',rm z.M a,z.s⟩ rfl (l.tr l') I'
   |ao a kvs h1 _ ih=>
    intro z e l I;subst e;obtain⟨F',l',I'⟩:=I.yw h1 (λb q=>by cases q) (.ao h1 mO .rfl);exact ih ⟨F',rm z.M a,z.s⟩ rfl (l.tr l') I'
  exact go h z rfl l I
def yx (ti:DI) (g:DG) (tb:DS):DS:=λe τ M=>qf ti g tb { e with nx:=dr e.nx } τ M
theorem Ii {X:Cx}{st:Stmt}{ti:DI}{g:DG}{tb:DS} (h:PS X st (qf ti g tb)):PS X st (yx ti g tb):=fun τ z e R I q k=>h τ z _ R I q k.Ih
end N
end
section
set_option maxHeartbeats 1000000
namespace N
open PySem PySem.Spec PyProof.Rows L2 PySem.W
structure yy (G:Gx) (F0:Fz) (d:Addr) (ks:List Key) (ds:List D) (n ep:Nat):Prop where
 bV:∀{F M h},Le F0 F->aK G F M h->∃vs,KV G F (ks.zip ds) vs/\h.DictAt (bE G.P G.w) d vs ep/\vs.length=n
 len:(ks.zip ds).length=n
theorem rT {X:Cx} {τ:St} {z:Z}{ks:List Key}{ds:List D}{u:Value} (I:ae X τ z) (r:ab X.G z.F (.ao ks ds) u):∃a n ep vs,u=.ref a/\yy X.G z.F a ks ds n ep/\z.s.heap.DictAt (bE X.G.P X.G.w) a vs ep/\vs.length=n/\(a == sysModules)=false:=by
 rw[ab]at r;obtain⟨a,o,us,rfl,h1,h2,h4,h3⟩:=r;obtain⟨es,ep,g1,g2,g3⟩:=h2.bV;have hl:=h3.len;have key:∀{F M h},Le z.F F->aK X.G F M h->∃vs,KV X.G F (ks.zip ds) vs/\h.DictAt (bE X.G.P X.G.w) a vs ep/\vs.length=(ks.zip us).length:=λ{F M h} l ok=>
  ⟨ks.zip us,KV.zip (h3.up l.d),⟨o,es,ok.fz a _ (l a _ h1),h2.ex,g1,g2,g3,by rw[List.map_fst_zip (by rw[h2.len];exact XC _)];exact h2.nd⟩,rfl⟩
 obtain⟨vs,q1,q2,q3⟩:=key Le.rfl I.hok;exact⟨a,(ks.zip us).length,ep,vs,rfl,⟨key,by rw[Zp,Zp,hl]⟩,q2,q3,h4⟩
theorem Ij {G:Gx}{F:Fz}{P:Program}{w:World}{k:Key}{u:Value} (h:(bE P w).is k u=true):ab G F (iE k) u:=by
 rcases d8 (k:=k) (v:=u) h with ⟨i,t,rfl,rfl⟩ |⟨x,t,rfl,rfl⟩
 ·exact ck
 ·exact gF
theorem rU {G:Gx}{F:Fz}:∀{a:List (Key×D)}{b:List (Key×Value)}{i:Nat}{p:Key×D},KV G F a b->a[i]?=some p->∃q,b[i]?=some q/\p.1=q.1/\ab G F p.2 q.2
 |_,_,_,_,.nil,e=>by simp at e
 |_,_,0,_,.cons r _,e=>by simp at e;subst e;exact⟨_,rfl,r.1,r.2⟩
 |_,_,i+1,_,.cons _ t,e=>by
  obtain⟨q,h1,h2⟩:=rU (i:=i) t (by simpa using e);exact⟨q,by simpa using h1,h2⟩
section
variable {G:Gx}{F0:Fz}{d it:Addr}{ks:List Key}{ds:List D}{n ep:Nat}{tg:Expr}{nn:List Expr}{kk:Nat}{tp:Pos}
theorem Ik (S:yy G F0 d ks ds n ep):gG G tg ((ks.zip ds).map λp=>iE p.1) (λ_=>True) F0 [it] it (λi h=>h.IsKeyIter it d i n ep) where
 obj:=λi h st c hc=>by
  rw[List.mem_singleton.mp hc];obtain⟨o,q,_⟩:=st;exact⟨o,q⟩
 keep:=λi h h' st k=>by
  obtain⟨o,q,r⟩:=st;exact⟨o,k it (List.mem_singleton.mpr rfl) _ q,r⟩
 item:=by
  intro X hG hc i τ z d' E I l hf st hok hd;subst hG;rw[XS]at hd;obtain⟨p,hp,rfl⟩:=Option.map_eq_some_iff.mp hd;obtain⟨vs,rel,da,lv⟩:=S.bV l I.hok;obtain⟨q,hq,e1,r2⟩:=rU rel hp;rw[<- lv]at st ⊢;refine wpAny_pyNext_dict_item (k:=q.1) (v:=q.2) st da hq λkey h' hk bd sb=>⟨_,rfl,?_⟩;refine letGo_keyiter (s':={ z.s with heap:=h' }) bd ?_;exact⟨Le.rfl,I.ee (t:=z.s.toks) hf λc hc o e=>sb.extBut c o (by simpa using hc) e,by rw[e1];exact Ij hk,bd,λb hb=>(hf b hb).f⟩
 done:=by
  intro X hG hc i τ z E I l hf st hok hd;subst hG;obtain⟨vs,rel,da,lv⟩:=S.bV l I.hok;rw[<- lv]at st;refine wpAny_pyNext_dict_end (I.ok.hd hc) st da ?_ λh' eb=>⟨rfl,I.ee (t:=z.s.toks) hf λb hb o e=>eb b o (by simpa using hb) e⟩;rw[Xx,Paired.length rel]at hd;simp;lia
 self:=λ_ _ _ _ _ st h=>wpAny_pyIter_keyiter st h
end
section
variable {X:Cx}{o e:Expr}{to te:DE}{tg:Expr}{nn:List Expr}{kk:Nat}{tp q p:Pos}
def yz (t:DE):DI:=fun τ M k=>t τ M λd M1=>match d with
 |.ao ks ds=>k ((ks.zip ds).map λp=>iE p.1) (λ_=>True) M1
 |.str x=>x.cps.all (·<128)=true/\k (nc x) (λ_=>True) M1
 |d=>ik d M1 λxs ok=>k xs ok M1
theorem Il (hl:PE X e te):PI X tg e (yz te):=fun τ z k R I h K=>hl τ z _ _ I h λd z1 u l1 I1 r1 q1=>by
 have go:ik d z1.M (λxs ok=>k xs ok z1.M)->W X (pyIter u) R z1.s:=λq1=>by
  obtain⟨q,a,xs,ok,rfl,S,hok,q1⟩:=I1.il r1 q1;obtain⟨us,r,hz,hq⟩:=S X τ z1 rfl I1 Le.rfl hok;have fin:R (.ref z1.s.heap.objs.size) { z1.s with heap:=z1.s.heap.push { cls:=.type (fW q),data:=.fields #[.ref a,.int 0 0] } }:=
   K xs ok ⟨z1.F,z1.M,_⟩ _ l1 (I1.bX (t:=z1.s.toks) λb o e=>Xw _ e) (kL I1 (XC _) (D9 S) ⟨_,XA _ rfl,rfl,rfl⟩) q1
  cases q with
  |true=>exact ZI hq fin
  |false=>exact wpAny_pyIter_list hq fin
 cases d with
 |str x=>
  rw[ab]at r1;obtain⟨t,rfl⟩:=r1;exact wpAny_pyIter_ascii q1.1 (K _ _ ⟨z1.F,z1.M,_⟩ _ l1 (I1.bX (t:=z1.s.toks) λb o e=>Xw _ e) (kL I1 (XC _) Ea ⟨_,XA _ rfl,rfl,rfl⟩) q1.2)
 |ao ks ds=>
  obtain⟨a,n,ep,vs,rfl,S,da,lv,lo⟩:=rT I1 r1;refine wpAny_pyIter_dict (knd:=bE X.G.P X.G.w) lo da ?_;rw[lv];exact K _ _ ⟨z1.F,z1.M,_⟩ _ l1 (I1.bX (t:=z1.s.toks) λb o e=>Xw _ e) (kL I1 (XC _) (Ik S) ⟨_,XA _ rfl,rfl,rfl⟩) q1
 |_=>exact go q1
def rV (Q:List Key->List D->Mp->Prop):QK:=λd M=>match d with
 |.ao ks ds=>Q ks ds M
 |_=>False
theorem Im (ho:PE X o to) (iA:attributeBase o "items" X.env (eval o X.env)=eval o X.env) (c5:(q.endLine == p.line)=true) {τ:St} {z:Z}{Q:List Key->List D->Mp->Prop}{R:Value->Shared->Prop} (I:ae X τ z) (h:to τ z.M (rV Q))
  (k:∀ks ds a z1 v,Le z.F z1.F->ae X τ z1->ab X.G z1.F (.ao ks ds) (.ref a)->z1.s.heap.IsItemsView v a->Q ks ds z1.M->R (.ref v) z1.s):W X (eval (.Call (.Attribute o "items" q) [] [] p) X.env) R z.s:=
 wpAny_Call_method0_late iA c5 (ho τ z _ _ I h λx z1 v l1 I1 r1 q1=>by
  unfold rV at q1;split at q1
  ·rename_i ks ds;obtain⟨h1,h2⟩:=qT (T:="dict") I1 r1 rfl;obtain⟨a,n,ep,vs,rfl,S,da,lv,lo⟩:=rT I1 r1;obtain⟨o,es,g⟩:=da;have dd:z1.s.heap.DictOf (bE X.G.P X.G.w) a vs:=⟨o,es,ep,g⟩;refine⟨"dict","dict.items",PySem.F.plainAttrs_dict,PySem.F.slot_dict_items,PySem.F.type_dict_items,h1,h2,Calls.callWith_builtin rfl (PySem.evalArgs_none ?_)⟩;refine call_meetsIn PySem.F.slot_dict_items dd.typeIs PySem.F.entry_dict_items (PySem.F.args_dict_items_1 _) (meets_dict_items (bE X.G.P X.G.w) a lo) ⟨⟨vs,dd⟩,?_⟩;exact k ks ds a ⟨z1.F,z1.M,{ z1.s with heap:=z1.s.heap.push { cls:=.type "dict_items",data:=.fields #[.ref a] },toks:=z1.s.toks }⟩ _ l1 (I1.bX λb o e=>Xw _ e) r1 ⟨_,XA _ rfl,rfl,rfl⟩ q1
  ·exact q1.elim)
end
end N
end
section
namespace Kn
open PySem PySem.W PyProof.Rows
noncomputable def krun {α:Type} (lt:Nat->Nat->Bool):KasT α->α
 |.ret a=>a
 |.ask i j k=>krun lt (k (lt i j))
theorem jU {α β:Type} (lt:Nat->Nat->Bool) (f:α->KasT β):∀t:KasT α,krun lt (t.bind f)=krun lt (f (krun lt t))
 |.ret _=>rfl
 |.ask i j k=>jU lt f (k (lt i j))
section
variable (r:Nat->Nat)
variable {r}
end
end Kn
namespace Kn
open PySem PySem.W PyProof.Rows
def cn {α:Type} (n:Nat) (R:α->Prop):KasT α->Prop
 |.ret a=>R a
 |.ask i j k=>i<n/\j<n/\∀b,cn n R (k b)
theorem cn.bind {α β:Type} {n:Nat}{R:α->Prop}{S:β->Prop}{f:α->KasT β} (hf:∀a,R a->cn n S (f a)):∀{t:KasT α},cn n R t->cn n S (t.bind f)
 |.ret a,h=>hf a h
 |.ask _ _ k,h=>⟨h.1,h.2.1,λb=>cn.bind hf (h.2.2 b)⟩
theorem yA {α:Type} {n:Nat}{R:α->Prop}{lt:Nat->Nat->Bool}{cmp:Nat->Nat->(Bool->Shared->Prop)->Shared->Prop}{Q:α->Shared->Prop}{s:Shared}
  (hc:∀i j C,i<n->j<n->C (lt i j) s->cmp i j C s):∀{t:KasT α},cn n R t->Q (krun lt t) s->t.kasWp cmp Q s
 |.ret _,_,q=>q
 |.ask i j k,h,q=>hc i j _ h.1 h.2.1 (yA hc (h.2.2 _) q)
def Gn (n:Nat) (p:Array Nat):Prop:=∀x∈p.toList,x<n
theorem Gn.get {n:Nat}{p:Array Nat} (h0:0<n) (h:Gn n p) (i:Nat):p.getD i 0<n:=by
 rw[Zc];cases e:p[i]? with
 |none=>exact h0
 |some x=>exact h x (Array.mem_toList_iff.mpr (Array.mem_of_getElem? e))
theorem Gn.perm {n:Nat}{p q:Array Nat} (h:Gn n p) (e:q.Perm p):Gn n q:=λx hx=>h x (Array.mem_toList_iff.mpr (e.mem_iff.mp (Array.mem_toList_iff.mp hx)))
section
variable {n:Nat} (h0:0<n)
include h0
theorem rW {p:Array Nat} (g:Gn n p):∀f m,cn n (λ_=>True) (kas_asc p f m)
 | 0,_=>trivial
 |f+1,m=>by
  rw[kas_asc];refine⟨g.get h0 _,g.get h0 _,λb=>?_⟩;dsimp only;split
  ·trivial
  ·exact rW g f _
theorem n8:∀(f:Nat) (p:Array Nat) (m q:Nat),Gn n p->cn n (λr:Array Nat×Nat×Nat=>Gn n r.1) (kas_desc f p m q)
 | 0,p,_,_,g=>g
 |f+1,p,m,q,g=>by
  rw[kas_desc];refine⟨g.get h0 _,g.get h0 _,λb=>?_⟩;dsimp only;by_cases hb:b=true
  ·rw[if_pos hb];split
   ·exact n8 f _ _ _ (g.perm (mirror_perm _ _ _ _))
   ·exact n8 f _ _ _ g
  ·rw[if_neg hb];refine⟨g.get h0 _,g.get h0 _,λb=>?_⟩;dsimp only;split
   ·exact g
   ·exact n8 f _ _ _ g
theorem yB {p:Array Nat} (g:Gn n p) (m k:Nat):cn n (λr:Nat×Array Nat=>Gn n r.2) (kas_tail3 m k p):=by
 unfold kas_tail3;refine cn.bind (R:=λ_=>True) (λm _=>?_) (rW h0 (g.perm (mirror_perm _ _ _ _)) _ _);exact g.perm (mirror_perm _ _ _ _)
theorem yC {p:Array Nat} (g:Gn n p) (m k:Nat):cn n (λr:Nat×Array Nat=>Gn n r.2) (kas_descPart m k p):=by
 unfold kas_descPart;refine cn.bind (λr hr=>?_) (n8 h0 _ p _ _ g);split
 ·exact yB h0 (Gn.perm hr (mirror_perm _ _ _ _)) _ _
 ·exact yB h0 hr _ _
theorem Io {p:Array Nat} (g:Gn n p) (k:Nat):cn n (λr:Nat×Array Nat=>Gn n r.2) (kas_count k p):=by
 unfold kas_count;refine cn.bind (λm _=>?_) (rW h0 g _ _);split
 ·exact g
 split
 ·refine⟨g.get h0 _,g.get h0 _,λb=>?_⟩;dsimp only;split
  ·exact g
  ·exact yC h0 (g.perm (mirror_perm _ _ _ _)) _ _
 ·exact yC h0 g _ _
theorem rX {p:Array Nat} (g:Gn n p) (k:Nat):∀f l u,cn n (λ_=>True) (kas_place p k f l u)
 | 0,_,_=>trivial
 |f+1,l,u=>by
  rw[kas_place];split
  ·trivial
  ·refine⟨g.get h0 _,g.get h0 _,λb=>?_⟩;dsimp only;split
   ·exact rX g k f _ _
   ·exact rX g k f _ _
theorem yD:∀(f:Nat) (p:Array Nat) (k:Nat),Gn n p->cn n (λ_=>True) (kas_bin f p k)
 | 0,_,_,_=>trivial
 |f+1,p,k,g=>by
  rw[kas_bin];exact cn.bind (λl _=>yD f _ _ (g.perm (bubble_perm _ _ _))) (rX h0 g _ _ _ _)
theorem Ir:cn n (λ_=>True) (kas_sort n):=by
 unfold kas_sort;refine cn.bind (λr hr=>?_) (Io h0 (p:=(YY n).toArray) (λx hx=>by simpa using hx) n);split
 ·exact yD h0 _ _ _ hr
 ·trivial
end
end Kn
namespace Kn
open PySem PySem.W PyProof.Rows
section
variable {lt:Nat->Nat->Bool}
theorem lC:∀(f:Nat) (p:Array Nat) (m q:Nat),(krun lt (kas_desc f p m q)).1.Perm p
 | 0,p,_,_=>by rw[kas_desc];exact .refl _
 |f+1,p,m,q=>by
  rw[kas_desc,krun];split
  ·split
   ·exact (lC f _ _ _).trans (mirror_perm _ _ _ _)
   ·exact lC f _ _ _
  ·rw[krun];split
   ·exact .refl _
   ·exact lC f _ _ _
theorem yE (p:Array Nat) (m k:Nat):(krun lt (kas_tail3 m k p)).2.Perm p:=by
 unfold kas_tail3;rw[jU];exact mirror_perm _ _ _ _
theorem yF (p:Array Nat) (m k:Nat):(krun lt (kas_descPart m k p)).2.Perm p:=by
 unfold kas_descPart;rw[jU];split
 ·exact (yE _ _ _).trans ((mirror_perm _ _ _ _).trans (lC _ _ _ _))
 ·exact (yE _ _ _).trans (lC _ _ _ _)
theorem yG (p:Array Nat) (k:Nat):(krun lt (kas_count k p)).2.Perm p:=by
 unfold kas_count;rw[jU];split
 ·exact .refl _
 split
 ·rw[krun];split
  ·exact .refl _
  ·exact (yF _ _ _).trans (mirror_perm _ _ _ _)
 ·exact yF _ _ _
theorem yH:∀(f:Nat) (p:Array Nat) (k:Nat),(krun lt (kas_bin f p k)).Perm p
 | 0,p,_=>by rw[kas_bin];exact .refl _
 |f+1,p,k=>by
  rw[kas_bin,jU];exact (yH f _ _).trans (bubble_perm _ _ _)
theorem It (n:Nat):(krun lt (kas_sort n)).Perm (YY n).toArray:=by
 unfold kas_sort;rw[jU];split
 ·exact (yH _ _ _).trans (yG _ _)
 ·exact yG _ _
end
end Kn
namespace L2
open PySem PySem.Spec PyProof.Rows PySem.W
end L2
end
section
set_option maxHeartbeats 1000000
namespace N
open PySem PySem.Spec PyProof.Rows L2 PySem.W
open Kn (krun)
def gT (G:Gx) (F:Fz) (vs:List Value) (ps:List (Str×D)):Prop:=vs.length=ps.length/\∀(i:Nat) p,ps[i]?=some p->∃b o t u n,vs[i]?=some (.ref b)/\F b=some (.dat o)/\o.cls=.type "tuple"/\o.data=.seq #[.str p.1 t,u] n/\ab G F p.2 u/\ax p.2=true/\aM p.2<=50
theorem gT.tl {G:Gx}{F:Fz}{v:Value}{vs:List Value}{p:Str×D}{ps:List (Str×D)} (t:gT G F (v::vs) (p::ps)):gT G F vs ps:=⟨ZQ t.1,λi y hy=>t.2 (i+1) y hy⟩
noncomputable def iN (ps:List (Str×D)) (i j:Nat):Bool:=decide ((ps.getD i ("",.aj)).1.cps.toList<(ps.getD j ("",.aj)).1.cps.toList)
section
variable {G:Gx}{F:Fz}{M:Mp}{A:Around}{E:Value->Shared->Prop}{s:Shared}
theorem gT.yI {P:Program}{w:World} (ok:aK G F M s.heap):∀{vs:List Value}{ps:List (Str×D)},gT G F vs ps->∃fs,KatTups s.heap vs fs/\fs.length=vs.length/\∀f∈fs,Looks (model P w) s.heap (typeOf f) (.type "str")
 |[],[],_=>⟨[],.nil,rfl,λf hf=>(nomatch hf)⟩
 |[],_::_,t=>by have:=t.1;simp at this
 |_::_,[],t=>by have:=t.1;simp at this
 |v::vs,p::ps,t=>by
  obtain⟨fs,h1,h2,h3⟩:=gT.yI (P:=P) (w:=w) ok t.tl;obtain⟨b,o,tk,u,n,e1,e2,e3,e4,_⟩:=t.2 0 p rfl;cases e1;refine⟨.str p.1 tk::fs,.cons (ok.fz b _ e2) e3 e4 (by simp) h1,by simp [h2],λf hf=>?_⟩;rcases List.mem_cons.mp hf with z |z
  ·subst z;exact Looks.of_pure rfl
  ·exact h3 f z
theorem Iu {a : Addr} {vs : List Value} {ps : List (Str × D)} {n : Nat} {P : Fin -> Shared -> Prop} (hu : A.units + 60 < cLine) (ok : aK G F M s.heap) (ha : F a = none) (hm : M a = none) (ho : s.heap.get? a = some (seqObj "list" vs.toArray n)) (hT : gT G F vs ps) (nd : (ps.map (·.1)).Nodup) (gP : vs.length < 64)
    (h:∀(p:List Nat),p.Perm (YY vs.length)->P (.done (.ret .none)) { s with heap:=sortedHeap s.heap a vs (p.map λi=>vs.getD i YE).toArray }) :
    wpAny (model G.P G.w) A (Builtin.«list.sort» ⟨[.ref a],[]⟩) P E s:=by
  obtain⟨e1,g1⟩:∃e1,(s.heap.update a (Yh λ_=>(#[]:Array Value))).get? a=some (seqObj "list" #[] e1):=⟨_,get?_update_seq ho λ_=>#[]⟩;have UQ:(((s.heap.update a (Yh λ_=>(#[]:Array Value))).push (seqObj "tuple" vs.toArray 0)).push (seqObj "list" #[] 0)).get? a=some (seqObj "list" #[] e1):=Xw _ (Xw _ g1);have sb:=Yb s.heap a (Yh λ_=>(#[]:Array Value));have iO:aK G F M (((s.heap.update a (Yh λ_=>(#[]:Array Value))).push (seqObj "tuple" vs.toArray 0)).push (seqObj "list" #[] 0)):=ok.keep λb hb o e=>Xw _ (Xw _ (sb.extBut b o (by rintro rfl;rcases hb with h |h;exact h ha;exact h hm) e));rw[list_sort_plain];refine Xv (listItems_at ho rfl (Xv (listUpdate_at ho rfl ?_ (by rw[Xz,ZO];lia) (XM _))));refine Xv (seqEpoch_at g1 rfl (Xv (wpAny_newTuple ?_ (by show vs.length<=_;rw[ZO];lia))));refine Xv (wpAny_newList (Yv ?_) (XM _));show wpAny (model G.P G.w) A _ P E { s with heap:=((s.heap.update a (Yh λ_=>(#[]:Array Value))).push (seqObj "tuple" vs.toArray 0)).push (seqObj "list" #[] 0) };dsimp only;by_cases h2:vs.toArray.size<2
  · have yJ:vs.length<2:=(by simpa using h2);rw[if_pos h2,if_pos h2];refine Xv (Xy ?_);rw[StateT.run_pure];refine Xv (Xy ?_);dsimp only;have UE:(arrOf (SortSt.mk' general' (vs.toArray.zip vs.toArray) #[] 7 none)).map (·.2)=vs.toArray:=by
      show (vs.toArray.zip vs.toArray).map (·.2)=vs.toArray;apply Array.toList_inj.mp;rw[Array.toList_map,Array.toList_zip];simp only[List.toList_toArray];have zz:∀l:List Value,(l.zip l).map (·.2)=l:=λl=>(by induction l with |nil=>rfl |cons x l ih=>simp [ih]);exact zz vs
    rw[UE];refine Xv (seqEpoch_at UQ rfl (Xv (listUpdate_at UQ rfl ?_ (XM _) (by rw[Xz,ZO];lia))));simp only[bne_self_eq_false,Bool.false_eq_true,if_false];have q:=h (YY vs.length) (.refl _);have zz:(YY vs.length).map (λi=>vs.getD i YE)=vs:=by
      refine List.ext_getElem (by simp) λi h1 h2=>?_;simp [X9,XB h2]
    rw[zz]at q;exact Xy q
  · have yJ : 2 ≤ vs.length := by have : ¬ vs.length < 2 := by simpa using h2
                                  lia
    rw[if_neg h2,if_neg h2];obtain⟨fs,f1,f2,f3⟩:=hT.yI (P:=G.P) (w:=G.w) (s:={ s with heap:=((s.heap.update a (Yh λ_=>(#[]:Array Value))).push (seqObj "tuple" vs.toArray 0)).push (seqObj "list" #[] 0) }) iO;refine Xv (kat_kind (T:=.type "str") f1 (by rw[f2];lia) f3 (by simp) ?_);have pp:=Kn.It (lt:=iN ps) vs.length;refine Xv (Zu (kat_run (ks:=vs) (Q:=λbd s'=>arrOf bd=(krun (iN ps) (kas_sort vs.length)).map (kas_item (vs.toArray.zip vs.toArray))/\failedOf bd=none/\s'={ s with heap:=((s.heap.update a (Yh λ_=>(#[]:Array Value))).push (seqObj "tuple" vs.toArray 0)).push (seqObj "list" #[] 0) })
      (G:=λq s'=>q=krun (iN ps) (kas_sort vs.length)/\s'={ s with heap:=((s.heap.update a (Yh λ_=>(#[]:Array Value))).push (seqObj "tuple" vs.toArray 0)).push (seqObj "list" #[] 0) }) rfl yJ gP (λq bd s' _ TF TK ⟨TL,T2⟩=>⟨TL ▸ TF,TK,T2⟩) ?ask) ?_ λ_ _ e=>e)
    case ask=>
      refine Kn.yA (n:=vs.length) (R:=λ_=>True) (lt:=iN ps) (λi j C hi hj q=>?_) (Kn.Ir (by lia)) ⟨rfl,rfl⟩;have c6:i<ps.length:=(by rw[<- hT.1];exact hi);have lD:j<ps.length:=(by rw[<- hT.1];exact hj);have Vy:ps[i]?=some ps[i]:=XB c6;have TY:ps[j]?=some ps[j]:=XB lD;obtain⟨bi,U',ti,Xj,Xk,TJ,TF,TK,TL,T2,Uz,U2⟩:=hT.2 i _ Vy;obtain⟨WA,Xl,Xm,Xn,Xo,c1,c2,c3,c4,WB,WC,Xp⟩:=hT.2 j _ TY;unfold kas_ask;rw[X9,X9,TJ,c1];refine kat_lt (iO.fz bi _ TF) TL (iO.fz WA _ c2) c4 ?_;have e:iN ps i j=decide (ps[i].1.cps.toList<ps[j].1.cps.toList):=(by unfold iN;rw[X9,X9,Vy,TY];rfl);rw[e]at q;refine kat_cons (kR 50 (d:=.str ps[i].1) (e:=.str ps[j].1) iO .str .str (by simp [aM]) (by lia) _ _ _ _ ?_);by_cases Vz:i=j
      · subst Vz;rw[gg _ rfl];refine kat_yes (kat_cons (kR 50 iO (eP iO T2 Uz) (eP iO WB WC) U2 (by lia) _ _ _ _ ?_));rw[gg _ Uz];rw[decide_eq_false (List.lt_irrefl _)]at q;exact kat_yes (kat_nil (by simpa using q))
      · have ne:ps[i].1≠ps[j].1:=fun z=>Vz ((List.getElem_inj (h₀:=by simpa using c6) (h₁:=by simpa using lD) nd).mp (by simpa using z));have e2:aD (.str ps[i].1) (.str ps[j].1)=false:=by
          show (some ps[j].1 == some ps[i].1)=false;simpa using Y0 ne
        rw[e2];exact kat_no (oneLt_str q)
    rintro⟨⟨⟩,bd⟩ s' ⟨Iw,hf,rfl⟩;dsimp only;have hout:=kat_snds rfl Iw;rw[hout];have lp:(krun (iN ps) (kas_sort vs.length)).toList.length=vs.length:=(by rw[XY,pp.size_eq];simp);refine Xv (seqEpoch_at UQ rfl (Xv (listUpdate_at UQ rfl ?_ (XM _) (by rw[Xz,Xx,lp,ZO];lia))));rw[hf];simp only[bne_self_eq_false,Bool.false_eq_true,if_false];exact Xy (h _ (by have:=Array.perm_iff_toList_perm.mp pp;simpa using this))
end
def lE (t:DE):DE:=fun τ M q=>t τ M (rV λks ds M1=>ks.length<64/\(∀k∈ks,∃x,k=YO x)/\(∀d∈ds,ax d=true/\aM d<=50)/\∀ys:List (Key×D),ys.Perm (ks.zip ds)->bZ (ys.map ek) M1 q)
section
variable {X:Cx}{o:Expr}{to:DE}{p1 q2 gR dL:Pos}
theorem Iy {G:Gx}{F:Fz}{ks:List Key}{ds:List D}{u:Value} (r:ab G F (.ao ks ds) u):ks.Nodup/\ds.length=ks.length:=by
 rw[ab]at r;obtain⟨a,o,us,rfl,h1,h2,h4,h3⟩:=r;exact⟨h2.nd,h3.len.trans h2.len⟩
theorem Iz (hc:X.calm=true) (hu:X.A.units+110<cLine) (hg:Gl X "sorted") (hm:X.G.mg "sorted"=none) (ho:PE X o to) (iA:attributeBase o "items" X.env (eval o X.env)=eval o X.env) (c5:(q2.endLine == dL.line)=true) :
  PE X (.Call (.Name "sorted" p1) [.Call (.Attribute o "items" q2) [] [] dL] [] gR) (lE to):=fun τ z Q R I h k=>by
 refine Yw (eL I hg hm (by decide +kernel:bootBuiltins "sorted"=some (.builtin "sorted")) (by decide) (by decide) ?_);refine PyProof.Rows.callWith_builtin1 ?_ (bL rfl) rfl;rw[bL (e:=.Call (.Attribute o "items" q2) [] [] dL) rfl];show W X (spliced ((false,eval (.Call (.Attribute o "items" q2) [] [] dL) X.env)::backTo gR (starEach [] X.env))) _ z.s;refine YS ?_;refine Im ho iA c5 I h λks ds a z1 v l1 I1 r1 iv q1=>?_;refine Zo ?_;obtain⟨gP,hk,hd,q⟩:=q1;obtain⟨nd,ln⟩:=Iy r1;obtain⟨Ui,n,ep,vs,e,S,da,lv,lo⟩:=rT I1 r1;cases e;obtain⟨Ix,rel,IA,Tg⟩:=S.bV Le.rfl I1.hok;have lz:(ks.zip ds).length=ks.length:=by rw[Zp,ln,Nat.min_self]
 have gU:Ix.length=ks.length:=by rw[<- Paired.length rel,lz]
 refine Calls.call_function_entry kind_sorted plain_sorted entry_sorted (args_sorted1 _) ?_;unfold Builtin.«sorted»;refine Xv (m:=checkCount "sorted" 1 1 _) (Xy ?_);refine Xv (kdx_collect (knd:=bE X.G.P X.G.w) (A:=X.A.in1) (I1.ok.hd hc) iv IA (by rw[gU,ZO];lia) λh' tk as keep la Gp=>?_);obtain⟨l2,I2⟩:=I1.many (as:=as) (t:=tk) (λb o e=>keep b o e) λb hb=>Nat.le_of_lt (Gp.above b hb);obtain⟨ss,n9⟩:∃ss:List Str,ks=ss.map YO:=by
  clear gP nd ln lz gU rel S r1 q
  induction ks with
  |nil=>exact⟨[],rfl⟩
  |cons k ks ih=>
   obtain⟨x,rfl⟩:=hk k XH;obtain⟨ss,rfl⟩:=ih λk v1=>hk k (XF _ v1);exact⟨x::ss,rfl⟩
 have item:∀(i:Nat) (pr:Key×D),(ks.zip ds)[i]?=some pr->∃b t u s,as[i]?=some b/\pr.1=YO s/\cE z1.F as h' b=some (.dat { cls:=.type "tuple",data:=.seq #[.str s t,u] })/\ab X.G (cE z1.F as h') pr.2 u:=λi pr hp=>by
  obtain⟨q,hq,e1,r2⟩:=rU rel hp;have hi:i<as.length:=by rw[la];exact (List.getElem?_eq_some_iff.mp hq).1
  have hb:as[i]?=some as[i]:=XB hi;obtain⟨key,kk,x,g1,g2,g3⟩:=Gp.pairs i _ hb;rw[hq]at g1;cases g1;have IB:pr.1∈ks:=(Zd (show (pr.1,pr.2)∈ks.zip ds from Yq hp)).1;obtain⟨s,hs⟩:=hk _ IB;have e3:kk=YO s:=e1.symm.trans hs;rw[e3]at g2;rcases d8 (show fm (YO s) key=true from g2) with ⟨i,t,e,_⟩ |⟨y,t,e,e2⟩
  ·cases e
  ·cases e;subst e2;exact⟨_,t,x,s,hb,hs,n7 (Yq hb) g3,r2.up l2.d⟩
 have IC:(ss.zip ds).length=as.length:=by rw[la,gU,<- lz,n9,Zp,Zp,Xx]
 have WD:∀(i:Nat) (p:Str×D),(ss.zip ds)[i]?=some p->(ks.zip ds)[i]?=some (YO p.1,p.2):=λi p hp=>by
  rw[n9,List.zip_map_left,XS,hp];rfl
 have ID:gT X.G (cE z1.F as h') (as.map Yj) (ss.zip ds):=⟨by rw[Xx,IC],λi p hp=>by
  obtain⟨b,t,u,s,g1,g2,g3,g4⟩:=item i _ (WD i p hp);cases g2;obtain⟨TM,UR⟩:=hd _ (Zd (show (p.1,p.2)∈ss.zip ds from Yq hp)).2;exact⟨b,_,t,u,_,by rw[XS,g1];rfl,g3,rfl,rfl,g4,TM,UR⟩⟩
 have IE:((ss.zip ds).map (·.1)).Nodup:=by
  rw[List.map_fst_zip (by rw[ln,n9,Xx];exact XC _)];rw[n9]at nd;exact (List.pairwise_map.mp nd).imp λh e=>h (congrArg YO e)
 have IF:(as.map Yj).length<=sizeLine:=by rw[Xx,la,gU,ZO];lia
 refine Xv (wpAny_newList ?_ IF);have eU:(h'.push { cls:=.type "list",data:=.seq (as.map Yj).toArray }).get? h'.objs.size=some (seqObj "list" (as.map Yj).toArray 0):=XA _ rfl;have UM:=I2.hok.cz (XC h'.objs.size);have UL:=I2.hok.dj (XC h'.objs.size);have IG:aK X.G (cE z1.F as h') z1.M (h'.push { cls:=.type "list",data:=.seq (as.map Yj).toArray }):=I2.hok.keep λb _ o e=>Xw _ e;refine Xv (Yv (Yc slot_list_sort ⟨_,eU,rfl⟩ entry_list_sort (Iu (G:=X.G) (F:=cE z1.F as h') (M:=z1.M) (by show X.A.units+1+1+60<cLine;lia) IG UM UL eU ID IE (by rw[Xx,la,gU];lia) λp b1=>⟨_,rfl,?_⟩) (args_list_sort _)));refine Xy ⟨_,rfl,?_⟩;obtain⟨e,iJ⟩:=sortedHeap_at (out:=(p.map λi=>(as.map Yj).getD i YE).toArray) eU;have lp:p.length=ks.length:=by rw[b1.length_eq,Zb,Xx,la,gU]
 have pm:(p.map λi=>(ks.zip ds).getD i (YO "",.aj)).Perm (ks.zip ds):=by
  have:=b1.map λi=>(ks.zip ds).getD i (YO "",D.aj);have zz:(YY (as.map Yj).length).map (λi=>(ks.zip ds).getD i (YO "",D.aj))=ks.zip ds:=by
   refine List.ext_getElem (by rw[Xx,Zb,Xx,la,gU,lz]) λi h1 h2=>?_;simp [X9,XB h2]
  rw[zz]at this;exact this
 have rs:ah X.G (cE z1.F as h') ((p.map λi=>(ks.zip ds).getD i (YO "",D.aj)).map ek) (p.map λi=>(as.map Yj).getD i YE):=by
  have go:∀p:List Nat,(∀i∈p,i<ks.length)->ah X.G (cE z1.F as h') ((p.map λi=>(ks.zip ds).getD i (YO "",D.aj)).map ek) (p.map λi=>(as.map Yj).getD i YE):=λp hp=>by
   induction p with
   |nil=>exact .nil
   |cons i p ih=>
    refine .cons ?_ (ih λj hj=>hp j (XF _ hj));have hi:i<(ks.zip ds).length:=(by rw[lz];exact hp i XH);have hz:(ks.zip ds)[i]?=some (ks.zip ds)[i]:=XB hi;obtain⟨b,t,u,s,g1,g2,g3,g4⟩:=item i _ hz;dsimp only;rw[X9,X9,hz,XS,g1];show ab X.G _ (ek (ks.zip ds)[i]) (.ref b);rw[ek,g2];exact mZ g3 ⟨rfl,rfl,⟨0,rfl⟩,by show 2<=sizeLine;decide⟩ (.cons gF (.cons g4 .nil))
  exact go p λi hi=>by have:=b1.mem_iff.mp hi;rw[List.mem_range,Xx,la,gU]at this;exact this
 refine I2.lst (n:=e) (t:=tk) k (l1.tr l2) rs (λb o hb=>?_) (XC _) ?_ (by rw[Xx,lp,ZO];lia) (q _ pm)
 ·have a2:b<h'.objs.size:=XO hb;rw[sortedHeap_old (XR a2) (by rw[Yd];exact YM a2)];exact Xw _ hb
 ·rw[iJ];rfl
end
end N
end
section
set_option maxHeartbeats 1000000
namespace N
open PySem PySem.Spec PyProof.Rows L2
set_option genInjectivity false
set_option genSizeOfSpec false
inductive C where
 |aj |bl (b:Bool) |int (i:Int) |str (x:Str)
noncomputable def C.d:C->D
 |.aj=>.aj
 |.bl b=>.bl b
 |.int i=>.int i
 |.str x=>.str x
inductive Bi where
 |len |tuple |int |max |dict |any |iP |sorted
inductive Mt where
 |append |pop |extend |get
mutual
inductive E where
 |v (i:Nat) |c (k:C) |g (i:Nat) |ty (x:String) |tup (es:L) |lst (es:L)
 |op (o:Operator) (a b:E) |cmp (o:CmpOp) (a b:E) |neg (a:E) |and (a b:E) |or (a b:E) |not (a:E) |ite (c a b:E)
 |ix (a b:E) |sl (a lo hi:E) |rev (a:E) |call (i:Nat) (es:L) |bi (b:Bi) (es:L) |mt (m:Mt) (o:E) (es:L)
 |lc (n:Nat) (fr:List Nat) (g:G) (it:I) (c e:E) |fld (e:E) (f:Str) |new (i:Nat) (es:L) |a4 (i:Nat) (o:E) (es:L) |app (f:E) (es:L)
 |oe |rY (ks vs:L) |sset (e:E) |rZ (e:E) |og (e:E) |ar
inductive L where
 |nil |cons (e:E) (r:L)
inductive I where
 |seq (e:E) |oh (e:E) |zip (a b:E) |oi (e:E) |no
end
mutual
inductive S where
 |set (g:G) (e:E) |put (o i e:E) |oj (o:E) (f:Str) (e:E) |ret (e:E) |ex (e:E) |cond (c:E) (a b:B) |loop (g:G) (it:I) (b:B) |jV (c:E) (b:B) |pass |brk |cnt |dead
inductive B where
 |nil |cons (s:S) (r:B)
end
structure Wd where
 sp:Nat->Sp
 gv:List D
 fl:Addr->Str->Prop
 ci:Nat->Option (Addr×Sp)
 mt:Nat->Option (Addr×Sp)
 ca:Addr->Sp->Prop
abbrev X0:XQ:=λ_ _=>False
def cS {α β γ:Type}:α->β->γ->Prop:=λ_ _ _=>False
noncomputable def yK (n:Nat) (fr:List Nat) (τ:St):St:=Yz n none++fr.map λi=>(τ[i]?).join
def r6 (n:Nat) (fr:List Nat) (g:G) (ti:DI) (tc:DT) (te:DE):DE:=fun τ M q=>ti τ M λxs ok M1=>c7 ok g tc te (yK n fr τ) (λys M2=>bZ ys M2 q) xs [] M1
theorem IH (n:Nat) (fr:List (Str×Nat)) (g:G) (ti:DI) (tc:DT) (te:DE):ra n fr g ti tc te=r6 n (fr.map (·.2)) g ti tc te:=by
 unfold ra r6 dM yK;simp only[YI];rfl
def om (fl:Addr->Str->Prop) (f:Str):Q1:=λx M q=>cD x M λa C dx fs=>∃d,fl C f/\fs.lookup f=some d/\q d M
def yL (fl:Addr->Str->Prop) (f:Str) (to tv:DE):DS:=λe τ M=>tv τ M λd M1=>to τ M1 λo M2=>cD o M2 λa C dx fs=>fl C f/\fs.length<1000/\e.nx τ (up M2 a (.ins C dx (fE f d fs)))
def II (c:Option (Addr×Sp)) (t:DA):DE:=match c with
 |some (C,sp)=>qH C sp [] X0 t
 |none=>cS
def r8 (c:Option (Addr×Sp)) (m:Str) (to:DE) (t:DA):DE:=match c with
 |some (C,sp)=>k4 C m sp [] X0 to t
 |none=>cS
def yM:Bi->QN
 |.len=>xu |.tuple=>qM |.int=>xv |.max=>qN |.dict=>xF |.any=>xw (·.any _root_.id) |.iP=>rz |.sorted=>xV
noncomputable def Mt.ty:Mt->String
 |.get=>"dict" |_=>"list"
def yN:Mt->QM
 |.append=>qP |.pop=>qQ |.extend=>qR |.get=>qS
noncomputable def jW:E->Bool
 |.ar=>true
 |_=>false
def oW (e:E) (t:DE):DO:=cond (jW e) xn (xo t)
def Vb (e:E) (t:DT):DT:=cond (jW e) gO t
noncomputable def vl (t:DE):DE×DT:=(t,xf t)
variable (W:Wd) (mn:List Str)
mutual
noncomputable def E.w:E->DE×DT
 |.v i=>vl (bY i)
 |.c k=>vl (TU k.d)
 |.g i=>vl (TU (W.gv.getD i .aj))
 |.ty x=>vl (TU (.ty x))
 |.tup es=>vl (vi es.w)
 |.lst es=>vl (vj es.w)
 |.op o a b=>vl (mV (wF o) a.w.1 b.w.1)
 |.cmp o a b=>(wX (jB o) a.w.1 b.w.1,wY (jB o) a.w.1 b.w.1)
 |.neg a=>vl (jr xm a.w.1)
 |.and a b=>(vk a.w.1 b.w.1,vo a.w.2 b.w.2)
 |.or a b=>(vm a.w.1 b.w.1,vp a.w.2 b.w.2)
 |.not a=>(vn a.w.1,vq a.w.2)
 |.ite c a b=>(vr c.w.2 a.w.1 b.w.1,cS)
 |.ix a b=>vl (mV aG a.w.1 b.w.1)
 |.sl a lo hi=>(xp a.w.1 (oW lo lo.w.1) (oW hi hi.w.1),cS)
 |.rev a=>(jr qK a.w.1,cS)
 |.call i es=>vl (qA (W.sp i) [] X0 es.w)
 |.bi b es=>vl (T9 (yM b) es.w)
 |.mt m o es=>vl (k5 m.ty (yN m) o.w.1 es.w)
 |.lc n fr g it c e=>(r6 n fr g it.w (Vb c c.w.2) e.w.1,cS)
 |.fld e f=>vl (jr (om W.fl f) e.w.1)
 |.new i es=>(II (W.ci i) es.w,cS)
 |.a4 i o es=>vl (r8 (W.mt i) (mn.getD i "") o.w.1 es.w)
 |.app f es=>vl (xS W.ca X0 f.w.1 es.w)
 |.oe=>(xD,cS)
 |.rY ks vs=>(xE (ks.wl.zip vs.wl),cS)
 |.sset e=>(ym e.w.1,cS)
 |.rZ e=>(yr e.w.1,cS)
 |.og e=>(lE e.w.1,cS)
 |.ar=>(cS,cS)
noncomputable def L.w:L->DA
 |.nil=>eK
 |.cons e r=>fx e.w.1 r.w
noncomputable def L.wl:L->List DE
 |.nil=>[]
 |.cons e r=>e.w.1::r.wl
noncomputable def I.w:I->DI
 |.seq e=>yz e.w.1
 |.oh e=>vH e.w.1
 |.zip a b=>vO a.w.1 b.w.1
 |.oi e=>vP e.w.1
 |.no=>cS
end
mutual
def S.w:S->DS
 |.set g e=>kF (e.w W mn).1 (cm g)
 |.put o i e=>kF (e.w W mn).1 (qc nI (o.w W mn).1 (i.w W mn).1)
 |.oj o f e=>yL W.fl f (o.w W mn).1 (e.w W mn).1
 |.ret e=>vt (e.w W mn).1
 |.ex e=>mW (e.w W mn).1
 |.cond c a b=>vv (c.w W mn).2 a.w b.w
 |.loop g it b=>yx (it.w W mn) (cm g) b.w
 |.jV c b=>vG (c.w W mn).2 b.w
 |.pass=>λe τ M=>e.nx τ M
 |.brk=>λe τ M=>e.bk τ M
 |.cnt=>λe τ M=>e.ct τ M
 |.dead=>cS
def B.w:B->DS
 |.nil=>λe τ M=>e.nx τ M
 |.cons s .nil=>s.w
 |.cons s r=>pX s.w r.w
end
structure Nm where
 b3:List Str
 fG:List Str
 cls:List Str
 af:List Str
noncomputable def dO (x:Str):List Str->Nat->Option Nat
 |[],_=>none
 |y::r,i=>if y=x then some i else dO x r (i+1)
noncomputable def oo (sc:Scope) (x:Str):Bool:=match sc.names.lookup x with
 |some .local=>true
 |some .cell=>true
 |some .free=>true
 |_=>false
noncomputable def a5 (sc:Scope) (x:Str):Bool:=match sc.names.lookup x with
 |some .globalImplicit=>true
 |_=>false
noncomputable def loc (sc:Scope) (x:Str):Bool:=match sc.names.lookup x with
 |some .local=>true
 |some .cell=>true
 |_=>false
noncomputable def oq (sc:Scope) (x:Str):Bool:=match sc.names.lookup x with
 |some .local=>true
 |_=>false
noncomputable def lF (x:Str):Bool:=!(x == ("__debug__" : Str)) && !(x == ("__classdict__" : Str))
noncomputable def cf:Expr->Bool
 |.Set _ _ _=>false
 |.Slice _ _ _ _=>false
 |.Starred _ _=>false
 |_=>true
noncomputable def e7:Expr->Bool
 |.ListComp _ _ _ _=>true
 |.SetComp _ _ _ _=>true
 |.DictComp _ _ _ _ _=>true
 |_=>false
noncomputable def ot:Expr->Bool
 |.Tuple _ _ _=>true
 |_=>false
noncomputable def fH (sc scope:Scope):Scope:=
 { scope with names:=scope.names.map λ(n,k)=>if (k == .free && sc.kind == .function && sc.names.lookup n == some .cell) then (n,.cell) else (n,k) }
noncomputable def r9 (x:Str):Option Bi:=if x="len" then some .len else if x="tuple" then some .tuple else if x="int" then some .int else if x="max" then some .max
 else if x="dict" then some .dict else if x="any" then some .any else if x="isinstance" then some .iP else if x="sorted" then some .sorted else none
noncomputable def sd (x:Str):Option Mt:=if x="append" then some .append else if x="pop" then some .pop else if x="extend" then some .extend else if x="get" then some .get else none
noncomputable def yO (x:Str):E:=if x="tuple" then .ty "tuple" else if x="bool" then .ty "bool" else if x="str" then .ty "str" else if x="int" then .ty "int" else if x="list" then .ty "list" else .ar
noncomputable def jX (o:Option Nat) (f:Nat->E) (e:E):E:=match o with
 |some i=>f i
 |none=>e
noncomputable def L.of:List E->L
 |[]=>.nil
 |e::r=>.cons e (L.of r)
noncomputable def e8 (f:E->E->E):List E->E
 |[]=>.ar
 |[e]=>e
 |e::r=>f e (e8 f r)
noncomputable def lG:Expr->Option (Str×Pos)
 |.Name x p=>some (x,p)
 |_=>none
noncomputable def lH:List Expr->Option (List (Str×Pos))
 |[]=>some []
 |e::r=>(lG e).bind λq=>(lH r).map (q::·)
noncomputable def iQ:Expr->List (Str×Pos)
 |.Name x p=>[(x,p)]
 |.Tuple es _ _=>(lH es).getD []
 |_=>[]
noncomputable def se (N:List Str) (ok:Str->Bool) (l:List (Str×Pos)):Option G:=if l.all (λq=>ok q.1 && (dO q.1 N 0).isSome) then some (.many (l.map λq=>(dO q.1 N 0).getD 0)) else none
noncomputable def gV (N:List Str) (ok:Str->Bool):Expr->Option G
 |.Name x _=>if ok x then (dO x N 0).map .one else none
 |.Tuple es _ _=>(lH es).bind (se N ok)
 |_=>none
noncomputable def iR (N:List Str) (names:List (Str×NameKind)):List (Str×Nat):=names.filterMap λy=>if y.2=.free then (dO y.1 N 0).map λi=>(y.1,i) else none
variable (m:Nm)
noncomputable def sf (N:List Str) (sc:Scope) (x:Str) (as:L) (ne:Bool):E:=
 if a5 sc x then jX (dO x m.b3 0) (.call · as) (jX (dO x m.cls 0) (.new · as) (match r9 x with |some b=>if ne then .bi b as else .ar |none=>.ar)) else .ar
noncomputable def sg (y:Str) (o:E) (as:L):E:=jX (dO y m.af 0) (.a4 · o as) (match sd y with |some b=>.mt b o as |none=>.ar)
noncomputable def ou (N:List Str) (sc:Scope) (x:Str):E:=
 if lF x then (if oo sc x then jX (dO x N 0) .v .ar else if a5 sc x then jX (dO x m.fG 0) .g (yO x) else .ar) else .ar
noncomputable def sh:Const->E
 |.int i=>.c (.int i)
 |.str x=>.c (.str x)
 |.bool b=>.c (.bl b)
 |.none=>.c .aj
 |_=>.ar
noncomputable def si (sc:Scope) (x:Str):List Expr->Option Expr
 |[.Call (.Name g _) [a] [] _]=>if x="sorted"/\g="set"/\a5 sc x=true/\a5 sc g=true/\cf a=true then some a else none
 |_=>none
noncomputable def sj (sc:Scope) (x:Str):List Expr->Option Expr
 |[.Call (.Name g _) [a] [] _]=>if x="list"/\g="enumerate"/\a5 sc x=true/\a5 sc g=true/\cf a=true then some a else none
 |_=>none
noncomputable def sm (sc:Scope) (x:Str):List Expr->Option Expr
 |[.Call (.Attribute o y q) [] [] p]=>if x="sorted"/\y="items"/\a5 sc x=true/\PL.gh o=false/\(q.endLine == p.line)=true then some o else none
 |_=>none
noncomputable def ow (o:Option Expr) (f:Expr->E):E:=match o with
 |some x=>f x
 |none=>.ar
noncomputable def ox (o:Option Expr) (f:Expr->E):Bool:=match o with
 |some x=>!jW (f x)
 |none=>true
noncomputable def sr (f:Expr->E) (a:Expr):Expr->E
 |.Slice none none (some (.UnaryOp .USub (.Constant (.int 1) _ _) _)) _=>.rev (f a)
 |.Slice lo hi none _=>if ox lo f && ox hi f then .sl (f a) (ow lo f) (ow hi f) else .ar
 |b=>if cf b then .ix (f a) (f b) else .ar
noncomputable def su (f:Expr->E) (a:Expr):List CmpOp->List Expr->E
 |[o],[b]=>if cf b then .cmp o (f a) (f b) else .ar
 |_,_=>.ar
noncomputable def IJ (e:E):UnaryOp->E
 |.USub=>.neg e
 |.Not=>.not e
 |_=>.ar
noncomputable def IK (es:List E):BoolOp->E
 |.And=>e8 .and es
 |.Or=>e8 .or es
noncomputable def sv (ns:List Str) (sc:Scope) (f:Expr->E) (es:List Expr) (pos:Pos):Expr->E
  | .Name x _=>match si sc x es with
    |some a=>.sset (f a)
    |none=>match sj sc x es with
     |some a=>.rZ (f a)
     |none=>match sm sc x es with
      |some a=>.og (f a)
      |none=>if lF x && ba es then (if oo sc x then (if es.isEmpty then .ar else .app (ou m ns sc x) (L.of (es.map f))) else sf m ns sc x (L.of (es.map f)) (!es.isEmpty)) else .ar
  |.Attribute o y q=>if (q.endLine == pos.line) && !PL.gh o && ba es && decide (es.length<29) then sg m y (f o) (L.of (es.map f)) else .ar
  |.Subscript a b q=>if ba es && !es.isEmpty then .app (f (.Subscript a b q)) (L.of (es.map f)) else .ar
  |_=>.ar
noncomputable def IL (e:E):List Keyword->E
 |[]=>e
 |_=>.ar
noncomputable def b5 (sc:Scope) (f:Expr->E) (tg:Expr):Expr->I
 |.Call (.Name g p) [a] [] q=>if a5 sc g && cf a then (if g="range" then I.oh (f a) else if g="reversed" then .oi (f a) else .seq (f (.Call (.Name g p) [a] [] q))) else .seq (f (.Call (.Name g p) [a] [] q))
 |.Call (.Name g p) [a,b] [] q=>if a5 sc g && cf a && cf b then (if g="zip"/\ot tg=true then .zip (f a) (f b) else .seq (f (.Call (.Name g p) [a,b] [] q))) else .seq (f (.Call (.Name g p) [a,b] [] q))
 |e=>.seq (f e)
noncomputable def d2 (ns:List Str) (scope:Scope) (tg:Expr):List Str:=(iQ tg).map (·.1)++(iR ns scope.names).map (·.1)
noncomputable def yP (ns:List Str) (sc:Scope) (f:List Str->Scope->Expr->E) (ap:Expr) (scope:Scope) (tg iter:Expr) (a1:List Expr):E:=
 match gV (d2 ns scope tg) (oq (fH sc scope)) tg with
 | some g=>if nE sc ns scope (iR ns scope.names) && g.lt ((iQ tg).map (·.1)).length && decide (d2 ns scope tg).Nodup && cf iter then (match a1 with
   |[]=>.lc ((iQ tg).map (·.1)).length ((iR ns scope.names).map (·.2)) g (b5 sc (f ns sc) tg iter) .ar (f (d2 ns scope tg) (fH sc scope) ap)
   |[c]=>if jW (f (d2 ns scope tg) (fH sc scope) c) then .ar else .lc ((iQ tg).map (·.1)).length ((iR ns scope.names).map (·.2)) g (b5 sc (f ns sc) tg iter) (f (d2 ns scope tg) (fH sc scope) c) (f (d2 ns scope tg) (fH sc scope) ap)
   |_=>.ar) else .ar
 |none=>.ar
noncomputable def sx (ns:List Str) (sc:Scope) (f:List Str->Scope->Expr->E) (ap:Expr) (scope:Scope):List Comprehension->E
 |[⟨tg,iter,a1,0⟩]=>yP ns sc f ap scope tg iter a1
 |_=>.ar
noncomputable def sy (f:Expr->E) (ks:List (Option Expr)) (vs:List Expr):E:=
 if ks.isEmpty && vs.isEmpty then .oe else if ks.all (·.isSome) && decide (ks.length=vs.length) && decide (ks.length<=15) && !ks.isEmpty then .rY (L.of (ks.map λk=>match k with |some k=>f k |none=>.ar)) (L.of (vs.map f)) else .ar
noncomputable def aX:Nat->List Str->Scope->Expr->E
 | 0,_,_,_=>.ar
 |n+1,ns,sc,e=>match e with
  |.Name x _=>ou m ns sc x
  |.Constant c _ _=>sh c
  |.Tuple es _ _=>if ba es then .tup (L.of (es.map (aX n ns sc))) else .ar
  |.List es _=>if ba es then .lst (L.of (es.map (aX n ns sc))) else .ar
  |.BinOp a o b _=>.op o (aX n ns sc a) (aX n ns sc b)
  |.Compare a os bs _=>su (aX n ns sc) a os bs
  |.UnaryOp o a _=>IJ (aX n ns sc a) o
  |.BoolOp o vs _=>IK (vs.map (aX n ns sc)) o
  |.IfExp c a b _=>.ite (aX n ns sc c) (aX n ns sc a) (aX n ns sc b)
  |.Subscript a b _=>sr (aX n ns sc) a b
  |.Call g es sn p=>IL (sv m ns sc (aX n ns sc) es p g) sn
  |.Attribute o f _=>if !PL.gh o then .fld (aX n ns sc o) f else .ar
  |.ListComp ap gs scope _=>sx ns sc (aX n) ap scope gs
  |.Dict ks vs _=>sy (aX n ns sc) ks vs
  |_=>.ar
end N
end
section
set_option maxHeartbeats 1000000
namespace N
open PySem PySem.Spec PyProof.Rows L2
theorem yQ {x:Str}:∀{l:List Str}{i j:Nat},dO x l i=some j->∃k,j=i+k/\l[k]?=some x
 |[],_,_,h=>by cases h
 |y::r,i,j,h=>by
  unfold dO at h;split at h
  ·rename_i e;cases h;exact⟨0,rfl,by rw[e];rfl⟩
  ·obtain⟨k,e,q⟩:=yQ h;exact⟨k+1,by lia,q⟩
theorem gW {x:Str}{l:List Str}{j:Nat} (h:dO x l 0=some j):l[j]?=some x:=by
 obtain⟨k,e,q⟩:=yQ h;rw[e,Nat.zero_add];exact q
theorem IM {sc:Scope}{x:Str} (h:oo sc x=true):jj sc x:=by
 unfold oo at h;unfold jj;split at h <;> first |(rename_i e;rw[e];first |exact .inl rfl |exact .inr (.inl rfl) |exact .inr (.inr rfl)) |cases h
theorem IP {sc:Scope}{x:Str} (h:a5 sc x=true):sc.names.lookup x=some .globalImplicit:=by
 unfold a5 at h;split at h <;> first |assumption |cases h
theorem oy {sc:Scope}{x:Str} (h:loc sc x=true):L2.h7 sc x:=by
 unfold loc at h;unfold L2.h7;split at h <;> first |(rename_i e;rw[e];first |exact .inl rfl |exact .inr rfl) |cases h
theorem IQ {sc:Scope}{x:Str} (h:oq sc x=true):sc.names.lookup x=some .local:=by
 unfold oq at h;split at h <;> first |assumption |cases h
theorem gX {y:Str} (h:lF y=true):(y == ("__debug__" : Str))=false/\(y == ("__classdict__" : Str))=false:=by
 unfold lF at h;rw[XD,Bool.not_eq_true',Bool.not_eq_true']at h;exact h
theorem lI {e : Expr} (h : cf e = true) : b0 e = true ∧ (∀ o, behindInMarks o e = false) ∧ (∀ o i, subscripted e false o i = operate [o, i] (getItem o i)) ∧ (∀ (env : Env) x, foldedSetIterable e env x = pure x) ∧ ∀ (o : Expr) (pos : Pos) (env : Env) v, assign (.Subscript o e pos) env v = (do
      let ov <- holding [v] (eval o env)
      let iv <- holding [v,ov] (eval e env)
      standAt pos
      holding [v,ov,iv] (setItem ov iv v)
      release [v,ov,iv] []):=by cases e <;> first |exact⟨rfl,λ_=>rfl,λ_ _=>rfl,λ_ _=>rfl,λ_ _ _ _=>rfl⟩ |cases h
theorem oz {e:Expr} (h:cf e=true):b0 e=true:=(lI h).1
theorem yR {e:Expr}{o:CmpOp} (h:cf e=true):behindInMarks o e=false:=(lI h).2.1 o
theorem IS {e:Expr} (h:cf e=true):∀o i,subscripted e false o i=operate [o,i] (getItem o i):=(lI h).2.2.1
theorem sA {e:Expr}{env:Env} (h:cf e=true):∀x,foldedSetIterable e env x=pure x:=(lI h).2.2.2.1 env
theorem IT {o i : Expr} {pos : Pos} {env : Env} (h : cf i = true) : ∀ v, assign (.Subscript o i pos) env v = (do
      let ov <- holding [v] (eval o env)
      let iv <- holding [v,ov] (eval i env)
      standAt pos
      holding [v,ov,iv] (setItem ov iv v)
      release [v,ov,iv] []):=(lI h).2.2.2.2 o pos env
theorem lJ {e:Expr}{t:Option Expr}{n:Nat}{env:Env} (h:e7 e=false):swapsWith e t n env=pure false:=by cases e <;> first |rfl |cases h
theorem IU {t v:Expr}{env:Env} (h:ot v=false):swappedStores [t] v env=pure none:=by
 cases t <;> first |rfl |(cases v <;> first |rfl |cases h)
noncomputable def iS:List Str:=["len","tuple","list","int","max","min","sum","dict","all","any","isinstance","sorted","set","bool","str","range","zip","enumerate","reversed"]
structure lK (m:Nm) (W:Wd) (k:Nat) (G:Gx):Prop where
 fn:∀i x,m.b3[i]?=some x->∃f fd ps,bh G k f fd ps (W.sp i)/\G.mg x=some (.ref f)/\PySem.W.keepIn G.K (.ref f)=true/\bT G.K fd ps []
 gv:∀i x,m.fG[i]?=some x->∃u,G.mg x=some u/\∀F:Fz,(∀b o,G.base.get? b=some o->F b=some (.dat o))->ab G F (W.gv.getD i .aj) u
 bl:∀x∈iS,G.mg x=none
 fl:∀C f,W.fl C f->cZ G.K C/\eh G.K C f
 cl:∀i x C sp,m.cls[i]?=some x->W.ci i=some (C,sp)->∃j f fd ps,j+1<=k/\Mk G.K C f/\bh G j f fd ps sp/\G.mg x=some (.ref C)/\bT G.K fd ps []
 mt:∀i x C sp,m.af[i]?=some x->W.mt i=some (C,sp)->∃f fd ps,cZ G.K C/\jw G.K C x f/\bh G k f fd ps sp/\bT G.K fd ps []
 ca:∀f sp,W.ca f sp->cP G k f sp
structure bA (m:Nm) (W:Wd) (k:Nat) (ns:List Str) (sc:Scope) (X:Cx):Prop where
 hN:X.N=ns
 eX:X.env.scope=sc
 nd:ns.Nodup
 calm:X.calm=true
 room:bF k X.A
 en:lK m W k X.G
theorem fI {X:Cx}:dY X X0:=λ_ _ _ h=>h.elim
theorem gY {X:Cx}:eR X [] []:=λ_ _ _=>.nil
section
variable {m:Nm}{W:Wd}{k:Nat}{ns:List Str}{sc:Scope}{X:Cx}{x:Expr}{t:DE×DT}
theorem bA.sC (C:bA m W k ns sc X):X.A.units+110<cLine:=by have:=C.room.un;lia
theorem bA.u1 (C:bA m W k ns sc X):X.A.units+1<cLine:=by have:=C.room.un;lia
theorem bA.a5 (C:bA m W k ns sc X) {y:Str} (h:a5 sc y=true):Gl X y:=by
 show X.env.scope.names.lookup y=_;rw[C.eX];exact IP h
theorem bA.lc (C:bA m W k ns sc X) {scope:Scope}{N':List Str}{cl:List (Str×Addr)}{a:Addr} (nd:N'.Nodup):bA m W k N' (fH sc scope) (dN X scope N' cl a):=
 ⟨rfl,by rw[<- C.eX];rfl,nd,C.calm,C.room,C.en⟩
structure a8 (X:Cx) (x:Expr) (w:DE×DT):Prop where
 e:PE X x w.1
 t:PT X x w.2
 s:e7 x=true->∀(y:Str) (j:Nat) (py jJ:Pos),ic X [j] [y]->swapsWith x (some (.Name y py)) jJ.line X.env=pure true->PS X (.Assign [.Name y py] x jJ) (kF w.1 (cm (.one j)))
theorem a8.val {d:DE} (h:PE X x d) (he:∀ia,isTrue x X.env ia=(do let v <- ia;standAt x.pos;holding [v] (truthy v)):=by exact λ_=>rfl) (hl:e7 x=false:=by rfl):a8 X x (vl d):=⟨h,Fw h he,λz=>by rw[hl]at z;cases z⟩
theorem a8.no {d:DE} (h:PE X x d) (hl:e7 x=false:=by rfl):a8 X x (d,cS):=⟨h,p8,λz=>by rw[hl]at z;cases z⟩
theorem a8.ar:a8 X x (E.ar.w W m.af):=by
 refine⟨kE,p8,λ_ _ _ _ _ _ _=>?_⟩;exact fun τ z e R I h=>h.elim
theorem a8.lq {d:DE}{u:DT} (h:PE X x d) (h':PT X x u) (hl:e7 x=false:=by rfl):a8 X x (d,u):=⟨h,h',λz=>by rw[hl]at z;cases z⟩
theorem lL {o:Option Nat}{f:Nat->E}{e:E} (h1:∀i,o=some i->a8 X x ((f i).w W m.af)) (h2:a8 X x (e.w W m.af)):a8 X x ((jX o f e).w W m.af):=by
 cases o with
 |none=>exact h2
 |some i=>exact h1 i rfl
theorem iT {f:Expr->E}:∀{es:List Expr},ba es=true->(∀e∈es,PE X e ((f e).w W m.af).1)->PA X es ((L.of (es.map f)).w W m.af)
 |[],_,_=>by rw[YA,L.of,L.w];exact p6
 |e::es,h,g=>by
  have h':(b0 e && ba es)=true:=h;rw[XD]at h';rw[XJ,L.of,L.w];exact p7 (g e XH) (iT h'.2 λa ha=>g a (XF _ ha)) (bL h'.1)
theorem yS {f:Expr->E}{p:Pos}:∀{vs:List Expr},(∀e∈vs,a8 X e ((f e).w W m.af))->PE X (.BoolOp .And vs p) ((e8 .and (vs.map f)).w W m.af).1/\PW X (.BoolOp .And vs p) ((e8 .and (vs.map f)).w W m.af).2
 |[],_=>⟨kE,vB⟩
 |[a],g=>⟨vy (g a XH).e,DB (g a XH).t⟩
 |a::b::r,g=>by
  have i:=yS (p:=p) (vs:=b::r) λe he=>g e (XF _ he);have e:e8 .and ((a::b::r).map f)=.and (f a) (e8 .and ((b::r).map f)):=rfl;rw[e,E.w];exact⟨DL (g a XH).e i.1,DD (g a XH).t i.2⟩
theorem yT {f:Expr->E}{p:Pos}:∀{vs:List Expr},(∀e∈vs,a8 X e ((f e).w W m.af))->PE X (.BoolOp .Or vs p) ((e8 .or (vs.map f)).w W m.af).1/\PW X (.BoolOp .Or vs p) ((e8 .or (vs.map f)).w W m.af).2
 |[],_=>⟨kE,vB⟩
 |[a],g=>⟨vy (g a XH).e,DC (g a XH).t⟩
 |a::b::r,g=>by
  have i:=yT (p:=p) (vs:=b::r) λe he=>g e (XF _ he);have e:e8 .or ((a::b::r).map f)=.or (f a) (e8 .or ((b::r).map f)):=rfl;rw[e,E.w];exact⟨DM (g a XH).e i.1,DH (g a XH).t i.2⟩
theorem yU {u:DT} (h:PW X x u):PT X x u:=fun τ z Q R I q k=>h _ τ z Q R I q k
theorem yV (C:bA m W k ns sc X) {y:Str}{p:Pos}:a8 X (.Name y p) ((ou m ns sc y).w W m.af):=by
 unfold ou;split
 ·rename_i ho;split
  ·rename_i hv;exact lL (λi hi=>by rw[E.w];exact .val (Dr (by rw[C.hN];exact gW hi) (by rw[C.eX];exact IM hv) (gX ho).1 (gX ho).2)) .ar
  ·split
   ·rename_i hg;refine lL (λi hi=>?_) ?_
    ·obtain⟨u,h1,h2⟩:=C.en.gv i y (gW hi);rw[E.w];exact .val (Dy (C.a5 hg) h1 (gX ho).1 fun τ z I=>h2 z.F I.bs.b)
    ·have ty:∀{T:String},y∈iS->bootBuiltins y=some (.type T)->y≠"__name__"->a8 X (.Name y p) ((E.ty T).w W m.af):=λh1 h2 h3=>(by rw[E.w];exact .val (G6 (C.a5 hg) (C.en.bl y h1) h2 h3 (gX ho).1));unfold yO;split
     ·rename_i e;subst e;exact ty (by decide) (by decide +kernel) (by decide)
     ·split
      ·rename_i e;subst e;exact ty (by decide) (by decide +kernel) (by decide)
      ·split
       ·rename_i e;subst e;exact ty (by decide) (by decide +kernel) (by decide)
       ·split
        ·rename_i e;subst e;exact ty (by decide) (by decide +kernel) (by decide)
        ·split
         ·rename_i e;subst e;exact ty (by decide) (by decide +kernel) (by decide)
         ·exact .ar
   ·exact .ar
 ·exact .ar
theorem IV {c:Const}{kk:Nat}{p:Pos}:a8 X (.Constant c kk p) ((sh c).w W m.af):=by
 unfold sh;split
 ·rw[E.w];exact .val vx
 ·rw[E.w];exact .val Dx
 ·rw[E.w];exact .val Dv
 ·rw[E.w];exact .val Dw
 ·exact .ar
end
end N
end
section
set_option maxHeartbeats 1000000
namespace N
open PySem PySem.Spec PyProof.Rows L2
section
variable {m:Nm}{W:Wd}{k:Nat}{ns:List Str}{sc:Scope}{X:Cx}{x:Expr}
def Bi.nm:Bi->Str
 |.len=>"len" |.tuple=>"tuple" |.int=>"int" |.max=>"max" |.dict=>"dict" |.any=>"any" |.iP=>"isinstance" |.sorted=>"sorted"
def Mt.nm:Mt->Str
 |.append=>"append" |.pop=>"pop" |.extend=>"extend" |.get=>"get"
theorem IW {y:Str}{b:Bi} (h:r9 y=some b):y=b.nm:=by
 unfold r9 at h
 repeat' split at h
 all_goals first |(cases h;assumption) |cases h
theorem IX {y:Str}{b:Mt} (h:sd y=some b):y=b.nm:=by
 unfold sd at h
 repeat' split at h
 all_goals first |(cases h;assumption) |cases h
theorem IY (C:bA m W k ns sc X) {e:Expr}{es:List Expr}{p pos:Pos}{tA:DA} (hA:PA X (e::es) tA) (hs:ba (e::es)=true):∀b:Bi,a5 sc b.nm=true->PE X (.Call (.Name b.nm p) (e::es) [] pos) (T9 (yM b) tA):=by
 have h':(b0 e && ba es)=true:=hs;rw[XD]at h';have Um:∀{y:Str}{id:String}{r:QN},CB X (.builtin id) r->a5 sc y=true->y∈iS->bootBuiltins y=some (.builtin id)->y≠"__name__"->(y == ("__debug__" : Str))=false->PE X (.Call (.Name y p) (e::es) [] pos) (T9 r tA):=
  λhc hg hb hv hn hd=>FX hc (C.a5 hg) (C.en.bl _ hb) hv hA hn hd (bL h'.1) (ei h'.2)
 have Vc:∀{y:Str}{T:String}{r:QN},CB X (.type T) r->a5 sc y=true->y∈iS->bootBuiltins y=some (.type T)->y≠"__name__"->(y == ("__debug__" : Str))=false->PE X (.Call (.Name y p) (e::es) [] pos) (T9 r tA):=
  λhc hg hb hv hn hd=>FY hc (C.a5 hg) (C.en.bl _ hb) hv hA hn hd (bL h'.1) (ei h'.2)
 intro b hg;cases b with
 |len=>exact Um FZ hg (by decide) (by decide +kernel) (by decide) (by decide)
 |tuple=>exact Vc F4 hg (by decide) (by decide +kernel) (by decide) (by decide)
 |int=>exact Vc F3 hg (by decide) (by decide +kernel) (by decide) (by decide)
 |max=>exact Um (F6 C.calm) hg (by decide) (by decide +kernel) (by decide) (by decide)
 |dict=>exact Vc (GN C.calm) hg (by decide) (by decide +kernel) (by decide) (by decide)
 |any=>exact Um (F8 C.calm) hg (by decide) (by decide +kernel) (by decide) (by decide)
 |iP=>exact Um G8 hg (by decide) (by decide +kernel) (by decide) (by decide)
 |sorted=>exact Um (G9 C.calm) hg (by decide) (by decide +kernel) (by decide) (by decide)
theorem IZ {o:Expr}{es:List Expr}{q p:Pos}{to:DE}{tA:DA} (ho:PE X o to) (hA:PA X es tA) (h0:es=[]->tA=eK) (hs:ba es=true) (hl:es.length<29) (hb:PL.gh o=false) (c5:(q.endLine == p.line)=true):∀b:Mt,PE X (.Call (.Attribute o b.nm q) es [] p) (k5 b.ty (yN b) to tA):=by
 have go:∀{T id:String}{y:Str}{r:QM},PlainAttrs T->Slot T y id->typeOf (.builtin id)=pure (.type "method_descriptor")->OM X id r->PE X (.Call (.Attribute o y q) es [] p) (k5 T r to tA):=λpa sl ty hm=>by
  cases es with
  |nil=>cases h0 rfl;exact F9 pa sl ty hm ho (PL.kX hb) c5
  |cons e es=>
   have h':(b0 e && ba es)=true:=hs;rw[XD]at h';exact Ga pa sl ty hm ho hA (PL.kX hb) (wK hs hl) c5 (bL h'.1) (ei h'.2)
 intro b;cases b with
 |append=>exact go PySem.F.plainAttrs_list PySem.F.slot_list_append PySem.F.type_list_append Gb
 |pop=>exact go PySem.F.plainAttrs_list PySem.F.slot_list_pop PySem.F.type_list_pop Ge
 |extend=>exact go PySem.F.plainAttrs_list PySem.F.slot_list_extend PySem.F.type_list_extend GO
 |get=>exact go PySem.F.plainAttrs_dict PySem.F.slot_dict_get PySem.F.type_dict_get Gf
theorem I9 (C:bA m W k ns sc X) {y:Str}{es:List Expr}{p pos:Pos}{f:Expr->E} (ho:lF y=true) (hs:ba es=true) (g:∀ e∈es,PE X e ((f e).w W m.af).1) :
  a8 X (.Call (.Name y p) es [] pos) ((sf m ns sc y (L.of (es.map f)) (!es.isEmpty)).w W m.af):=by
 have hA:=iT hs g;unfold sf;split
 ·rename_i hg;refine lL (λi hi=>?_) (lL (λi hi=>?_) ?_)
  ·obtain⟨fa,fd,ps,g1,g2,g3,g4⟩:=C.en.fn i y (gW hi);rw[E.w];refine .val ?_;cases es with
   |nil=>exact FD g1 C.room (C.a5 hg) g2 g3 g4 gY fI (gX ho).1
   |cons e es=>
    have h':(b0 e && ba es)=true:=hs;rw[XD]at h';exact FC g1 C.room (C.a5 hg) g2 g3 g4 gY fI hA (gX ho).1 (bL h'.1) (ei h'.2)
  ·rw[E.w];refine .no ?_;cases hc:W.ci i with
   |none=>exact kE
   |some cs=>
    obtain⟨Ca,sp⟩:=cs;obtain⟨j,fa,fd,ps,g0,g1,g2,g3,g4⟩:=C.en.cl i y Ca sp (gW hi) hc;cases es with
    |nil=>exact FP g1 g2 (C.room.mono g0) (C.a5 hg) g3 g4 gY fI (gX ho).1
    |cons e es=>
     have h':(b0 e && ba es)=true:=hs;rw[XD]at h';exact FN g1 g2 (C.room.mono g0) (C.a5 hg) g3 g4 gY fI hA (gX ho).1 (bL h'.1) (ei h'.2)
  ·split
   ·rename_i b hb;split
    ·cases es with
     |nil=>contradiction
     |cons e es=>
      cases IW hb;rw[E.w];exact .val (IY C hA hs b hg)
    ·exact .ar
   ·exact .ar
 ·exact .ar
theorem yW {o : Expr} {es : List Expr} {y : Str} {q pos : Pos} {env : Env} (hb : PL.gh o = false) (hs : ba es = true) (hl : es.length < 29) (c5 : (q.endLine == pos.line) = true) : eval (.Call (.Attribute o y q) es [] pos) env = (do
      let ov <- eval o env
      standAt q.atName
      let (f,first) <- holding [ov] (getMethod ov y (do return (<- importBound o env).getD true))
      callWith pos f first (backTo pos (starEach es env)) (backToKw pos (keywordEach [] env))):=by
  have e1:eval (.Call (.Attribute o y q) es [] pos) env=(do
    let ov <- attributeBase o y env (eval o env)
    standAt q.atName
    methodCall o y q pos env ov (es.length+([]:List Keyword).length) (backTo pos (starEach es env)) (backToKw pos (keywordEach [] env))):=rfl
  rw[e1,PL.kX hb];have e2:methodCallForm (es.length+([]:List Keyword).length) (backTo pos (starEach es env)) (backToKw pos (keywordEach [] env))=true:=wK (env:=env) (cpos:=pos) hs hl;unfold methodCall;rw[e2];unfold calleeOf methodCallPos;rw[c5];rfl
theorem Ja (C:bA m W k ns sc X) {y:Str}{o:Expr}{Ub:E}{es:List Expr}{q pos:Pos}{f:Expr->E} (ho:PE X o (Ub.w W m.af).1) (hb:PL.gh o=false) (c5:(q.endLine == pos.line)=true) (hl:es.length<29) (hs:ba es=true) (g:∀ e∈es,PE X e ((f e).w W m.af).1) :
  a8 X (.Call (.Attribute o y q) es [] pos) ((sg m y Ub (L.of (es.map f))).w W m.af):=by
 have hA:=iT hs g;unfold sg;refine lL (λi hi=>?_) ?_
 ·rw[E.w];refine .val ?_;cases hc:W.mt i with
  |none=>exact kE
  |some cs=>
   obtain⟨Ca,sp⟩:=cs;have hy:=gW hi;obtain⟨fa,fd,ps,g1,g2,g3,g4⟩:=C.en.mt i y Ca sp hy hc;have e:m.af.getD i ""=y:=(by rw[X9,hy];rfl);show PE X _ (k4 Ca (m.af.getD i "") sp [] X0 _ _);rw[e];cases es with
   |nil=>exact FL ho g1 g2 g3 C.room g4 gY fI (yW hb hs hl c5)
   |cons e es=>
    have h':(b0 e && ba es)=true:=hs;rw[XD]at h';exact FK ho g1 g2 g3 C.room g4 gY fI hA (bL h'.1) (ei h'.2) (yW hb hs hl c5)
 ·split
  ·rename_i b nW;cases IX nW;rw[E.w];exact .val (IZ ho hA (λz=>by subst z;rfl) hs hl hb c5 b)
  ·exact .ar
end
end N
end
section
set_option maxHeartbeats 2000000
namespace N
open PySem PySem.Spec PyProof.Rows L2
section
variable {m:Nm}{W:Wd}{k:Nat}{ns:List Str}{sc:Scope}{X:Cx}{x:Expr}
theorem Jb {e:Expr}{q:Str×Pos} (h:lG e=some q):e=.Name q.1 q.2:=by
 cases e
 case Name x p=>cases h;rfl
 all_goals cases h
theorem yX:∀{es:List Expr}{l:List (Str×Pos)},lH es=some l->es=l.map λq=>.Name q.1 q.2
 |[],l,h=>by cases h;rfl
 |e::r,l,h=>by
  obtain⟨q,h1,h2⟩:=Option.bind_eq_some_iff.mp (show (lG e).bind _=some l from h);obtain⟨l',h3,rfl⟩:=Option.map_eq_some_iff.mp h2;rw[XJ,<- yX h3,Jb h1]
theorem sD (C:bA m W k ns sc X) {ok:Str->Bool} (hok:∀y,ok y=true->L2.h7 X.env.scope y/\(X.fn y=true\/X.env.scope.names.lookup y=some .local)) {e:Expr}{g:G} (h:gV ns ok e=some g):PG X e (cm g):=by
 have nd:X.N.Nodup:=by rw[C.hN];exact C.nd
 unfold gV at h;split at h
 ·rename_i x p;split at h
  ·rename_i ho;obtain⟨i,h1,rfl⟩:=Option.map_eq_some_iff.mp h;refine vC ⟨nd,λWE y hy=>?_⟩;cases List.mem_singleton.mp hy;exact⟨by rw[C.hN];exact gW h1,hok x ho⟩
  ·cases h
 ·rename_i es kk p;cases hn:lH es with
  |none=>rw[hn]at h;cases h
  |some l=>
   rw[hn]at h;have h:se ns ok l=some g:=h;unfold se at h;split at h
   ·rename_i ha;cases h;rw[yX hn];refine D5 C.calm ⟨nd,λi y hy=>?_⟩ (by rw[Xx]);rw[List.zip_map',List.mem_map]at hy;obtain⟨q,hq,e⟩:=hy;cases e;have hb:=List.all_eq_true.mp ha q hq;rw[XD]at hb;obtain⟨i,hi⟩:=Option.isSome_iff_exists.mp hb.2;rw[hi];exact⟨by rw[C.hN];exact gW hi,hok q.1 hb.1⟩
   ·cases h
 ·cases h
theorem iG.of {scope:Scope}{Nt:List Str}{fr:List (Str×Nat)} (h1:X.env.scope=sc) (h2:X.N=ns) (h:nE sc ns scope fr=true):iG X scope Nt fr:=by
 unfold nE at h;simp only[XD,List.all_eq_true,decide_eq_true_eq]at h;obtain⟨⟨⟨⟨TJ,TF⟩,TK⟩,TL⟩,T2⟩:=h;refine⟨eq_of_beq TJ,TF,TK,λy hy hf=>?_,λp hp=>?_⟩
 ·show X.env.scope.names.lookup y.1=some .cell;rw[h1];exact TL y hy hf
 ·rw[h2];exact T2 p hp
theorem Jc {e:Expr} (h:ot e=true):∃a b c,e=.Tuple a b c:=by cases e <;> first |exact⟨_,_,_,rfl⟩ |cases h
theorem sE {n:Nat} (C:bA m W k ns sc X) (ih:∀x,a8 X x ((aX m n ns sc x).w W m.af)) {tg e:Expr}:PI X tg e ((b5 sc (aX m n ns sc) tg e).w W m.af):=by
 have sq:PI X tg e ((I.seq (aX m n ns sc e)).w W m.af):=by rw[I.w];exact Il (ih e).e
 have bl:∀y∈iS,X.G.mg y=none:=C.en.bl;have s1:∀{a:Expr},cf a=true->starEach [a] X.env=[(false,eval a X.env)]:=λh=>by rw[bL (oz h)];rfl
 unfold b5;split
 ·rename_i f p a q;split
  ·rename_i h;rw[XD]at h;split
   ·rename_i e;subst e;rw[I.w];exact Ee (C.a5 h.1) (bl _ (by decide)) (ih a).e (s1 h.2)
   ·split
    ·rename_i e;subst e;rw[I.w];exact Ex (C.a5 h.1) (bl _ (by decide)) (ih a).e (s1 h.2)
    ·exact sq
  ·exact sq
 ·rename_i f p a b q;split
  ·rename_i h;rw[XD,XD]at h;obtain⟨⟨h1,h2⟩,h3⟩:=h;have s2:starEach [a,b] X.env=[(false,eval a X.env),(false,eval b X.env)]:=(by rw[bL (oz h2),s1 h3]);split
   ·rename_i e;obtain⟨rfl,ht⟩:=e;obtain⟨_,_,_,rfl⟩:=Jc ht;rw[I.w];exact Et (C.a5 h1) (bl _ (by decide)) (ih a).e (ih b).e s2 (s1 h3)
   ·exact sq
  ·exact sq
 ·exact sq
theorem yY {n:Nat} (C:bA m W k ns sc X) (ih:∀ x,a8 X x ((aX m n ns sc x).w W m.af)) {tg iter ap:Expr}{a1:List Expr}{scope:Scope}{pos:Pos}{g:G}{T3 VA:E} (hg:gV (d2 ns scope tg) (oq (fH sc scope)) tg=some g)
  (h1:nE sc ns scope (iR ns scope.names)=true) (h2:g.lt ((iQ tg).map (·.1)).length=true) (h3:(d2 ns scope tg).Nodup) (h4:cf iter=true)
  (hc:∀{X':Cx},bA m W k (d2 ns scope tg) (fH sc scope) X'->PF X' a1 (Vb T3 (T3.w W m.af).2)) (he:∀{X':Cx},bA m W k (d2 ns scope tg) (fH sc scope) X'->PE X' ap (VA.w W m.af).1) :
  a8 X (.ListComp ap [⟨tg,iter,a1,0⟩] scope pos) ((E.lc ((iQ tg).map (·.1)).length ((iR ns scope.names).map (·.2)) g (b5 sc (aX m n ns sc) tg iter) T3 VA).w W m.af):=by
 have L1:iG X scope ((iQ tg).map (·.1)) (iR ns scope.names):=.of C.eX C.hN h1;have C':∀cl a,bA m W k (d2 ns scope tg) (fH sc scope) (dN X scope (d2 ns scope tg) cl a):=λcl a=>C.lc h3;have nS:∀cl a,PG (dN X scope (d2 ns scope tg) cl a) tg (cm g):=λcl a=>sD (C' cl a) (λy hy=>by
  have hl:=IQ hy;rw[(C' cl a).eX];exact⟨.inl hl,.inr hl⟩) hg
 rw[E.w,<- IH];exact⟨G3 L1 C.calm (sE C ih) nS h2 (λcl a=>hc (C' cl a)) (λcl a=>he (C' cl a)) (sA h4),p8,
  λ_ y j py jJ hN rx=>G4 L1 C.calm hN (sE C ih) nS h2 (λcl a=>hc (C' cl a)) (λcl a=>he (C' cl a)) (sA h4) rx⟩
theorem yZ {f:Expr->E}{pos:Pos}:∀ {ks:List (Option Expr)}{vs:List Expr},ks.all (·.isSome)=true->ks.length=vs.length->(∀ e,PE X e ((f e).w W m.af).1) ->
  PP X pos ks vs (((L.of (ks.map λk=>match k with |some k=>f k |none=>.ar)).wl W m.af).zip ((L.of (vs.map f)).wl W m.af))
 |[],[],_,_,_=>by simp only[YA,L.of,L.wl,List.zip_nil_left];exact GF
 |[],v::vs,_,h,_=>by cases h
 |none::ks,vs,h,_,_=>by cases h
 |some k::ks,[],_,h,_=>by cases h
 |some k::ks,v::vs,h,hl,g=>by
  simp only[XJ,L.of,L.wl,YN];exact GG (g k) (g v) (yZ (by simpa using h) (by simpa using hl) g)
end
end N
end
section
namespace N
open PySem PySem.Spec PyProof.Rows L2
section
variable {m:Nm}{W:Wd}{k:Nat}
theorem y0 {X:Cx}{o:Option Expr}{f:Expr->E} (h:ox o f=true) (g:∀e,PE X e ((f e).w W m.af).1):PO X o (oW (ow o f) ((ow o f).w W m.af).1):=by
 cases o with
 |none=>exact FQ
 |some x=>
  have h:jW (f x)=false:=by simpa [ox] using h
  show PO X (some x) (oW (f x) ((f x).w W m.af).1);unfold oW;rw[h];exact FR (g x)
theorem Jd {a b:Expr}{q pos:Pos}{es:List Expr}{env:Env}:eval (.Call (.Subscript a b q) es [] pos) env=(do callWith pos (<- eval (.Subscript a b q) env) [] (backTo pos (starEach es env)) (backToKw pos (keywordEach [] env))):=rfl
theorem Je {X:Cx}{fl:Addr->Str->Prop}{f:Str} (hf:∀C,fl C f->cZ X.G.K C/\eh X.G.K C f) {x:D}{M:Mp}{q:QK} (h:om fl f x M q):qF X.G.K f x M q:=by
 unfold om cD at h;unfold qF cD;split at h
 ·obtain⟨C,dx,fs,e,d,h1,h2⟩:=h;exact⟨C,dx,fs,e,d,hf C h1,h2⟩
 ·exact h.elim
theorem Jf {X:Cx}{fl:Addr->Str->Prop}{f:Str}{e:Expr}{to:DE}{pos:Pos} (hf:∀C,fl C f->cZ X.G.K C/\eh X.G.K C f) (he:PE X e to) (hb:attributeBase e f X.env (eval e X.env)=eval e X.env):PE X (.Attribute e f pos) (jr (om fl f) to):=fun τ z Q R I h k=>
 E0 hb (he τ z _ _ I h λd z1 u l1 I1 r1 q1=>FI τ z1 Q R d u I1 r1 (Je hf q1) λd z2 u l2=>k d z2 u (l1.tr l2))
theorem Jg {sc:Scope}{x:Str}{es:List Expr}{a:Expr} (h:si sc x es=some a):∃p q,x="sorted"/\es=[.Call (.Name "set" p) [a] [] q]/\a5 sc "sorted"=true/\a5 sc "set"=true/\cf a=true:=by
 unfold si at h;split at h
 ·rename_i g p b q;split at h
  ·rename_i c;obtain⟨rfl,rfl,h1,h2,h3⟩:=c;cases h;exact⟨p,q,rfl,rfl,h1,h2,h3⟩
  ·cases h
 ·cases h
theorem Jh {sc:Scope}{x:Str}{es:List Expr}{a:Expr} (h:sj sc x es=some a):∃p q,x="list"/\es=[.Call (.Name "enumerate" p) [a] [] q]/\a5 sc "list"=true/\a5 sc "enumerate"=true/\cf a=true:=by
 unfold sj at h;split at h
 ·rename_i g p b q;split at h
  ·rename_i c;obtain⟨rfl,rfl,h1,h2,h3⟩:=c;cases h;exact⟨p,q,rfl,rfl,h1,h2,h3⟩
  ·cases h
 ·cases h
theorem Ji {sc:Scope}{x:Str}{es:List Expr}{a:Expr} (h:sm sc x es=some a):∃p q,x="sorted"/\es=[.Call (.Attribute a "items" q) [] [] p]/\a5 sc "sorted"=true/\PL.gh a=false/\(q.endLine == p.line)=true:=by
 unfold sm at h;split at h
 ·rename_i o y q p;split at h
  ·rename_i c;obtain⟨rfl,rfl,h1,h2,h3⟩:=c;cases h;exact⟨p,q,rfl,rfl,h1,h2,h3⟩
  ·cases h
 ·cases h
section
variable {ns:List Str}{sc:Scope}{X:Cx}{f:Expr->E}
theorem Jj (ih:∀x,a8 X x ((f x).w W m.af)) {a b:Expr}{pos:Pos}:a8 X (.Subscript a b pos) ((sr f a b).w W m.af):=by
 unfold sr;split
 ·rw[E.w];exact .no (FV (ih _).e λ_ _=>by with_unfolding_all rfl)
 ·split
  ·rename_i h;rw[XD]at h;rw[E.w];exact .no (FU (ih _).e (y0 h.1 λe=>(ih e).e) (y0 h.2 λe=>(ih e).e) λ_ _=>by with_unfolding_all rfl)
  ·exact .ar
 ·split
  ·rename_i h;rw[E.w];exact .val (Fx (ih _).e (ih _).e (IS h))
  ·exact .ar
theorem Jk (C:bA m W k ns sc X) (ih:∀x,a8 X x ((f x).w W m.af)) {a:Expr}{os:List CmpOp}{bs:List Expr}{pos:Pos}:a8 X (.Compare a os bs pos) ((su f a os bs).w W m.af):=by
 unfold su;split
 ·split
  ·rename_i h;rw[E.w];exact .lq (Fl (w' C.sC _) (ih _).e (ih _).e (yR h)) (Fm (w' C.sC _) (ih _).e (ih _).e (yR h))
  ·exact .ar
 ·exact .ar
theorem Jl (C:bA m W k ns sc X) (ih:∀x,a8 X x ((f x).w W m.af)) {g:Expr}{es:List Expr}{pos:Pos}:a8 X (.Call g es [] pos) ((sv m ns sc f es pos g).w W m.af):=by
 have hA:ba es=true->PA X es ((L.of (es.map f)).w W m.af):=λh=>iT h λe _=>(ih e).e;unfold sv;split
 ·split
  ·rename_i a ha;obtain⟨p,q,rfl,rfl,h1,h2,h3⟩:=Jg ha;rw[E.w];exact .no (HO C.calm (C.a5 h1) (C.en.bl _ (by decide)) (C.a5 h2) (C.en.bl _ (by decide)) (ih a).e (oz h3))
  ·split
   ·rename_i a ha;obtain⟨p,q,rfl,rfl,h1,h2,h3⟩:=Jh ha;rw[E.w];exact .no (Ib C.calm (C.a5 h1) (C.en.bl _ (by decide)) (C.a5 h2) (C.en.bl _ (by decide)) (ih a).e (oz h3))
   split
   ·rename_i a ha;obtain⟨p,q,rfl,rfl,h1,h2,h3⟩:=Ji ha;rw[E.w];exact .no (Iz C.calm C.sC (C.a5 h1) (C.en.bl _ (by decide)) (ih a).e (PL.kX h2) h3)
   split
   ·rename_i h;rw[XD]at h;split
    ·split
     ·exact .ar
     ·rename_i hn;rw[E.w];cases es with
      |nil=>exact absurd rfl hn
      |cons e es=>
       have h':(b0 e && ba es)=true:=h.2;rw[XD]at h';exact .val (xU C.en.ca C.room fI (yV C).e (hA h.2) (bL h'.1) (ei h'.2) rfl)
    ·exact I9 C h.1 h.2 λe _=>(ih e).e
   ·exact .ar
 ·split
  ·rename_i h;rw[XD,XD,XD]at h;obtain⟨⟨⟨h1,h2⟩,h3⟩,h4⟩:=h;exact Ja C (ih _).e (by simpa using h2) h1 (of_decide_eq_true h4) h3 λe _=>(ih e).e
  ·exact .ar
 ·split
  ·rename_i h;rw[XD]at h;rw[E.w];cases es with
   |nil=>exact absurd h.2 (by decide)
   |cons e es=>
    have h':(b0 e && ba es)=true:=h.1;rw[XD]at h';exact .val (xU C.en.ca C.room fI (ih _).e (hA h.1) (bL h'.1) (ei h'.2) Jd)
  ·exact .ar
 ·exact .ar
theorem Jm (ih:∀x,a8 X x ((f x).w W m.af)) {ks:List (Option Expr)}{vs:List Expr}{pos:Pos}:a8 X (.Dict ks vs pos) ((sy f ks vs).w W m.af):=by
 unfold sy;split
 ·rename_i h;rw[XD,List.isEmpty_iff,List.isEmpty_iff]at h;obtain⟨rfl,rfl⟩:=h;rw[E.w];exact .no GD
 ·split
  ·rename_i h;rw[XD,XD,XD]at h;obtain⟨⟨⟨h1,h2⟩,h3⟩,h4⟩:=h;rw[E.w];exact .no (GH (yZ h1 (of_decide_eq_true h2) λe=>(ih e).e) h1 (of_decide_eq_true h2) (by rintro rfl;cases h4) (of_decide_eq_true h3))
  ·exact .ar
end
theorem Jn {n:Nat}{ns:List Str}{sc:Scope}{X:Cx} (C:bA m W k ns sc X) (ih:∀{ns:List Str}{sc:Scope}{X:Cx},bA m W k ns sc X->∀x,a8 X x ((aX m n ns sc x).w W m.af)) {ap:Expr}{gs:List Comprehension}{scope:Scope}{pos:Pos}:a8 X (.ListComp ap gs scope pos) ((sx ns sc (aX m n) ap scope gs).w W m.af):=by
 unfold sx;split
 ·unfold yP;split
  ·rename_i g hg;split
   ·rename_i h;rw[XD,XD,XD]at h;obtain⟨⟨⟨h1,h2⟩,h3⟩,h4⟩:=h;split
    ·exact yY (n:=n) C (ih C) hg h1 h2 (of_decide_eq_true h3) h4 (λ_=>GR) λC'=>(ih C' _).e
    ·split
     ·exact .ar
     ·rename_i hn;exact yY (n:=n) C (ih C) hg h1 h2 (of_decide_eq_true h3) h4 (λC'=>by unfold Vb;rw[show jW _=false by simpa using hn];exact GS (ih C' _).t) λC'=>(ih C' _).e
    ·exact .ar
   ·exact .ar
  ·exact .ar
 ·exact .ar
theorem iU:∀(n:Nat) {ns:List Str}{sc:Scope}{X:Cx},bA m W k ns sc X->∀x,a8 X x ((aX m n ns sc x).w W m.af)
 | 0,ns,sc,X,C,x=>.ar
 |n+1,ns,sc,X,C,x=>by
  have ih:∀x,a8 X x ((aX m n ns sc x).w W m.af):=iU n C;have hA:∀{es:List Expr},ba es=true->PA X es ((L.of (es.map (aX m n ns sc))).w W m.af):=λh=>iT h λe _=>(ih e).e;cases x
  case Name y p=>exact yV C
  case Constant c kk p=>exact IV
  case Tuple es kk p=>
   show a8 X _ ((if ba es then E.tup (L.of (es.map (aX m n ns sc))) else .ar).w W m.af)
   split
   ·rename_i h;rw[E.w];exact .val (DQ (hA h))
   ·exact .ar
  case List es p=>
   show a8 X _ ((if ba es then E.lst (L.of (es.map (aX m n ns sc))) else .ar).w W m.af)
   split
   ·rename_i h;rw[E.w];exact .val (DR (hA h))
   ·exact .ar
  case BinOp a o b p=>exact .val (Dz (Fj _) (ih _).e (ih _).e)
  case Compare a os bs p=>exact Jk C ih
  case UnaryOp o a p=>
   cases o
   case USub=>exact .val (xq xr (ih _).e)
   case Not=>exact .lq (DN (ih _).e) (DJ (ih _).t)
   all_goals exact .ar
  case BoolOp o vs p=>
   cases o
   case And=>obtain⟨h1,h2⟩:=yS (p:=p) λe _=>ih e;exact .lq h1 (yU h2)
   case Or=>obtain⟨h1,h2⟩:=yT (p:=p) λe _=>ih e;exact .lq h1 (yU h2)
  case IfExp c a b p=>exact .no (DP (ih _).t (ih _).e (ih _).e)
  case Subscript a b p=>exact Jj ih
  case Call g es sn p=>
   cases sn with
   |nil=>exact Jl C ih
   |cons _ _=>exact .ar
  case Attribute o f p=>
   show a8 X _ ((if !PL.gh o then E.fld (aX m n ns sc o) f else .ar).w W m.af)
   split
   ·rename_i h;rw[E.w];exact .val (Jf (λC' z=>C.en.fl C' _ z) (ih _).e (PL.kX (by simpa using h)))
   ·exact .ar
  case ListComp ap gs scope p=>exact Jn C (iU n)
  case Dict ks vs p=>exact Jm ih
  all_goals exact .ar
end
noncomputable def B.of:List S->B
 |[]=>.nil
 |s::r=>.cons s (B.of r)
noncomputable def lM (o:Option G) (f:G->S):S:=match o with
 |some g=>f g
 |none=>.dead
noncomputable def sF (ns:List Str) (sc:Scope) (f:Expr->E) (v:Expr):List Expr->S
 |[.Name x p]=>lM (gV ns (loc sc) (.Name x p)) λg=>.set g (f v)
 |[.Tuple es kk p]=>if !ot v && !e7 v then lM (gV ns (loc sc) (.Tuple es kk p)) λg=>.set g (f v) else .dead
 |[.Subscript o i _]=>if cf i && !e7 v then .put (f o) (f i) (f v) else .dead
 |[.Attribute o a _]=>if !e7 v then .oj (f o) a (f v) else .dead
 |_=>.dead
noncomputable def y1 (s:S):List Stmt->S
 |[]=>s
 |_=>.dead
noncomputable def Jo (f:Expr->E):Option Expr->S
 |some v=>.ret (f v)
 |none=>.dead
noncomputable def sG (b:B) (hs:List ExceptHandler) (e f:List Stmt):S:=if hs.isEmpty || !e.isEmpty || !f.isEmpty then .dead else .cond (.c (.bl true)) b .nil
variable (m:Nm) in
noncomputable def gr:Nat->List Str->Scope->Stmt->S
 | 0,_,_,_=>.dead
 |n+1,ns,sc,s=>match s with
  |.Assign ts v _=>sF ns sc (aX m n ns sc) v ts
  |.Return o _=>Jo (aX m n ns sc) o
  |.Expr v _=>if !e7 v then .ex (aX m n ns sc v) else .dead
  |.If c a b _=>.cond (aX m n ns sc c) (B.of (a.map (gr n ns sc))) (B.of (b.map (gr n ns sc)))
  |.For t i b e _=>y1 (if cf i then lM (gV ns (loc sc) t) λg=>.loop g (b5 sc (aX m n ns sc) t i) (B.of (b.map (gr n ns sc))) else .dead) e
  |.While c b e _=>y1 (.jV (aX m n ns sc c) (B.of (b.map (gr n ns sc)))) e
  |.Try b hs e f _=>sG (B.of (b.map (gr n ns sc))) hs e f
  |.Pass _=>.pass
  |.Break _=>.brk
  |.Continue _=>.cnt
  |_=>.dead
section
variable {m:Nm}{W:Wd}{k:Nat}{ns:List Str}{sc:Scope}{X:Cx}
theorem sH {st:Stmt}{o:Option G}{f:G->S} (h:∀g,o=some g->PS X st ((f g).w W m.af)):PS X st ((lM o f).w W m.af):=by
 cases o with
 |none=>exact dW
 |some g=>exact h g rfl
theorem gZ {f:Stmt->S} (g:∀s,PS X s ((f s).w W m.af)):∀ss:List Stmt,ed X ss ((B.of (ss.map f)).w W m.af)
 |[]=>DU
 |[s]=>vA (g s)
 |s::t::r=>DV (g s) (gZ g (t::r))
theorem Jp {X:Cx}{fl:Addr->Str->Prop}{f:Str} (hf:∀C,fl C f->cZ X.G.K C/\eh X.G.K C f) {o d:D}{M:Mp}{q:Mp->Prop} (h:cD o M λa C dx fs=>fl C f/\fs.length<1000/\q (up M a (.ins C dx (fE f d fs)))):qG X.G.K f o d M q:=by
 unfold cD at h;unfold qG cD;split at h
 ·obtain⟨C,dx,fs,e,h1,h2⟩:=h;exact⟨C,dx,fs,e,hf C h1,h2⟩
 ·exact h.elim
theorem Jq {fl:Addr->Str->Prop}{o value:Expr}{f:Str}{to tv:DE}{pos qI:Pos} (hf:∀C,fl C f->cZ X.G.K C/\eh X.G.K C f) (ho:PE X o to) (hv:PE X value tv) (hs:swapsWith value (some (.Attribute o f qI)) pos.line X.env=pure false):PS X (.Assign [.Attribute o f qI] value pos) (yL fl f to tv):=fun τ z e R I h k=>
 plainObj_wpAny_Assign_Attribute (hv τ z _ _ I h λd z1 u l1 I1 r1 q1=>ho τ z1 _ _ I1 q1 λod z2 ov l2 I2 r2 q2=>FJ I2 r2 (r1.up l2.d) (Jp hf q2) λz3 e3 I3 q3=>k.nx τ z3 (by rw[e3];exact l1.tr l2) I3 q3) hs
theorem Jr (C:bA m W k ns sc X) (hf:∀y,loc sc y=true->X.fn y=true\/X.env.scope.names.lookup y=some .local) {f:Expr->E} (ih:∀x,a8 X x ((f x).w W m.af)) {ts:List Expr}{v:Expr}{q:Pos}:PS X (.Assign ts v q) ((sF ns sc f v ts).w W m.af):=by
 have hok:∀y,loc sc y=true->L2.h7 X.env.scope y/\(X.fn y=true\/X.env.scope.names.lookup y=some .local):=λy hy=>⟨by rw[C.eX];exact oy hy,hf y hy⟩;have nd:X.N.Nodup:=by rw[C.hN];exact C.nd
 unfold sF;split
 ·rename_i x p;refine sH λg hg=>?_;rw[S.w];have hg:(if loc sc x then (dO x ns 0).map G.one else none)=some g:=hg
  split at hg
  ·rename_i hl;obtain⟨i,h1,rfl⟩:=Option.map_eq_some_iff.mp hg;have hN:ic X [i] [x]:=⟨nd,λWE y hy=>by
    cases List.mem_singleton.mp hy;exact⟨by rw[C.hN];exact gW h1,hok x hl⟩⟩
   cases hc:e7 v with
   |false=>exact vF hN (ih v).e (lJ hc)
   |true=>
    have key:∃b:Bool,swapsWith v (some (.Name x p)) q.line X.env=pure b:=by
     cases v <;> first |exact⟨_,rfl⟩ |cases hc
    obtain⟨b,hb⟩:=key;cases b with
    |false=>exact vF hN (ih v).e hb
    |true=>exact (ih v).s hc x i p q hN hb
  ·cases hg
 ·split
  ·rename_i es kk p h;rw[XD]at h;refine sH λg hg=>?_;rw[S.w];exact vE (ih v).e (sD C hok hg) (show swapsWith v (some (.Tuple es kk p)) q.line X.env=pure false from lJ (by simpa using h.2)) (IU (by simpa using h.1)) rfl
  ·exact dW
 ·split
  ·rename_i o i p h;rw[XD]at h;rw[S.w];exact vE (ih v).e (D6 (ih o).e (ih i).e (Fy C.u1) (IT h.1)) (show swapsWith v (some (.Subscript o i p)) q.line X.env=pure false from lJ (by simpa using h.2)) rfl rfl
  ·exact dW
 ·split
  ·rename_i o a p h;rw[S.w];exact Jq (λC' z=>C.en.fl C' _ z) (ih o).e (ih v).e (lJ (by simpa using h))
  ·exact dW
 ·exact dW
theorem Js {body:List Stmt}{h₀:ExceptHandler}{hs:List ExceptHandler}{t:DS}{pos:Pos} (hb:ed X body t):PS X (.Try body (h₀::hs) [] [] pos) t:=fun τ z e R I h k=>
 wpAny_Try_except (Zu (hb τ z e (λf s=>match f with |.next=>N.W X (execs [] X.env) R s |f=>R f s) I h ⟨fun τ1 z1 l I1 q=>wpAny_execs_nil (k.nx τ1 z1 l I1 q),k.rt,k.bk,k.ct⟩) (λ_ _ h=>h) λ_ _ h=>h.no.elim)
theorem Jt {body:List Stmt}{hs:List ExceptHandler}{e f:List Stmt}{b:B}{pos:Pos} (hb:ed X body (b.w W m.af)):PS X (.Try body hs e f pos) ((sG b hs e f).w W m.af):=by
 unfold sG;split
 ·exact dW
 ·rename_i c;cases hs with
  |nil=>exact absurd rfl c
  |cons h₀ hs=>cases e with
   |cons _ _=>exact absurd (by simp) c
   |nil=>cases f with
    |cons _ _=>exact absurd (by simp) c
    |nil=>
     intro τ z en R I h k;exact Js hb τ z en R I (by rw[S.w,E.w]at h;exact h) k
theorem sJ (C:bA m W k ns sc X) (hf:∀y,loc sc y=true->X.fn y=true\/X.env.scope.names.lookup y=some .local):∀(n:Nat) (s:Stmt),PS X s ((gr m n ns sc s).w W m.af)
 | 0,s=>dW
 |n+1,s=>by
  have ih:∀x,a8 X x ((aX m n ns sc x).w W m.af):=iU n C;have lO:∀s,PS X s ((gr m n ns sc s).w W m.af):=sJ C hf n;cases s
  case Assign ts v q=>exact Jr C hf ih
  case Return o p=>
   cases o with
   |none=>exact dW
   |some v=>exact D1 (ih _).e
  case Expr v p=>
   show PS X _ ((if !e7 v then S.ex (aX m n ns sc v) else .dead).w W m.af)
   split
   ·rename_i h;rw[S.w];exact D0 (ih _).e (lJ (by simpa using h))
   ·exact dW
  case If c a b p=>exact D2 (ih _).t (gZ lO _) (gZ lO _)
  case For t i b e p=>
   cases e with
   |cons _ _=>exact dW
   |nil=>
    show PS X _ ((if cf i then lM (gV ns (loc sc) t) λg=>S.loop g (b5 sc (aX m n ns sc) t i) (B.of (b.map (gr m n ns sc))) else .dead).w W m.af)
    split
    ·rename_i h;refine sH λg hg=>?_;rw[S.w];exact Ii (D8 C.calm (sE C ih) (sD C (λy hy=>⟨by rw[C.eX];exact oy hy,hf y hy⟩) hg) (gZ lO _) (sA h))
    ·exact dW
  case While c b e p=>
   cases e with
   |cons _ _=>exact dW
   |nil=>exact D7 (ih _).t (gZ lO _)
  case Try b hs e f p=>exact Jt (gZ lO _)
  case Pass p=>exact DW
  case Break p=>exact DX
  case Continue p=>exact DY
  all_goals exact dW
end
noncomputable def aH (m:Nm) (n:Nat) (ns:List Str) (sc:Scope) (ss:List Stmt):B:=B.of (ss.map (gr m n ns sc))
end N
end
section
set_option maxHeartbeats 1000000
namespace N
open PySem PySem.Spec PyProof.Rows L2
def a6 (Q:QK):QK:=λd M=>∃K e,cy K M/\Fr M K d e/\Q e K
section
variable {G:Gx}{F:Fz}{M K:Mp}{h:Heap}
theorem CR.ret {z:Z}{Q:QK}{E:XQ}{r:Result}{s:Shared} (h:CR G z (a6 Q) E r s):CR G z Q E r s:=by
 cases r with
 |error e=>exact h
 |ok fl=>
  cases fl with
  |ret u=>
   obtain⟨d,z',l,rd,Km,e,sb,f,q⟩:=h;exact⟨e,⟨dm z'.F z'.M Km z'.s.heap,Km,z'.s⟩,⟨l.s,l.l.tr (e6 l.ok),yv l.ok sb,l.os,l.bare⟩,f.rel l.ok rd,q⟩
  |next=>exact h
  |brk=>exact h
  |cont=>exact h
end
noncomputable abbrev aS (Q:QK):En:={ nx:=λ_ M=>a6 Q .aj M,rt:=a6 Q }
theorem y2 {G:Gx}{m:Nm}{W:Wd}{k n:Nat}{x qual:Str}{st:Stmt}{f:Addr}{fd:FuncData}{ns ps:List Str}{sp:Sp}{b:B} (F:dH G.K x qual st f fd) (S:aB ns ps (ag st)) (En:lK m W k G) (hc:aH m n ns (ag st) (aw st)=b)
  (h:∀ds M Q E,sp ds M Q E->ds.length=ps.length/\b.w W m.af (aS Q) (start ns ds) M):bh G (k+1) f fd ps sp:=by
 obtain⟨oc,od,kV,doc,pm,TC,an,ct,ch,rfl,lk,dF⟩:=F.ex;have key:bh G (k+1) f (PySem.W.fnOf x qual (ej st) (aw st) (ag st) .none kV doc pm TC an ct) ps λds M R E=>∃Q,R=a6 Q/\sp ds M Q E:=by
  refine qC lk dF S (λds M R E ⟨Q,_,z⟩=>(h ds M Q E z).1) λA outer s M ds R E hr ⟨Q,e,z⟩=>?_;subst e;have C:bA m W k ns (ag st) (cc G ns qual (ag st) f an A outer s E):=⟨rfl,rfl,S.nd,rfl,hr,En⟩;refine⟨_,gZ (sJ C (λ_ _=>.inl rfl) n) _,?_⟩;have:=(h ds M Q E z).2;rw[<- hc]at this;exact this
 refine⟨λds M Q E z=>(h ds M Q E z).1,λA outer z args us ds Q E hr e0 hb r hs=>Y5 (key.eI A outer z args us ds (a6 Q) E hr e0 hb r ⟨Q,rfl,hs⟩) λr s q=>q.ret⟩
end N
end
section
set_option maxHeartbeats 1000000
namespace N
open PySem PySem.Spec PyProof.Rows L2
structure Ds where
 x:Str
 st:Stmt
 ps:List Str
def y3:Sp:=λ_ _ _ _=>False
def oA:List (Nat×Sp)->Nat->Sp
 |[],_=>y3
 |(j,sp)::r,i=>if i=j then sp else oA r i
structure lP (G:Gx) (x:Str) (st:Stmt) (f:Addr) (fd:FuncData) (ps:List Str):Prop where
 fn:∃n,dH G.K n n st f fd
 b:bT G.K fd ps []
 mg:G.mg x=some (.ref f)
theorem lP.kp {G:Gx}{x:Str}{st:Stmt}{f:Addr}{fd:FuncData}{ps:List Str} (d:lP G x st f fd ps):PySem.W.keepIn G.K (.ref f)=true:=d.fn.elim λ_ h=>h.kp
structure Wo where
 G:Gx
 ds:List Ds
 fG:List Str
 gv:List D
 fl:Addr->Str->Prop
 cls:List Str
 ca:Nat->Addr
 ms:List Ds
 mc:Nat->Addr
def Wo.nm (w:Wo):Nm:=⟨w.ds.map (·.x),w.fG,w.cls,w.ms.map (·.x)⟩
structure sL (K:PySem.W.Frag) (C:Addr) (d:Ds) (f:Addr) (fd:FuncData):Prop where
 fn:∃q:Str,dH K d.x q d.st f fd
 b:bT K fd d.ps []
 m:jw K C d.x f
 c:cZ K C
structure Wo.Ok (w:Wo):Prop where
 df:∀(i:Nat) (d:Ds),w.ds[i]?=some d->∃f fd,lP w.G d.x d.st f fd d.ps
 gv:∀i x,w.fG[i]?=some x->∃u,w.G.mg x=some u/\∀F:Fz,(∀b o,w.G.base.get? b=some o->F b=some (.dat o))->ab w.G F (w.gv.getD i .aj) u
 bl:∀x∈iS,w.G.mg x=none
 fl:∀C f,w.fl C f->cZ w.G.K C/\eh w.G.K C f
 mt:∀(i:Nat) (d:Ds),w.ms[i]?=some d->∃f fd,sL w.G.K (w.mc i) d f fd
 cl:∀(i:Nat) (x:Str),w.cls[i]?=some x->w.G.mg x=some (.ref (w.ca i))/\∀f,PySem.W.findIn w.G.K (.ref (w.ca i)) "__init__"=some (some (.ref f))->PySem.W.isFn w.G.K (.ref f)=true->Mk w.G.K (w.ca i) f
def FO (w:Wo) (i k:Nat) (sp:Sp):Prop:=∃d f fd,w.ds[i]?=some d/\lP w.G d.x d.st f fd d.ps/\bh w.G k f fd d.ps sp
theorem FO.mono {w:Wo}{i j k:Nat}{sp:Sp} (h:FO w i j sp) (hk:j<=k):FO w i k sp:=let ⟨d,f,fd,a,b,c⟩:=h;⟨d,f,fd,a,b,c.mono hk⟩
theorem FO.imp {w:Wo}{i k:Nat}{sp kZ:Sp} (h:FO w i k sp) (g:∀ds M Q E,kZ ds M Q E->sp ds M Q E):FO w i k kZ:=
 let ⟨d,f,fd,a,b,c⟩:=h
 ⟨d,f,fd,a,b,c.imp g⟩
theorem Ju {G:Gx}{k:Nat}{f:Addr}{fd:FuncData}{ps:List Str}:bh G k f fd ps y3:=⟨λ_ _ _ _ h=>h.elim,λ_ _ _ _ _ _ _ _ _ _ _ _ h=>h.elim⟩
def sM (w:Wo) (k:Nat):List (Nat×Sp)->Prop
 |[]=>True
 |(i,sp)::r=>(∃j,j<=k/\FO w i j sp)/\sM w k r
theorem iV {w:Wo} (O:w.Ok) {k i:Nat}{d:Ds} (hd:w.ds[i]?=some d):∀{cs:List (Nat×Sp)},sM w k cs->FO w i k (oA cs i)
 |[],_=>let ⟨f,fd,h⟩:=O.df i d hd;⟨d,f,fd,hd,h,Ju⟩
 |(j,sp)::r,h=>by
  unfold oA;by_cases e:i=j
  ·subst e;rw[if_pos rfl];obtain⟨⟨l,hl,h⟩,_⟩:=h;exact h.mono hl
  ·rw[if_neg e];exact iV O hd h.2
def dt (w:Wo) (i k:Nat) (sp:Sp):Prop:=∃d f fd,w.ms[i]?=some d/\sL w.G.K (w.mc i) d f fd/\bh w.G k f fd d.ps sp
theorem dt.mono {w:Wo}{i j k:Nat}{sp:Sp} (h:dt w i j sp) (hk:j<=k):dt w i k sp:=let ⟨d,f,fd,a,b,c⟩:=h;⟨d,f,fd,a,b,c.mono hk⟩
noncomputable def gu:List (Nat×Sp)->Nat->Option Sp
 |[],_=>none
 |(j,sp)::r,i=>if i=j then some sp else gu r i
def sN (w:Wo) (k:Nat):List (Nat×Sp)->Prop
 |[]=>True
 |(i,sp)::r=>(∃j,j<=k/\dt w i j sp)/\sN w k r
theorem y4 {w:Wo}{k i:Nat}{sp:Sp}:∀{cs:List (Nat×Sp)},sN w k cs->gu cs i=some sp->dt w i k sp
 |[],_,h=>by cases h
 |(j,s)::r,h,e=>by
  unfold gu at e;by_cases z:i=j
  ·subst z;rw[if_pos rfl]at e;cases e;obtain⟨⟨l,hl,h⟩,_⟩:=h;exact h.mono hl
  ·rw[if_neg z]at e;exact y4 h.2 e
structure a0 (w:Wo) where
 cs:List (Nat×Sp):=[]
 ms:List (Nat×Sp):=[]
 ci:List (Nat×Nat×Sp):=[]
 ca:Addr->Sp->Prop:=λ_ _=>False
noncomputable def oB (w:Wo):List (Nat×Nat×Sp)->Nat->Option (Addr×Sp)
 |[],_=>none
 |(j,_,sp)::r,i=>if i=j then some (w.ca j,sp) else oB w r i
noncomputable def a0.wd {w:Wo} (l:a0 w):Wd:=⟨oA l.cs,w.gv,w.fl,oB w l.ci,λi=>(gu l.ms i).map λsp=>(w.mc i,sp),l.ca⟩
def sP (w:Wo) (k:Nat):List (Nat×Nat×Sp)->Prop
 |[]=>True
 |(i,m,sp)::r=>(w.mc m=w.ca i/\w.ms[m]?.map (·.x)=some "__init__"/\∃j,j+1<=k/\dt w m j sp)/\sP w k r
theorem y5 {w:Wo}{k i:Nat}{C:Addr}{sp:Sp}:∀{cs:List (Nat×Nat×Sp)},sP w k cs->oB w cs i=some (C,sp)->C=w.ca i/\∃m j,w.mc m=w.ca i/\w.ms[m]?.map (·.x)=some "__init__"/\j+1<=k/\dt w m j sp
 |[],_,h=>by cases h
 |(j,m,s)::r,h,e=>by
  unfold oB at e;by_cases z:i=j
  ·subst z;rw[if_pos rfl]at e;cases e;obtain⟨⟨h1,h0,l,hl,h⟩,_⟩:=h;exact⟨rfl,m,l,h1,h0,hl,h⟩
  ·rw[if_neg z]at e;exact y5 h.2 e
structure a0.Ok {w:Wo} (l:a0 w) (k:Nat):Prop where
 cs:sM w k l.cs
 ms:sN w k l.ms:=by exact trivial
 ci:sP w k l.ci:=by exact trivial
 ca:∀f sp,l.ca f sp->cP w.G k f sp:=by exact λ_ _ z=>z.elim
theorem a0.Ok.env {w:Wo} (O:w.Ok) {l:a0 w}{k:Nat} (h:l.Ok k):lK w.nm l.wd k w.G where
 fn:=λj x hj=>by
  have lD:(w.ds.map (·.x))[j]?=some x:=hj;rw[XS]at lD;obtain⟨e,he,rfl⟩:=Option.map_eq_some_iff.mp lD;obtain⟨e',f',y6,h1,h2,h3⟩:=iV O he h.cs;rw[he]at h1;cases h1;exact⟨f',y6,e.ps,h3,h2.mg,h2.kp,h2.b⟩
 gv:=O.gv
 bl:=O.bl
 fl:=O.fl
 cl:=λi x C sp hi hc=>by
  obtain⟨e,m,j,h1,h0,h2,d,f,fd,h3,h4,h5⟩:=y5 h.ci hc;subst e;obtain⟨g1,g2⟩:=O.cl i x hi;rw[h3]at h0;have hx:d.x="__init__":=Ym h0;have hm:=h4.m;rw[hx,h1]at hm;exact⟨j,f,fd,d.ps,h2,g2 f hm.bV hm.fn,h5,g1,h4.b⟩
 mt:=λi x C sp hi hc=>by
  have f6:(gu l.ms i).map (λsp=>(w.mc i,sp))=some (C,sp):=hc;obtain⟨s,e1,e2⟩:=Option.map_eq_some_iff.mp f6;cases e2;obtain⟨d,f,fd,h3,h4,h5⟩:=y4 h.ms e1;have c6:(w.ms.map (·.x))[i]?=some x:=hi;rw[XS,h3]at c6;cases c6;exact⟨f,fd,d.ps,h4.c,h4.m,h5,h4.b⟩
 ca:=h.ca
theorem aL {w:Wo} (O:w.Ok) {nm:Nm} (hn:w.nm=nm) {k n:Nat}{ns:List Str}{b:B}{sp:Sp} (i:Nat) (d:Ds) (hd:w.ds[i]?=some d) (l:a0 w) (hl:l.Ok k) (S:aB ns d.ps (ag d.st)) (hc:aH nm n ns (ag d.st) (aw d.st)=b)
  (h:∀ds M Q E,sp ds M Q E->ds.length=d.ps.length/\b.w l.wd nm.af (aS Q) (start ns ds) M):FO w i (k+1) sp:=by
 subst hn;obtain⟨f,fd,F⟩:=O.df i d hd;obtain⟨n,Fn⟩:=F.fn;exact⟨d,f,fd,hd,F,y2 Fn S (hl.env O) hc h⟩
theorem iW {w:Wo} (O:w.Ok) {nm:Nm} (hn:w.nm=nm) {k n:Nat}{ns:List Str}{b:B}{sp:Sp} (i:Nat) (d:Ds) (hd:w.ms[i]?=some d) (l:a0 w) (hl:l.Ok k) (S:aB ns d.ps (ag d.st)) (hc:aH nm n ns (ag d.st) (aw d.st)=b)
  (h:∀ds M Q E,sp ds M Q E->ds.length=d.ps.length/\b.w l.wd nm.af (aS Q) (start ns ds) M):dt w i (k+1) sp:=by
 subst hn;obtain⟨f,fd,F⟩:=O.mt i d hd;obtain⟨q,Fn⟩:=F.fn;exact⟨d,f,fd,hd,F,y2 Fn S (hl.env O) hc h⟩
end N
end
section
namespace Att
open PySem PySem.W PySem.Calls PyProof.Rows
theorem Jv {P:Params}{h:Heap}:∀(ns:List Int) (vs:List Value),WellAll P h vs (ns.map WData.int)->IntsAre vs ns:=by
 intro ns
 induction ns with
 |nil=>
  intro vs w;rw[YA]at w;cases w;exact .nil
 |cons n ns ih=>
  intro vs w;rw[XJ]at w;cases w with
  |cons a b=>
   cases a;exact .cons _ _ (ih _ b)
theorem Jw {l:OpenLaw}{n:Nat} (hn:l.most=some n) {P:Params}{h:Heap}{args:List WData}{iL:List Value}
  (iX:l.row.toRowW.claim.pre args=true) (sw:WellAll P h iL args) :
  ∃a vs ns,iL=[Yj a]/\args=[WData.list (ns.map WData.int)]/\h.get? a=some { cls:=.type "list",data:=.seq vs.toArray }/\IntsAre vs ns/\ns.length<=n:=by
 have IN:WShape.hasAll [] args [.list .int]=true:=(pre_splitW iX).1;have hc:l.pre.holds [] { args:=args }=true:=(pre_splitW iX).2;obtain⟨d,r,rfl,h1,h2⟩:=hasAllW_cons IN;obtain rfl:=hasAllW_nil h2;obtain⟨xs,rfl,h3⟩:=hasW_list h1;obtain⟨ns,rfl⟩:=items_int h3;have hlen:ns.length<=n:=by
  unfold OpenLaw.pre at hc;have h4:(WTm.not (.lt (.lit (.int (n:Int))) (.len (.arg 0)))).holds [] { args:=[.list (ns.map .int)] }=true:=by
   have h4:=(holds_andW hc).1;rw[hn]at h4;exact h4
  have h5:=condW_of h4 (w_not (w_lt w_lit (w_len_list (w_arg rfl))));rw[Xx]at h5;refine Nat.le_of_not_lt λq=>?_;have q':(n:Int)<((ns.length:Nat):Int):=by lia
  first
   |(rw[decide_eq_true q']at h5;exact absurd h5 (by decide))
   |(simp at h5;lia)
 cases sw with
 |cons w1 w2=>
  cases w2;cases w1 with
  |list ho q8=>exact⟨_,_,ns,rfl,rfl,ho,Jv ns _ q8,hlen⟩
theorem Jx (l:OpenLaw) (args:List WData):l.row.toRowW.claim.post args (.bool true) args=true:=
 postW_of (r:=l.row.toRowW) (X:=(true == true))
  (show WShape.has [] (.bool true) .bool=true by first |rfl |decide |simp [WShape.has,WShape.arms,WShape.armsAll])
  (show (WTm.eq .res (.lit (.bool true))).value [] { args:=args,res:=some (.bool true),after:=args }=some (.bool (true == true)) from w_eq_bool (w_res rfl) w_lit) rfl
theorem Jy {l:OpenLaw}{n:Nat}{q:Program}{loose:List Str}{XP:(Str->Option Value)->Heap->Prop}{YP:World->Heap->Prop}{d:DefRec}
  (hn:l.most=some n) (jG:d.params.defaults=[])
  (call:∀(w:World) (s₀ s₁:Shared) (mg mb:Str->Option Value) (fa:Addr) (o:Obj) (pm cd doc:Value) (a:Addr) (vs:List Value) (ns:List Int),
   Ground q loose [] XP w s₀ mg mb s₁.heap->YP w s₁.heap ->
   s₁.heap.get? fa=some o->o.data=.func (docDef d.name d.params d.body d.scope pm cd doc)->s₁.heap.CodeRec cd d.name->mg d.name=some (.ref fa) ->
   s₁.heap.get? a=some { cls:=.type "list",data:=.seq vs.toArray }->IntsAre vs ns->ns.length<=n->s₁.gens=#[] ->
   codeAny (model l.prog w) callerA (.call (.ref fa) ⟨[.ref a],[]⟩) (λr s'=>r=.ok (.ret (.bool true))/\OldK s₁.heap s'.heap/\s'.os=s₁.os/\AllBare s'.gens) s₁) :
  WalkO q loose XP YP l.row.toRowW d [] (λf vs=>PySem.call f vs):=by
 intro w s₀ s₁ mg mb G Y fa o pm cd doc UH kV ho hd dF hD hmg hg args iL as iX Th Ti sw Tj;obtain rfl:UH=.none:=Dflts.none hD jG;obtain rfl:kV=.none:=Dflts.noKw hD;obtain⟨a,vs,ns,rfl,rfl,sK,sQ,hlen⟩:=Jw hn iX sw;refine enter_call (Y5 (call w s₀ s₁ mg mb fa o pm cd doc a vs ns G Y ho (fd_plain hd) dF hmg sK sQ hlen hg) λr s' hq=>?_);obtain⟨rfl,h2,h3,h4⟩:=hq;exact⟨.inl ⟨.bool true,.bool true,[],rfl,λ_=>rfl,.bool true,Jx l _,λ_=>⟨List.Pairwise.nil,λ_ hm=>(nomatch hm)⟩⟩,h2,h3,h4⟩
end Att
namespace L2
open PySem PySem.Spec PyProof.Rows
end L2
end
section
set_option maxHeartbeats 1000000
namespace N
open PySem PySem.Spec PyProof.Rows L2
abbrev gw:=List (Addr×Pos×Str)
noncomputable def bG (ts:gw):Fz:=λb=>(ts.lookup b).map λq=>.tab q.1 q.2
noncomputable def er (h:Heap) (ts:gw):Fz:=λb=>match ts.lookup b with
 |some q=>some (.tab q.1 q.2)
 |none=>(h.get? b).map Fo.dat
noncomputable abbrev g6 (h:Heap) (ts:gw):Heap:=PySem.W.hideAll h (ts.map (·.1))
theorem lQ {ts:gw}{b:Addr} (h:b ∉ ts.map (·.1)):ts.lookup b=none:=by
 rw[List.lookup_eq_none_iff];rintro⟨a,q⟩ hm;have:b≠a:=λz=>h (z ▸ List.mem_map.mpr ⟨_,hm,rfl⟩);simpa using this
theorem et:∀{ts:gw}{b:Addr}{q:Pos×Str},ts.lookup b=some q->b∈ts.map (·.1)
 |[],_,_,h=>by cases h
 |(a,p)::r,b,q,h=>by
  by_cases e:b=a
  ·rw[e];exact XH
  ·rw[YC,beq_false_of_ne e]at h;exact XF _ (et h)
theorem Jz {h:Heap}{ts:gw}{b:Addr}{o:Obj} (e:(g6 h ts).get? b=some o):h.get? b=some o/\b ∉ ts.map (·.1):=
 ⟨PySem.W.of_hideAll _ e,λhm=>by rw[PySem.W.hideAll_none _ hm]at e;cases e⟩
theorem JA {P:Program}{w:World}{K:PySem.W.Frag}{mg mb:Str->Option Value}{k:Nat}{fa a:Addr}{fd:FuncData}{x:Str}{sp:Sp}{s₁:Shared}{vs:List Value}{ns:List Int}{ts:gw}
  (KX:K.In s₁.heap) (hT:∀T∈ts.map (·.1),s₁.heap.get? T=some (PySem.W.tabObj #[])) (lR:∀T∈ts.map (·.1),K.lookup T=none/\∃c,PySem.W.CodeHd s₁.heap c T)
  (bv:s₁.heap.Ns mainGlobals mg) (hb:s₁.heap.Ns builtinsNs mb) (JB:∀x:Str,x≠"__name__"->mb x=bootBuiltins x) (JC:s₁.heap.NoLimit) (hg:s₁.gens=#[])
  (ha:s₁.heap.get? a=some { cls:=.type "list",data:=.seq vs.toArray }) (hi:IntsAre vs ns) (hl:ns.length<=sizeLine) (hr:bF k callerA)
  (F:∀base:Heap,K.In base->base.Ns mainGlobals mg->bh ⟨P,w,K,mg,base,bG ts⟩ k fa fd [x] sp) (JD:∀(s:Shared) (u:Value),BindsTo s fd ⟨[u],[]⟩ [(x,u)])
  (jp:sp [.lst (ns.map D.int)] (λ_=>none) (λd _=>d=.bl true) X0) :
  codeAny (model P w) callerA (.call (.ref fa) ⟨[.ref a],[]⟩) (λr s'=>r=.ok (.ret (.bool true))/\OldK s₁.heap s'.heap/\s'.os=s₁.os/\AllBare s'.gens) s₁:=by
 have d0:∀b o,s₁.heap.get? b=some o->b ∉ ts.map (·.1)->er s₁.heap ts b=some (.dat o):=λb o e n=>by unfold er;rw[lQ n];show (s₁.heap.get? b).map Fo.dat=_;rw[e];rfl
 have t0:∀b q,ts.lookup b=some q->er s₁.heap ts b=some (.tab q.1 q.2):=λb q e=>by unfold er;rw[e]
 have y7:∀b f,er s₁.heap ts b=some f->(∃q,ts.lookup b=some q/\f=.tab q.1 q.2)\/∃o,s₁.heap.get? b=some o/\f=.dat o:=λb f e=>by
  unfold er at e;split at e
  ·rename_i q hq;cases e;exact .inl ⟨q,hq,rfl⟩
  ·obtain⟨o,h1,rfl⟩:=Option.map_eq_some_iff.mp e;exact .inr ⟨o,h1,rfl⟩
 have nd:∀{b:Addr}{m:Str->Option Value},s₁.heap.Ns b m->b ∉ ts.map (·.1):=λ{b m} ⟨o,es,ep,e,d,r⟩ hm=>by
  rw[hT b hm]at e;cases e;cases d
 have on:∀{b:Addr}{m:Str->Option Value},s₁.heap.Ns b m->(g6 s₁.heap ts).Ns b m:=λ{b m} h=>let n:=nd h;let ⟨o,es,ep,e,d,r⟩:=h;⟨o,es,ep,PySem.W.hideAll_get _ e n,d,r⟩
 have y8:K.In (g6 s₁.heap ts):=λb o e=>PySem.W.hideAll_get _ (KX b o e) λhm=>by rw[(lR b hm).1]at e;cases e
 have hok:aK ⟨P,w,K,mg,g6 s₁.heap ts,bG ts⟩ (er s₁.heap ts) (λ_=>none) s₁.heap:=⟨λb f e=>by
  rcases y7 b f e with ⟨q,h1,rfl⟩ |⟨o,h1,rfl⟩
  ·exact⟨_,hT b (et h1)⟩
  ·exact h1,λ_ _ e=>(nomatch e),λT p q e=>by
  rcases y7 T _ e with ⟨q',h1,h2⟩ |⟨o,h1,h2⟩
  ·exact .inl (hT T (et h1))
  ·cases h2⟩
 have bs:Bs ⟨P,w,K,mg,g6 s₁.heap ts,bG ts⟩ (er s₁.heap ts):=⟨λb o e=>let ⟨h1,h2⟩:=Jz e;d0 b o h1 h2,λb f e=>by
  obtain⟨q,h1,rfl⟩:=Option.map_eq_some_iff.mp (show (ts.lookup b).map _=_ from e);exact t0 b q h1⟩
 have e0:dV ⟨P,w,K,mg,g6 s₁.heap ts,bG ts⟩ callerA [] ⟨er s₁.heap ts,λ_=>none,s₁⟩:=⟨rfl,⟨y8,on bv,⟨mb,on hb,JB⟩,let ⟨mc,h1,h2⟩:=JC;⟨mc,on h1,h2⟩⟩,bs,λ_ h=>(nomatch h),hok,.of_eq hg⟩
 have ri:∀{ns:List Int}{vs:List Value},IntsAre vs ns->ah ⟨P,w,K,mg,g6 s₁.heap ts,bG ts⟩ (er s₁.heap ts) (ns.map D.int) vs:=λh=>by
  induction h with
  |nil=>exact .nil
  |cons n t r ih=>exact .cons ck ih
 have na:a ∉ ts.map (·.1):=λhm=>by rw[hT a hm]at ha;cases ha
 have VB:ab ⟨P,w,K,mg,g6 s₁.heap ts,bG ts⟩ (er s₁.heap ts) (.lst (ns.map D.int)) (.ref a):=m6 (n:=0) (d0 a _ ha na) (by rw[hi.length];exact hl) (ri hi);refine Y5 ((F _ y8 (on bv)).eI callerA [] ⟨er s₁.heap ts,λ_=>none,s₁⟩ ⟨[.ref a],[]⟩ [.ref a] [.lst (ns.map D.int)] _ _ hr e0 (JD s₁ (.ref a)) (.cons VB .nil) jp) λr s' h=>?_;cases r with
 |error e=>obtain⟨_,_,_,z,_⟩:=h;exact z.elim
 |ok fl=>
  cases fl with
  |next=>exact h.elim
  |brk=>exact h.elim
  |cont=>exact h.elim
  |ret u=>
   obtain⟨d,z',⟨rfl,l,ok,os,bare⟩,rd,e⟩:=h;have e':d=.bl true:=e;subst e';rw[ab]at rd;subst rd;have kp:∀b o,s₁.heap.get? b=some o->asItWas s₁.heap z'.s.heap b o/\∃o',z'.s.heap.get? b=some o':=λb o q=>by
    by_cases hm:b∈ts.map (·.1)
    ·have e0:=hT b hm;rw[q]at e0;cases e0;obtain⟨⟨T,p,s⟩,hq,rfl⟩:=List.mem_map.mp hm;obtain⟨⟨p',s'⟩,hq'⟩:∃ q,ts.lookup T=some q:=by
      cases e:ts.lookup T with
      |some q=>exact⟨q,rfl⟩
      |none=>rw[List.lookup_eq_none_iff]at e;exact absurd (e _ hq) (by simp)
     obtain⟨c,C⟩:=(lR T hm).2;have it:=(C.tab q).isCodeTable;rcases ok.tb T _ _ (l T _ (t0 T _ hq')) with y |⟨c',o',y,_⟩
     ·exact⟨.inr (.inl ⟨it,rfl,#[],#[],rfl,by simpa using y⟩),_,y⟩
     ·exact⟨.inr (.inl ⟨it,rfl,#[],_,rfl,by simpa using y⟩),_,y⟩
    ·have:=ok.fz b _ (l b _ (d0 b o q hm));exact⟨.inl this,o,this⟩
   exact⟨rfl,⟨λb o q=>(kp b o q).1,λb o q=>(kp b o q).2⟩,os,bare⟩
theorem walk_of {l:PySem.W.OpenLaw}{n k:Nat}{q:Program}{loose:List Str}{XP:(Str->Option Value)->Heap->Prop}{YP:World->Heap->Prop}{d:DefRec}{K:Params->PySem.W.Frag}{sp:World->Sp}{x:Str}{ts:gw}
  (hn:l.most=some n) (nC:n<=sizeLine) (jG:d.params.defaults=[]) (hr:bF k callerA)
  (WG:∀(w:World) (h:Heap),YP w h->(K w.params).In h/\∀T∈ts.map (·.1),h.get? T=some (PySem.W.tabObj #[]))
  (lR:∀(w:World),∀T∈ts.map (·.1),(K w.params).lookup T=none/\∃c,PySem.W.codeHdIn (K w.params) c T=true)
  (F:∀(w:World) (mg:Str->Option Value) (fa:Addr) (h:Heap),(K w.params).In h->h.Ns mainGlobals mg->mg d.name=some (.ref fa) ->
   ∃fd:FuncData,(∀(s:Shared) (u:Value),BindsTo s fd ⟨[u],[]⟩ [(x,u)])/\∀base:Heap,(K w.params).In base->base.Ns mainGlobals mg->bh ⟨l.prog,w,K w.params,mg,base,bG ts⟩ k fa fd [x] (sp w))
  (jp:∀(w:World) (ns:List Int),ns.length<=n->sp w [.lst (ns.map D.int)] (λ_=>none) (λd _=>d=.bl true) X0) :
  PySem.W.WalkO q loose XP YP l.row.toRowW d [] (λf vs=>PySem.call f vs):=by
 refine Att.Jy hn jG λw s₀ s₁ mg mb fa o pm cd doc a vs ns G Y ho hd dF hmg sK sQ hlen hg=>?_;obtain⟨KX,hT⟩:=WG w _ Y;obtain⟨fd,hb,hF⟩:=F w mg fa _ KX G.T.g hmg;exact JA KX hT (λT hm=>⟨(lR w T hm).1,let ⟨c,e⟩:=(lR w T hm).2;⟨c,PySem.W.codeHd_of_K KX e⟩⟩) G.T.g G.T.b G.T.builtins G.T.nolimit hg sK sQ (XG hlen nC) hr hF hb (jp w ns hlen)
end N
end
section
set_option maxHeartbeats 1000000
namespace N
open PySem PySem.Spec PyProof.Rows L2
theorem aK.oE {G:Gx}{F:Fz}{M:Mp}{h h':Heap}{T c:Addr}{p:Pos}{q:Str}{o:Obj} (x:aK G F M h) (hT:F T=some (.tab p q)) (k:∀b,b≠T->bw h h' b) (e:h'.get? T=some { cls:=.none,data:=.fields #[rawInt p.line,rawInt p.col,.ref c] }) (hp:h.objs.size<=c) (ho:h'.get? c=some o) (hc:eJ o q):aK G (up F c (.dat o)) M h':=by
 have hF:=x.cz hp;have Tl:T≠c:=di hT hF;refine⟨λb f r=>?_,λb u r=>?_,λT' p' q' r=>?_⟩
 ·by_cases hb:b=c
  ·subst hb;rw[av]at r;cases r;exact ho
  ·rw[aF hb]at r;by_cases jY:b=T
   ·subst jY;rw[hT]at r;cases r;exact⟨_,e⟩
   ·exact (x.fz b f r).go (k b jY)
 ·have hb:b≠c:=di r (x.dj hp);obtain⟨h1,h2⟩:=x.ob b u r;refine⟨by rw[aF hb];exact h1,h2.go (Le.new hF).d (λd hd=>k d ?_) λ_ e=>e⟩;rintro rfl;rcases hd with rfl |hd
  ·rw[hT]at h1;cases h1
  ·have:=(x.ob _ _ hd).1;rw[hT]at this;cases this
 ·by_cases hb:T'=c
  ·subst hb;rw[av]at r;cases r
  ·rw[aF hb]at r;by_cases jY:T'=T
   ·subst jY;rw[hT]at r;cases r;exact .inr ⟨c,o,e,av,hc⟩
   ·rcases x.tb T' p' q' r with y |⟨c',o',h1,h2,h3⟩
    ·exact .inl (k T' jY _ y)
    ·exact .inr ⟨c',o',k T' jY _ h1,Le.new hF _ _ h2,h3⟩
theorem ae.oE {X:Cx} {τ:St} {z:Z}{h':Heap}{t:Nat}{T c:Addr}{p:Pos}{q:Str}{o:Obj} (I:ae X τ z) (hT:z.F T=some (.tab p q)) (k:∀ b,b≠T->bw z.s.heap h' b) (e:h'.get? T=some { cls:=.none,data:=.fields #[rawInt p.line,rawInt p.col,.ref c] }) (hp:z.s.heap.objs.size<=c) (ho:h'.get? c=some o) (hc:eJ o q) :
  Le z.F (up z.F c (.dat o))/\ae X τ ⟨up z.F c (.dat o),z.M,{ z.s with heap:=h',toks:=t }⟩:=by
 have l:Le z.F (up z.F c (.dat o)):=Le.new (I.hok.cz hp);refine⟨l,I.go l (I.hok.oE hT k e hp ho hc) (λb hb=>⟨(k b ?_).s,I.dk hb,aF (XR (XW (I.fY hb) hp))⟩) rfl I.bare⟩;rintro rfl;rcases hb with rfl |⟨x,hx⟩
 ·rw[I.free.1]at hT;cases hT
 ·rcases (I.cell x b hx).2.2 with r |⟨_,o',r⟩
  ·rw[r.2]at hT;cases hT
  ·rw[r]at hT;cases hT
structure eu (G:Gx) (c T:Addr) (p:Pos) (q:Str):Prop where
 cd:PySem.W.codeHdIn G.K c T=true
 bi:∃(bm:Addr) (ob:Obj),G.mg "__builtins__"=some (.ref bm)/\G.K.lookup bm=some ob/\bm≠builtinsNs/\bm≠mainGlobals/\bm≠T/\ob.cls=.type "module"/\ob.dict=some builtinsNs/\ob.data=.plain
 Un:mainGlobals≠T
 tab:G.ex T=some (.tab p q)
abbrev e9:=List (Str×Addr)
theorem y9 {h:Heap}{c:Addr}{q:Str} (x:h.CodeRec (.ref c) q):∃o,h.get? c=some o/\eJ o q:=by
 obtain⟨d,o,vs,t,e,e1,e2,e3⟩:=x;cases e;exact⟨o,e1,vs,t,e2,e3⟩
section
variable {X:Cx} {τ:St} {z:Z}
theorem JE {clos:e9}{params:Arguments}{body:Expr}{scope:Scope}{pos:Pos}{c T:Addr}{R:Value->Shared->Prop} (I:ae X τ z) (L:eu X.G c T pos (X.env.qual++"<lambda>")) (sR:defaultsOf params X.env=([],[])) (bn:closureFor scope X.env=pure clos) (lS:X.env.code=.ref c)
  (k:∀f c' o' ctv z',Le z.F z'.F->ae X τ z'->z'.M=z.M->z'.F f=some (.dat (PySem.W.kla_obj "<lambda>" (X.env.qual++"<lambda>") params body scope clos ((X.G.mg "__name__").getD .none) c' ctv))->z'.F c'=some (.dat o')->eJ o' (X.env.qual++"<lambda>")->R (.ref f) z'.s) :
  W X (eval (.Lambda params body scope pos) X.env) R z.s:=by
 obtain⟨cd,⟨bm,ob,b1,b2,TH,b4,Uo,Up,Uq,Ur⟩,Un,tab⟩:=L;have hg:z.s.heap.Ns mainGlobals X.G.mg:=I.ok.bC.dE.keeps I.bk;have C:PySem.W.CodeHd z.s.heap c T:=PySem.W.codeHd_of_K I.bW cd;have hb:z.s.heap.BuiltinsAt X.G.mg T:=⟨bm,ob,b1,TH,b4,Uo,I.bW _ _ b2,Up,Uq,Ur⟩;have hT:z.F T=some (.tab pos (X.env.qual++"<lambda>")):=I.bs.x T _ tab;have fin:∀ {c':Addr}{o':Obj}{ctv:Value}{z1:Z} (tk:Nat),Le z.F z1.F->ae X τ z1->z1.M=z.M->z1.F c'=some (.dat o')->eJ o' (X.env.qual++"<lambda>") ->
   R (.ref z1.s.heap.objs.size) { z1.s with heap:=z1.s.heap.push (PySem.W.kla_obj "<lambda>" (X.env.qual++"<lambda>") params body scope clos ((X.G.mg "__name__").getD .none) c' ctv),toks:=tk }:=λ{c' o' ctv z1} tk l1 I1 T6 hc hr=>by
  have I2:=I1.jm (f:=.dat (PySem.W.kla_obj "<lambda>" (X.env.qual++"<lambda>") params body scope clos ((X.G.mg "__name__").getD .none) c' ctv)) (t:=tk) (λb o e=>Xw _ e) (XC _) (XA _ rfl);have l2:=Le.new (f:=.dat (PySem.W.kla_obj "<lambda>" (X.env.qual++"<lambda>") params body scope clos ((X.G.mg "__name__").getD .none) c' ctv)) (I1.hok.cz (XC z1.s.heap.objs.size));exact k _ c' o' ctv _ (l1.tr l2) I2 T6 av (l2 _ _ hc) hr
 refine PySem.W.kla_eval sR ?_;rcases I.hok.tb T _ _ hT with hP |⟨c',o',hP,hc,hr⟩
 ·refine PySem.W.kla_makeFunction bn I.ok.dE hg lS C hP trivial rfl Un hb λc' ctv h' tk ext sS fC rec tab=>?_;obtain⟨o',ho,hr⟩:=y9 rec;obtain⟨l1,I1⟩:=I.oE (t:=tk) hT (λb z u e=>ext b u z e) (by simpa using tab) sS ho hr;exact fin tk l1 I1 rfl av hr
 ·refine PySem.W.kla_makeFunctionHit (cv:=.ref c') bn I.ok.dE hg lS C hP ?_ ?_ hb λctv h' tk k hs=>?_
  ·simp [TriplesOk,rawInt]
  ·simp [codeAmong,rawInt]
  exact fin (z1:=⟨z.F,z.M,{ z.s with heap:=h',toks:=tk }⟩) tk Le.rfl (I.bX k) rfl hc hr
theorem JF {clos:e9}{name:Str}{params:Arguments}{body:List Stmt}{scope:Scope}{pos:Pos}{c T:Addr}{i:Nat}{R:Flow->Shared->Prop} (I:ae X τ z) (L:eu X.G c T pos (qualnameIn X.env name name)) (hN:X.N.Nodup) (hi:X.N[i]?=some name) (hx:h7 X.env.scope name) (JG:X.fn name=true\/X.env.scope.names.lookup name=some .local)
  (sT:params.defaults=[]) (sU:params.kw_defaults=[]) (ha:annTrees params none X.env=[]) (bn:closureFor scope X.env=pure clos) (lS:X.env.code=.ref c)
  (k:∀f c' o' doc ctv z',Le z.F z'.F->ae X (τ.set i (some (.ref f))) z'->z'.M=z.M->z'.F f=some (.dat (PySem.W.fnMade name (qualnameIn X.env name name) params body scope clos doc ((X.G.mg "__name__").getD .none) c' ctv))->z'.F c'=some (.dat o')->eJ o' (qualnameIn X.env name name)->R .next z'.s) :
  W X (exec (.FunctionDef name params body [] none [] scope none name pos) X.env) R z.s:=by
 obtain⟨cd,⟨bm,ob,b1,b2,TH,b4,Uo,Up,Uq,Ur⟩,Un,tab⟩:=L;have hg:z.s.heap.Ns mainGlobals X.G.mg:=I.ok.bC.dE.keeps I.bk;have C:PySem.W.CodeHd z.s.heap c T:=PySem.W.codeHd_of_K I.bW cd;have hb:z.s.heap.BuiltinsAt X.G.mg T:=⟨bm,ob,b1,TH,b4,Uo,I.bW _ _ b2,Up,Uq,Ur⟩;refine PySem.W.nestDef_K sT sU ha ?_;generalize sV:qualnameIn X.env name name=qual at *;have hT:z.F T=some (.tab pos qual):=I.bs.x T _ tab;have fin:∀ {c':Addr}{o':Obj}{doc ctv:Value}{z1:Z} (tk:Nat),Le z.F z1.F->ae X τ z1->z1.M=z.M->z1.F c'=some (.dat o')->eJ o' qual ->
   W X (storeName X.env name (.ref z1.s.heap.objs.size)) (λ_ s=>R .next s) { z1.s with heap:=z1.s.heap.push (PySem.W.fnMade name qual params body scope clos doc ((X.G.mg "__name__").getD .none) c' ctv),toks:=tk }:=λ{c' o' doc ctv z1} tk l1 I1 T6 hc hr=>by
  have I2:=I1.jm (f:=.dat (PySem.W.fnMade name qual params body scope clos doc ((X.G.mg "__name__").getD .none) c' ctv)) (t:=tk) (λb o e=>Xw _ e) (XC _) (XA _ rfl);have l2:=Le.new (f:=.dat (PySem.W.fnMade name qual params body scope clos doc ((X.G.mg "__name__").getD .none) c' ctv)) (I1.hok.cz (XC z1.s.heap.objs.size));generalize JH:PySem.W.fnMade name qual params body scope clos doc ((X.G.mg "__name__").getD .none) c' ctv=VC at *;have rf:ab X.G (up z1.F z1.s.heap.objs.size (.dat VC)) (.ref z1.s.heap.objs.size) (.ref z1.s.heap.objs.size):=by rw[ab]
  refine mX (Q:=λ_ s=>R .next s) I2 hN hi hx JG rf λs' I3=>?_;have:=k z1.s.heap.objs.size c' o' doc ctv ⟨up z1.F z1.s.heap.objs.size (.dat VC),z1.M,s'⟩ (l1.tr l2) I3 T6;rw[JH]at this;exact this av (l2 _ _ hc) hr
 rcases I.hok.tb T _ _ hT with hP |⟨c',o',hP,hc,hr⟩
 ·refine PySem.W.makeFunction_K bn I.ok.dE hg lS C hP trivial rfl Un hb λc' ctv doc h' tk ext sS fC rec tab=>?_;obtain⟨o',ho,hr⟩:=y9 rec;obtain⟨l1,I1⟩:=I.oE (t:=tk) hT (λb z u e=>ext b u z e) (by simpa using tab) sS ho hr;have q:=fin (z1:=⟨up z.F c' (.dat o'),z.M,{ z.s with heap:=h',toks:=tk }⟩) (doc:=doc) (ctv:=ctv) tk l1 I1 rfl av hr;exact q
 ·refine PySem.W.makeFunction_hit (cv:=.ref c') bn I.ok.dE hg lS C hP ?_ ?_ hb λctv doc h' tk k hs=>?_
  ·simp [TriplesOk,rawInt]
  ·simp [codeAmong,rawInt]
  have q:=fin (z1:=⟨z.F,z.M,{ z.s with heap:=h',toks:=tk }⟩) (doc:=doc) (ctv:=ctv) tk Le.rfl (I.bX k) rfl hc hr;exact q
end
end N
end
section
set_option maxHeartbeats 1000000
namespace N
open PySem L2
theorem ak {Q:QK}{d:D}{M:Mp} (h:Q d M):a6 Q d M:=⟨M,d,.rfl,.rfl,h⟩
theorem cF {M:Mp}{p:Addr}{a b:MO}:up (up M p a) p b=up M p b:=funext λx=>by
 by_cases h:x=p
 ·rw[h,av,av]
 ·rw[aF h,aF h,aF h]
noncomputable def MO.sW:MO->Bool
 |.own _=>false
 |_=>true
theorem sX {M:Mp}{p:Addr}{o:MO} (hp:M p=none) (ho:o.sW=true):cy M (up M p o):=⟨λa u e=>by rw[aF (di e hp)];exact e,λa b e q=>by
 by_cases hb:b=p
 ·subst hb;rw[av]at q;cases q;cases ho
 ·rw[aF hb]at q;exact q⟩
theorem JI {Q:QK}{M:Mp}{p:Addr}{kvs:List (Key×D)} (hp:M p=none) (h:Q (.ao (kvs.map (·.1)) (kvs.map (·.2))) M):a6 Q (.ref p) (up M p (.ao kvs)):=⟨M,_,sX hp rfl,.ao av hp .rfl,h⟩
theorem y' {Q:QK}{M:Mp}{p:Addr}{o:MO}{d:D} (hp:M p=none) (ho:o.sW=true) (h:Q d M):a6 Q d (up M p o):=⟨M,d,sX hp ho,.rfl,h⟩
theorem aY {c:Prop} [Decidable c] {a b:Prop} (h:c) (q:a):if c then a else b:=by rw[if_pos h];exact q
theorem ay {c:Prop} [Decidable c] {a b:Prop} (h:¬c) (q:b):if c then a else b:=by rw[if_neg h];exact q
theorem ew {ok:Mp->Prop}{g:G}{tc:DT}{te:DE} {τ:St} {k:List D->Mp->Prop} (J:List D->List D->Mp->Prop) (fin:∀ ys M,J [] ys M->ok M/\ys.length<sizeLine/\k ys M)
  (step:∀x xs ys M,J (x::xs) ys M->ok M/\ys.length<sizeLine/\∀N:List D->Mp->Prop,(∀gn M',J xs gn M'->N gn M')->cm g x τ M fun τ1 M0=>tc τ1 M0 λb M1=>if b=true then te τ1 M1 λy M2=>N (ys++[y]) M2 else N ys M1) :
  ∀xs ys M,J xs ys M->c7 ok g tc te τ k xs ys M
 |[],ys,M,h=>fin ys M h
 |x::xs,ys,M,h=>
  let ⟨h1,h2,h3⟩:=step x xs ys M h
  ⟨h1,h2,h3 (λys M=>c7 ok g tc te τ k xs ys M) λgn M' q=>ew J fin step xs gn M' q⟩
theorem ey {ok:Mp->Prop}{g:DG}{tb:DS}{e:En} (J:List D->St->Mp->Prop) (fin:∀ τ M,J [] τ M->ok M/\e.nx τ M)
  (step:∀x xs τ M,J (x::xs) τ M->ok M/\∀N:St->Mp->Prop,(∀ τ' M',J xs τ' M'->N τ' M')->g x τ M fun τ1 M1=>tb { e with nx:=N,ct:=N,bk:=e.nx } τ1 M1):∀xs τ M,J xs τ M->f9 ok g tb e xs τ M
 |[],τ,M,h=>fin τ M h
 |x::xs,τ,M,h=>
  let ⟨h1,h2⟩:=step x xs τ M h
  ⟨h1,h2 (f9 ok g tb e xs) fun τ' M' q=>ey J fin step xs τ' M' q⟩
theorem iY {α:Type} {ok:Mp->Prop}{g:G}{te:DE} {τ:St} {k:List D->Mp->Prop}{M:Mp} (f:α->D) (h:α->D) (xs:List α) (hok:ok M) (hl:xs.length<sizeLine)
  (one:∀x∈xs,∀N:D->Mp->Prop,N (h x) M->cm g (f x) τ M fun τ1 M0=>te τ1 M0 N) (fin:k (xs.map h) M):c7 ok g gO te τ k (xs.map f) [] M:=by
 refine ew (λrest ys M'=>M'=M/\∃a b,xs=a++b/\rest=b.map f/\ys=a.map h) ?_ ?_ _ _ _ ⟨rfl,[],xs,rfl,rfl,rfl⟩
 ·rintro ys M' ⟨rfl,a,b,e1,e2,rfl⟩;cases b with
  |cons x r=>cases e2
  |nil=>rw[XX]at e1;subst e1;exact⟨hok,by rw[Xx];exact hl,fin⟩
 ·rintro x rest ys M' ⟨rfl,a,b,e1,e2,rfl⟩;cases b with
  |nil=>cases e2
  |cons y r=>
   cases e2;refine⟨hok,by rw[Xx];rw[e1,XU]at hl;lia,λN hN=>?_⟩;exact one y (by rw[e1];simp) (λy M2=>N (a.map h++[y]) M2) (hN _ _ ⟨rfl,a++[y],r,by rw[e1];simp,rfl,by simp⟩)
end N
end
section
set_option maxHeartbeats 1000000
namespace N
open PySem PySem.Spec PyProof.Rows L2
structure lT (ps fr:List Str) (scope:Scope):Prop where
 kind:scope.kind=.function
 UD:scope.isCoroutine=false
 jv:scope.isGenerator=false
 oF:∀y∈scope.names,y.2≠.cell
 free:∀y∈scope.names,y.2=.free->y.1∈fr
 JJ:∀x∈fr,scope.names.lookup x=some .free
 sY:∀x∈ps,scope.names.lookup x=some .local
theorem za:∀{ps:List Str}{us:List Value}{i:Nat}{x:Str}{u:Value},ps.Nodup->ps[i]?=some x->us[i]?=some u->(ps.zip us).reverse.lookup x=some u
 |[],_,_,_,_,_,h,_=>by simp at h
 |_::_,[],_,_,_,_,_,h=>by simp at h
 |p::ps,w::us,0,x,u,nd,h1,h2=>by
  simp only[List.getElem?_cons_zero,Option.some.injEq]at h1 h2;subst h1 h2;rw[YN,YX,List.lookup_append];have:(ps.zip us).reverse.lookup p=none:=by
   rw[List.lookup_eq_none_iff];rintro⟨a,b⟩ ir;have ha:=(Zd (List.mem_reverse.mp ir)).1;have:p≠a:=λz=>(List.nodup_cons.mp nd).1 (z ▸ ha);simpa using this
  rw[this];simp
 |p::ps,w::us,i+1,x,u,nd,h1,h2=>by
  rw[YN,YX,List.lookup_append,za (List.nodup_cons.mp nd).2 (by simpa using h1) (by simpa using h2)];rfl
noncomputable def sZ (qual:Str) (scope:Scope) (clos:e9) (L f:Addr) (cd:Value):Env:=newEnv scope L mainGlobals clos (qual++".<locals>.") (some f) cd none builtinsNs
noncomputable def oG (G:Gx) (N:List Str) (qual:Str) (scope:Scope) (clos:e9) (f:Addr) (cd:Value) (A:Around) (outer:List Env) (s:Shared) (E:XQ):Cx where
 G:=G
 A:=A.deeper (sZ qual scope clos s.heap.objs.size f cd)
 N:=N
 os:=s.os
 env:=sZ qual scope clos s.heap.objs.size f cd
 outer:=outer
 stk:=sZ qual scope clos s.heap.objs.size f cd::outer
 fn:=λ_=>false
 calm:=true
 x:=λx _ M=>E x M
structure jZ (G:Gx) (clos:e9) (ws:List D):Prop where
 len:ws.length=clos.length
 bV:∀(i:Nat) x a w,clos[i]?=some (x,a)->ws[i]?=some w->∃o u,G.ex a=some (.pin o)/\o.data=.cell (some u)/\ab G G.ex w u
 nd:(clos.map (·.1)).Nodup
 inj:∀x y c,clos.lookup x=some c->clos.lookup y=some c->x=y
theorem s6:∀{clos:e9}{i:Nat}{p:Str×Addr},(clos.map (·.1)).Nodup->clos[i]?=some p->clos.lookup p.1=some p.2
 |[],_,_,_,h=>by simp at h
 |q::r,0,p,_,h=>by
  simp only[List.getElem?_cons_zero,Option.some.injEq]at h;subst h;simp [List.lookup]
 |q::r,i+1,p,nd,h=>by
  rw[XJ,ZA]at nd;have h':r[i]?=some p:=by simpa using h
  have ne:(p.1 == q.1)=false:=by
   have:p.1≠q.1:=λz=>nd.1 (by rw[<- z];exact List.mem_map.mpr ⟨p,Yq h',rfl⟩);simpa using this
  show (match p.1 == q.1 with |true=>some q.2 |false=>r.lookup p.1)=some p.2
  rw[ne];exact s6 nd.2 h'
theorem jZ.cell {G:Gx}{clos:e9}{ws:List D} (h:jZ G clos ws) {x:Str}{a:Addr} (e:clos.lookup x=some a):∃o u,G.ex a=some (.pin o)/\o.data=.cell (some u):=by
 obtain⟨i,hi,Us⟩:=List.mem_iff_getElem.mp (PySem.mem_of_lookup e);obtain⟨o,u,h1,h2,_⟩:=h.bV i x a (ws[i]'(by rw[h.len];exact hi)) (by rw[XB hi,Us]) (XB _);exact⟨o,u,h1,h2⟩
theorem zb {G:Gx}{ps ls:List Str}{qual:Str}{scope:Scope}{clos:e9}{f:Addr}{cd:Value}{A:Around}{outer:List Env}{z:Z}{E:XQ}{us:List Value}{ds ws:List D}{h':Heap}{tk:Nat}
  (S:lT ps (clos.map (·.1)) scope) (hd:A.handled=none) (e0:dV G A outer z) (hl:ds.length=ps.length) (JK:ps.Nodup) (r:ah G z.F ds us) (TN:jZ G clos ws)
  (bv:h'.Ns z.s.heap.objs.size (λx=>(ps.zip us).reverse.lookup x)) (d1:Za z.s.heap.objs.size (z.s.heap.push { cls:=.type "frame",data:=.dict #[] }) h') :
  ae (oG G ((ps++clos.map (·.1))++ls) qual scope clos f cd A outer z.s E) ((ds.map some++ws.map some)++ls.map λ_=>none) ⟨z.F,z.M,{ z.s with heap:=h',toks:=tk }⟩:=by
 have hk:∀b o,z.s.heap.get? b=some o->h'.get? b=some o:=λb o e=>by
  rw[d1.2 b (XR (XO e))];exact Xw _ e
 have pin:∀{a o},G.ex a=some (.pin o)->z.F a=some (.pin o)/\h'.get? a=some o:=λ{a o} e=>⟨e0.bs.x a _ e,hk _ _ (e0.hok.fz a _ (e0.bs.x a _ e))⟩;refine⟨⟨e0.bC,S.kind,rfl,rfl,TN.inj,λy hy=>?_,λ_=>hd,Around.frames_deeper e0.frames,.inr ⟨rfl,rfl⟩⟩,e0.bs,rfl,e0.bare,e0.cj,⟨_,bv,λi y v h1 h2 h3=>?_⟩,λy c h=>?_,⟨e0.hok.cz (XC _),e0.hok.dj (XC _)⟩,e0.hok.keep λb _ o q=>hk b o q,?_⟩
 ·have hy:scope.names.lookup y=some .cell\/scope.names.lookup y=some .free:=hy;rcases hy with hy |hy
  ·exact absurd rfl (S.oF _ (PySem.mem_of_lookup hy))
  ·obtain⟨p,hp,e⟩:=List.mem_map.mp (S.free _ (PySem.mem_of_lookup hy) rfl);obtain⟨i,hi,Us⟩:=List.mem_iff_getElem.mp hp;have:=s6 TN.nd (XB hi);rw[Us,e]at this;exact⟨_,this⟩
 ·have h1:((ps++clos.map (·.1))++ls)[i]?=some y:=h1;have lN:(ps++clos.map (·.1)).length=(ds.map some++ws.map some).length:=by rw[XU,XU,Xx,Xx,Xx,hl,TN.len]
  have JL:i<(ds.map some++ws.map some).length:=by
   refine Nat.lt_of_not_le λz=>?_;rw[Yp z,XS]at h2;cases e:ls[i-(ds.map some++ws.map some).length]? with
   |none=>rw[e]at h2;cases h2
   |some a=>rw[e]at h2;cases h2
  rw[Yr (by lia)]at h1;rw[Yr JL]at h2;by_cases hi:i<ps.length
  ·rw[Yr hi]at h1;rw[Yr (by rw[Xx];lia),XS]at h2;cases e:ds[i]? with
   |none=>rw[e]at h2;cases h2
   |some a=>
    rw[e]at h2;cases h2;obtain⟨u,hu,rv⟩:=r.get e;exact⟨u,rv,.inl ⟨S.sY y (Yq h1),za JK h1 hu⟩⟩
  ·rw[Yp (by lia),XS]at h1;rw[Yp (by rw[Xx];lia),XS,Xx,hl]at h2;cases e:ws[i-ps.length]? with
   |none=>rw[e]at h2;cases h2
   |some a=>
    rw[e]at h2;cases h2;cases e1:clos[i-ps.length]? with
    |none=>rw[e1]at h1;cases h1
    |some p=>
     rw[e1]at h1;cases h1;obtain⟨o,u,q1,q2,q3⟩:=TN.bV _ p.1 p.2 v e1 e;have lk:=s6 TN.nd e1;exact⟨u,q3.up e0.bs.x.d,.inr ⟨.inr (S.JJ _ (List.mem_map.mpr ⟨p,Yq e1,rfl⟩)),p.2,lk,_,(pin q1).2,q2⟩⟩
 ·obtain⟨o,u,q1,q2⟩:=TN.cell (show clos.lookup y=some c from h);obtain⟨p1,p2⟩:=pin q1;refine⟨⟨_,o,p2,q2⟩,?_,.inr ⟨rfl,o,p1⟩⟩;cases e:z.M c with
  |none=>rfl
  |some m=>have:=(e0.hok.ob c m e).1;rw[p1]at this;cases this
 ·show _=((ps++clos.map (·.1))++ls).length;rw[XU,XU,XU,XU,Xx,Xx,Xx,Xx,hl,TN.len]
theorem zc {G:Gx}{z:Z}{c:Addr}{o:Obj}{q:Str} (bs:Bs G z.F) (ok:aK G z.F z.M z.s.heap) (h:G.ex c=some (.dat o)) (r:eJ o q):z.s.heap.CodeRec (.ref c) q:=by
 obtain⟨vs,t,h1,h2⟩:=r;exact⟨c,o,vs,t,rfl,ok.fz c _ (bs.x c _ h),h1,h2⟩
theorem JM {G:Gx}{m:Nm}{W:Wd}{k n:Nat}{f c:Addr}{o':Obj}{qual:Str}{params:Arguments}{body:Expr}{scope:Scope}{clos:e9}{pm ctv:Value}{ps:List Str}{ws:List D}{sp:Sp}{e:E}
  (hf:G.ex f=some (.dat (PySem.W.kla_obj "<lambda>" qual params body scope clos pm c ctv))) (hc:G.ex c=some (.dat o')) (hr:eJ o' qual) (S:lT ps (clos.map (·.1)) scope) (TN:jZ G clos ws) (nd:(ps++clos.map (·.1)).Nodup) (En:lK m W k G) (s9:aX m n (ps++clos.map (·.1)) scope body=e)
  (h:∀ds M Q E,sp ds M Q E->ds.length=ps.length/\(e.w W m.af).1 (ds.map some++ws.map some) M (a6 Q)):bh G (k+1) f (PySem.W.kla_fn "<lambda>" qual params body scope clos pm (.ref c) ctv) ps sp:=by
 refine⟨λds M Q E z=>(h ds M Q E z).1,λA outer z args us ds Q E room e0 ce r hs=>?_⟩;obtain⟨hl,hq⟩:=h _ _ _ _ hs;have ho:z.s.heap.get? f=some _:=e0.hok.fz f _ (e0.bs.x f _ hf);refine Y5 (R:=CR G z (a6 Q) E) ?_ λr s q=>q.ret;refine PySem.W.kla_callFunE room.depth ho rfl S.UD S.jv rfl (zc e0.bs e0.hok hc hr) (ce _ _ _ _ ?_);refine wpAny_newFunctionEnv S.oF (λy hy=>S.sY _ (Zd (show (y.1,y.2)∈ps.zip us from hy)).1) (λh' bv d1=>?_) S.kind;have hk:∀b o,z.s.heap.get? b=some o->h'.get? b=some o:=λb o e=>by
  rw[d1.2 b (XR (XO e))];exact Xw _ e
 refine⟨(e0.bC.jn.keeps e0.bk).keeps hk,PySem.W.kla_codeExpr ?_⟩;have I:=zb (ls:=[]) (qual:=qual) (f:=f) (cd:=.ref c) (E:=E) (tk:=z.s.toks+(ps.zip us).length) S room.hd e0 hl (List.nodup_append.mp nd).1 r TN bv d1;rw[XX,YA,XX]at I;have C:bA m W k (ps++clos.map (·.1)) scope (oG G (ps++clos.map (·.1)) qual scope clos f (.ref c) A outer z.s E):=⟨rfl,rfl,nd,rfl,room.deeper _,En⟩;rw[<- s9]at hq;exact Zu ((iU n C body).e _ _ _ _ I hq λd z1 u l J rd q=>(⟨d,z1,⟨rfl,l,J.hok,J.os,J.bare⟩,rd,q⟩:CR G z (a6 Q) E (.ok (.ret u)) z1.s)) (λ_ _ h=>h) λe s' hs=>hs.no.elim
theorem JN {G:Gx}{m:Nm}{W:Wd}{k n:Nat}{f c:Addr}{o':Obj}{name qual:Str}{params:Arguments}{body:List Stmt}{scope:Scope}{clos:e9}{doc pm ctv:Value}{ps ls:List Str}{ws:List D}{sp:Sp}{b:B}
  (hf:G.ex f=some (.dat (PySem.W.fnMade name qual params body scope clos doc pm c ctv))) (hc:G.ex c=some (.dat o')) (hr:eJ o' qual) (S:lT ps (clos.map (·.1)) scope) (TN:jZ G clos ws) (nd:((ps++clos.map (·.1))++ls).Nodup) (En:lK m W k G)
  (s9:aH m n ((ps++clos.map (·.1))++ls) scope body=b)
  (h:∀ds M Q E,sp ds M Q E->ds.length=ps.length/\b.w W m.af (aS Q) ((ds.map some++ws.map some)++ls.map λ_=>none) M):bh G (k+1) f (PySem.W.fnX name qual params body scope clos .none .none doc pm none (.ref c) ctv) ps sp:=by
 refine⟨λds M Q E z=>(h ds M Q E z).1,λA outer z args us ds Q E room e0 ce r hs=>?_⟩;obtain⟨hl,hq⟩:=h _ _ _ _ hs;have ho:z.s.heap.get? f=some _:=e0.hok.fz f _ (e0.bs.x f _ hf);refine Y5 (R:=CR G z (a6 Q) E) ?_ λr s q=>q.ret;refine codeAny_call_function room.depth ho rfl S.UD S.jv rfl (zc e0.bs e0.hok hc hr) (ce _ _ _ _ ?_);refine wpAny_newFunctionEnv S.oF (λy hy=>S.sY _ (Zd (show (y.1,y.2)∈ps.zip us from hy)).1) (λh' bv d1=>?_) S.kind;have hk:∀b o,z.s.heap.get? b=some o->h'.get? b=some o:=λb o e=>by
  rw[d1.2 b (XR (XO e))];exact Xw _ e
 refine⟨(e0.bC.jn.keeps e0.bk).keeps hk,codeAny_func ?_⟩;have I:=zb (ls:=ls) (qual:=qual) (f:=f) (cd:=.ref c) (E:=E) (tk:=z.s.toks+(ps.zip us).length) S room.hd e0 hl (List.nodup_append.mp (List.nodup_append.mp nd).1).1 r TN bv d1;have C:bA m W k ((ps++clos.map (·.1))++ls) scope (oG G ((ps++clos.map (·.1))++ls) qual scope clos f (.ref c) A outer z.s E):=⟨rfl,rfl,nd,rfl,room.deeper _,En⟩;have pZ:∀y,loc scope y=true->(oG G ((ps++clos.map (·.1))++ls) qual scope clos f (.ref c) A outer z.s E).fn y=true\/scope.names.lookup y=some .local:=λy hy=>by
  rcases oy hy with e |e
  ·exact .inr e
  ·exact absurd rfl (S.oF _ (PySem.mem_of_lookup e))
 rw[<- s9]at hq;refine Zu (gZ (sJ C pZ n) body _ _ _ (λfl s'=>match fl with |.ret u=>CR G z (a6 Q) E (.ok (.ret u)) s' |.next=>CR G z (a6 Q) E (.ok (.ret .none)) s' |_=>False) I hq
  ⟨fun τ z1 l J q=>⟨.aj,z1,⟨rfl,l,J.hok,J.os,J.bare⟩,by rw[ab],q⟩,λd τ z1 u l J rd q=>⟨d,z1,⟨rfl,l,J.hok,J.os,J.bare⟩,rd,q⟩,λ_ _ _ _ q=>q,λ_ _ _ _ q=>q⟩) (λfl s' hs=>?_) λe s' hs=>hs.no.elim
 cases fl <;> first |exact hs |exact False.elim hs
end N
end
section
set_option maxHeartbeats 1000000
namespace N
open PySem PySem.Spec PyProof.Rows L2
noncomputable def Wo.at (w:Wo) (e:Fz):Wo:={ w with G:={ w.G with ex:=e } }
theorem Wo.Ok.at {w:Wo} (O:w.Ok) (e:Fz):(w.at e).Ok where
 df:=λi d h=>let ⟨f,fd,h1,h2,h3⟩:=O.df i d h;⟨f,fd,h1,h2,h3⟩
 gv:=λi x h=>let ⟨u,h1,h2⟩:=O.gv i x h;⟨u,h1,λF hF=>(h2 F hF).xe e⟩
 bl:=O.bl
 fl:=O.fl
 mt:=O.mt
 cl:=O.cl
section
variable {X:Cx} {τ:St} {z:Z}
theorem zd {G:Gx}{k:Nat}{f:Addr}{fd:FuncData}{ps:List Str}{sp:Sp}{cls:Value} (hf:G.ex f=some (.dat { cls:=cls,data:=.func fd })) (hc:cls=.type "function") (F:bh G k f fd ps sp) (hb:∀K,bT K fd ps []):cP G k f sp:=by
 subst hc;refine⟨fd,ps,[(f,{ cls:=.type "function",data:=.func fd })],F,by simp [PySem.W.keepIn,List.lookup],hb _,λz _ bs ok a o q=>?_⟩;by_cases y:a=f
 ·subst y;simp [List.lookup]at q;rw[<- q];exact ok.fz a _ (bs.x a _ hf)
 ·have:(a == f)=false:=by simpa using y
  simp [List.lookup,this]at q
theorem JO {clos:e9}{ws:List D} (I:ae X τ z) (len:ws.length=clos.length) (nd:(clos.map (·.1)).Nodup) (h:∀ (i:Nat) x a w,clos[i]?=some (x,a)->ws[i]?=some w->X.env.cells.lookup x=some a/\X.fn x=true/\X.env.scope.names.lookup x=some .cell/\∃ j:Nat,X.N[j]?=some x/\τ[j]?=some (some w)) :
  jZ { X.G with ex:=a3 z.F (X.aZ z.s.heap) } clos ws:=by
 have cl:∀x c,clos.lookup x=some c->X.env.cells.lookup x=some c:=λx c e=>by
  obtain⟨i,hi,Us⟩:=List.mem_iff_getElem.mp (PySem.mem_of_lookup e);exact (h i x c (ws[i]'(by rw[len];exact hi)) (by rw[XB hi,Us]) (XB _)).1
 refine⟨len,λi x a w e1 e2=>?_,nd,λx y c e1 e2=>I.ok.inj x y c (cl _ _ e1) (cl _ _ e2)⟩;obtain⟨h1,h2,h3,j,h4,h5⟩:=h i x a w e1 e2;obtain⟨m,hn,hl⟩:=I.loc;obtain⟨u,r,k⟩:=hl j x w h4 h5 (.inr (.inl h3));rcases k with k |⟨_,c,e,o,WH,WI⟩
 ·have q:X.env.scope.names.lookup x=some .local:=k.1;rw[h3]at q;cases q
 ·rw[h1]at e;cases e;refine⟨o,u,?_,WI,(r.up I.cA.d).xe _⟩;show a3 z.F (X.aZ z.s.heap) a=_;refine dC ?_;unfold Cx.aZ;rw[if_neg (I.jq h1),if_pos ⟨x,h2,h1⟩,WH];rfl
end
theorem ze {l:Expr} (hl:b0 l=true:=by rfl):∀{as:List Expr},ba as=true->ba (as++[l])=true
 |[],_=>by show (b0 l && true)=true;rw[hl];rfl
 |a::as,h=>by
  have h':(b0 a && ba as)=true:=h;rw[XD]at h';show (b0 a && ba (as++[l]))=true;rw[h'.1,ze hl h'.2];rfl
theorem JP {X:Cx}{m:Nm}{W:Wd}{f:Expr->E}{j0:Expr} (JQ:b0 j0=true) {as:List Expr} (hs:ba as=true) (g:∀ e∈as,PE X e ((f e).w W m.af).1) (pos:Pos) (τ:St):∀ (z:Z) (P:List D->Mp->Prop) (R:List Value->Shared->Prop),ae X τ z->(L.of (as.map f)).w W m.af τ z.M P ->
  (∀ds z1 us,Le z.F z1.F->ae X τ z1->ah X.G z1.F ds us->P ds z1.M->N.W X (eval j0 X.env) (λv s=>R (us++[v]) s) z1.s)->N.W X (spliced (backTo pos (starEach (as++[j0]) X.env))) R z.s:=by
 induction as with
 |nil=>
  intro z P R I h k;have h0:P [] z.M:=h;have k0:=k [] z [] Le.rfl I .nil h0;show N.W X (spliced (backTo pos (starEach [j0] X.env))) R z.s;rw[bL JQ];refine YS (Zu k0 (λv s q=>?_) λ_ _ q=>q);exact Zo q
 |cons a as ih=>
  intro z P R I h k;have h':(b0 a && ba as)=true:=hs;rw[XD]at h';have h1:((f a).w W m.af).1 τ z.M λx M1=>(L.of (as.map f)).w W m.af τ M1 λxs M2=>P (x::xs) M2:=h;show N.W X (spliced (backTo pos (starEach (a::(as++[j0])) X.env))) R z.s;rw[bL h'.1];show N.W X (spliced ((false,eval a X.env)::backTo pos (starEach (as++[j0]) X.env))) R z.s;refine YS (g a XH τ z _ _ I h1 λx z1 v l1 I1 r1 q1=>?_);refine ih h'.2 (λe he=>g e (XF _ he)) z1 (λxs M=>P (x::xs) M) (λvs s=>R (v::vs) s) I1 q1 λds z2 us l2 I2 r2 q2=>?_;exact k (x::ds) z2 (v::us) (l1.tr l2) I2 (.cons (r1.up l2.d) r2) q2
theorem JR {w:Wo} (O:w.Ok) {nm:Nm} (hn:w.nm=nm) {k kl n nl:Nat}{ns lps:List Str}{as:List Expr}{params:Arguments}{body:Expr}{scope:Scope}{g:Str}{gp lp TP rp:Pos}{el:E}{es:L}{sp lU:Sp} (i ig:Nat) (d:Ds) (hd:w.ds[i]?=some d)
  (eS:aw d.st=[.Return (some (.Call (.Name g gp) (as++[.Lambda params body scope lp]) [] TP)) rp])
  (LM:∀f fd q,dH w.G.K q q d.st f fd->w.G.mg d.x=some (.ref f)->∃c T,fd.code=.ref c/\eu w.G c T lp (q++".<locals>."++"<lambda>"))
  (l:a0 w) (hl:l.Ok k) (S:aB ns d.ps (ag d.st)) (bn:∀q L f cd,closureFor scope (envOfC q (ag d.st) L f cd)=pure []) (sR:∀q L f cd,defaultsOf params (envOfC q (ag d.st) L f cd)=([],[]))
  (hg:a5 (ag d.st) g=true) (cN:(g == ("__debug__" : Str))=false) (tf:nm.b3[ig]?=some g) (bv:ba as=true) (has:L.of (as.map (aX nm n ns (ag d.st)))=es)
  (SL:lT lps [] scope) (tj:lps.Nodup) (tm:∀q pm c ctv K,bT K (PySem.W.kla_fn "<lambda>" q params body scope [] pm c ctv) lps []) (eg:aX nm nl lps scope body=el)
  (HL:∀e,Le w.G.ex e->∃ll:a0 (w.at e),ll.Ok kl/\∀ds M Q E,lU ds M Q E->ds.length=lps.length/\(el.w ll.wd nm.af).1 (ds.map some) M (a6 Q))
  (H:∀ds M Q E,sp ds M Q E->ds.length=d.ps.length/\es.w l.wd nm.af (start ns ds) M λvs M1=>∀e f,Le w.G.ex e->cP (w.at e).G (kl+1) f lU->∃d3,FO (w.at e) ig k d3/\d3 (vs++[.ref f]) M1 (a6 Q) X0):FO w i (k+1) sp:=by
 subst hn;obtain⟨f,fd,F⟩:=O.df i d hd;obtain⟨q,Fn⟩:=F.fn;obtain⟨c,T,hc,LK⟩:=LM f fd q Fn F.mg;obtain⟨oc,od,kV,doc,pm,TC,an,ct,ch,rfl,lk,dF⟩:=Fn.ex;obtain rfl:an=.ref c:=hc;have key:bh w.G (k+1) f (PySem.W.fnOf q q (ej d.st) (aw d.st) (ag d.st) .none kV doc pm TC (.ref c) ct) d.ps λds M R E=>∃Q,R=a6 Q/\sp ds M Q E:=by
  refine qC lk dF S (λds M R E ⟨Q,_,z⟩=>(H ds M Q E z).1) λA outer s M ds R E hr ⟨Q,e,z⟩=>?_;subst e;obtain⟨_,hq⟩:=H ds M Q E z;have C:bA w.nm l.wd k ns (ag d.st) (cc w.G ns q (ag d.st) f (.ref c) A outer s E):=⟨rfl,rfl,S.nd,rfl,hr,hl.env O⟩;rw[eS];refine⟨λen τ M=>es.w l.wd w.nm.af τ M λvs M1=>∀e f,Le w.G.ex e->cP (w.at e).G (kl+1) f lU->∃d3,FO (w.at e) ig k d3/\d3 (vs++[.ref f]) M1 en.rt X0,?_,hq⟩;refine vA fun τ z en R I hq KK=>?_;refine wpAny_Return_some ?_
  -- mU Tn def
  have lV:=tf;rw[show w.nm.b3=w.ds.map (·.x) from rfl,XS]at lV;obtain⟨Uc,lW,rfl⟩:=Option.map_eq_some_iff.mp lV;obtain⟨VD,JS,Fg⟩:=O.df ig Uc lW;refine Yw (ib I (C.a5 hg) Fg.mg cN ?_);have pa:=iT (X:=cc w.G ns q (ag d.st) f (.ref c) A outer s E) (f:=aX w.nm n ns (ag d.st)) (W:=l.wd) (m:=w.nm) bv λe _=>(iU n C e).e;rw[has]at pa;have go:W (cc w.G ns q (ag d.st) f (.ref c) A outer s E) (spliced (backTo TP (starEach (as++[.Lambda params body scope lp]) (cc w.G ns q (ag d.st) f (.ref c) A outer s E).env))) (λvs s1=>w.G.K.In s1.heap/\W (cc w.G ns q (ag d.st) f (.ref c) A outer s E) (call (.ref VD) vs) (λv s'=>R (.ret v) s') s1) z.s:=by
   refine JP (X:=cc w.G ns q (ag d.st) f (.ref c) A outer s E) (f:=aX w.nm n ns (ag d.st)) (W:=l.wd) (m:=w.nm) rfl bv (λe _=>(iU n C e).e) TP τ z _ _ I (by rw[has];exact hq) λds z1 us l1 I1 r1 q1=>?_;refine JE (clos:=[]) I1 LK (sR _ _ _ _) (bn _ _ _ _) rfl λf' c' o' ctv z2 l2 I2 T6 h1 h2 h3=>?_;refine⟨I2.bW,?_⟩;have lx:Le w.G.ex (a3 z2.F ((cc w.G ns q (ag d.st) f (.ref c) A outer s E).aZ z2.s.heap)):=I2.bs.x.tr I2.cA;have hh:cP (w.at (a3 z2.F ((cc w.G ns q (ag d.st) f (.ref c) A outer s E).aZ z2.s.heap))).G (kl+1) f' lU:=by
    obtain⟨ll,tt,hb⟩:=HL _ lx;refine zd (I2.cA f' _ h1) rfl (JM (m:=w.nm) (W:=ll.wd) (k:=kl) (n:=nl) (ws:=[]) (I2.cA f' _ h1) (I2.cA c' _ h2) h3 SL ⟨rfl,(by intro _ _ _ _ e;cases e),List.nodup_nil,(by intro _ _ _ e;cases e)⟩ (by simpa using tj) (tt.env (O.at _)) (by simpa using eg) λds M Q E z=>?_) (λK=>tm _ _ _ _ K);obtain⟨h1,h2⟩:=hb ds M Q E z;exact⟨h1,by simpa using h2⟩
   obtain⟨d3,FG,hs⟩:=q1 _ f' lx hh;obtain⟨tu,tw,JT,e1,e2,e3⟩:=FG;have lX:w.ds[ig]?=some tu:=e1;rw[lW]at lX;cases lX;have e4:w.G.mg Uc.x=some (.ref tw):=e2.mg;rw[Fg.mg]at e4;cases e4;refine nK (x:=a3 z2.F ((cc w.G ns q (ag d.st) f (.ref c) A outer s E).aZ z2.s.heap)) (bg:=[]) (ds:=[]) (vs:=ds++[.ref f']) (Q:=en.rt) e3 C.room e2.b gY fI I2 Le.rfl I2.bW ((r1.up l2.d).append (.cons (by rw[ab]) .nil)) (by rw[XX,T6];exact hs) λd z3 u l3 I3 r3 q3=>KK.rt d τ z3 u (l1.tr (l2.tr l3)) I3 r3 q3
  cases as with
  |nil=>exact PySem.W.callWith_K (h₀:=w.G.base) I.ok.bC.fv Fg.kp go rfl rfl
  |cons a as=>
   have h':(b0 a && ba as)=true:=bv;rw[XD]at h';exact PySem.W.callWith_K (h₀:=w.G.base) I.ok.bC.fv Fg.kp go (bL h'.1) (ei (ze rfl h'.2))
 refine⟨d,f,_,hd,F,⟨λds M Q E z=>(H ds M Q E z).1,λA outer z args us ds Q E hr e0 hb r hs=>Y5 (key.eI A outer z args us ds (a6 Q) E hr e0 hb r ⟨Q,rfl,hs⟩) λr s q=>q.ret⟩⟩
end N
end
section
set_option maxHeartbeats 1000000
namespace N
open PySem PySem.Spec PyProof.Rows L2
theorem JU {w:Wo} (O:w.Ok) {nm:Nm} (hn:w.nm=nm) {k kp n np j ci:Nat}{ns g7 ls:List Str}{es:List Expr}{e0:Expr}{params:Arguments}{body:List Stmt}{scope:Scope}{name x g:Str}{gp zg TP rp:Pos}{b:B}{t:L}{sp:Sp}{lY:D->Sp} (i ig:Nat) (d:Ds) (hd:w.ds[i]?=some d)
  (eS:aw d.st=[.FunctionDef name params body [] none [] scope none name zg,.Return (some (.Call (.Name g gp) (e0::es) [] TP)) rp])
  (LM:∀f fd q,dH w.G.K q q d.st f fd->w.G.mg d.x=some (.ref f)->∃c T,fd.code=.ref c/\eu w.G c T zg (q++".<locals>."++name))
  (l:a0 w) (hl:l.Ok k) (S:aB ns d.ps (ag d.st)) (hj:ns[j]?=some name) (JV:loc (ag d.st) name=true) (JW:ci≠j) (JX:ns[ci]?=some x) (zh:ci<d.ps.length) (JY:(ag d.st).names.lookup x=some .cell)
  (sV:∀q L f cd,qualnameIn (envOfC q (ag d.st) L f cd) name name=q++".<locals>."++name)
  (bn:∀q L f cd,closureFor scope (envOfC q (ag d.st) L f cd)=pure [(x,L+1)]) (JZ:∀L:Addr,(cellsFrom (L+1) (ag d.st).names []).lookup x=some (L+1)) (sT:params.defaults=[]) (sU:params.kw_defaults=[]) (ha:∀env,annTrees params none env=[])
  (hg:a5 (ag d.st) g=true) (cN:(g == ("__debug__" : Str))=false) (tf:nm.b3[ig]?=some g) (bv:ba (e0::es)=true) (has:L.of ((e0::es).map (aX nm n ns (ag d.st)))=t)
  (SL:lT g7 [x] scope) (tj:((g7++[x])++ls).Nodup) (tm:∀q clos doc pm c ctv K,bT K (PySem.W.fnX name q params body scope clos .none .none doc pm none c ctv) g7 []) (eg:aH nm np ((g7++[x])++ls) scope body=b)
  (HL:∀e v,Le w.G.ex e->∃ll:a0 (w.at e),ll.Ok kp/\∀ds M Q E,lY v ds M Q E->ds.length=g7.length/\b.w ll.wd nm.af (aS Q) ((ds.map some++[some v])++ls.map λ_=>none) M)
  (H:∀ds M Q E,sp ds M Q E->ds.length=d.ps.length/\∀f,t.w l.wd nm.af ((start ns ds).set j (some (.ref f))) M λvs M1=>∀e v,Le w.G.ex e->ds[ci]?=some v->cP (w.at e).G (kp+1) f (lY v)->∃d3,FO (w.at e) ig k d3/\d3 vs M1 (a6 Q) X0):FO w i (k+1) sp:=by
 subst hn;obtain⟨f,fd,F⟩:=O.df i d hd;obtain⟨q,Fn⟩:=F.fn;obtain⟨c,T,hc,LK⟩:=LM f fd q Fn F.mg;obtain⟨oc,od,kV,doc,pm,TC,an,ct,ch,rfl,lk,dF⟩:=Fn.ex;obtain rfl:an=.ref c:=hc;have key:bh w.G (k+1) f (PySem.W.fnOf q q (ej d.st) (aw d.st) (ag d.st) .none kV doc pm TC (.ref c) ct) d.ps λds M R E=>∃Q,R=a6 Q/\sp ds M Q E:=by
  refine qC lk dF S (λds M R E ⟨Q,_,z⟩=>(H ds M Q E z).1) λA outer s M ds R E hr ⟨Q,e,z⟩=>?_;subst e;obtain⟨hlen,hq⟩:=H ds M Q E z;have C:bA w.nm l.wd k ns (ag d.st) (cc w.G ns q (ag d.st) f (.ref c) A outer s E):=⟨rfl,rfl,S.nd,rfl,hr,hl.env O⟩;obtain⟨v,hv⟩:∃v,ds[ci]?=some v:=⟨_,XB (by rw[hlen];exact zh)⟩;rw[eS];refine⟨λen τ M=>τ[ci]?=some (some v)/\∀f,t.w l.wd w.nm.af (τ.set j (some (.ref f))) M λvs M1=>∀e v,Le w.G.ex e->ds[ci]?=some v->cP (w.at e).G (kp+1) f (lY v)->∃d3,FO (w.at e) ig k d3/\d3 vs M1 en.rt X0,?_,?_,hq⟩
  case refine_2=>
   unfold start;rw[Yr (by rw[Xx,hlen];exact zh),XS,hv];rfl
  intro τ z en R I hq KK;obtain⟨hτ,hq⟩:=hq;refine wpAny_execs_cons (JF (clos:=[(x,s.heap.objs.size+1)]) I (by rw[show qualnameIn (cc w.G ns q (ag d.st) f (.ref c) A outer s E).env name name=_ from sV _ _ _ _];exact LK) S.nd hj (oy JV) (.inl rfl) sT sU (ha _) (bn _ _ _ _) rfl λf' c' o' zi ctv z1 l1 I1 T6 h1 h2 h3=>?_);have lV:=tf;rw[show w.nm.b3=w.ds.map (·.x) from rfl,XS]at lV;obtain⟨Uc,lW,rfl⟩:=Option.map_eq_some_iff.mp lV;obtain⟨VD,JS,Fg⟩:=O.df ig Uc lW;have pa:=iT (X:=cc w.G ns q (ag d.st) f (.ref c) A outer s E) (f:=aX w.nm n ns (ag d.st)) (W:=l.wd) (m:=w.nm) bv λe _=>(iU n C e).e;rw[has]at pa;have h':(b0 e0 && ba es)=true:=bv;rw[XD]at h';have pr:∀Rf:Flow->Shared->Prop,(∀u s,R (.ret u) s->Rf (.ret u) s)->W (cc w.G ns q (ag d.st) f (.ref c) A outer s E) (exec (.Return (some (.Call (.Name Uc.x gp) (e0::es) [] TP)) rp) (cc w.G ns q (ag d.st) f (.ref c) A outer s E).env) Rf z1.s:=λRf J0=>by
   refine wpAny_Return_some ?_;refine Yw (ib I1 (C.a5 hg) Fg.mg cN ?_);refine PySem.W.callWith_K (h₀:=w.G.base) I1.ok.bC.fv Fg.kp (pa TP _ z1 _ _ I1 (by rw[T6];exact hq f') λvs z2 us l2 I2 r2 q2=>⟨I2.bW,?_⟩) (bL h'.1) (ei h'.2);have lx:Le w.G.ex (a3 z2.F ((cc w.G ns q (ag d.st) f (.ref c) A outer s E).aZ z2.s.heap)):=I2.bs.x.tr I2.cA;have hh:cP (w.at (a3 z2.F ((cc w.G ns q (ag d.st) f (.ref c) A outer s E).aZ z2.s.heap))).G (kp+1) f' (lY v):=by
    obtain⟨ll,tt,hb⟩:=HL _ v lx;have k8:=I2.cA f' _ (l2 f' _ h1);rw[show qualnameIn (cc w.G ns q (ag d.st) f (.ref c) A outer s E).env name name=_ from sV _ _ _ _]at k8 h3;have TN:=JO (clos:=[(x,s.heap.objs.size+1)]) (ws:=[v]) I2 rfl (by simp) λi y a u e1 e2=>by
     cases i with
     |succ i=>cases e1
     |zero=>
      cases e1;cases e2;exact⟨JZ _,rfl,JY,ci,JX,by rw[List.getElem?_set_ne (Y0 JW)];exact hτ⟩
    exact zd k8 rfl (JN (m:=w.nm) (W:=ll.wd) (k:=kp) (n:=np) k8 (I2.cA c' _ (l2 c' _ h2)) h3 SL TN tj (tt.env (O.at _)) eg hb) λK=>tm _ _ _ _ _ _ K
   obtain⟨d3,FG,hs⟩:=q2 _ v lx hv hh;obtain⟨tu,tw,JT,e1,e2,e3⟩:=FG;have lX:w.ds[ig]?=some tu:=e1;rw[lW]at lX;cases lX;have e4:w.G.mg Uc.x=some (.ref tw):=e2.mg;rw[Fg.mg]at e4;cases e4;exact nK (x:=a3 z2.F ((cc w.G ns q (ag d.st) f (.ref c) A outer s E).aZ z2.s.heap)) (bg:=[]) (ds:=[]) (Q:=en.rt) e3 C.room e2.b gY fI I2 Le.rfl I2.bW r2 (by rw[XX];exact hs) λd z3 u l3 I3 r3 q3=>J0 _ _ (KK.rt d _ z3 u (l1.tr (l2.tr l3)) I3 r3 q3)
  exact wpAny_execs_cons (pr _ λu s h=>h)
 refine⟨d,f,_,hd,F,⟨λds M Q E z=>(H ds M Q E z).1,λA outer z args us ds Q E hr e0 hb r hs=>Y5 (key.eI A outer z args us ds (a6 Q) E hr e0 hb r ⟨Q,rfl,hs⟩) λr s q=>q.ret⟩⟩
end N
end
section
set_option maxHeartbeats 1000000
namespace N
open PySem PySem.Spec PyProof.Rows L2
set_option genInjectivity false
set_option genSizeOfSpec false
structure zj where
 g:Str
 gp:Pos
 as:List Expr
 params:Arguments
 body:Expr
 scope:Scope
 lp:Pos
 TP:Pos
 rp:Pos
structure zl where
 name:Str
 params:Arguments
 body:List Stmt
 scope:Scope
 np:Pos
 g:Str
 gp:Pos
 es:List Expr
 TP:Pos
 rp:Pos
noncomputable def zm:Stmt->Option (Option Expr×Pos)
 |.Return e p=>some (e,p)
 |_=>none
noncomputable def zo:Expr->Option (Expr×List Expr×Pos)
 |.Call f as _ p=>some (f,as,p)
 |_=>none
noncomputable def J1:Expr->Option (Arguments×Expr×Scope×Pos)
 |.Lambda a b s p=>some (a,b,s,p)
 |_=>none
noncomputable def J2:Stmt->Option (Str×Arguments×List Stmt×Scope×Pos)
 |.FunctionDef n a b _ _ _ s _ _ p=>some (n,a,b,s,p)
 |_=>none
noncomputable def J3 (b:List Stmt):Option zj:=b.head?.bind λs=>(zm s).bind λr=>r.1.bind λe=>(zo e).bind λc=>(lG c.1).bind λg=>c.2.1.getLast?.bind λl=>(J1 l).map λq=>
 ⟨g.1,g.2,c.2.1.dropLast,q.1,q.2.1,q.2.2.1,q.2.2.2,c.2.2,r.2⟩
noncomputable def J4 (b:List Stmt):Option zl:=b.head?.bind λd=>(J2 d).bind λq=>b.getLast?.bind λs=>(zm s).bind λr=>r.1.bind λe=>(zo e).bind λc=>(lG c.1).map λg=>
 ⟨q.1,q.2.1,q.2.2.1,q.2.2.2.1,q.2.2.2.2,g.1,g.2,c.2.1,c.2.2,r.2⟩
end N
end
section
namespace NQ
open PySem N
open L2
inductive Kd where
 |num |word
 |row (fs:List (Str×Kd))
 |ai (k:Kd)
mutual
noncomputable def kD:Kd->D
 |.num=>.tup [.str "num"]
 |.word=>.tup [.str "word"]
 |.row fs=>.tup [.str "row",.tup (bj fs)]
 |.ai k=>.tup [.str "bag",kD k]
noncomputable def bj:List (Str×Kd)->List D
 |[]=>[]
 |(f,k)::r=>.tup [.str f,kD k]::bj r
end
inductive Qn where
 |num (i:Int) |word (s:Str) |var (x:Str) |tab (x:Str) |none (k:Kd)
 |row (fs:List (Str×Qn))
 |at (f:Str) (q:Qn)
 |add (a b:Qn) |mul (a b:Qn) |one (q:Qn) |both (a b:Qn)
 |times (i:Int) (q:Qn)
 |for (x:Str) (a b:Qn) |aU (c q:Qn) |let (x:Str) (a b:Qn)
 |same (a b:Qn) |under (a b:Qn) |and (a b:Qn) |or (a b:Qn) |not (a:Qn)
mutual
noncomputable def qD:Qn->D
 |.num i=>.tup [.str "num",.int i]
 |.word s=>.tup [.str "word",.str s]
 |.var s=>.tup [.str "var",.str s]
 |.tab s=>.tup [.str "table",.str s]
 |.none k=>.tup [.str "none",kD k]
 |.row fs=>.tup [.str "row",.tup (a9 fs)]
 |.at f q=>.tup [.str "at",.str f,qD q]
 |.add a b=>.tup [.str "add",qD a,qD b]
 |.mul a b=>.tup [.str "mul",qD a,qD b]
 |.one a=>.tup [.str "one",qD a]
 |.both a b=>.tup [.str "both",qD a,qD b]
 |.times i a=>.tup [.str "times",.int i,qD a]
 |.for x a b=>.tup [.str "for",.str x,qD a,qD b]
 |.aU a b=>.tup [.str "when",qD a,qD b]
 |.let x a b=>.tup [.str "let",.str x,qD a,qD b]
 |.same a b=>.tup [.str "same",qD a,qD b]
 |.under a b=>.tup [.str "under",qD a,qD b]
 |.and a b=>.tup [.str "and",qD a,qD b]
 |.or a b=>.tup [.str "or",qD a,qD b]
 |.not a=>.tup [.str "not",qD a]
noncomputable def a9:List (Str×Qn)->List D
 |[]=>[]
 |(f,q)::r=>.tup [.str f,qD q]::a9 r
end
mutual
noncomputable def nq:Qn->Nat
 |.num _=>1 |.word _=>1 |.var _=>1 |.tab _=>1 |.none _=>1
 |.row fs=>1+cp fs
 |.at _ q=>1+nq q
 |.add a b=>1+nq a+nq b
 |.mul a b=>1+nq a+nq b
 |.one a=>1+nq a
 |.both a b=>1+nq a+nq b
 |.times _ a=>1+nq a
 |.for _ a b=>1+nq a+nq b
 |.aU a b=>1+nq a+nq b
 |.let _ a b=>1+nq a+nq b
 |.same a b=>1+nq a+nq b
 |.under a b=>1+nq a+nq b
 |.and a b=>1+nq a+nq b
 |.or a b=>1+nq a+nq b
 |.not a=>1+nq a
noncomputable def cp:List (Str×Qn)->Nat
 |[]=>0
 |(_,q)::r=>nq q+cp r
end
mutual
noncomputable def kz:Kd->Nat
 |.num=>1
 |.word=>1
 |.row fs=>gy fs+1
 |.ai k=>kz k+1
noncomputable def gy:List (Str×Kd)->Nat
 |[]=>0
 |(_,k)::r=>kz k+gy r+1
end
abbrev Sc:=List (Str×Kd)
noncomputable def lk (x:Str):Sc->Option Kd
 |[]=>.none
 |(y,k)::r=>if x=y then some k else lk x r
mutual
noncomputable def kd:Kd->Nat
 |.num=>1
 |.word=>1
 |.row fs=>gz fs+3
 |.ai k=>kd k+1
noncomputable def gz:List (Str×Kd)->Nat
 |[]=>0
 |(_,k)::r=>max (kd k) (gz r)
end
mutual
noncomputable def fb:Kd->Bool
 |.num=>true
 |.word=>true
 |.row fs=>j3 fs
 |.ai k=>fb k
noncomputable def j3:List (Str×Kd)->Bool
 |[]=>true
 |(f,k)::r=>decide (f≠"table") && fb k && j3 r
end
mutual
inductive Ty (S:Str->Option Kd):Sc->Qn->Kd->Prop
 |num {G i}:Ty S G (.num i) .num
 |word {G s}:Ty S G (.word s) .word
 |var {G x k}:lk x G=some k->Ty S G (.var x) k
 |tab {G x k}:S x=some k->Ty S G (.tab x) (.ai k)
 |none {G k}:fb k=true->kz k<900->Ty S G (.none k) (.ai k)
 |row {G fs ks}:fs.length<100->("table" : Str) ∉ ks.map (·.1)->dP S G fs ks->Ty S G (.row fs) (.row ks)
 |at {G f q ks k}:(ks.map (·.1)).Nodup->Ty S G q (.row ks)->lk f ks=some k->Ty S G (.at f q) k
 |add {G a b}:Ty S G a .num->Ty S G b .num->Ty S G (.add a b) .num
 |mul {G a b}:Ty S G a .num->Ty S G b .num->Ty S G (.mul a b) .num
 |one {G q k}:Ty S G q k->Ty S G (.one q) (.ai k)
 |both {G a b k}:kz k<900->Ty S G a (.ai k)->Ty S G b (.ai k)->Ty S G (.both a b) (.ai k)
 |times {G i a k}:Ty S G a (.ai k)->Ty S G (.times i a) (.ai k)
 |for {G x a b k l}:kd l<=20->Ty S G a (.ai l)->Ty S ((x,l)::G) b (.ai k)->Ty S G (.for x a b) (.ai k)
 |aU {G c a k}:cT S G c->Ty S G a (.ai k)->Ty S G (.aU c a) (.ai k)
 |let {G x a b k l}:kd l<=20->Ty S G a l->Ty S ((x,l)::G) b k->Ty S G (.let x a b) k
inductive dP (S:Str->Option Kd):Sc->List (Str×Qn)->List (Str×Kd)->Prop
 |nil {G}:dP S G [] []
 |cons {G f q k r s}:Ty S G q k->dP S G r s->dP S G ((f,q)::r) ((f,k)::s)
inductive cT (S:Str->Option Kd):Sc->Qn->Prop
 |j4 {G a b}:Ty S G a .num->Ty S G b .num->cT S G (.same a b)
 |j5 {G a b}:Ty S G a .word->Ty S G b .word->cT S G (.same a b)
 |under {G a b}:Ty S G a .num->Ty S G b .num->cT S G (.under a b)
 |and {G a b}:cT S G a->cT S G b->cT S G (.and a b)
 |or {G a b}:cT S G a->cT S G b->cT S G (.or a b)
 |not {G a}:cT S G a->cT S G (.not a)
end
mutual
theorem d4:∀k,ax (kD k)=true
 |.num=>rfl
 |.word=>rfl
 |.row fs=>by rw[kD,ax,aJ,aJ,aJ,ax,ax,zp fs];rfl
 |.ai k=>by rw[kD,ax,aJ,aJ,aJ,ax,d4 k];rfl
theorem zp:∀fs,aJ (bj fs)=true
 |[]=>rfl
 |(f,k)::r=>by rw[bj,aJ,ax,aJ,aJ,aJ,ax,d4 k,zp r];rfl
end
mutual
theorem fJ:∀k,aM (kD k)<=kd k
 |.num=>by rw[kD,kd];decide
 |.word=>by rw[kD,kd];decide
 |.row fs=>by have:=zq fs;rw[kD,aM,aR,aR,aR,aM,aM,kd];lia
 |.ai k=>by have:=fJ k;rw[kD,aM,aR,aR,aR,aM,kd];lia
theorem zq:∀fs,aR (bj fs)<=gz fs+1
 |[]=>by rw[bj,aR];lia
 |(f,k)::r=>by have:=fJ k;have:=zq r;rw[bj,aR,aM,aR,aR,aR,aM,gz];lia
end
theorem fc {a b:Str}{xs ys:List D} (h:aD (.tup (.str a::xs)) (.tup (.str b::ys))=true):a=b/\bK xs ys=true:=by
 simp only[aD,bK,qj,kP,Option.any_some,XD,beq_iff_eq,Option.some.injEq]at h;exact⟨h.1.symm,h.2⟩
mutual
theorem oH:∀{a b:Kd},aD (kD a) (kD b)=true->a=b
 |.num,b,h=>by cases b <;> first |rfl |(exact absurd (fc h).1 (by decide +kernel))
 |.word,b,h=>by cases b <;> first |rfl |(exact absurd (fc h).1 (by decide +kernel))
 |.row fs,b,h=>by
  cases b with
  |row gs=>
   have h:=(fc h).2;simp only[bK,aD,qj,Option.any_some,XD]at h;rw[zr h.1]
  |num=>exact absurd (fc h).1 (by decide +kernel)
  |word=>exact absurd (fc h).1 (by decide +kernel)
  |ai k=>exact absurd (fc h).1 (by decide +kernel)
 |.ai k,b,h=>by
  cases b with
  |ai l=>
   have h:=(fc h).2;simp only[bK,XD]at h;rw[oH h.1]
  |num=>exact absurd (fc h).1 (by decide +kernel)
  |word=>exact absurd (fc h).1 (by decide +kernel)
  |row k=>exact absurd (fc h).1 (by decide +kernel)
theorem zr:∀{a b:List (Str×Kd)},bK (bj a) (bj b)=true->a=b
 |[],[],_=>rfl
 |[],(_,_)::_,h=>by simp [bj,bK]at h
 |(_,_)::_,[],h=>by simp [bj,bK]at h
 |(f,k)::r,(g,l)::s,h=>by
  rw[bj,bj,bK,XD]at h;obtain⟨e,h1⟩:=fc h.1;simp only[bK,XD]at h1;rw[e,oH h1.1,zr h.2]
end
noncomputable instance:DecidableEq Kd:=λa b=>decidable_of_iff (aD (kD a) (kD b)=true) ⟨oH,λe=>by rw[e];exact gg _ (d4 b)⟩
theorem J5 {a b:Kd}:aD (kD a) (kD b)=decide (a=b):=by
 by_cases h:a=b
 ·subst h;rw[decide_eq_true rfl];exact gg _ (d4 a)
 ·rw[decide_eq_false h];cases z:aD (kD a) (kD b) with
  |false=>rfl
  |true=>exact absurd (oH z) h
theorem oJ {k:Kd}{M:Mp}:cb (kD k) M=kD k:=by cases k <;> rfl
theorem j6 {n:Bool}{a b:Kd}{M:Mp}{k:Bool->Prop} (h:kd a<=50) (q:k (decide (a=b))):dI n (kD a) (kD b) M k:=by
 refine .mk ?_ ?_
 ·rw[oJ,oJ];exact .inl ⟨d4 a,d4 b,XG (fJ a) (by lia)⟩
 ·rw[oJ,oJ,J5];exact q
theorem au {n:Bool}{a b:Str}{M:Mp}{k:Bool->Prop} (q:k (decide (a=b))):dI n (.str a) (.str b) M k:=by
 refine .mk (.inl ⟨rfl,rfl,XM _⟩) ?_;have:aD (.str a) (.str b)=decide (a=b):=by
  show (some b == some a)=decide (a=b);by_cases h:a=b
  ·subst h;simp
  ·rw[decide_eq_false h];exact beq_eq_false_iff_ne.mpr λz=>h (Ym z).symm
 exact this ▸ q
theorem bB {n:Bool}{a b:Int}{M:Mp}{k:Bool->Prop} (q:k (decide (a=b))):dI n (.int a) (.int b) M k:=by
 refine .mk (.inl ⟨rfl,rfl,XM _⟩) ?_;have:aD (.int a) (.int b)=decide (a=b):=by
  show (some b == some a)=decide (a=b);by_cases h:a=b
  ·subst h;simp
  ·rw[decide_eq_false h];exact beq_eq_false_iff_ne.mpr λz=>h (Ym z).symm
 exact this ▸ q
theorem aV {c:Prop} [Decidable c] {a b:Prop} (h:c->a) (g:¬c->b):if c then a else b:=by
 split
 ·exact h ‹_›
 ·exact g ‹_›
theorem l1:1<=sizeLine:=by decide
theorem l2:2<=sizeLine:=by decide
theorem l3:3<=sizeLine:=by decide
theorem l4:4<=sizeLine:=by decide
theorem l5:5<=sizeLine:=by decide
theorem Vd {i j:Int} (h:-(2 ^ 64)<j/\j<2 ^ 64):CM i j:=.inl (.inr h)
theorem zt {i j:Int} (h:-(2 ^ 64)<i/\i<2 ^ 64):CM i j:=.inl (.inl h)
theorem pz {n:Nat}:(0:Int)<((n+1:Nat):Int):=Int.natCast_pos.mpr (Nat.succ_pos n)
theorem lZ {n:Bool}{ds:List D}{M:Mp}{k:Bool->Prop} (q:k ds.isEmpty):dI n (.lst ds) (.lst []) M k:=by
 refine .mk (.inr ⟨rfl,rfl⟩) ?_;have:aD (.lst ds) (.lst [])=ds.isEmpty:=by
  show bK ds []=_;cases ds <;> simp [bK]
 exact this ▸ q
noncomputable def c8 (sc:Sc):List D:=sc.map λp=>.tup [.str p.1,kD p.2]
noncomputable abbrev aN (sc:Sc):D:=.lst (c8 sc)
noncomputable def aP (ms:Sc):List (Key×D):=ms.map λm=>(.inr m.1,kD m.2)
noncomputable def bU (ms:Sc):D:=.ao (ms.map λm=>.inr m.1) (ms.map λm=>kD m.2)
theorem iZ (ms:Sc):(ms.map λm=>(YO m.1:Key)).zip (ms.map λm=>kD m.2)=aP ms:=by
 unfold aP;induction ms with
 |nil=>rfl
 |cons m ms ih=>rw[XJ,XJ,YN,ih,XJ]
theorem zu (ms:Sc):D.ao ((aP ms).map (·.1)) ((aP ms).map (·.2))=bU ms:=by
 unfold aP bU;rw[YI,YI];rfl
theorem tx {x:Str}:∀{a b:Sc},lk x (a++b)=(lk x a).or (lk x b)
 |[],b=>rfl
 |(y,k)::r,b=>by
  rw[Y3,lk,lk];split
  ·rfl
  ·exact tx
theorem et {x:Str}{k:Kd}:∀{sc:Sc},lk x sc=some k->(x,k)∈sc
 |(y,l)::r,h=>by
  rw[lk]at h;split at h
  ·rename_i e;rw[e,Ym h];exact XH
  ·exact XF _ (et h)
theorem oK {x:Str}{k:Kd}:∀{sc:Sc},(sc.map (·.1)).Nodup->(x,k)∈sc->lk x sc=some k
 |(y,l)::r,nd,h=>by
  rw[XJ,ZA]at nd;rw[lk];rcases List.mem_cons.mp h with e |h2
  ·cases e;rw[if_pos rfl]
  ·rw[if_neg,oK nd.2 h2];intro e;exact nd.1 (List.mem_map.mpr ⟨_,h2,e⟩)
theorem zv {G G':Sc}{y:Str}{l:Kd} (g:∀x k,lk x G=some k->lk x G'=some k):∀x k,lk x ((y,l)::G)=some k->lk x ((y,l)::G')=some k:=λx k h=>by
 rw[lk]at h ⊢;split at h
 ·rename_i e;rw[if_pos e];exact h
 ·rename_i e;rw[if_neg e];exact g x k h
theorem fe {x:Str}:∀{ms:Sc},aT (aP ms) (.inr x)=(lk x ms).map kD
 |[]=>rfl
 |(y,l)::r=>by
  have ih:=@fe x r;unfold aT aP at *;rw[XJ,Zr,lk];by_cases e:x=y
  ·subst e;rw[if_pos rfl];simp
  ·have e':¬(YO y:Key)=YO x:=λz=>e (ZP z).symm;rw[if_neg e];simp only[e',decide_false];exact ih
theorem lQ {x:Str}:∀{sc:Sc},(lk x sc).isSome=decide (x∈sc.map (·.1))
 |[]=>rfl
 |(y,k)::r=>by
  rw[lk,XJ];by_cases e:x=y
  ·subst e;simp
  ·rw[if_neg e,lQ];simp [e]
theorem zw {ms:Sc}{x:Str}{k:Kd} (h:x ∉ ms.map (·.1)):bq (aP ms) (.inr x) (kD k)=aP (ms++[(x,k)]):=by
 unfold bq;rw[if_neg]
 ·unfold aP;simp
 ·intro z;obtain⟨kv,h1,h2⟩:=List.any_eq_true.mp z;unfold aP at h1;obtain⟨m,hm,rfl⟩:=List.mem_map.mp h1;exact h (List.mem_map.mpr ⟨m,hm,ZP (of_decide_eq_true h2)⟩)
theorem zx {α:Type} {xs:List α}{y:α} (h:xs.Nodup) (n:y ∉ xs):(xs++[y]).Nodup:=by
 rw[List.nodup_append];exact⟨h,by simp,λa ha b hb e=>n (by rw[List.mem_singleton.mp hb]at e;rw[<- e];exact ha)⟩
theorem J6 {ms:Sc}{ys:List (Key×D)} (h:ys.Perm (aP ms)):∃out:Sc,ys.map ek=c8 out/\out.Perm ms:=by
 have key:∀{ys:List (Key×D)}{kvs:List (Key×D)},ys.Perm kvs->∀ms:Sc,kvs=aP ms->∃out:Sc,ys=aP out/\out.Perm ms:=by
  intro ys kvs p
  induction p with
  |nil=>intro ms e;exact⟨[],rfl,by cases ms with |nil=>exact .nil |cons=>cases e⟩
  |cons x p ih=>intro ms e;cases ms with
   |nil=>cases e
   |cons m ms=>cases e;obtain⟨out,rfl,h⟩:=ih ms rfl;exact⟨m::out,rfl,h.cons _⟩
  |swap x y l=>intro ms e;match ms,e with
   |m::m'::ms,e=>cases e;exact⟨m'::m::ms,rfl,.swap ..⟩
  |trans p q J7 J8=>intro ms e;obtain⟨o,rfl,h⟩:=J8 ms e;obtain⟨o',rfl,h'⟩:=J7 o rfl;exact⟨o',rfl,h'.trans h⟩
 obtain⟨out,rfl,h1⟩:=key h ms rfl;exact⟨out,by unfold aP c8;rw[YI];rfl,h1⟩
theorem zy {ms:Sc}{M M0:Mp}{q:QK}{t:DE} {τ:St} (ht:∀k,k (bU ms) M->t τ M0 k) (hl:ms.length<64) (US:∀m∈ms,kd m.2<=50) (h:∀out:Sc,out.Perm ms->bZ (c8 out) M q):lE t τ M0 q:=by
 refine ht _ ⟨by rw[Xx];exact hl,λk hk=>?_,λd hd=>?_,λys p=>?_⟩
 ·obtain⟨m,_,rfl⟩:=List.mem_map.mp hk;exact⟨_,rfl⟩
 ·obtain⟨m,hm,rfl⟩:=List.mem_map.mp hd;exact⟨d4 _,XG (fJ _) (US m hm)⟩
 ·rw[iZ]at p;obtain⟨out,e,p'⟩:=J6 p;rw[e];exact h out p'
theorem d5 {xs:List D}{r:Int} (h0:0<=r) (h1:r<xs.length):∃d,cM xs r=some d/\d∈xs:=by
 have hn:r.toNat<xs.length:=by lia
 refine⟨xs[r.toNat],?_,List.getElem_mem hn⟩;unfold cM fD;rw[if_pos h0,if_pos h1];exact XB hn
theorem J9 {a b:D}{c:Bool}:cM [a,b] (if c=true then 1 else 0)=some (if c=true then b else a):=by cases c <;> rfl
theorem J' {a b:Int}{c:Bool}:cM [D.int a,D.int b] (if c=true then 1 else 0)=some (.int (if c=true then b else a)):=by cases c <;> rfl
theorem Ty.all {S:Str->Option Kd}{P:Sc->Qn->Kd->Prop}{L:Sc->List (Str×Qn)->List (Str×Kd)->Prop}{C:Sc->Qn->Prop}
    (num:∀{G i},P G (.num i) .num) (word:∀{G s},P G (.word s) .word) (var:∀{G x k},lk x G=some k->P G (.var x) k) (tab:∀{G x k},S x=some k->P G (.tab x) (.ai k))
    (none:∀{G k},fb k=true->kz k<900->P G (.none k) (.ai k)) (row:∀{G fs ks},fs.length<100->("table" : Str) ∉ ks.map (·.1)->L G fs ks->P G (.row fs) (.row ks))
    (iJ:∀{G f q ks k},(ks.map (·.1)).Nodup->P G q (.row ks)->lk f ks=some k->P G (.at f q) k) (add:∀{G a b},P G a .num->P G b .num->P G (.add a b) .num) (mul:∀{G a b},P G a .num->P G b .num->P G (.mul a b) .num)
    (one:∀{G q k},P G q k->P G (.one q) (.ai k)) (both:∀{G a b k},kz k<900->P G a (.ai k)->P G b (.ai k)->P G (.both a b) (.ai k)) (times:∀{G i a k},P G a (.ai k)->P G (.times i a) (.ai k))
    (tz:∀{G x a b k l},kd l<=20->P G a (.ai l)->P ((x,l)::G) b (.ai k)->P G (.for x a b) (.ai k)) (aU:∀{G c a k},C G c->P G a (.ai k)->P G (.aU c a) (.ai k)) (tC:∀{G x a b k l},kd l<=20->P G a l->P ((x,l)::G) b k->P G (.let x a b) k)
    (nil:∀{G},L G [] []) (cons:∀{G f q k r s},P G q k->L G r s->L G ((f,q)::r) ((f,k)::s))
    (j4:∀{G a b},P G a .num->P G b .num->C G (.same a b)) (j5:∀{G a b},P G a .word->P G b .word->C G (.same a b)) (under:∀{G a b},P G a .num->P G b .num->C G (.under a b))
    (and:∀{G a b},C G a->C G b->C G (.and a b)) (or:∀{G a b},C G a->C G b->C G (.or a b)) (not:∀{G a},C G a->C G (.not a)) :
    (∀{G q k},Ty S G q k->P G q k)/\(∀{G q k},dP S G q k->L G q k)/\∀{G q},cT S G q->C G q:=
  ⟨λh=>@Ty.rec S (λG q k _=>P G q k) (λG q k _=>L G q k) (λG q _=>C G q) num word var tab none (λl n _ h=>row l n h) (λn _ e h=>iJ n h e) (λ_ _=>add) (λ_ _=>mul) (λ_=>one) (λz _ _=>both z) (λ_=>times) (λz _ _=>tz z) (λ_ _=>aU) (λz _ _=>tC z) nil (λ_ _=>cons) (λ_ _=>j4) (λ_ _=>j5) (λ_ _=>under) (λ_ _=>and) (λ_ _=>or) (λ_=>not) _ _ _ h,
   λh=>@dP.rec S (λG q k _=>P G q k) (λG q k _=>L G q k) (λG q _=>C G q) num word var tab none (λl n _ h=>row l n h) (λn _ e h=>iJ n h e) (λ_ _=>add) (λ_ _=>mul) (λ_=>one) (λz _ _=>both z) (λ_=>times) (λz _ _=>tz z) (λ_ _=>aU) (λz _ _=>tC z) nil (λ_ _=>cons) (λ_ _=>j4) (λ_ _=>j5) (λ_ _=>under) (λ_ _=>and) (λ_ _=>or) (λ_=>not) _ _ _ h,
   λh=>@cT.rec S (λG q k _=>P G q k) (λG q k _=>L G q k) (λG q _=>C G q) num word var tab none (λl n _ h=>row l n h) (λn _ e h=>iJ n h e) (λ_ _=>add) (λ_ _=>mul) (λ_=>one) (λz _ _=>both z) (λ_=>times) (λz _ _=>tz z) (λ_ _=>aU) (λz _ _=>tC z) nil (λ_ _=>cons) (λ_ _=>j4) (λ_ _=>j5) (λ_ _=>under) (λ_ _=>and) (λ_ _=>or) (λ_=>not) _ _ h⟩
def tE (G G':Sc):Prop:=∀x k,lk x G=some k->lk x G'=some k
theorem Ty.mono {S S':Str->Option Kd} (s:∀x k,S x=some k->S' x=some k) {G:Sc}{q:Qn}{k:Kd} (h:Ty S G q k) {G':Sc} (g:∀x k,lk x G=some k->lk x G'=some k):Ty S' G' q k:=
 (Ty.all (P:=λG q k=>∀G',tE G G'->Ty S' G' q k) (L:=λG q k=>∀G',tE G G'->dP S' G' q k) (C:=λG q=>∀G',tE G G'->cT S' G' q)
  (λ_ _=>.num) (λ_ _=>.word) (λh _ g=>.var (g _ _ h)) (λh _ _=>.tab (s _ _ h)) (λh z _ _=>.none h z) (λl n h _ g=>.row l n (h _ g)) (λn h e _ g=>.at n (h _ g) e) (λh e _ g=>.add (h _ g) (e _ g)) (λh e _ g=>.mul (h _ g) (e _ g)) (λh _ g=>.one (h _ g)) (λz h e _ g=>.both z (h _ g) (e _ g)) (λh _ g=>.times (h _ g))
  (λz h e _ g=>.for z (h _ g) (e _ (zv g))) (λh e _ g=>.aU (h _ g) (e _ g)) (λz h e _ g=>.let z (h _ g) (e _ (zv g))) (λ_ _=>.nil) (λh e _ g=>.cons (h _ g) (e _ g)) (λh e _ g=>.j4 (h _ g) (e _ g)) (λh e _ g=>.j5 (h _ g) (e _ g)) (λh e _ g=>.under (h _ g) (e _ g)) (λh e _ g=>.and (h _ g) (e _ g)) (λh e _ g=>.or (h _ g) (e _ g)) (λh _ g=>.not (h _ g))).1 h G' g
theorem zB {M:Mp}{p:Addr}{o:MO} (h:M p=none):rm (up M p o) p=M:=funext λb=>by
 by_cases e:b=p
 ·rw[e,mO,h]
 ·rw[pS e,aF e]
theorem oL {a:Addr}{d:D}:br a d (some (.ref a))=some d:=if_pos rfl
theorem tF {a b:Addr}{d:D} (h:b≠a):br a d (some (.ref b))=some (.ref b):=if_neg h
theorem tG {P:St->Mp->Prop} {τ:St} {M:Mp}{p:Addr}{kvs:List (Key×D)} (h:M p=none) (q:dr P (τ.map (br p (.ao (kvs.map (·.1)) (kvs.map (·.2))))) M):dr P τ (up M p (.ao kvs)):=.ao p kvs av (by rw[zB h];exact q)
theorem Ka {P:St->Mp->Prop} {τ:St} {M:Mp}{p:Addr}{ds:List D} (h:M p=none) (q:dr P (τ.map (br p (.lst ds))) M):dr P τ (up M p (.lst ds)):=.lst p ds av (by rw[zB h];exact q)
theorem oM {A B:Mp} (h:cy A B) {p:Addr}{o:MO} (e:A p=none) (n:o.sW=true):cy A (up B p o):=⟨λa u z=>by rw[aF (di z e)];exact h.sub a u z,λa b z q=>by
 by_cases hb:b=p
 ·subst hb;rw[av]at q;cases q;cases n
 ·rw[aF hb]at q;exact h.own a b z q⟩
theorem cy.no {A B:Mp} (h:cy A B) {p:Addr} (e:B p=none):A p=none:=by
 cases z:A p with
 |none=>rfl
 |some o=>rw[h.sub p o z]at e;cases e
theorem zD {Q:QK}{M M':Mp}{p:Addr}{ds:List D} (hs:cy M M') (hp:M p=none) (h':M' p=some (.lst ds)) (h:Q (.lst ds) M):a6 Q (.ref p) M':=⟨M,_,hs,.lst h' hp .rfl,h⟩
theorem l0 {Q:QK}{M M':Mp}{d:D} (hs:cy M M') (h:Q d M):a6 Q d M':=⟨M,d,hs,.rfl,h⟩
noncomputable def ez:B->S
 |.cons s _=>s
 |.nil=>.pass
noncomputable def Kb:S->B
 |.cond _ _ b=>b
 |_=>.nil
noncomputable def a7:B->B
 |.cons _ r=>r
 |.nil=>.nil
noncomputable def oN:S->B
 |.cond _ a _=>a
 |_=>.nil
theorem fK {t u:DS}{e:En} {τ:St} {M:Mp} (h:∀N:St->Mp->Prop,(∀ τ M,u e τ M->N τ M)->t { e with nx:=N } τ M):pX t u e τ M:=h _ λ_ _ z=>z
noncomputable def dD (kvs:List (Key×D)):D:=.ao (kvs.map (·.1)) (kvs.map (·.2))
theorem ff:∀kvs:List (Key×D),(kvs.map (·.1)).zip (kvs.map (·.2))=kvs
 |[]=>rfl
 |(k,d)::r=>by rw[XJ,XJ,YN,ff r]
theorem l9 {kvs:List (Key×D)}{x:Str}{d:D}{M:Mp}{Q:QK} (h:aT kvs (.inr x)=some d) (q:Q d M):aG (dD kvs) (.str x) M Q:=⟨d,by rw[ff];exact h,q⟩
theorem ma {kvs:List (Key×D)}{x:Str}{M:Mp}{k:Bool->Prop} (q:k (aT kvs (.inr x)).isSome):dJ (.str x) (dD kvs) M k:=by
 refine⟨?_⟩;show k (aT ((kvs.map (·.1)).zip (kvs.map (·.2))) (.inr x)).isSome;rw[ff];exact q
structure Wc (C:Addr) (M0:Mp) (x a b:Addr):Prop where
 hx:∃dx,M0 x=some (.ins C dx [("waiting",.ref a),("found",.ref b)])
 ne:a≠b
 xa:x≠a
 xb:x≠b
noncomputable def Wm (M0:Mp) (a b:Addr) (ws fs:List D):Mp:=up (up M0 a (.lst ws)) b (.lst fs)
theorem oO {M:Mp}{p r:Addr}{o o':MO} (h:p≠r):up (up M p o) r o'=up (up M r o') p o:=by
 funext b;unfold up;by_cases h1:b=r
 ·subst h1;rw[if_pos rfl,if_neg (Y0 h),if_pos rfl]
 ·rw[if_neg h1,if_neg h1]
section
variable {C:Addr}{M0:Mp}{x a b:Addr}{ws fs:List D}
theorem Wc.gx (h:Wc C M0 x a b):∃dx,Wm M0 a b ws fs x=some (.ins C dx [("waiting",.ref a),("found",.ref b)]):=let ⟨dx,e⟩:=h.hx;⟨dx,by unfold Wm;rw[aF h.xb,aF h.xa];exact e⟩
theorem Wc.ga (h:Wc C M0 x a b):Wm M0 a b ws fs a=some (.lst ws):=by unfold Wm;rw[aF h.ne];exact av
theorem Wm.gb:Wm M0 a b ws fs b=some (.lst fs):=av
theorem Wc.pa (h:Wc C M0 x a b) {cU:List D}:up (Wm M0 a b ws fs) a (.lst cU)=Wm M0 a b cU fs:=by unfold Wm;rw[oO (Y0 h.ne),N.cF]
theorem Wm.pb {fs':List D}:up (Wm M0 a b ws fs) b (.lst fs')=Wm M0 a b ws fs':=N.cF
theorem bD {m:Str}{d e:D} (h1:(m == "waiting")=false) (h2:(m == "found")=false):[(("waiting" : Str),d),("found",e)].lookup m=none:=by simp [List.lookup,h1,h2]
end
theorem c9 {d:D}{r:List D}:cM (d::r) 0=some d:=by
 unfold cM fD;rw[if_pos (by decide),if_pos (by rw[XI];lia)];rfl
theorem zG {pre:List D}{d:D}:cM (pre++[d]) (-1)=some d:=by
 unfold cM fD;rw[if_neg (by decide)];have:(pre++[d]).length=pre.length+1:=by simp
 rw[this,if_pos (by lia)];show (pre++[d])[((pre.length+1:Nat)+(-1:Int)).toNat]?=some d;rw[show ((pre.length+1:Nat)+(-1:Int)).toNat=pre.length by lia];simp
theorem Kc {M M':Mp} (h:∀c,M c≠none->M' c=M c) (g:∀c e,M' c=some (.own e)->M e≠none->M c=some (.own e)):cy M M':=⟨λc o e=>by rw[h c (by rw[e];exact Yn _)];exact e,λe c n q=>g c e q n⟩
end NQ
end
section
namespace K26
open PySem N NQ
open L2
def aa (i:Nat):Stmt:=PySem.Challenge.pw_keptnest_k26_difference_told.main.body.getD i (.Pass ⟨0,0,0,0⟩)
def nm:Nm:=⟨((["under","with_under","knots","tables","folded","unfold","fold","bound","fields_of","alike","fits","kind_of","begin_kinds","found_kind","bind","finish","plain_kind","row_kind","part_kind","number_kind","none_kind","one_kind","both_kind","last_bag_kind","same_kind","under_kind","truth_kind","difference","kind_of_rows","begin_differences"]:List Str)++(["names_some","is_none","total","both_differences","for_differences","made_for","wrap","behind_less_ahead","behind","_law_cell_at","_law_seed","_law_draw","_law_key","_law_bag","_law_value","_law_kinds","_law_seen","_law_held","_law_small","_law_claim","_law_over","_law_taken","_law_asked","_law_kind","_law_free","_law_names_one","_law_behind","_law_sum","_law_fors","_law_due"]:List Str)++(["law"]:List Str)),((["HAVE_MORE","NUMBER","WORD","TRUTH","FINISHED","SUMS","under","with_under","knots","tables","folded","unfold","fold","bound","fields_of","alike","fits","kind_of","begin_kinds","found_kind","bind","finish","plain_kind","row_kind","part_kind","number_kind","none_kind","one_kind","both_kind","last_bag_kind"]:List Str)++(["same_kind","under_kind","truth_kind","difference","kind_of_rows","begin_differences","names_some","is_none","total","both_differences","for_differences","made_for","wrap","behind_less_ahead","behind","_law_cell_at","_law_seed","_law_draw","_law_key","_law_bag","_law_value","_law_kinds","_law_seen","_law_held","_law_small","_law_claim","_law_over","_law_taken","_law_asked","_law_kind"]:List Str)++(["_law_free","_law_names_one","_law_behind","_law_sum","_law_fors","_law_due","law"]:List Str)),((["Walk"]:List Str)),((["__init__","later","tell","take","run"]:List Str))⟩
def bx (s:Stmt) (i:Nat):Stmt:=match s with
 |.ClassDef _ _ _ b _ _ _ _ _ _ _=>b.getD i (.Pass ⟨0,0,0,0⟩)
 |_=>.Pass ⟨0,0,0,0⟩
def eA:List Ds:=([⟨"under",aa 6,["question"]⟩,⟨"with_under",aa 7,["question","parts"]⟩,⟨"knots",aa 8,["question"]⟩,⟨"tables",aa 9,["question"]⟩,⟨"folded",aa 12,["question","told_of"]⟩,⟨"unfold",aa 13,["walk","question","told_of"]⟩,⟨"fold",aa 14,["walk","question","told_of"]⟩,⟨"bound",aa 15,["names","name","meaning"]⟩,⟨"fields_of",aa 17,["row"]⟩,⟨"alike",aa 18,["one","other"]⟩,⟨"fits",aa 19,["whole","kind","rows_of"]⟩,⟨"kind_of",aa 24,["question","kinds","stock"]⟩,⟨"begin_kinds",aa 25,["walk","question","around"]⟩,⟨"found_kind",aa 27,["kinds","name","path"]⟩,⟨"bind",aa 28,["walk","question","around"]⟩,⟨"finish",aa 29,["walk","question","around"]⟩,⟨"plain_kind",aa 30,["question","below"]⟩,⟨"row_kind",aa 31,["question","below"]⟩,⟨"part_kind",aa 32,["question","below"]⟩,⟨"number_kind",aa 33,["question","below"]⟩,⟨"none_kind",aa 34,["question","below"]⟩,⟨"one_kind",aa 35,["question","below"]⟩,⟨"both_kind",aa 36,["question","below"]⟩,⟨"last_bag_kind",aa 37,["question","below"]⟩,⟨"same_kind",aa 38,["question","below"]⟩,⟨"under_kind",aa 39,["question","below"]⟩,⟨"truth_kind",aa 40,["question","below"]⟩,⟨"difference",aa 43,["question","names","kinds","stock"]⟩,⟨"kind_of_rows",aa 44,["question","kinds","stock"]⟩,⟨"begin_differences",aa 45,["walk","question","names"]⟩]:List Ds)++([⟨"names_some",aa 47,["question","names"]⟩,⟨"is_none",aa 48,["question"]⟩,⟨"total",aa 49,["parts"]⟩,⟨"both_differences",aa 50,["walk","question","names"]⟩,⟨"for_differences",aa 51,["walk","question","names"]⟩,⟨"made_for",aa 52,["name","over","inner"]⟩,⟨"wrap",aa 54,["walk","question","names"]⟩,⟨"behind_less_ahead",aa 55,["question","names"]⟩,⟨"behind",aa 56,["question","names"]⟩,⟨"_law_cell_at",aa 58,["script","k"]⟩,⟨"_law_seed",aa 59,["cell"]⟩,⟨"_law_draw",aa 60,["seed","most"]⟩,⟨"_law_key",aa 61,["value"]⟩,⟨"_law_bag",aa 62,["counts"]⟩,⟨"_law_value",aa 67,["kind","seed","deep"]⟩,⟨"_law_kinds",aa 68,[]⟩,⟨"_law_seen",aa 70,["scope"]⟩,⟨"_law_held",aa 71,["kind","scope"]⟩,⟨"_law_small",aa 72,["kind","scope","fuel","seed"]⟩,⟨"_law_claim",aa 73,["scope","fuel","seed"]⟩,⟨"_law_over",aa 74,["scope","fuel","seed"]⟩,⟨"_law_taken",aa 75,["kind","scope","fuel","seed"]⟩,⟨"_law_asked",aa 76,["kind","scope","fuel","seed"]⟩,⟨"_law_kind",aa 77,["asked","scope"]⟩,⟨"_law_free",aa 78,[]⟩,⟨"_law_names_one",aa 79,["asked","names"]⟩,⟨"_law_behind",aa 80,["asked","names"]⟩,⟨"_law_sum",aa 81,["parts","empty"]⟩,⟨"_law_fors",aa 82,["asked","scope","names","empty"]⟩,⟨"_law_due",aa 83,["asked","scope","names"]⟩]:List Ds)++([⟨"law",aa 84,["script"]⟩]:List Ds)
def oP:List Ds:=([⟨"__init__",(bx (aa 11) 0),["self"]⟩,⟨"later",(bx (aa 11) 1),["self","step","question","around"]⟩,⟨"tell",(bx (aa 11) 2),["self","result"]⟩,⟨"take",(bx (aa 11) 3),["self","many"]⟩,⟨"run",(bx (aa 11) 4),["self"]⟩]:List Ds)
noncomputable def pA:zj:=(J3 (aw (aa 18))).get (by kernel_rfl)
theorem hA:aw (aa 18)=[.Return (some (.Call (.Name pA.g pA.gp) (pA.as++[.Lambda pA.params pA.body pA.scope pA.lp]) [] pA.TP)) pA.rp]:=by kernel_rfl
noncomputable def pB:zl:=(J4 (aw (aa 56))).get (by kernel_rfl)
def oQ:List Str:=["num","word","var","table","none","at","times","for","let"]
def bc (w:Wo) (x:Str):Addr:=match w.G.mg x with
 |some (.ref f)=>f
 |_=>0
def bG:List (Str×Str):=[("num","plain_kind"),("word","plain_kind"),("row","row_kind"),("at","part_kind"),("add","number_kind"),("mul","number_kind"),("none","none_kind"),("one","one_kind"),("both","both_kind"),("times","last_bag_kind"),("for","last_bag_kind"),("when","last_bag_kind"),("same","same_kind"),("under","under_kind"),("and","truth_kind"),("or","truth_kind"),("not","truth_kind")]
def zH (w:Wo) (t:List (Str×Str)):D:=.ao (t.map λp=>.inr p.1) (t.map λp=>.ref (bc w p.2))
structure Lw (w:Wo):Prop where
 ok:w.Ok
 hn:w.nm=nm
 hd:w.ds=eA
 hms:w.ms=oP
 g0:w.gv.getD 0 .aj=.tup (oQ.map D.str)
 g1:w.gv.getD 1 .aj=kD .num
 g2:w.gv.getD 2 .aj=kD .word
 g3:w.gv.getD 3 .aj=.tup [.str "truth"]
 gt:w.gv.getD 4 .aj=zH w bG
 gs:w.gv.getD 5 .aj=zH w [("both","both_differences"),("for","for_differences")]
 gb:w.gv.getD 18 .aj=.ref (bc w "begin_kinds")
 gd:w.gv.getD 20 .aj=.ref (bc w "bind")
 gf:w.gv.getD 21 .aj=.ref (bc w "finish")
 VE:w.gv.getD 11 .aj=.ref (bc w "unfold")
 go:w.gv.getD 12 .aj=.ref (bc w "fold")
 gp:w.gv.getD 42 .aj=.ref (bc w "wrap")
 ga:w.gv.getD 35 .aj=.ref (bc w "begin_differences")
 fw:w.fl (w.ca 0) "waiting"
 T7:w.fl (w.ca 0) "found"
 mc:∀i,i<=4->w.mc i=w.ca 0
 UT:∀f fd q,dH w.G.K q q (aa 18) f fd->w.G.mg "alike"=some (.ref f)->∃c T,fd.code=.ref c/\eu w.G c T pA.lp (q++".<locals>."++"<lambda>")
 UU:∀f fd q,dH w.G.K q q (aa 56) f fd->w.G.mg "behind"=some (.ref f)->∃c T,fd.code=.ref c/\eu w.G c T pB.np (q++".<locals>."++pB.name)
theorem eu.at {G:Gx}{c T:Addr}{p:Pos}{q:Str} (h:eu G c T p q) {e:Fz} (l:Le G.ex e):eu { G with ex:=e } c T p q:=⟨h.cd,h.bi,h.Un,l _ _ h.tab⟩
theorem Lw.at {w:Wo} (O:Lw w) {e:Fz} (l:Le w.G.ex e):Lw (w.at e):=
  { O with ok := O.ok.at e
           UT:=λf fd q h1 h2=>let ⟨c,T,h3,h4⟩:=O.UT f fd q h1 h2;⟨c,T,h3,eu.at h4 l⟩
           UU:=λf fd q h1 h2=>let ⟨c,T,h3,h4⟩:=O.UU f fd q h1 h2;⟨c,T,h3,eu.at h4 l⟩ }
variable {w:Wo}
def Ke (a b c d:Int):MO:=.lst [.int a,.int b,.int c,.int d]
def Sd (o:MO):Prop:=∃a b c d,o=Ke a b c d
def zI:Sp:=λds M Q _=>∃p n o,ds=[.ref p,.int n]/\M p=some o/\Sd o/\0<n/\n<2 ^ 200/\∀r o',Sd o'->0<=r->r<n->Q (.int r) (up M p o')
def Kf:B:=.cons (.ret (.op .Mod (.op .FloorDiv (.v 3) (.c (.int 7))) (.v 1))) .nil
def Kg:B:=.cons (.set (.one 3) (.op .Mod (.op .Mult (.op .Mod (.op .Mult (.v 3) (.v 3)) (.c (.int 2147483629))) (.c (.int 40692))) (.c (.int 2147483399)))) Kf
def Kh:B:=.cons (.set (.one 3) (.op .Mod (.op .Mult (.op .Add (.op .Add (.ix (.v 0) (.c (.int 3))) (.op .Mult (.c (.int 7919)) (.ix (.v 0) (.c (.int 2))))) (.c (.int 1))) (.c (.int 48271))) (.c (.int 2147483647)))) Kg
def Ki:B:=.cons (.cond (.and (.cmp .Eq (.ix (.v 0) (.c (.int 1))) (.c (.int 1))) (.cmp .Gt (.ix (.v 0) (.c (.int 0))) (.c (.int 0)))) (.cons (.set (.one 2) (.op .Mod (.ix (.v 0) (.c (.int 0))) (.v 1))) (.cons (.put (.v 0) (.c (.int 0)) (.op .FloorDiv (.ix (.v 0) (.c (.int 0))) (.v 1))) (.cons (.ret (.v 2)) .nil))) .nil) Kh
def Kj:B:=.cons (.put (.v 0) (.c (.int 2)) (.op .Add (.ix (.v 0) (.c (.int 2))) (.c (.int 1)))) Ki
theorem Kk:aB ["seed","most","found","number"] ["seed","most"] (ag (aa 60)):=⟨rfl,rfl,rfl,by decide +kernel,rfl,by decide +kernel,by decide +kernel⟩
theorem Kl:aH nm 40 ["seed","most","found","number"] (ag (aa 60)) (aw (aa 60))=Kj:=by kernel_rfl
def Ko:B:=(.cons (.set (.one 1) (.bi .max (.cons (.v 0) (.cons (.op .Sub (.c (.int 0)) (.v 0)) .nil)))) (.cons (.ret (.lst (.cons (.v 1) (.cons (.bi .int (.cons (.cmp .GtE (.v 1) (.op .Pow (.c (.int 10)) (.c (.int 18)))) .nil)) (.cons (.c (.int 0)) (.cons (.op .Mod (.v 0) (.c (.int 1999999943))) .nil)))))) .nil))
theorem Kp:aB ["cell","number"] ["cell"] (ag (aa 59)):=⟨rfl,rfl,rfl,by decide +kernel,rfl,by decide +kernel,by decide +kernel⟩
theorem Kq:aH nm 40 ["cell","number"] (ag (aa 59)) (aw (aa 59))=Ko:=by kernel_rfl
theorem zJ (O:Lw w):FO w 41 1 zI:=by
 refine aL O.ok O.hn _ ⟨"_law_draw",aa 60,["seed","most"]⟩ (by rw[O.hd];rfl) {} { cs:=trivial } Kk Kl λds M Q _ h=>?_;obtain⟨p,n,o,rfl,hp,⟨a,b,c,d,rfl⟩,h0,h1,h⟩:=h;refine⟨rfl,?_⟩;refine .inl ⟨_,hp,_,rfl,.inl ⟨_,hp,_,rfl,?_⟩⟩;refine (λrest=>(.inl ⟨_,av,_,rfl,bB (aV (λe1=>.inl ⟨_,av,_,rfl,aV (λe2=>?_) λe2=>rest⟩) λe1=>ay (by decide) rest)⟩)) ?_
 ·refine .inl ⟨_,av,_,rfl,.inl ⟨_,av,_,rfl,zt (by decide),Vd (by decide),pz,Vd ?_,pz,Vd (by decide),pz,⟨by decide,by decide⟩,h0,?_⟩⟩
  ·have:=Int.emod_nonneg ((d+7919 * (c+1)+1) * 48271) (b:=2147483647) (by decide);have:=Int.emod_lt_of_pos ((d+7919 * (c+1)+1) * 48271) (b:=2147483647) (by decide);constructor <;> (dsimp only;lia)
  ·exact ak (h _ _ ⟨_,_,_,_,rfl⟩ (Int.emod_nonneg _ (by lia)) (Int.emod_lt_of_pos _ h0))
 ·refine .inl ⟨_,av,_,rfl,h0,.inl ⟨_,av,_,rfl,⟨h0,h1⟩,.inl ⟨_,av,_,rfl,?_⟩⟩⟩;rw[N.cF];exact ak (h _ _ ⟨_,_,_,_,rfl⟩ (Int.emod_nonneg _ (by lia)) (Int.emod_lt_of_pos _ h0))
def zN:Sp:=λds M Q _=>∃c,ds=[.int c]/\∀p o,M p=none->Sd o->Q (.ref p) (up M p o)
theorem Kr (O:Lw w):FO w 40 1 zN:=by
 refine aL O.ok O.hn _ ⟨"_law_seed",aa 59,["cell"]⟩ (by rw[O.hd];rfl) {} { cs:=trivial } Kp Kq λds M Q _ h=>?_;obtain⟨c,rfl,h⟩:=h;refine⟨rfl,?_⟩;exact⟨⟨by decide,by decide,by decide⟩,pz,l4,.inr λp hp=>ak (h p _ hp ⟨_,_,_,_,rfl⟩)⟩
noncomputable def i0:Kd:=.row [("b",.word),("r",.num)]
noncomputable def fL:Kd:=.row [("a",.num),("b",.word),("t",.ai .num),("z",.word)]
noncomputable def bb:Sc:=[("r",i0),("s",i0),("t",.num),("u",fL),("v",.ai .word)]
def j7:Sp:=λds M Q _=>ds=[]/\Q (bU bb) M
variable {w:Wo}
noncomputable def Ks:B:=.cons (.ret (.rY (.cons (.c (.str "r")) (.cons (.c (.str "s")) (.cons (.c (.str "t")) (.cons (.c (.str "u")) (.cons (.c (.str "v")) .nil))))) (.cons (.v 0) (.cons (.v 0) (.cons (.tup (.cons (.c (.str "num")) .nil)) (.cons (.v 1) (.cons (.tup (.cons (.c (.str "bag")) (.cons (.tup (.cons (.c (.str "word")) .nil)) .nil))) .nil))))))) .nil
noncomputable def Kt:B:=.cons (.set (.one 1) (.tup (.cons (.c (.str "row")) (.cons (.tup (.cons (.tup (.cons (.c (.str "a")) (.cons (.tup (.cons (.c (.str "num")) .nil)) .nil))) (.cons (.tup (.cons (.c (.str "b")) (.cons (.tup (.cons (.c (.str "word")) .nil)) .nil))) (.cons (.tup (.cons (.c (.str "t")) (.cons (.tup (.cons (.c (.str "bag")) (.cons (.tup (.cons (.c (.str "num")) .nil)) .nil))) .nil))) (.cons (.tup (.cons (.c (.str "z")) (.cons (.tup (.cons (.c (.str "word")) .nil)) .nil))) .nil))))) .nil)))) Ks
noncomputable def Ku:B:=.cons (.set (.one 0) (.tup (.cons (.c (.str "row")) (.cons (.tup (.cons (.tup (.cons (.c (.str "b")) (.cons (.tup (.cons (.c (.str "word")) .nil)) .nil))) (.cons (.tup (.cons (.c (.str "r")) (.cons (.tup (.cons (.c (.str "num")) .nil)) .nil))) .nil))) .nil)))) Kt
theorem Kv:aB ["level","deep"] [] (ag (aa 68)):=⟨rfl,rfl,rfl,by decide +kernel,rfl,by decide +kernel,by decide +kernel⟩
theorem Kw:aH nm 40 ["level","deep"] (ag (aa 68)) (aw (aa 68))=Ku:=by kernel_rfl
noncomputable def Kx:B:=.cons (.ret (.og (.v 1))) .nil
noncomputable def Ky:B:=.cons (.loop (.many [2,3]) (.seq (.v 0)) (.cons (.cond (.cmp .NotIn (.v 2) (.v 1)) (.cons (.put (.v 1) (.v 2) (.v 3)) .nil) .nil) .nil)) Kx
noncomputable def Kz:B:=.cons (.set (.one 1) .oe) Ky
theorem KC:aB ["scope","found","name","other"] ["scope"] (ag (aa 70)):=⟨rfl,rfl,rfl,by decide +kernel,rfl,by decide +kernel,by decide +kernel⟩
theorem KD:aH nm 40 ["scope","found","name","other"] (ag (aa 70)) (aw (aa 70))=Kz:=by kernel_rfl
theorem KG:cO (aP bb)=aP bb:=by kernel_rfl
theorem md (O:Lw w):FO w 45 1 j7:=by
 refine aL O.ok O.hn _ ⟨"_law_kinds",aa 68,[]⟩ (by rw[O.hd];rfl) {} { cs:=trivial } Kv Kw λds M Q _ h=>?_;obtain⟨rfl,h⟩:=h;refine⟨rfl,l1,l2,l1,l2,l2,l2,?_⟩;refine⟨l1,l2,l1,l2,l1,l2,l2,l1,l2,l4,l2,?_⟩;refine⟨l1,l1,l2,.inl ?_⟩;have:a6 Q (.ao ((cO (aP bb)).map (·.1)) ((cO (aP bb)).map (·.2))) M:=by rw[KG,zu];exact ak h
 exact this
def oR:Sp:=λds M Q _=>∃sc,ds=[aN sc]/\sc.length<64/\(∀m∈sc,kd m.2<=49)/\∀out:Sc,(∀x k,(x,k)∈out ↔ lk x sc=some k)->out.length<=sc.length->(out.map (·.1)).Nodup->Q (aN out) M
structure KH (ms done:Sc):Prop where
 nd:(ms.map (·.1)).Nodup
 i3:∀x k,(x,k)∈ms ↔ lk x done=some k
 len:ms.length<=done.length
theorem KJ {sc:Sc} (hk:∀m∈sc,kd m.2<=49) {x:Str}{k:Kd} (h:lk x sc=some k):kd k<=49:=hk _ (et h)
theorem tH (O:Lw w):FO w 46 1 oR:=by
 refine aL O.ok O.hn _ ⟨"_law_seen",aa 70,["scope"]⟩ (by rw[O.hd];rfl) {} { cs:=trivial } KC KD λds M Q _ h=>?_;obtain⟨sc,rfl,hl,hk,h⟩:=h;refine⟨rfl,.inr λp hp=>?_⟩;refine ey (λxs τ M'=>∃ms done rest u v,xs=c8 rest/\sc=done++rest/\KH ms done/\τ=[some (aN sc),some (.ref p),u,v]/\M'=up M p (.ao (aP ms))) ?_ ?_ _ _ _ ⟨[],[],sc,none,none,rfl,rfl,⟨.nil,λx k=>by simp [lk],XC _⟩,rfl,rfl⟩
 ·rintro τ M' ⟨ms,done,rest,u,v,e1,e2,F,rfl,rfl⟩;cases rest with
  |cons _ _=>cases e1
  |nil=>
   rw[XX]at e2;subst e2;refine⟨trivial,tG hp (.rfl ?_)⟩;have US:∀m∈ms,kd m.2<=50:=λm hm=>Nat.le_succ_of_le (KJ hk ((F.i3 m.1 m.2).mp hm));rw[zu];show lE (bY 1) _ M _;refine zy (ms:=ms) (M:=M) (λk z=>?_) (XN F.len hl) US λout pm=>.inl (ak (h out (λx k=>(pm.mem_iff).trans (F.i3 x k)) (by rw[pm.length_eq];exact F.len) ((pm.map _).nodup_iff.mpr F.nd)));show bY 1 [br p (bU ms) (some (aN sc)),br p (bU ms) (some (.ref p)),_,_] M k;rw[oL];exact z
 ·rintro x xs τ M' ⟨ms,done,rest,u,v,e1,e2,F,rfl,rfl⟩;cases rest with
  |nil=>cases e1
  |cons r rest=>
   cases e1;refine⟨trivial,λN hN=>⟨rfl,⟨.inl ⟨_,av,?_⟩⟩⟩⟩;have hs:sc=(done++[r])++rest:=(by rw[e2];simp);have eZ:(aT (aP ms) (.inr r.1)).isSome=decide (r.1∈ms.map (·.1)):=(by rw[fe,Option.isSome_map,NQ.lQ]);have key:∀b:Bool,b=decide (r.1∈ms.map (·.1))->(if (!b)=true then qc nI (bY 1) (bY 2) (kD r.2) [some (aN sc),some (.ref p),some (.str r.1),some (kD r.2)] (up M p (.ao (aP ms))) N else N [some (aN sc),some (.ref p),some (.str r.1),some (kD r.2)] (up M p (.ao (aP ms)))):=by
    intro b hb;by_cases hx:r.1∈ms.map (·.1)
    ·rw[decide_eq_true hx]at hb;subst hb;refine ay (by decide) (hN _ _ ⟨ms,done++[r],rest,_,_,rfl,hs,⟨F.nd,λx k=>?_,by have:=F.len;simp;lia⟩,rfl,rfl⟩)
     rw[F.i3,tx];obtain⟨m,hm,Va⟩:=List.mem_map.mp hx;have:=(F.i3 m.1 m.2).mp hm;constructor
     ·intro z;rw[z];rfl
     ·intro z;cases y:lk x done with
      |some k'=>rw[y]at z;exact z
      |none=>
       rw[y]at z;have z:lk x [r]=some k:=z;rw[lk]at z;split at z
       ·rename_i e;rw[e,<- Va,this]at y;cases y
       ·cases z
    ·rw[decide_eq_false hx]at hb;subst hb;refine aY rfl (.inr ⟨_,av,?_,hN _ _ ⟨ms++[(r.1,r.2)],done++[r],rest,_,_,rfl,hs,⟨?_,λx k=>?_,by have:=F.len;simp;lia⟩,rfl,?_⟩⟩)
     ·have:=F.len;have:done.length<=sc.length:=(by rw[e2];simp);unfold aP;rw[Xx];exact XW (by lia:ms.length<64) (by decide)
     ·rw[XZ];exact zx F.nd hx
     ·rw[tx,Ze];constructor
      ·rintro (z |z)
       ·rw[(F.i3 x k).mp z];rfl
       ·cases List.mem_singleton.mp z;cases y:lk r.1 done with
        |none=>show lk r.1 [r]=_;rw[lk,if_pos rfl]
        |some k'=>exact absurd (List.mem_map.mpr ⟨_,(F.i3 r.1 k').mpr y,rfl⟩) hx
      ·intro z;cases y:lk x done with
       |some k'=>rw[y]at z;cases z;exact .inl ((F.i3 x _).mpr y)
       |none=>
        rw[y]at z;have z:lk x [r]=some k:=z;rw[lk]at z;split at z
        ·rename_i e;cases z;subst e;exact .inr (List.mem_singleton.mpr rfl)
        ·cases z
     ·rw[_root_.N.cF,zw hx]
   exact key _ eZ
variable {w:Wo}
noncomputable def KL:B:=.cons (.ret (.call 43 (.cons (.v 4) .nil))) .nil
noncomputable def KN:B:=.cons (.loop (.one 5) (.oh (.call 41 (.cons (.v 1) (.cons (.op .Sub (.c (.int 4)) (.v 2)) .nil)))) (.cons (.set (.one 6) (.call 44 (.cons (.ix (.v 0) (.c (.int 1))) (.cons (.v 1) (.cons (.c (.int 1)) .nil))))) (.cons (.ex (.mt .append (.v 4) (.cons (.tup (.cons (.v 6) (.cons (.ix (.lst (.cons (.c (.int 1)) (.cons (.c (.int 2)) (.cons (.neg (.c (.int 1))) (.cons (.neg (.c (.int 3))) (.cons (.op .Sub (.call 41 (.cons (.v 1) (.cons (.op .Pow (.c (.int 10)) (.c (.int 9))) .nil))) (.c (.int 3))) .nil)))))) (.call 41 (.cons (.v 1) (.cons (.c (.int 5)) .nil)))) .nil))) .nil))) .nil))) KL
noncomputable def KO:B:=.cons (.set (.one 4) (.lst .nil)) KN
noncomputable def KP:B:=.cons (.cond (.cmp .Eq (.ix (.v 0) (.c (.int 0))) (.c (.str "row"))) (.cons (.ret (.tup (.cons (.c (.str "row")) (.cons (.bi .tuple (.cons (.lc 2 [2,1] (.many [0,1]) (.seq (.ix (.v 0) (.c (.int 1)))) .ar (.tup (.cons (.v 0) (.cons (.call 44 (.cons (.v 1) (.cons (.v 3) (.cons (.v 2) .nil)))) .nil)))) .nil)) .nil)))) .nil) .nil) KO
noncomputable def KQ:B:=.cons (.cond (.cmp .Eq (.ix (.v 0) (.c (.int 0))) (.c (.str "word"))) (.cons (.ret (.tup (.cons (.c (.str "word")) (.cons (.ix (.lst (.cons (.c (.str "a")) (.cons (.c (.str "r")) (.cons (.c (.str "ab")) (.cons (.c (.str "dt")) .nil))))) (.call 41 (.cons (.v 1) (.cons (.c (.int 4)) .nil)))) .nil)))) .nil) .nil) KP
noncomputable def KR:B:=.cons (.cond (.cmp .Eq (.ix (.v 0) (.c (.int 0))) (.c (.str "num"))) (.cons (.set (.one 3) (.op .Mult (.call 41 (.cons (.v 1) (.cons (.op .Pow (.c (.int 10)) (.c (.int 9))) .nil))) (.op .Pow (.c (.int 10)) (.c (.int 20))))) (.cons (.ret (.tup (.cons (.c (.str "num")) (.cons (.ix (.lst (.cons (.op .Sub (.call 41 (.cons (.v 1) (.cons (.c (.int 5)) .nil))) (.c (.int 2))) (.cons (.v 3) .nil))) (.bi .int (.cons (.cmp .Eq (.call 41 (.cons (.v 1) (.cons (.c (.int 9)) .nil))) (.c (.int 0))) .nil))) .nil)))) .nil)) .nil) KQ
theorem KU:aB ["kind","seed","deep","great","counts","k","value"] ["kind","seed","deep"] (ag (aa 67)):=⟨rfl,rfl,rfl,by decide +kernel,rfl,by decide +kernel,by decide +kernel⟩
theorem KW:aH nm 40 ["kind","seed","deep","great","counts","k","value"] (ag (aa 67)) (aw (aa 67))=KR:=by kernel_rfl
def KY:Sp:=λds M Q _=>∃ κ p dp o,ds=[kD κ,.ref p,dp]/\(κ=.num\/κ=.word)/\M p=some o/\Sd o/\∀q o',Sd o'->(∀S G,Ty S G q κ)->((∃i,q=.num i)\/∃s,q=.word s)->Q (qD q) (up M p o')
theorem KZ (O:Lw w):FO w 44 2 KY:=by
 refine aL O.ok O.hn _ ⟨"_law_value",aa 67,["kind","seed","deep"]⟩ (by rw[O.hd];rfl) { cs:=[(41,zI)] } { cs:=⟨⟨1,XC _,zJ O⟩,trivial⟩ } KU KW λds M Q _ h=>?_;obtain⟨κ,p,dp,o,rfl,hκ,hp,so,h⟩:=h;rcases hκ with rfl |rfl
 ·refine⟨rfl,_,rfl,au (aY (by decide) ⟨⟨by decide,by decide,by decide⟩,p,_,o,rfl,hp,so,by decide,by decide,λr1 o1 s1 g0 g1=>⟨⟨by decide,by decide,by decide⟩,?_⟩⟩)⟩;have g1:r1<1000000000:=g1;refine⟨.inl (.inl ⟨by lia,by lia⟩),p,_,o1,rfl,av,s1,by decide,by decide,λr2 o2 s2 _ _=>⟨l2,.inl ?_⟩⟩;refine⟨p,_,o2,rfl,av,s2,by decide,by decide,λr3 o3 s3 _ _=>bB ⟨_,J',l2,?_⟩⟩;rw[N.cF,N.cF];exact ak (h (.num _) o3 s3 (λ_ _=>.num) (.inl ⟨_,rfl⟩))
 ·refine⟨rfl,_,rfl,au (ay (by decide) ⟨_,rfl,au (aY (by decide) ⟨l4,.inl ⟨p,_,o,rfl,hp,so,by decide,by decide,λr o' s' r0 r1=>?_⟩⟩)⟩)⟩;obtain⟨d,e1,e2⟩:=d5 (xs:=[.str "a",.str "r",.str "ab",.str "dt"]) r0 r1;obtain⟨s,rfl⟩:∃s,d=.str s:=by simp at e2;rcases e2 with z |z |z |z <;> exact⟨_,z⟩
  exact⟨_,e1,l2,ak (h (.word s) o' s' (λ_ _=>.word) (.inr ⟨_,rfl⟩))⟩
variable {w:Wo}
noncomputable def AK:List Kd:=[.num,.word,i0,fL,.ai .num,.ai .word,.ai i0,.ai fL,.ai (.ai .word)]
theorem zO {k:Kd} (h:k∈AK):kz k<900:=(by decide +kernel:∀k∈AK,kz k<900) k h
theorem eB {k:Kd} (h:k∈AK):kd k<=9:=(by decide +kernel:∀k∈AK,kd k<=9) k h
theorem zP {k:Kd} (h:k∈AK):fb k=true:=(by decide +kernel:∀k∈AK,fb k=true) k h
theorem zQ:∀{fs:List (Str×Kd)},j3 fs=true->("table" : Str) ∉ fs.map (·.1)
 |[],_=>by simp
 |(f,k)::r,h=>by
  rw[j3,XD,XD]at h;exact λz=>(List.mem_cons.mp z).elim (λe=>of_decide_eq_true h.1.1 e.symm) (zQ h.2)
noncomputable def zR:Kd->Bool
 |.row fs=>decide ((∀p∈fs,p.2∈AK)/\(fs.map (·.1)).Nodup/\fs.length<=4)
 |.ai k=>decide (k∈AK)
 |_=>true
theorem zU {k:Kd} (h:k∈AK):zR k=true:=(by decide +kernel:∀k∈AK,zR k=true) k h
theorem tI {fs:List (Str×Kd)} (h:.row fs∈AK):(∀p∈fs,p.2∈AK)/\(fs.map (·.1)).Nodup/\fs.length<=4:=of_decide_eq_true (zU h)
theorem g8 {k:Kd} (h:.ai k∈AK):k∈AK:=of_decide_eq_true (zU h)
noncomputable def kS (x:Str):Option Kd:=lk x bb
structure d6 (sc:Sc) (m:Nat):Prop where
 TZ:∀p∈sc,p.2∈AK
 len:sc.length+m<=40
 Ve:∀p∈sc,p.1≠"w"
theorem d6.kd {sc:Sc}{m:Nat} (h:d6 sc m):∀p∈sc,kd p.2<=49:=λp hp=>by have:=eB (h.TZ p hp);lia
structure Hq (κ:Kd) (sc:Sc) (q:Qn):Prop where
 ty:Ty kS sc q κ
 is:(∃x,q=.var x)\/∃f x,q=.at f (.var x)
noncomputable def K1:B:=.cons (.ret (.v 2)) .nil
noncomputable def K2:B:=.cons (.loop (.many [3,4]) (.seq (.call 46 (.cons (.v 1) .nil))) (.cons (.cond (.cmp .Eq (.v 4) (.v 0)) (.cons (.ex (.mt .append (.v 2) (.cons (.tup (.cons (.c (.str "var")) (.cons (.v 3) .nil))) .nil))) .nil) .nil) (.cons (.cond (.cmp .Eq (.ix (.v 4) (.c (.int 0))) (.c (.str "row"))) (.cons (.set (.one 2) (.op .Add (.v 2) (.lc 2 [0,3] (.many [0,1]) (.seq (.ix (.v 4) (.c (.int 1)))) (.cmp .Eq (.v 1) (.v 2)) (.tup (.cons (.c (.str "at")) (.cons (.v 0) (.cons (.tup (.cons (.c (.str "var")) (.cons (.v 3) .nil))) .nil))))))) .nil) .nil) .nil))) K1
noncomputable def K3:B:=.cons (.set (.one 2) (.lst .nil)) K2
theorem K4:aB ["kind","scope","ways","name","other"] ["kind","scope"] (ag (aa 71)):=⟨rfl,rfl,rfl,by decide +kernel,rfl,by decide +kernel,by decide +kernel⟩
theorem K5:aH nm 40 ["kind","scope","ways","name","other"] (ag (aa 71)) (aw (aa 71))=K3:=by kernel_rfl
def tJ:Sp:=λds M Q _=>∃ κ sc m,ds=[kD κ,aN sc]/\κ∈AK/\d6 sc m/\∀ws:List Qn,(∀q∈ws,Hq κ sc q)->ws.length<=200->Q (.lst (ws.map qD)) M
theorem zW (O:Lw w):FO w 47 2 tJ:=by
 refine aL O.ok O.hn _ ⟨"_law_held",aa 71,["kind","scope"]⟩ (by rw[O.hd];rfl) { cs:=[(46,oR)] } { cs:=⟨⟨1,XC _,tH O⟩,trivial⟩ } K4 K5 λds M Q _ h=>?_;obtain⟨κ,sc,m,rfl,hκ,hs,h⟩:=h;refine⟨rfl,XM _,.inr λp hp=>?_⟩;refine⟨sc,rfl,by have:=hs.len;lia,hs.kd,λout ho lo _=>?_⟩
 refine ey (λxs τ M'=>∃rest lw ws u v,xs=c8 rest/\(∀p∈rest,lk p.1 sc=some p.2)/\τ=[some (kD κ),some (aN sc),some (.ref lw),u,v]/\M lw=none/\M' lw=some (.lst (ws.map qD))/\cy M M'/\(∀q∈ws,Hq κ sc q)/\ws.length+5 * rest.length<=200)
  ?_ ?_ _ _ _ ⟨out,p,[],none,none,rfl,λp hp=>(ho p.1 p.2).mp hp,rfl,hp,av,sX hp rfl,λq hq=>(nomatch hq),by have:=hs.len;simp;lia⟩
 ·rintro τ M' ⟨rest,lw,ws,u,v,e1,hr,rfl,n1,n2,sb,hw,i4⟩;exact⟨trivial,.rfl (zD sb n1 n2 (h ws hw (by lia)))⟩
 ·rintro x xs τ M' ⟨rest,lw,ws,u,v,e1,hr,rfl,n1,n2,sb,hw,i4⟩;cases rest with
  |nil=>cases e1
  |cons r rest=>
   cases e1;have hlk:=hr r XH;have hr':∀p∈rest,lk p.1 sc=some p.2:=λp hp=>hr p (XF _ hp);have zn:r.2∈AK:=hs.TZ _ (et hlk);refine⟨trivial,λN hN=>⟨rfl,?_⟩⟩;refine fK λN2 me=>?_;have go:∀(M1:Mp) (g9:List Qn),M1 lw=some (.lst (g9.map qD))->cy M M1->(∀q∈g9,Hq κ sc q)->g9.length<=ws.length+1->N2 [some (kD κ),some (aN sc),some (.ref lw),some (.str r.1),some (kD r.2)] M1:=by
    intro M1 g9 g1 g2 g4 g5;refine me _ _ ?_;cases hk:r.2 with
    |row fs=>
     obtain⟨f1,f2,f3⟩:=tI (hk ▸ zn);refine⟨_,rfl,au (aY (by decide) ⟨_,rfl,?_⟩)⟩;refine ew (λxs ys M2=>M2=M1/\∃co vs,xs=bj co/\ys=vs.map qD/\(∀p∈co,p∈fs)/\(∀q∈vs,Hq κ sc q)/\vs.length+co.length<=4) ?_ ?_ _ _ _ ⟨rfl,fs,[],rfl,rfl,λp h=>h,λq h=>(nomatch h),by simpa using f3⟩
     ·rintro ys M2 ⟨rfl,co,vs,_,rfl,h2,h3,h4⟩;refine⟨trivial,XN (by rw[Xx];lia:_<=4) (by decide),.inl ?_⟩;refine⟨_,g1,XG (by simp at i4 ⊢;lia:_<=300) (by decide),.inr λp4 zX=>?_⟩;refine hN _ _ ⟨rest,p4,g9++vs,_,_,rfl,hr',rfl,cy.no g2 zX,by rw[av,XZ],oM g2 (cy.no g2 zX) rfl,λq hq=>(List.mem_append.mp hq).elim (g4 q) (h3 q),by simp at i4 ⊢;lia⟩
     ·rintro x xs ys M2 ⟨rfl,co,vs,e1,rfl,h2,h3,h4⟩;cases co with
      |nil=>cases e1
      |cons g co=>
       obtain⟨gf,gk⟩:=g;rw[bj]at e1;cases e1;have hm:=h2 _ XH;refine⟨trivial,XN (by rw[Xx];lia:_<=4) (by decide),λN4 zY=>⟨rfl,j6 (by have:kd gk<=9:=eB (f1 _ hm);lia) (aV (λe=>?_) λe=>?_)⟩⟩
       ·have e:=of_decide_eq_true e;have:=zY (vs.map qD++[qD (.at gf (.var r.1))]) M2 ⟨rfl,co,vs++[.at gf (.var r.1)],rfl,by rw[XZ];rfl,λp h=>h2 p (XF _ h),λq hq=>?_,by simp at h4 ⊢;lia⟩
        ·exact⟨l2,l3,this⟩
        ·rcases List.mem_append.mp hq with z |z
         ·exact h3 q z
         ·rw[List.mem_singleton.mp z];exact⟨.at f2 (.var (by rw[hlk,hk])) (by rw[oK f2 hm,e]),.inr ⟨_,_,rfl⟩⟩
       ·exact zY _ _ ⟨rfl,co,vs,rfl,rfl,λp h=>h2 p (XF _ h),h3,by simp at h4 ⊢;lia⟩
    |num=>exact⟨_,rfl,au (ay (by decide) (hN _ _ ⟨rest,lw,g9,_,_,rfl,hr',rfl,n1,g1,g2,g4,by simp at i4;lia⟩))⟩
    |word=>exact⟨_,rfl,au (ay (by decide) (hN _ _ ⟨rest,lw,g9,_,_,rfl,hr',rfl,n1,g1,g2,g4,by simp at i4;lia⟩))⟩
    |ai k=>exact⟨_,rfl,au (ay (by decide) (hN _ _ ⟨rest,lw,g9,_,_,rfl,hr',rfl,n1,g1,g2,g4,by simp at i4;lia⟩))⟩
   refine j6 (by have:=eB zn;lia) (aV (λe=>?_) λe=>go M' ws n2 sb hw (by lia))
   have e:=of_decide_eq_true e;refine⟨.inl ⟨rfl,_,n2⟩,l2,_,n2,XN (by simp at i4 ⊢;lia:_<=200) (by decide),go _ (ws++[.var r.1]) ?_ ?_ ?_ (by simp)⟩
   ·rw[av,XZ];rfl
   ·exact oM sb n1 rfl
   ·intro q hq;rcases List.mem_append.mp hq with z |z
    ·exact hw q z
    ·rw[List.mem_singleton.mp z];exact⟨.var (by rw[hlk,e]),.inl ⟨_,rfl⟩⟩
variable {w:Wo}
def Hs (M:Mp) (p:Addr):Prop:=∃o,M p=some o/\Sd o
def Sx (M:Mp) (p:Addr) (X:Mp):Prop:=∃o,Sd o/\X=up M p o
theorem zZ {M:Mp}{p:Addr}{o:MO} (h:M p=some o):up M p o=M:=funext λb=>by
 by_cases e:b=p
 ·rw[e,av,h]
 ·rw[aF e]
theorem Sx.rfl {M:Mp}{p:Addr} (h:Hs M p):Sx M p M:=let ⟨o,h1,h2⟩:=h;⟨o,h2,(zZ h1).symm⟩
theorem Sx.hs {M X:Mp}{p:Addr} (h:Sx M p X):Hs X p:=let ⟨o,h1,h2⟩:=h;⟨o,by rw[h2];exact av,h1⟩
theorem Sx.tr {M X Y:Mp}{p:Addr} (h:Sx M p X) (g:Sx X p Y):Sx M p Y:=by
 obtain⟨o,h1,rfl⟩:=h;obtain⟨o',h2,rfl⟩:=g;exact⟨o',h2,N.cF⟩
theorem Sx.ne {M X:Mp}{p a:Addr} (h:Sx M p X) (n:a≠p):X a=M a:=by obtain⟨o,_,rfl⟩:=h;exact aF n
def i5:Sp:=λds M Q _=>∃p n,ds=[.ref p,.int n]/\Hs M p/\0<n/\n<2 ^ 200/\∀r X,Sx M p X->0<=r->r<n->Q (.int r) X
theorem j8 (O:Lw w):FO w 41 1 i5:=(zJ O).imp λds M Q E ⟨p,n,e,⟨o,h1,h2⟩,h3,h4,h⟩=>⟨p,n,o,e,h1,h2,h3,h4,λr o' s=>h r _ ⟨o',s,rfl⟩⟩
def z9:Sp:=λds M Q _=>∃ κ p dp,ds=[kD κ,.ref p,dp]/\(κ=.num\/κ=.word)/\Hs M p/\∀q X,Sx M p X->(∀S G,Ty S G q κ)->((∃i,q=.num i)\/∃s,q=.word s)->Q (qD q) X
theorem K6 (O:Lw w):FO w 44 2 z9:=(KZ O).imp λds M Q E ⟨κ,p,dp,e,h0,⟨o,h1,h2⟩,h⟩=>⟨κ,p,dp,o,e,h0,h1,h2,λq o' s=>h q _ ⟨o',s,rfl⟩⟩
mutual
noncomputable def dq:Qn->Nat
 |.num _=>1 |.word _=>1 |.var _=>1 |.tab _=>1
 |.none k=>1+kd k
 |.row fs=>3+bo fs
 |.at _ q=>1+dq q
 |.add a b=>1+max (dq a) (dq b)
 |.mul a b=>1+max (dq a) (dq b)
 |.one a=>1+dq a
 |.both a b=>1+max (dq a) (dq b)
 |.times _ a=>1+dq a
 |.for _ a b=>1+max (dq a) (dq b)
 |.aU a b=>1+max (dq a) (dq b)
 |.let _ a b=>1+max (dq a) (dq b)
 |.same a b=>1+max (dq a) (dq b)
 |.under a b=>1+max (dq a) (dq b)
 |.and a b=>1+max (dq a) (dq b)
 |.or a b=>1+max (dq a) (dq b)
 |.not a=>1+dq a
noncomputable def bo:List (Str×Qn)->Nat
 |[]=>0
 |(_,q)::r=>max (dq q) (bo r)
end
mutual
noncomputable def zk:Kd->Nat
 |.num=>2 |.word=>2
 |.row fs=>1+oS fs
 |.ai k=>1+zk k
noncomputable def oS:List (Str×Kd)->Nat
 |[]=>0
 |(_,k)::r=>zk k+oS r
end
mutual
noncomputable def TQ:Kd->Nat
 |.num=>2 |.word=>2
 |.row fs=>3+oT fs
 |.ai k=>max (1+TQ k) (1+kd k)
noncomputable def oT:List (Str×Kd)->Nat
 |[]=>0
 |(_,k)::r=>max (TQ k) (oT r)
end
noncomputable def zf:Nat->Nat
 | 0=>14
 |f+1=>5 * zf f+40
noncomputable def nB (f:Int) (k:Kd):Nat:=if f<=0 then zk k else zf f.toNat
noncomputable def dB (f:Int) (k:Kd):Nat:=if f<=0 then TQ k else 5 * f.toNat+9
theorem oU {k:Kd} (h:k∈AK):2<=zk k/\zk k<=14/\2<=TQ k/\TQ k<=9/\1<=kd k:=by
 have:∀k∈AK,2<=zk k/\zk k<=14/\2<=TQ k/\TQ k<=9/\1<=kd k:=by decide +kernel
 exact this k h
theorem i6:∀f,14<=zf f
 | 0=>XC _
 |f+1=>by have:=i6 f;rw[zf];lia
theorem oV {f g:Nat} (h:f<=g):zf f<=zf g:=by
 induction h with
 |refl=>exact XC _
 |step _ ih=>rw[zf];lia
theorem fg {f:Int}{k:Kd} (h:k∈AK):2<=nB f k/\nB f k<=zf f.toNat/\2<=dB f k/\dB f k<=5 * f.toNat+9:=by
 obtain⟨h1,h2,h3,h4,_⟩:=oU h;have:=i6 f.toNat;unfold nB dB;split
 ·lia
 ·exact⟨by lia,XC _,by lia,XC _⟩
structure GQ (f:Int) (κ:Kd) (sc:Sc) (q:Qn):Prop where
 ty:Ty kS sc q κ
 n:nq q<=nB f κ
 d:dq q<=dB f κ
def Rk (n:Nat) (f:Int) (κ:Kd) (t:Nat):Prop:=20 * f.toNat+2 * kd κ+t<=n
noncomputable def TR:Kd->Nat
 |.ai _=>0
 |_=>2
theorem tK {k:Kd}:TR k<=2:=by cases k <;> simp [TR]
theorem d6.du {sc:Sc}{m k:Nat} (h:d6 sc m) (hk:k<=m):d6 sc k:=⟨h.TZ,by have:=h.len;lia,h.Ve⟩
def g' (n:Nat):Sp:=λds M Q _=>∃ κ sc f p,ds=[kD κ,aN sc,.int f,.ref p]/\κ∈AK/\Rk n f κ 1/\d6 sc f.toNat/\Hs M p/\∀q X,Sx M p X->GQ f κ sc q->Q (qD q) X
def fh (n:Nat):Sp:=λds M Q _=>∃ κ sc f p,ds=[kD κ,aN sc,.int f,.ref p]/\κ∈AK/\Rk n f κ (TR κ)/\d6 sc f.toNat/\Hs M p/\∀q X,Sx M p X->GQ f κ sc q->Q (qD q) X
theorem K7 {f:Int}{k:Kd} (h:k∈AK):∀{q:Qn}{sc:Sc},GQ (f-1) k sc q->GQ f k sc q:=λ{q sc} g=>by
 have z:=oV (show (f-1).toNat<=f.toNat by lia);obtain⟨h1,h2,h3,h4,_⟩:=oU h;have K8:=i6 f.toNat;refine⟨g.ty,XG g.n ?_,XG g.d ?_⟩
 ·unfold nB;split <;> split <;> lia
 ·unfold dB;split <;> split <;> lia
noncomputable def sB (f:Int):List (Str×Kd)->Nat
 |[]=>0
 |(_,k)::r=>nB f k+sB f r
noncomputable def mB (f:Int):List (Str×Kd)->Nat
 |[]=>0
 |(_,k)::r=>max (dB f k) (mB f r)
theorem Aa {f:Int}{x:Str}{k:Kd}:∀{a:List (Str×Kd)},sB f (a++[(x,k)])=sB f a+nB f k
 |[]=>by simp [sB]
 |(_,l)::r=>by rw[Y3,sB,sB,Aa];lia
theorem Ab {f:Int}{x:Str}{k:Kd}:∀{a:List (Str×Kd)},mB f (a++[(x,k)])=max (mB f a) (dB f k)
 |[]=>by simp [mB]
 |(_,l)::r=>by rw[Y3,mB,mB,Ab,Nat.max_assoc]
theorem Ac {x:Str}{k:Qn}:∀{a:List (Str×Qn)},cp (a++[(x,k)])=cp a+nq k
 |[]=>by simp [cp]
 |(_,l)::r=>by rw[Y3,cp,cp,Ac];lia
theorem Ad {x:Str}{k:Qn}:∀{a:List (Str×Qn)},bo (a++[(x,k)])=max (bo a) (dq k)
 |[]=>by simp [bo]
 |(_,l)::r=>by rw[Y3,bo,bo,Ad,Nat.max_assoc]
theorem Ae {x:Str}{k:Qn}:∀{a:List (Str×Qn)},a9 (a++[(x,k)])=a9 a++[.tup [.str x,qD k]]
 |[]=>by simp [a9]
 |(_,l)::r=>by rw[Y3,a9,a9,Ae];rfl
theorem Af {S:Str->Option Kd}{G:Sc}{x:Str}{q:Qn}{k:Kd} (h:Ty S G q k):∀{a:List (Str×Qn)}{b:List (Str×Kd)},dP S G a b->dP S G (a++[(x,q)]) (b++[(x,k)])
 |_,_,.nil=>.cons h .nil
 |_,_,.cons t r=>.cons t (Af h r)
theorem mh:∀{a:List (Str×Qn)},(a9 a).length=a.length
 |[]=>by rw[a9];rfl
 |(_,_)::r=>by rw[a9,XI,XI,mh]
theorem oX {S:Str->Option Kd}{G:Sc}:∀{a:List (Str×Qn)}{b:List (Str×Kd)},dP S G a b->a.length=b.length
 |_,_,.nil=>rfl
 |_,_,.cons _ r=>by rw[XI,XI,oX r]
theorem K9 {f:Int}{fs:List (Str×Kd)} (h:.row fs∈AK):1+sB (f-1) fs<=nB f (.row fs)/\3+mB (f-1) fs<=dB f (.row fs):=by
 obtain⟨f1,_,f3⟩:=tI h;by_cases hf:f<=0
 ·have key:∀ fs:List (Str×Kd),sB (f-1) fs=oS fs/\mB (f-1) fs=oT fs:=by
   intro fs
   induction fs with
   |nil=>exact⟨rfl,rfl⟩
   |cons p r ih=>
    obtain⟨x,k⟩:=p;rw[sB,mB,oS,oT,ih.1,ih.2];unfold nB dB;rw[if_pos (by lia),if_pos (by lia)];exact⟨rfl,rfl⟩
  unfold nB dB;rw[if_pos hf,if_pos hf,zk,TQ,(key fs).1,(key fs).2];exact⟨XC _,XC _⟩
 ·have key:∀ fs:List (Str×Kd),(∀ p∈fs,p.2∈AK)->sB (f-1) fs<=fs.length * zf (f-1).toNat/\mB (f-1) fs<=5 * (f-1).toNat+9:=by
   intro fs
   induction fs with
   |nil=>exact λ_=>⟨by rw[sB];lia,by rw[mB];lia⟩
   |cons p r ih=>
    intro hp;obtain⟨x,k⟩:=p;have:=ih λp h=>hp p (XF _ h);have hb:=fg (f:=f-1) (k:=k) (hp (x,k) XH);rw[sB,mB,XI,Nat.succ_mul];lia
  obtain⟨k1,k2⟩:=key fs f1;have k3:fs.length * zf (f-1).toNat<=4 * zf (f-1).toNat:=Nat.mul_le_mul_right _ f3;obtain⟨g,hg⟩:∃g:Nat,f=(g:Int)+1:=⟨(f-1).toNat,by lia⟩;subst hg;unfold nB dB;rw[if_neg hf,if_neg hf,show ((g:Int)+1).toNat=g+1 from rfl,zf];have:((g:Int)+1-1).toNat=g:=by lia
  rw[this]at k1 k2 k3;lia
theorem Ag {gf:Str}{gk:Kd}:∀{fs:List (Str×Kd)},(gf,gk)∈fs->kd gk<=gz fs
 |(y,l)::r,z=>by
  rw[gz];rcases List.mem_cons.mp z with z |z
  ·cases z;lia
  ·have:=Ag z;lia
noncomputable def K':B:=.cons (.ret (.call 44 (.cons (.v 0) (.cons (.v 3) (.cons (.c (.int 1)) .nil))))) .nil
noncomputable def La:B:=.cons (.cond (.and (.cmp .Eq (.ix (.v 0) (.c (.int 0))) (.c (.str "num"))) (.and (.cmp .Gt (.v 2) (.c (.int 0))) (.cmp .Eq (.call 41 (.cons (.v 3) (.cons (.c (.int 3)) .nil))) (.c (.int 0))))) (.cons (.set (.one 5) (.call 48 (.cons (.v 0) (.cons (.v 1) (.cons (.op .Sub (.v 2) (.c (.int 1))) (.cons (.v 3) .nil)))))) (.cons (.ret (.tup (.cons (.ix (.lst (.cons (.c (.str "add")) (.cons (.c (.str "mul")) .nil))) (.call 41 (.cons (.v 3) (.cons (.c (.int 2)) .nil)))) (.cons (.v 5) (.cons (.call 48 (.cons (.v 0) (.cons (.v 1) (.cons (.op .Sub (.v 2) (.c (.int 1))) (.cons (.v 3) .nil))))) .nil))))) .nil)) .nil) K'
noncomputable def Lb:B:=.cons (.cond (.cmp .Eq (.ix (.v 0) (.c (.int 0))) (.c (.str "row"))) (.cons (.ret (.tup (.cons (.c (.str "row")) (.cons (.bi .tuple (.cons (.lc 2 [2,1,3] (.many [0,1]) (.seq (.ix (.v 0) (.c (.int 1)))) .ar (.tup (.cons (.v 0) (.cons (.call 52 (.cons (.v 1) (.cons (.v 3) (.cons (.op .Sub (.v 2) (.c (.int 1))) (.cons (.v 4) .nil))))) .nil)))) .nil)) .nil)))) .nil) .nil) La
noncomputable def Lc:B:=.cons (.cond (.cmp .Eq (.ix (.v 0) (.c (.int 0))) (.c (.str "bag"))) (.cons (.ret (.call 52 (.cons (.v 0) (.cons (.v 1) (.cons (.op .Sub (.v 2) (.c (.int 1))) (.cons (.v 3) .nil)))))) .nil) .nil) Lb
noncomputable def Ah:B:=.cons (.cond (.and (.cmp .NotEq (.v 4) (.lst .nil)) (.cmp .Gt (.call 41 (.cons (.v 3) (.cons (.c (.int 4)) .nil))) (.c (.int 0)))) (.cons (.ret (.ix (.v 4) (.call 41 (.cons (.v 3) (.cons (.bi .len (.cons (.v 4) .nil)) .nil))))) .nil) .nil) Lc
noncomputable def Ld:B:=.cons (.set (.one 4) (.call 47 (.cons (.v 0) (.cons (.v 1) .nil)))) Ah
theorem Lf:aB ["kind","scope","fuel","seed","ways","one"] ["kind","scope","fuel","seed"] (ag (aa 72)):=⟨rfl,rfl,rfl,by decide +kernel,rfl,by decide +kernel,by decide +kernel⟩
theorem Lg:aH nm 40 ["kind","scope","fuel","seed","ways","one"] (ag (aa 72)) (aw (aa 72))=Ld:=by kernel_rfl
noncomputable abbrev Vf (n:Nat):a0 w:={ cs:=[(47,tJ),(41,i5),(52,fh n),(48,g' n),(44,z9)] }
theorem Lh (O:Lw w) {n:Nat} (hs:FO w 48 (n+4) (g' n)) (ha:FO w 52 (n+4) (fh n)):FO w 48 (n+5) (g' (n+1)):=by
 refine aL O.ok O.hn _ ⟨"_law_small",aa 72,["kind","scope","fuel","seed"]⟩ (by rw[O.hd];rfl) (Vf n) { cs:=⟨⟨2,by lia,zW O⟩,⟨1,by lia,j8 O⟩,⟨n+4,XC _,ha⟩,⟨n+4,XC _,hs⟩,⟨2,by lia,K6 O⟩,trivial⟩ } Lf Lg λds M Q _ h=>?_;obtain⟨κ,sc,f,p,rfl,hκ,rk,am,hp,h⟩:=h;have nb:=fg (f:=f) hκ;have fin:∀X q,Sx M p X->GQ f κ sc q->a6 Q (qD q) X:=λX q u g=>ak (h q X u g);refine⟨rfl,κ,sc,_,rfl,hκ,am,λws hw lw=>?_⟩;show B.w (Vf (w:=w) n).wd nm.af Ah (aS Q) [some (kD κ),some (aN sc),some (.int f),some (.ref p),some (.lst (ws.map qD)),none] M;refine fK λN2 me=>?_;have go:∀X,Sx M p X->N2 [some (kD κ),some (aN sc),some (.int f),some (.ref p),some (.lst (ws.map qD)),none] X:=by
  intro X u;refine me _ _ ?_;cases κ with
  |ai k=>
   exact⟨_,rfl,au (aY (by decide) ⟨.ai k,sc,f-1,p,rfl,hκ,by unfold Rk at rk ⊢;rw[TR];lia,am.du (by lia),u.hs,λq Y u2 g=>fin _ q (u.tr u2) (K7 hκ g)⟩)⟩
  |row fs=>
   obtain⟨f1,f2,f3⟩:=tI hκ;refine⟨_,rfl,au (ay (by decide) ⟨_,rfl,au (aY (by decide) ⟨_,rfl,?_⟩)⟩)⟩;refine ew (λxs ys Y=>∃co qs pre,xs=bj co/\fs=pre++co/\ys=a9 qs/\dP kS sc qs pre/\cp qs<=sB (f-1) pre/\bo qs<=mB (f-1) pre/\Sx M p Y) ?_ ?_ _ _ _ ⟨fs,[],[],rfl,rfl,rfl,.nil,XC _,XC _,u⟩
   ·rintro ys Y ⟨co,qs,pre,e1,e2,rfl,t1,t2,t3,uY⟩;cases co with
    |cons g co=>obtain⟨gf,gk⟩:=g;rw[bj]at e1;cases e1
    |nil=>
     rw[XX]at e2;subst e2;have ln:(a9 qs).length<=4:=(by rw[mh,oX t1];exact f3);obtain⟨b1,b2⟩:=K9 (f:=f) hκ;refine⟨trivial,XN ln (by decide),.inl ⟨l2,fin _ (.row qs) uY ⟨.row (by rw[mh]at ln;lia) (zQ (by have:=zP hκ;rw[fb]at this;exact this)) t1,by rw[nq];lia,by rw[dq];lia⟩⟩⟩
   ·rintro x xs ys Y ⟨co,qs,pre,e1,e2,rfl,t1,t2,t3,uY⟩;cases co with
    |nil=>cases e1
    |cons g co=>
     obtain⟨gf,gk⟩:=g;rw[bj]at e1;cases e1;have hm:(gf,gk)∈fs:=(by rw[e2];simp);have Li:=f1 _ hm;have ln:(a9 qs).length<=4:=(by rw[mh,oX t1];rw[e2]at f3;simp at f3;lia);have kk:kd gk+3<=kd (.row fs):=by rw[kd];have:=Ag hm;lia
     refine⟨trivial,XN ln (by decide),λN4 h4=>⟨rfl,gk,sc,f-1,p,rfl,Li,by have:=@tK gk;unfold Rk at rk ⊢;lia,am.du (by lia),uY.hs,λq Z u3 g=>?_⟩⟩
     have:=h4 (a9 qs++[.tup [.str gf,qD q]]) _ ⟨co,qs++[(gf,q)],pre++[(gf,gk)],rfl,by rw[e2];simp,by rw[Ae],Af g.ty t1,by rw[Ac,Aa];have:=g.n;lia,by rw[Ad,Ab];have:=g.d;lia,uY.tr u3⟩
     exact⟨l2,this⟩
  |num=>
   have gv:∀X,Sx M p X->B.w (Vf (w:=w) n).wd nm.af (.cons (.ret (.call 44 (.cons (.v 0) (.cons (.v 3) (.cons (.c (.int 1)) .nil))))) .nil) (aS Q) [some (kD .num),some (aN sc),some (.int f),some (.ref p),some (.lst (ws.map qD)),none] X:=λX u=>
    ⟨.num,p,_,rfl,.inl rfl,u.hs,λq Y u2 ty lit=>fin _ q (u.tr u2) ⟨ty _ _,by rcases lit with ⟨i,rfl⟩ |⟨i,rfl⟩ <;> (rw[nq];lia),by rcases lit with ⟨i,rfl⟩ |⟨i,rfl⟩ <;> (rw[dq];lia)⟩⟩
   refine⟨_,rfl,au (ay (by decide) ⟨_,rfl,au (ay (by decide) ⟨_,rfl,au (aY (by decide) (aV (λe1=>?_) λe1=>ay (by decide) (gv X u)))⟩)⟩)⟩;have fp:0<f:=of_decide_eq_true e1;refine⟨p,3,rfl,u.hs,by decide,by decide,λr1 X1 u1 _ _=>bB (aV (λe2=>?_) λe2=>gv _ (u.tr u1))⟩;have Ai:Rk n (f-1) .num 1:=(by unfold Rk at rk ⊢;lia);refine⟨.num,sc,f-1,p,rfl,hκ,Ai,am.du (by lia),u1.hs,λqa X2 u2 ga=>?_⟩;refine⟨l2,.inl ⟨p,2,rfl,u2.hs,by decide,by decide,λr2 X3 u3 oY j9=>?_⟩⟩;obtain⟨d,e3,e4⟩:=d5 (xs:=[.str "add",.str "mul"]) oY j9;refine⟨d,e3,?_⟩;refine⟨.num,sc,f-1,p,rfl,hκ,Ai,am.du (by lia),u3.hs,λqb X4 u4 gb=>⟨l3,?_⟩⟩;have UW:1+nq qa+nq qb<=nB f .num/\1+max (dq qa) (dq qb)<=dB f .num:=by
    have h1:=ga.n;have h2:=gb.n;have h3:=ga.d;have h4:=gb.d
    have hb:=fg (f:=f-1) (k:=.num) hκ;obtain⟨g,hg⟩:∃g:Nat,f=(g:Int)+1:=⟨(f-1).toNat,by lia⟩;subst hg;rw[show ((g:Int)+1-1).toNat=g by lia]at hb;unfold nB dB;rw[if_neg (by lia),if_neg (by lia),show ((g:Int)+1).toNat=g+1 from rfl,zf];lia
   have uu:=(((u.tr u1).tr u2).tr u3).tr u4;simp only[X5,XT,or_false]at e4;rcases e4 with rfl |rfl
   ·exact fin _ (.add qa qb) uu ⟨.add ga.ty gb.ty,by rw[nq];exact UW.1,by rw[dq];exact UW.2⟩
   ·exact fin _ (.mul qa qb) uu ⟨.mul ga.ty gb.ty,by rw[nq];exact UW.1,by rw[dq];exact UW.2⟩
  |word=>
   refine⟨_,rfl,au (ay (by decide) ⟨_,rfl,au (ay (by decide) ⟨_,rfl,au (ay (by decide) ?_)⟩)⟩)⟩;exact ay (by decide) ⟨.word,p,_,rfl,.inr rfl,u.hs,λq Y u2 ty lit=>fin _ q (u.tr u2) ⟨ty _ _,by rcases lit with ⟨i,rfl⟩ |⟨i,rfl⟩ <;> (rw[nq];lia),by rcases lit with ⟨i,rfl⟩ |⟨i,rfl⟩ <;> (rw[dq];lia)⟩⟩
 refine⟨XM _,.inl (lZ (aV (λe1=>?_) λe1=>ay (by decide) (go M (.rfl hp))))⟩;have Aj:0<ws.length:=by
  cases ws with
  |nil=>simp at e1
  |cons _ _=>simp
 refine⟨p,4,rfl,hp,by decide,by decide,λr1 X1 u1 _ _=>aV (λe2=>?_) λe2=>go _ u1⟩;refine⟨p,_,rfl,u1.hs,by rw[Xx];lia,?_,λr X2 u2 r0 Ak=>?_⟩
 ·rw[Xx];exact Int.lt_of_le_of_lt (by lia:_<=(200:Int)) (by decide)
 rw[Xx]at Ak;obtain⟨d,e3,e4⟩:=d5 (xs:=ws.map qD) r0 (by rw[Xx];exact Ak);obtain⟨q,hq,rfl⟩:=List.mem_map.mp e4;have hq':=hw q hq;refine⟨_,e3,fin _ q (u1.tr u2) ⟨hq'.ty,?_,?_⟩⟩
 ·rcases hq'.is with ⟨x,rfl⟩ |⟨f,x,rfl⟩
  ·rw[nq];lia
  ·rw[nq,nq];lia
 ·rcases hq'.is with ⟨x,rfl⟩ |⟨f,x,rfl⟩
  ·rw[dq];lia
  ·rw[dq,dq];lia
variable {w:Wo}
def j' (n:Nat):Sp:=λds M Q _=>∃sc f p,ds=[aN sc,.int f,.ref p]/\0<=f/\f<=1/\f.toNat+4<=n/\d6 sc 0/\Hs M p/\∀q X,Sx M p X->cT kS sc q->nq q<=8+9 * f.toNat->dq q<=7+f.toNat->Q (qD q) X
noncomputable def tL:B:=.cons (.ret (.tup (.cons (.v 6) (.cons (.v 4) (.cons (.call 48 (.cons (.v 5) (.cons (.v 0) (.cons (.c (.int 0)) (.cons (.v 2) .nil))))) .nil))))) .nil
noncomputable def Lj:B:=.cons (.set (.one 6) (.ix (.lst (.cons (.c (.str "same")) (.cons (.c (.str "under")) .nil))) (.bi .int (.cons (.and (.cmp .Eq (.v 5) (.tup (.cons (.c (.str "num")) .nil))) (.cmp .Gt (.v 3) (.c (.int 3)))) .nil)))) tL
noncomputable def Al:B:=.cons (.cond (.and (.cmp .Eq (.v 5) (.tup (.cons (.c (.str "num")) .nil))) (.cmp .Eq (.call 41 (.cons (.v 2) (.cons (.c (.int 8)) .nil))) (.c (.int 0)))) (.cons (.set (.one 4) (.ix (.lst (.cons (.tup (.cons (.c (.str "at")) (.cons (.c (.str "a")) (.cons (.tup (.cons (.c (.str "row")) (.cons (.tup (.cons (.tup (.cons (.c (.str "a")) (.cons (.v 4) .nil))) (.cons (.tup (.cons (.c (.str "b")) (.cons (.tup (.cons (.c (.str "table")) (.cons (.c (.str "t")) .nil))) .nil))) .nil))) .nil))) .nil)))) (.cons (.tup (.cons (.c (.str "let")) (.cons (.c (.str "w")) (.cons (.tup (.cons (.c (.str "table")) (.cons (.c (.str "u")) .nil))) (.cons (.v 4) .nil))))) .nil))) (.op .Mod (.v 3) (.c (.int 2))))) .nil) .nil) Lj
noncomputable def Lk:B:=.cons (.set (.one 4) (.call 48 (.cons (.v 5) (.cons (.v 0) (.cons (.c (.int 0)) (.cons (.v 2) .nil)))))) Al
noncomputable def Ll:B:=.cons (.set (.one 5) (.ix (.lst (.cons (.tup (.cons (.c (.str "num")) .nil)) (.cons (.tup (.cons (.c (.str "num")) .nil)) (.cons (.tup (.cons (.c (.str "word")) .nil)) .nil)))) (.call 41 (.cons (.v 2) (.cons (.c (.int 3)) .nil))))) Lk
noncomputable def Lm:B:=.cons (.cond (.and (.cmp .Gt (.v 1) (.c (.int 0))) (.cmp .Eq (.v 3) (.c (.int 1)))) (.cons (.set (.one 4) (.call 49 (.cons (.v 0) (.cons (.op .Sub (.v 1) (.c (.int 1))) (.cons (.v 2) .nil))))) (.cons (.ret (.tup (.cons (.ix (.lst (.cons (.c (.str "and")) (.cons (.c (.str "or")) .nil))) (.call 41 (.cons (.v 2) (.cons (.c (.int 2)) .nil)))) (.cons (.v 4) (.cons (.call 49 (.cons (.v 0) (.cons (.op .Sub (.v 1) (.c (.int 1))) (.cons (.v 2) .nil)))) .nil))))) .nil)) .nil) Ll
noncomputable def Am:B:=.cons (.cond (.and (.cmp .Gt (.v 1) (.c (.int 0))) (.cmp .Eq (.v 3) (.c (.int 0)))) (.cons (.ret (.tup (.cons (.c (.str "not")) (.cons (.call 49 (.cons (.v 0) (.cons (.op .Sub (.v 1) (.c (.int 1))) (.cons (.v 2) .nil)))) .nil)))) .nil) .nil) Lm
noncomputable def Ln:B:=.cons (.set (.one 3) (.call 41 (.cons (.v 2) (.cons (.c (.int 6)) .nil)))) Am
theorem Lo:aB ["scope","fuel","seed","way","one","kind","word"] ["scope","fuel","seed"] (ag (aa 73)):=⟨rfl,rfl,rfl,by decide +kernel,rfl,by decide +kernel,by decide +kernel⟩
theorem Lq:aH nm 40 ["scope","fuel","seed","way","one","kind","word"] (ag (aa 73)) (aw (aa 73))=Ln:=by kernel_rfl
noncomputable abbrev Ut (n:Nat):a0 w:={ cs:=[(41,i5),(48,g' n),(49,j' n)] }
theorem Lr (O:Lw w) {n:Nat} (hs:FO w 48 (n+4) (g' n)) (hc:FO w 49 (n+4) (j' n)):FO w 49 (n+5) (j' (n+1)):=by
 refine aL O.ok O.hn _ ⟨"_law_claim",aa 73,["scope","fuel","seed"]⟩ (by rw[O.hd];rfl) (Ut n) { cs:=⟨⟨1,by lia,j8 O⟩,⟨n+4,XC _,hs⟩,⟨n+4,XC _,hc⟩,trivial⟩ } Lo Lq λds M Q _ h=>?_;obtain⟨sc,f,p,rfl,f0,f1,rk,am,hp,h⟩:=h;have fin:∀X q,Sx M p X->cT kS sc q->nq q<=8+9 * f.toNat->dq q<=7+f.toNat->a6 Q (qD q) X:=λX q u g1 g2 g3=>ak (h q X u g1 g2 g3);refine⟨rfl,p,6,rfl,hp,by decide,by decide,λcV X u1 w0 w1=>?_⟩;show B.w (Ut (w:=w) n).wd nm.af Am (aS Q) [some (aN sc),some (.int f),some (.ref p),some (.int cV),none,none,none] X;refine fK λN2 me=>?_;have g2:N2 [some (aN sc),some (.int f),some (.ref p),some (.int cV),none,none,none] X:=by
  refine me _ _ (fK λN3 tM=>?_);have g3:N3 [some (aN sc),some (.int f),some (.ref p),some (.int cV),none,none,none] X:=by
   refine tM _ _ ?_;refine⟨l1,l1,l1,l3,.inl ⟨p,3,rfl,u1.hs,by decide,by decide,λr X2 u2 r0 r1=>?_⟩⟩;obtain⟨d,e3,e4⟩:=d5 (xs:=[kD .num,kD .num,kD .word]) r0 r1;refine⟨d,e3,?_⟩;obtain⟨κ,rfl,hκ⟩:∃ κ,d=kD κ/\(κ=.num\/κ=.word):=by
    simp only[X5,XT,or_false]at e4;rcases e4 with z |z |z
    ·exact⟨_,z,.inl rfl⟩
    ·exact⟨_,z,.inl rfl⟩
    ·exact⟨_,z,.inr rfl⟩
   have k1:κ∈AK/\kd κ=1/\zk κ=2/\TQ κ=2:=(by rcases hκ with rfl |rfl <;> decide +kernel);have Ud:∀{q},GQ 0 κ sc q->nq q<=2/\dq q<=2:=λg=>by
    have h1:=g.n;have h2:=g.d
    unfold nB at h1;unfold dB at h2;rw[if_pos (by lia)]at h1 h2;lia
   refine⟨κ,sc,0,p,rfl,k1.1,by unfold Rk;lia,am,u2.hs,λq1 X3 u3 g=>?_⟩;show B.w (Ut (w:=w) n).wd nm.af Al (aS Q) [some (aN sc),some (.int f),some (.ref p),some (.int cV),some (qD q1),some (kD κ),none] X3;have uu:=(u1.tr u2).tr u3;refine fK λN4 Ls=>?_;have g4:∀(X:Mp) (qa:Qn),Sx M p X->Ty kS sc qa κ->nq qa<=5->dq qa<=6->N4 [some (aN sc),some (.int f),some (.ref p),some (.int cV),some (qD qa),some (kD κ),none] X:=by
    intro X qa u ty hn hd;refine Ls _ _ ?_;have tN:∀s,(s="same"\/s="under"/\κ=.num)->B.w (Ut (w:=w) n).wd nm.af tL (aS Q) [some (aN sc),some (.int f),some (.ref p),some (.int cV),some (qD qa),some (kD κ),some (.str s)] X:=by
     intro s fo;refine⟨κ,sc,0,p,rfl,k1.1,by unfold Rk;lia,am,u.hs,λqb Y u4 gb=>⟨l3,?_⟩⟩;have To:=Ud gb;rcases fo with rfl |⟨rfl,e⟩
     ·refine fin _ (.same qa qb) (u.tr u4) ?_ (by rw[nq];lia) (by rw[dq];lia);rcases hκ with rfl |rfl
      ·exact .j4 ty gb.ty
      ·exact .j5 ty gb.ty
     ·subst e;exact fin _ (.under qa qb) (u.tr u4) (.under ty gb.ty) (by rw[nq];lia) (by rw[dq];lia)
    refine⟨l2,.inl ⟨l1,j6 (a:=κ) (b:=.num) (by lia) ?_⟩⟩;refine aV (λe=>?_) λe=>⟨.str "same",rfl,tN _ (.inl rfl)⟩;refine⟨_,J9,?_⟩;show B.w (Ut (w:=w) n).wd nm.af tL (aS Q) [some (aN sc),some (.int f),some (.ref p),some (.int cV),some (qD qa),some (kD κ),some (if decide (3<cV)=true then .str "under" else .str "same")] X
    split
    ·exact tN _ (.inr ⟨rfl,of_decide_eq_true e⟩)
    ·exact tN _ (.inl rfl)
   refine⟨l1,j6 (a:=κ) (b:=.num) (by lia) (aV (λe1=>?_) λe1=>ay (by decide) (g4 _ q1 uu g.ty (by have:=Ud g;lia) (by have:=Ud g;lia)))⟩
   have e1:=of_decide_eq_true e1;subst e1;refine⟨p,8,rfl,u3.hs,by decide,by decide,λr4 X4 u4 _ _=>bB (aV (λe2=>?_) λe2=>g4 _ q1 (uu.tr u4) g.ty (by have:=Ud g;lia) (by have:=Ud g;lia))⟩
   refine⟨l2,l2,l2,l2,l2,l3,l2,l4,l2,.inl ?_⟩;obtain⟨d,Ue,Ug⟩:=d5 (xs:=[qD (.at "a" (.row [("a",q1),("b",.tab "t")])),qD (.let "w" (.tab "u") q1)]) (Int.emod_nonneg cV (b:=2) (by decide)) (Int.emod_lt_of_pos cV (b:=2) (by decide));refine⟨(by decide:(0:Int)<2),d,Ue,?_⟩;have Xq:=Ud g;rcases List.mem_cons.mp Ug with rfl |Ug
   ·exact g4 _ _ (uu.tr u4) (.at (ks:=[("a",.num),("b",.ai .num)]) (by decide +kernel) (.row (show 2<100 by decide) (by decide +kernel) (.cons g.ty (.cons (.tab (by decide +kernel)) .nil))) (by decide +kernel)) (by rw[nq,nq,cp,cp,cp,nq];lia) (by rw[dq,dq,bo,bo,bo,dq];lia)
   ·cases List.mem_singleton.mp Ug;refine g4 _ _ (uu.tr u4) (.let (l:=.ai fL) (by decide +kernel) (.tab (by decide +kernel)) (Ty.mono (λ_ _ z=>z) g.ty λx k hx=>?_)) (by rw[nq,nq];lia) (by rw[dq,dq];lia);rw[lk,if_neg]
    ·exact hx
    ·rintro rfl;exact am.Ve _ (et hx) rfl
  refine aV (λe1=>bB (aV (λe2=>?_) λe2=>g3)) λe1=>ay (by decide) g3;have fp:0<f:=of_decide_eq_true e1;refine⟨sc,f-1,p,rfl,by lia,by lia,by lia,am,u1.hs,λqa Xa ua ta na da=>?_⟩;refine⟨l2,.inl ⟨p,2,rfl,ua.hs,by decide,by decide,λr2 X2 u2 oY j9=>?_⟩⟩;obtain⟨d,e3,e4⟩:=d5 (xs:=[.str "and",.str "or"]) oY j9;refine⟨d,e3,?_⟩;refine⟨sc,f-1,p,rfl,by lia,by lia,by lia,am,u2.hs,λqb Xb ub tb nb TX=>⟨l3,?_⟩⟩;have uu:=((u1.tr ua).tr u2).tr ub;simp only[X5,XT,or_false]at e4;rcases e4 with rfl |rfl
  ·exact fin _ (.and qa qb) uu (.and ta tb) (by rw[nq];lia) (by rw[dq];lia)
  ·exact fin _ (.or qa qb) uu (.or ta tb) (by rw[nq];lia) (by rw[dq];lia)
 refine aV (λe1=>bB (aV (λe2=>?_) λe2=>g2)) λe1=>ay (by decide) g2;have fp:0<f:=of_decide_eq_true e1;exact⟨sc,f-1,p,rfl,by lia,by lia,by lia,am,u1.hs,λq X2 u2 ty hn hd=>⟨l2,fin _ (.not q) (u1.tr u2) (.not ty) (by rw[nq];lia) (by rw[dq];lia)⟩⟩
variable {w:Wo}
noncomputable def ka (f:Str):D:=.tup [.str f,.tup [.str "num",.int 1]]
theorem An {sc:Sc}:∀fs:List Str,∃ps ks,a9 ps=fs.map ka/\dP kS sc ps ks/\cp ps=fs.length/\bo ps<=1/\ks.map (·.1)=fs/\ps.length=fs.length
 |[]=>⟨[],[],by rw[a9];rfl,.nil,by rw[cp];rfl,by rw[bo];lia,rfl,rfl⟩
 |f::fs=>by
  obtain⟨ps,ks,h1,h2,h3,h4,h5,h6⟩:=An (sc:=sc) fs;exact⟨(f,.num 1)::ps,(f,.num)::ks,by rw[a9,h1,qD];rfl,.cons .num h2,by rw[cp,nq,h3,XI];lia,by rw[bo,dq];lia,by rw[XJ,h5],by rw[XI,XI,h6]⟩
theorem tk {sc:Sc}{q:Qn} {κ:Kd} (ty:Ty kS sc q κ):∀ (fs:List Str) (j:Nat) (x:Str),fs[j]?=some x->fs.Nodup ->
  ∃ps ks,a9 ps=(fs.map ka).set j (.tup [.str x,qD q])/\dP kS sc ps ks/\lk x ks=some κ/\cp ps<=fs.length+nq q/\bo ps<=max 1 (dq q)/\ks.map (·.1)=fs/\ps.length=fs.length
 |[],_,_,h,_=>nomatch h
 |f::fs,0,x,h,_=>by
  cases h;obtain⟨ps,ks,h1,h2,h3,h4,h5,h6⟩:=An (sc:=sc) fs;exact⟨(f,q)::ps,(f,κ)::ks,by rw[a9,h1];rfl,.cons ty h2,by rw[lk,if_pos rfl],by rw[cp,h3,XI];lia,by rw[bo];lia,by rw[XJ,h5],by rw[XI,XI,h6]⟩
 |f::fs,j+1,x,h,nd=>by
  rw[ZA]at nd;have h:fs[j]?=some x:=h;obtain⟨ps,ks,h1,h2,h3,h4,h5,h6,WJ⟩:=tk ty fs j x h nd.2;refine⟨(f,.num 1)::ps,(f,.num)::ks,by rw[a9,h1,qD];rfl,.cons .num h2,?_,by rw[cp,nq,XI];lia,by rw[bo,dq];lia,by rw[XJ,h6],by rw[XI,XI,WJ]⟩;rw[lk,if_neg,h3];rintro rfl;exact nd.1 (Yq h)
def oZ (n:Nat):Sp:=λds M Q _=>∃ κ sc f p,ds=[kD κ,aN sc,.int f,.ref p]/\κ∈AK/\0<f/\20 * f.toNat+1<=n/\d6 sc f.toNat/\Hs M p/\∀q X,Sx M p X->GQ f κ sc q->Q (qD q) X
theorem Ao {f:Int} (hf:0<f) {κ:Kd} (h:κ∈AK):nB f κ=5 * zf (f-1).toNat+40/\dB f κ=5 * (f-1).toNat+14:=by
 obtain⟨g,hg⟩:∃g:Nat,f=(g:Int)+1:=⟨(f-1).toNat,by lia⟩;subst hg;rw[show ((g:Int)+1-1).toNat=g by lia];unfold nB dB;rw[if_neg (by lia),if_neg (by lia),show ((g:Int)+1).toNat=g+1 from rfl,zf];exact⟨rfl,by lia⟩
noncomputable def Lu:B:=.cons (.ret (.tup (.cons (.c (.str "at")) (.cons (.ix (.v 4) (.v 5)) (.cons (.tup (.cons (.c (.str "row")) (.cons (.bi .tuple (.cons (.v 6) .nil)) .nil))) .nil))))) .nil
noncomputable def Lv:B:=.cons (.put (.v 6) (.v 5) (.tup (.cons (.ix (.v 4) (.v 5)) (.cons (.call 52 (.cons (.v 0) (.cons (.v 1) (.cons (.op .Sub (.v 2) (.c (.int 1))) (.cons (.v 3) .nil))))) .nil)))) Lu
noncomputable def Lx:B:=.cons (.set (.one 6) (.lc 1 [] (.one 0) (.seq (.v 4)) .ar (.tup (.cons (.v 0) (.cons (.tup (.cons (.c (.str "num")) (.cons (.c (.int 1)) .nil))) .nil))))) Lv
noncomputable def Ap:B:=.cons (.set (.one 5) (.call 41 (.cons (.v 3) (.cons (.bi .len (.cons (.v 4) .nil)) .nil)))) Lx
noncomputable def Ly:B:=.cons (.set (.one 4) (.sl (.lst (.cons (.c (.str "a")) (.cons (.c (.str "c")) (.cons (.c (.str "t")) (.cons (.c (.str "u")) (.cons (.c (.str "w")) .nil)))))) .ar (.op .Add (.c (.int 1)) (.call 41 (.cons (.v 3) (.cons (.c (.int 5)) .nil)))))) Ap
theorem Lz:aB ["kind","scope","fuel","seed","fields","place","parts"] ["kind","scope","fuel","seed"] (ag (aa 75)):=⟨rfl,rfl,rfl,by decide +kernel,rfl,by decide +kernel,by decide +kernel⟩
theorem LA:aH nm 40 ["kind","scope","fuel","seed","fields","place","parts"] (ag (aa 75)) (aw (aa 75))=Ly:=by kernel_rfl
noncomputable abbrev VF (n:Nat):a0 w:={ cs:=[(41,i5),(52,fh n)] }
theorem LB (O:Lw w) {n:Nat} (ha:FO w 52 (n+4) (fh n)):FO w 51 (n+5) (oZ (n+1)):=by
 refine aL O.ok O.hn _ ⟨"_law_taken",aa 75,["kind","scope","fuel","seed"]⟩ (by rw[O.hd];rfl) (VF n) { cs:=⟨⟨1,by lia,j8 O⟩,⟨n+4,XC _,ha⟩,trivial⟩ } Lz LA λds M Q _ h=>?_;obtain⟨κ,sc,f,p,rfl,hκ,f0,rk,am,hp,h⟩:=h;refine⟨rfl,l5,.inl ⟨p,5,rfl,hp,by decide,by decide,λr X1 u1 r0 r1=>.inl ?_⟩⟩;obtain⟨fs,e1,nd,nt,c1,c2⟩:∃fs:List Str,dK [.str "a",.str "c",.str "t",.str "u",.str "w"] none (some (1+r))=fs.map D.str/\fs.Nodup/\("table" : Str) ∉ fs/\1<=fs.length/\fs.length<=5:=by
  have:r=0\/r=1\/r=2\/r=3\/r=4:=by have r1:r<5:=r1;lia
  rcases this with rfl |rfl |rfl |rfl |rfl
  ·exact⟨["a"],by rfl,by decide +kernel,by decide +kernel,by decide,by decide⟩
  ·exact⟨["a","c"],by rfl,by decide +kernel,by decide +kernel,by decide,by decide⟩
  ·exact⟨["a","c","t"],by rfl,by decide +kernel,by decide +kernel,by decide,by decide⟩
  ·exact⟨["a","c","t","u"],by rfl,by decide +kernel,by decide +kernel,by decide,by decide⟩
  ·exact⟨["a","c","t","u","w"],by rfl,by decide +kernel,by decide +kernel,by decide,by decide⟩
 have key:∀d,d=fs.map D.str->B.w (VF (w:=w) n).wd nm.af Ap (aS Q) [some (kD κ),some (aN sc),some (.int f),some (.ref p),some (.lst d),none,none] X1:=?_
 ·exact key _ e1
 rintro _ rfl;refine⟨p,_,rfl,u1.hs,?_,?_,λj X2 u2 VG j1=>?_⟩
 ·rw[Xx];lia
 ·rw[Xx];exact Int.lt_of_le_of_lt (by lia:_<=(5:Int)) (by decide)
 rw[Xx]at j1;have WK:j.toNat<fs.length:=by lia
 have hx:fs[j.toNat]?=some fs[j.toNat]:=XB WK;generalize fs[j.toNat]=x at hx;have Aq:cM (fs.map D.str) j=some (.str x):=by
  unfold cM fD;rw[if_pos VG,if_pos (by rw[Xx];exact j1)];show (fs.map D.str)[j.toNat]?=_;rw[XS,hx];rfl
 refine iY (M:=X2) D.str ka fs ?_ (XN c2 (by decide)) (λz _ N hN=>?_) ?_
 ·exact trivial
 ·exact⟨l2,l2,hN⟩
 refine .inr λl6 hB=>?_;have q6:up X2 l6 (.lst (fs.map ka)) l6=some (.lst (fs.map ka)):=av;have hs2:=u2.hs;have Vg:p≠l6:=by obtain⟨o,e,_⟩:=hs2;exact di e hB
 refine⟨_,Aq,κ,sc,f-1,p,rfl,hκ,?_,am.du (by lia),?_,λq Y u7 g=>⟨l2,?_⟩⟩
 ·have:=eB hκ;have:=@tK κ;unfold Rk;lia
 ·obtain⟨o,e,s⟩:=hs2;exact⟨o,by rw[aF Vg];exact e,s⟩
 obtain⟨ps,ks,t1,t2,t3,Xr,t5,VH,Xs⟩:=tk g.ty fs j.toNat x hx nd;have q7:Y l6=some (.lst (fs.map ka)):=by rw[u7.ne (Y0 Vg)];exact av
 refine .inl ⟨_,q7,j.toNat,?_,?_⟩
 ·unfold fD;rw[if_pos VG,if_pos (by rw[Xx];exact j1)]
 rw[<- t1];refine⟨_,Aq,_,av,l2,l3,?_⟩;obtain⟨b1,b2⟩:=Ao f0 hκ;obtain⟨g1,g2,g3,g4⟩:=fg (f:=f-1) hκ;have VI:=g.n;have gd:=g.d;obtain⟨VJ,s7,rfl⟩:=u7;refine l0 (M:=up X2 p VJ) ?_ (h (.at x (.row ps)) _ ((u1.tr u2).tr ⟨VJ,s7,rfl⟩) ⟨.at (by rw[VH];exact nd) (.row (by lia) (by rw[VH];exact nt) t2) t3,by rw[nq,nq,b1];lia,by rw[dq,dq,b2];lia⟩);refine⟨λa u e=>?_,λa b e q=>?_⟩
 ·by_cases ha:a=l6
  ·subst ha;rw[aF (Y0 Vg),hB]at e;cases e
  ·rw[aF ha];by_cases hb:a=p
   ·subst hb;rw[av]at e ⊢;exact e
   ·rw[aF hb]at e ⊢;rw[aF ha];exact e
 ·by_cases hb:b=l6
  ·subst hb;rw[av]at q;cases q
  ·rw[aF hb]at q;by_cases hc:b=p
   ·subst hc;rw[av]at q ⊢;exact q
   ·rw[aF hc]at q ⊢;rw[aF hb]at q;exact q
variable {w:Wo}
noncomputable def iD (v:Qn×Kd):D:=.tup [qD v.1,kD (.ai v.2)]
structure Iv (sc:Sc) (v:Qn×Kd):Prop where
 ty:Ty kS sc v.1 (.ai v.2)
 TZ:.ai v.2∈AK
 n:nq v.1<=2
 d:dq v.1<=2
def o6 (n:Nat):Sp:=λds M Q _=>∃sc f p,ds=[aN sc,.int f,.ref p]/\20 * f.toNat+1<=n/\d6 sc f.toNat/\Hs M p/\∀q k X,Sx M p X->.ai k∈AK->Ty kS sc q (.ai k)->nq q<=zf f.toNat->dq q<=5 * f.toNat+9->Q (.tup [qD q,kD (.ai k)]) X
noncomputable def LC:B:=.cons (.ret (.tup (.cons (.tup (.cons (.c (.str "table")) (.cons (.v 4) .nil))) (.cons (.v 5) .nil)))) .nil
noncomputable def LD:B:=.cons (.cond (.and (.cmp .Gt (.v 1) (.c (.int 0))) (.cmp .Eq (.call 41 (.cons (.v 2) (.cons (.c (.int 4)) .nil))) (.c (.int 0)))) (.cons (.ret (.tup (.cons (.call 52 (.cons (.v 5) (.cons (.v 0) (.cons (.op .Sub (.v 1) (.c (.int 1))) (.cons (.v 2) .nil))))) (.cons (.v 5) .nil)))) .nil) .nil) LC
noncomputable def Ar:B:=.cons (.cond (.and (.cmp .NotEq (.v 8) (.lst .nil)) (.cmp .Eq (.call 41 (.cons (.v 2) (.cons (.c (.int 3)) .nil))) (.c (.int 0)))) (.cons (.ret (.ix (.v 8) (.call 41 (.cons (.v 2) (.cons (.bi .len (.cons (.v 8) .nil)) .nil))))) .nil) .nil) LD
noncomputable def LF:B:=.cons (.loop (.many [6,7]) (.seq (.call 46 (.cons (.v 0) .nil))) (.cons (.cond (.cmp .Eq (.v 7) (.ix (.v 3) (.c (.str "u")))) (.cons (.ex (.mt .append (.v 8) (.cons (.tup (.cons (.tup (.cons (.c (.str "at")) (.cons (.c (.str "t")) (.cons (.tup (.cons (.c (.str "var")) (.cons (.v 6) .nil))) .nil)))) (.cons (.tup (.cons (.c (.str "bag")) (.cons (.tup (.cons (.c (.str "num")) .nil)) .nil))) .nil))) .nil))) .nil) .nil) .nil)) Ar
noncomputable def LG:B:=.cons (.set (.one 8) (.lc 2 [] (.many [0,1]) (.seq (.call 46 (.cons (.v 0) .nil))) (.cmp .Eq (.ix (.v 1) (.c (.int 0))) (.c (.str "bag"))) (.tup (.cons (.tup (.cons (.c (.str "var")) (.cons (.v 0) .nil))) (.cons (.v 1) .nil))))) LF
noncomputable def LH:B:=.cons (.set (.one 5) (.tup (.cons (.c (.str "bag")) (.cons (.ix (.v 3) (.v 4)) .nil)))) LG
noncomputable def LI:B:=.cons (.set (.one 4) (.ix (.lst (.cons (.c (.str "r")) (.cons (.c (.str "s")) (.cons (.c (.str "t")) (.cons (.c (.str "u")) (.cons (.c (.str "v")) .nil)))))) (.call 41 (.cons (.v 2) (.cons (.c (.int 5)) .nil))))) LH
noncomputable def LJ:B:=.cons (.set (.one 3) (.call 45 .nil)) LI
theorem LL:aB ["scope","fuel","seed","kinds","name","kind","spare","other","inner"] ["scope","fuel","seed"] (ag (aa 74)):=⟨rfl,rfl,rfl,by decide +kernel,rfl,by decide +kernel,by decide +kernel⟩
theorem LN:aH nm 40 ["scope","fuel","seed","kinds","name","kind","spare","other","inner"] (ag (aa 74)) (aw (aa 74))=LJ:=by kernel_rfl
noncomputable abbrev VL (n:Nat):a0 w:={ cs:=[(41,i5),(45,j7),(46,oR),(52,fh n)] }
theorem LO (O:Lw w) {n:Nat} (ha:FO w 52 (n+4) (fh n)):FO w 50 (n+5) (o6 (n+1)):=by
 refine aL O.ok O.hn _ ⟨"_law_over",aa 74,["scope","fuel","seed"]⟩ (by rw[O.hd];rfl) (VL n) { cs:=⟨⟨1,by lia,j8 O⟩,⟨1,by lia,md O⟩,⟨1,by lia,tH O⟩,⟨n+4,XC _,ha⟩,trivial⟩ } LL LN λds M Q _ h=>?_;obtain⟨sc,f,p,rfl,rk,am,hp,h⟩:=h;refine⟨rfl,rfl,l5,.inl ⟨p,5,rfl,hp,by decide,by decide,λr X1 u1 r0 r1=>?_⟩⟩;obtain⟨d,e1,e2⟩:=d5 (xs:=[.str "r",.str "s",.str "t",.str "u",.str "v"]) r0 r1;obtain⟨x,κ,rfl,hx,hκ⟩:∃x κ,d=.str x/\kS x=some κ/\.ai κ∈AK:=by
  simp only[X5,XT,or_false]at e2;rcases e2 with z |z |z |z |z
  ·exact⟨"r",i0,z,by decide +kernel,by decide +kernel⟩
  ·exact⟨"s",i0,z,by decide +kernel,by decide +kernel⟩
  ·exact⟨"t",.num,z,by decide +kernel,by decide +kernel⟩
  ·exact⟨"u",fL,z,by decide +kernel,by decide +kernel⟩
  ·exact⟨"v",.ai .word,z,by decide +kernel,by decide +kernel⟩
 refine⟨_,e1,?_⟩;have LP:aT ((bb.map λm=>(YO m.1:Key)).zip (bb.map λm=>kD m.2)) (.inr x)=some (kD κ):=by
  rw[iZ,fe];unfold kS at hx;rw[hx];rfl
 refine⟨_,LP,l2,?_⟩;refine⟨sc,rfl,by have:=am.len;lia,am.kd,λout ho lo _=>?_⟩
 have ls:=am.len;refine ew (λxs ys M'=>M'=X1/\∃rest vs,xs=c8 rest/\ys=vs.map iD/\(∀p∈rest,lk p.1 sc=some p.2)/\(∀v∈vs,Iv sc v)/\vs.length+rest.length<=40) ?_ ?_ _ _ _ ⟨rfl,out,[],rfl,rfl,λp hp=>(ho _ _).mp hp,λv hv=>(nomatch hv),by simp;lia⟩
 ·rintro ys M' ⟨rfl,rest,vs,e1,rfl,hr,hv,hB⟩;refine⟨trivial,XN (by rw[Xx];lia:_<=40) (by decide),.inr λlw tO=>?_⟩;have As:lw≠p:=by obtain⟨o,e,_⟩:=u1.hs;exact Y0 (di e tO)
  have Tp:M lw=none:=by rw[<- u1.ne As];exact tO
  refine⟨sc,rfl,by lia,am.kd,λout ho lo _=>?_⟩;refine ey (λxs τ M2=>∃rest vs u v,xs=c8 rest/\(∀p∈rest,lk p.1 sc=some p.2)/\τ=[some (aN sc),some (.int f),some (.ref p),some (bU bb),some (.str x),some (kD (.ai κ)),u,v,some (.ref lw)]/\M2=up M' lw (.lst (vs.map iD))/\(∀v∈vs,Iv sc v)/\vs.length+rest.length<=80)
   ?_ ?_ _ _ _ ⟨out,vs,none,none,rfl,λp hp=>(ho _ _).mp hp,rfl,rfl,hv,by lia⟩
  ·rintro τ M2 ⟨rest,vs,u,v,e1,hr,rfl,rfl,hv,hB⟩;refine⟨trivial,Ka tO (.rfl ?_)⟩;have key:∀ τ,τ=[some (aN sc),some (.int f),some (.ref p),some (bU bb),some (.str x),some (kD (.ai κ)),br lw (.lst (vs.map iD)) u,br lw (.lst (vs.map iD)) v,some (.lst (vs.map iD))]->B.w (VL (w:=w) n).wd nm.af Ar (aS Q) τ M':=?_
   ·refine key _ ?_;show [_,_,br lw (.lst (vs.map iD)) (some (.ref p)),_,_,_,_,_,br lw (.lst (vs.map iD)) (some (.ref lw))]=_;rw[tF (Y0 As),oL];rfl
   generalize br lw (.lst (vs.map iD)) u=u';generalize br lw (.lst (vs.map iD)) v=v';rintro _ rfl;refine fK λN5 LQ=>?_;have go:∀X,Sx M p X->N5 [some (aN sc),some (.int f),some (.ref p),some (bU bb),some (.str x),some (kD (.ai κ)),u',v',some (.lst (vs.map iD))] X:=by
    intro X uX;refine LQ _ _ (fK λN6 LR=>?_);have tb:∀X,Sx M p X->N6 [some (aN sc),some (.int f),some (.ref p),some (bU bb),some (.str x),some (kD (.ai κ)),u',v',some (.lst (vs.map iD))] X:=by
     intro X uX;exact LR _ _ ⟨l2,l2,ak (h (.tab x) κ X uX hκ (.tab hx) (by have:=i6 f.toNat;rw[nq];lia) (by rw[dq];lia))⟩
    refine aV (λe1=>⟨p,4,rfl,uX.hs,by decide,by decide,λr4 X4 u4 _ _=>bB (aV (λe2=>?_) λe2=>tb _ (uX.tr u4))⟩) λe1=>ay (by decide) (tb X uX);have fp:0<f:=of_decide_eq_true e1;refine⟨.ai κ,sc,f-1,p,rfl,hκ,?_,am.du (by lia),u4.hs,λq X6 u6 g=>⟨l2,ak (h q κ X6 ((uX.tr u4).tr u6) hκ g.ty ?_ ?_)⟩⟩
    ·have:=eB hκ;unfold Rk;rw[TR];lia
    ·have:=(fg (f:=f-1) hκ).2.1;have:=oV (show (f-1).toNat<=f.toNat by lia);exact XG g.n (by lia)
    ·have:=(fg (f:=f-1) hκ).2.2.2;exact XG g.d (by lia)
   refine⟨XM _,.inl (lZ (aV (λe1=>?_) λe1=>ay (by decide) (go M' u1)))⟩;have Aj:0<vs.length:=by
    cases vs with
    |nil=>simp at e1
    |cons _ _=>simp
   refine⟨p,3,rfl,u1.hs,by decide,by decide,λVw X6 u6 _ _=>bB (aV (λe2=>?_) λe2=>go _ (u1.tr u6))⟩;refine⟨p,_,rfl,u6.hs,by rw[Xx];lia,?_,λr7 X7 u7 LS LU=>?_⟩
   ·rw[Xx];exact Int.lt_of_le_of_lt (by lia:_<=(80:Int)) (by decide)
   obtain⟨d,e3,e4⟩:=d5 LS LU;obtain⟨q,hq,rfl⟩:=List.mem_map.mp e4;have hq':=hv q hq;have:=i6 f.toNat;exact⟨_,e3,ak (h q.1 q.2 X7 ((u1.tr u6).tr u7) hq'.TZ hq'.ty (by have:=hq'.n;lia) (by have:=hq'.d;lia))⟩
  ·rintro y xs τ M2 ⟨rest,vs,u,v,e1,hr,rfl,rfl,hv,hB⟩;cases rest with
   |nil=>cases e1
   |cons g rest=>
    obtain⟨gf,gk⟩:=g;cases e1;have hg:=hr _ XH;have hr':∀p∈rest,lk p.1 sc=some p.2:=λp hp=>hr p (XF _ hp);rw[XI]at hB;have Au:kd gk<=9:=eB (am.TZ _ (et hg));have LV:aT ((bb.map λm=>(YO m.1:Key)).zip (bb.map λm=>kD m.2)) (.inr "u")=some (kD fL):=by
     rw[iZ,fe];rfl
    refine⟨trivial,λN hN=>⟨rfl,_,LV,j6 (by show kd gk<=50;lia) (aV (λe=>?_) λe=>hN _ _ ⟨rest,vs,_,_,rfl,hr',rfl,rfl,hv,by lia⟩)⟩⟩;have e:gk=fL:=of_decide_eq_true e;subst e;refine⟨.inl ⟨rfl,_,av⟩,l2,l3,l1,l2,l2,_,av,XN (by rw[Xx];lia:_<=80) (by decide),hN _ _ ⟨rest,vs++[(.at "t" (.var gf),.num)],_,_,rfl,hr',rfl,by rw[_root_.N.cF,XZ];rfl,λv iy=>?_,by simp;lia⟩⟩;rcases List.mem_append.mp iy with z |z
    ·exact hv v z
    ·rw[List.mem_singleton.mp z];exact⟨.at (by decide +kernel) (.var hg) rfl,(by decide +kernel:Kd.ai .num∈AK),by rw[nq,nq];lia,by rw[dq,dq];lia⟩
 ·rintro y xs ys M' ⟨rfl,rest,vs,e1,rfl,hr,hv,hB⟩;cases rest with
  |nil=>cases e1
  |cons g rest=>
   obtain⟨gf,gk⟩:=g;cases e1;have hg:=hr _ XH;have hr':∀p∈rest,lk p.1 sc=some p.2:=λp hp=>hr p (XF _ hp);rw[XI]at hB;refine⟨trivial,XN (by rw[Xx];lia:_<=40) (by decide),λN hN=>⟨rfl,?_⟩⟩;cases gk with
   |ai k=>
    refine⟨_,rfl,au (aY (by decide) ⟨l2,l2,?_⟩)⟩;have:=hN (vs.map iD++[iD (.var gf,k)]) _ ⟨rfl,rest,vs++[(.var gf,k)],rfl,by rw[XZ];rfl,hr',λv iy=>?_,by simp;lia⟩
    ·exact this
    ·rcases List.mem_append.mp iy with z |z
     ·exact hv v z
     ·rw[List.mem_singleton.mp z];exact⟨.var hg,am.TZ _ (et hg),by rw[nq];lia,by rw[dq];lia⟩
   |num=>exact⟨_,rfl,au (ay (by decide) (hN _ _ ⟨rfl,rest,vs,rfl,rfl,hr',hv,by lia⟩))⟩
   |word=>exact⟨_,rfl,au (ay (by decide) (hN _ _ ⟨rfl,rest,vs,rfl,rfl,hr',hv,by lia⟩))⟩
   |row fs=>exact⟨_,rfl,au (ay (by decide) (hN _ _ ⟨rfl,rest,vs,rfl,rfl,hr',hv,by lia⟩))⟩
variable {w:Wo}
structure Wy (κ:Kd) (sc:Sc) (q:Qn):Prop where
 ty:Ty kS sc q κ
 n:nq q<=2
 d:dq q<=2
theorem Hq.WL {κ:Kd} {sc:Sc}{q:Qn} (h:Hq κ sc q):Wy κ sc q:=by
 refine⟨h.ty,?_,?_⟩
 ·rcases h.is with ⟨x,rfl⟩ |⟨f,x,rfl⟩
  ·rw[nq];lia
  ·rw[nq,nq];lia
 ·rcases h.is with ⟨x,rfl⟩ |⟨f,x,rfl⟩
  ·rw[dq];lia
  ·rw[dq,dq];lia
theorem LW {k:Kd}{f:Int}{sc:Sc}{q:Qn} (h:.ai k∈AK) (g:GQ 0 k sc q):GQ f (.ai k) sc (.one q):=by
 have h1:=g.n;have h2:=g.d
 unfold nB at h1;unfold dB at h2;rw[if_pos (by lia)]at h1 h2;obtain⟨TJ,TF,TK,TL,_⟩:=oU (g8 h);refine⟨.one g.ty,?_,?_⟩
 ·rw[nq];unfold nB;split
  ·rw[zk];lia
  ·obtain⟨g,hg⟩:∃g:Nat,f=(g:Int)+1:=⟨(f-1).toNat,by lia⟩;subst hg;have:=i6 g;rw[show ((g:Int)+1).toNat=g+1 from rfl,zf];lia
 ·rw[dq];unfold dB;split
  ·rw[TQ];lia
  ·lia
theorem Av {k:Kd}{f:Int}{sc:Sc} (h:.ai k∈AK):GQ f (.ai k) sc (.none k):=by
 have:=fg (f:=f) h;have hk:=eB (g8 h);refine⟨.none (by have:=zP h;rw[fb]at this;exact this) (zO (g8 h)),by rw[nq];lia,?_⟩
 rw[dq];unfold dB;split
 ·rw[TQ];lia
 ·lia
noncomputable def LX:B:=.cons (.ret (.tup (.cons (.c (.str "for")) (.cons (.v 4) (.cons (.v 10) (.cons (.call 52 (.cons (.v 0) (.cons (.op .Add (.lst (.cons (.tup (.cons (.v 4) (.cons (.ix (.v 5) (.c (.int 1))) .nil))) .nil)) (.v 1)) (.cons (.op .Sub (.v 2) (.c (.int 1))) (.cons (.v 3) .nil))))) .nil)))))) .nil
noncomputable def LY:B:=.cons (.set (.many [10,5]) (.call 50 (.cons (.v 1) (.cons (.op .Sub (.v 2) (.c (.int 1))) (.cons (.v 3) .nil))))) LX
noncomputable def LZ:B:=.cons (.cond (.cmp .Eq (.v 8) (.c (.int 6))) (.cons (.set (.one 5) (.ix (.lst (.cons (.tup (.cons (.c (.str "num")) .nil)) (.cons (.tup (.cons (.c (.str "bag")) (.cons (.tup (.cons (.c (.str "num")) .nil)) .nil))) .nil))) (.call 41 (.cons (.v 3) (.cons (.c (.int 2)) .nil))))) (.cons (.set (.one 9) (.call 52 (.cons (.v 5) (.cons (.v 1) (.cons (.op .Sub (.v 2) (.c (.int 2))) (.cons (.v 3) .nil)))))) (.cons (.ret (.tup (.cons (.c (.str "let")) (.cons (.v 4) (.cons (.v 9) (.cons (.call 52 (.cons (.v 0) (.cons (.op .Add (.lst (.cons (.tup (.cons (.v 4) (.cons (.v 5) .nil))) .nil)) (.v 1)) (.cons (.op .Sub (.v 2) (.c (.int 1))) (.cons (.v 3) .nil))))) .nil)))))) .nil))) .nil) LY
noncomputable def L0:B:=.cons (.set (.one 4) (.ix (.lst (.cons (.c (.str "t")) (.cons (.c (.str "s")) (.cons (.c (.str "z")) .nil)))) (.call 41 (.cons (.v 3) (.cons (.c (.int 3)) .nil))))) LZ
noncomputable def Aw:B:=.cons (.cond (.and (.cmp .Eq (.v 8) (.c (.int 8))) (.cmp .Eq (.call 41 (.cons (.v 3) (.cons (.c (.int 2)) .nil))) (.c (.int 0)))) (.cons (.ret (.tup (.cons (.c (.str "none")) (.cons (.ix (.v 0) (.c (.int 1))) .nil)))) .nil) .nil) L0
noncomputable def L3:B:=.cons (.cond (.cmp .Eq (.v 8) (.c (.int 7))) (.cons (.ret (.call 51 (.cons (.v 0) (.cons (.v 1) (.cons (.v 2) (.cons (.v 3) .nil)))))) .nil) .nil) Aw
noncomputable def L4:B:=.cons (.cond (.cmp .Eq (.v 8) (.c (.int 5))) (.cons (.ret (.tup (.cons (.c (.str "one")) (.cons (.call 48 (.cons (.ix (.v 0) (.c (.int 1))) (.cons (.v 1) (.cons (.op .Sub (.v 2) (.c (.int 1))) (.cons (.v 3) .nil))))) .nil)))) .nil) .nil) L3
noncomputable def L5:B:=.cons (.cond (.cmp .Eq (.v 8) (.c (.int 4))) (.cons (.ret (.tup (.cons (.c (.str "when")) (.cons (.call 49 (.cons (.v 1) (.cons (.c (.int 1)) (.cons (.v 3) .nil)))) (.cons (.call 52 (.cons (.v 0) (.cons (.v 1) (.cons (.op .Sub (.v 2) (.c (.int 1))) (.cons (.v 3) .nil))))) .nil))))) .nil) .nil) L4
noncomputable def L6:B:=.cons (.cond (.cmp .Eq (.v 8) (.c (.int 3))) (.cons (.ret (.tup (.cons (.c (.str "times")) (.cons (.op .Sub (.call 41 (.cons (.v 3) (.cons (.c (.int 7)) .nil))) (.c (.int 3))) (.cons (.call 52 (.cons (.v 0) (.cons (.v 1) (.cons (.op .Sub (.v 2) (.c (.int 1))) (.cons (.v 3) .nil))))) .nil))))) .nil) .nil) L5
noncomputable def L7:B:=.cons (.cond (.cmp .Eq (.v 8) (.c (.int 2))) (.cons (.ret (.tup (.cons (.c (.str "both")) (.cons (.call 52 (.cons (.v 0) (.cons (.v 1) (.cons (.op .Sub (.v 2) (.c (.int 1))) (.cons (.v 3) .nil))))) (.cons (.call 52 (.cons (.v 0) (.cons (.v 1) (.cons (.op .Sub (.v 2) (.c (.int 1))) (.cons (.v 3) .nil))))) .nil))))) .nil) .nil) L6
noncomputable def tP:B:=.cons (.cond (.or (.cmp .LtE (.v 2) (.c (.int 0))) (.cmp .Lt (.v 8) (.c (.int 2)))) (.cons (.cond (.and (.cmp .Eq (.v 7) (.lst .nil)) (.cmp .Eq (.call 41 (.cons (.v 3) (.cons (.c (.int 2)) .nil))) (.c (.int 0)))) (.cons (.ret (.tup (.cons (.c (.str "one")) (.cons (.call 48 (.cons (.ix (.v 0) (.c (.int 1))) (.cons (.v 1) (.cons (.c (.int 0)) (.cons (.v 3) .nil))))) .nil)))) .nil) .nil) (.cons (.cond (.cmp .Eq (.v 7) (.lst .nil)) (.cons (.ret (.tup (.cons (.c (.str "none")) (.cons (.ix (.v 0) (.c (.int 1))) .nil)))) .nil) .nil) (.cons (.ret (.ix (.v 7) (.call 41 (.cons (.v 3) (.cons (.bi .len (.cons (.v 7) .nil)) .nil))))) .nil))) .nil) L7
noncomputable def Ax:B:=.cons (.set (.one 8) (.call 41 (.cons (.v 3) (.cons (.c (.int 12)) .nil)))) tP
noncomputable def L8:B:=.cons (.set (.one 7) (.op .Add (.op .Add (.call 47 (.cons (.v 0) (.cons (.v 1) .nil))) (.v 6)) (.v 6))) Ax
noncomputable def L9:B:=.cons (.set (.one 6) (.lc 2 [0] (.many [0,1]) (.seq (.og (.call 45 .nil))) (.cmp .Eq (.tup (.cons (.c (.str "bag")) (.cons (.v 1) .nil))) (.v 2)) (.tup (.cons (.c (.str "table")) (.cons (.v 0) .nil))))) L8
noncomputable def L':B:=.cons (.cond (.cmp .NotEq (.ix (.v 0) (.c (.int 0))) (.c (.str "bag"))) (.cons (.ret (.call 48 (.cons (.v 0) (.cons (.v 1) (.cons (.v 2) (.cons (.v 3) .nil)))))) .nil) .nil) L9
theorem Ma:aB ["kind","scope","fuel","seed","name","other","named","ways","way","bound_v","over"] ["kind","scope","fuel","seed"] (ag (aa 76)):=⟨rfl,rfl,rfl,by decide +kernel,rfl,by decide +kernel,by decide +kernel⟩
theorem Mb:aH nm 40 ["kind","scope","fuel","seed","name","other","named","ways","way","bound_v","over"] (ag (aa 76)) (aw (aa 76))=L':=by kernel_rfl
noncomputable abbrev Uh (n:Nat):a0 w:={ cs:=[(41,i5),(45,j7),(47,tJ),(48,g' n),(49,j' n),(50,o6 n),(51,oZ n),(52,fh n)] }
theorem Mc (O:Lw w) {n:Nat} (hs:FO w 48 (n+4) (g' n)) (hc:FO w 49 (n+4) (j' n)) (ho:FO w 50 (n+4) (o6 n)) (ht:FO w 51 (n+4) (oZ n)) (ha:FO w 52 (n+4) (fh n)):FO w 52 (n+5) (fh (n+1)):=by
 refine aL O.ok O.hn _ ⟨"_law_asked",aa 76,["kind","scope","fuel","seed"]⟩ (by rw[O.hd];rfl) (Uh n) { cs:=⟨⟨1,by lia,j8 O⟩,⟨1,by lia,md O⟩,⟨2,by lia,zW O⟩,⟨n+4,XC _,hs⟩,⟨n+4,XC _,hc⟩,⟨n+4,XC _,ho⟩,⟨n+4,XC _,ht⟩,⟨n+4,XC _,ha⟩,trivial⟩ } Ma Mb λds M Q _ h=>?_;obtain⟨κ,sc,f,p,rfl,hκ,rk,am,hp,h⟩:=h;have fin:∀(X:Mp) (q:Qn),Sx M p X->GQ f κ sc q->a6 Q (qD q) X:=λX q u g=>ak (h q X u g);cases κ with
 |num=>exact⟨rfl,_,rfl,au (aY (by decide) ⟨_,sc,f,p,rfl,hκ,by unfold Rk at rk ⊢;rw[TR]at rk <;> first |lia |(intro k;exact nofun),am,hp,λq X u g=>fin X q u g⟩)⟩
 |word=>exact⟨rfl,_,rfl,au (aY (by decide) ⟨_,sc,f,p,rfl,hκ,by unfold Rk at rk ⊢;rw[TR]at rk <;> first |lia |(intro k;exact nofun),am,hp,λq X u g=>fin X q u g⟩)⟩
 |row fs=>exact⟨rfl,_,rfl,au (aY (by decide) ⟨_,sc,f,p,rfl,hκ,by unfold Rk at rk ⊢;rw[TR]at rk <;> first |lia |(intro k;exact nofun),am,hp,λq X u g=>fin X q u g⟩)⟩
 |ai k=>
 have hk:=g8 hκ;have US:kd (.ai k)=kd k+1:=by rw[kd]
 unfold Rk at rk;rw[TR]at rk;refine⟨rfl,_,rfl,au (ay (by decide) ?_)⟩;show lE (E.w (Uh (w:=w) n).wd nm.af (.call 45 .nil)).1 [some (kD (.ai k)),some (aN sc),some (.int f),some (.ref p),none,none,none,none,none,none,none] M _;refine zy (ms:=bb) (M:=M) (λk z=>⟨rfl,z⟩) (by decide) (by decide +kernel) λout pm=>.inl ?_;refine ew (λxs ys M'=>M'=M/\∃rest vs,xs=c8 rest/\ys=vs.map qD/\(∀p∈rest,p∈bb)/\(∀v∈vs,Wy (.ai k) sc v)/\vs.length+rest.length<=5) ?_ ?_ _ _ _ ⟨rfl,out,[],rfl,rfl,λp hp=>pm.mem_iff.mp hp,λv hv=>(nomatch hv),by have:bb.length=5:=rfl;have:=pm.length_eq;simp;lia⟩
 ·rintro ys M' ⟨rfl,rest,vs,e1,rfl,_,hv,lv⟩;refine⟨trivial,XN (by rw[Xx];lia:_<=5) (by decide),.inl ?_⟩;have Tq:vs.length<=5:=by lia
  refine⟨.ai k,sc,_,rfl,hκ,am,λws hw lw=>⟨XG (by simp;lia:_<=300) (by decide),.inl ⟨XG (by simp;lia:_<=300) (by decide),.inl ?_⟩⟩⟩;have key:∀(d:List D) (ws:List Qn),d=ws.map qD->(∀q∈ws,Wy (.ai k) sc q)->ws.length<=300->B.w (Uh (w:=w) n).wd nm.af Ax (aS Q) [some (kD (.ai k)),some (aN sc),some (.int f),some (.ref p),none,none,some (.lst (vs.map qD)),some (.lst d),none,none,none] M':=?_
  ·refine key _ (ws++vs++vs) (by rw[XZ,XZ]) ?_ ?_
   ·intro q hq;rcases List.mem_append.mp hq with z |z
    ·rcases List.mem_append.mp z with z |z
     ·exact (hw q z).WL
     ·exact hv q z
    ·exact hv q z
   ·simp;lia
  clear lw hw ws;rintro _ ws rfl hw lw;refine⟨p,12,rfl,hp,by decide,by decide,λcV Y u2 _ _=>?_⟩;show B.w (Uh (w:=w) n).wd nm.af tP (aS Q) [some (kD (.ai k)),some (aN sc),some (.int f),some (.ref p),none,none,some (.lst (vs.map qD)),some (.lst (ws.map qD)),some (.int cV),none,none] Y;refine fK λN to=>?_;have io:B.w (Uh (w:=w) n).wd nm.af (oN (ez tP)) { aS Q with nx:=N } [some (kD (.ai k)),some (aN sc),some (.int f),some (.ref p),none,none,some (.lst (vs.map qD)),some (.lst (ws.map qD)),some (.int cV),none,none] Y:=by
   refine fK λN3 tM=>?_;have go:∀X,Sx M' p X->N3 [some (kD (.ai k)),some (aN sc),some (.int f),some (.ref p),none,none,some (.lst (vs.map qD)),some (.lst (ws.map qD)),some (.int cV),none,none] X:=by
    intro X uX;refine tM _ _ ⟨XM _,.inl (lZ (aV (λe=>⟨_,rfl,l2,fin _ (.none k) uX (Av hκ)⟩) λe=>?_))⟩;have Aj:0<ws.length:=by
     cases ws with
     |nil=>simp at e
     |cons _ _=>simp
    refine⟨p,_,rfl,uX.hs,by rw[Xx];lia,?_,λr X2 u3 r0 r1=>?_⟩
    ·rw[Xx];exact Int.lt_of_le_of_lt (by lia:_<=(300:Int)) (by decide)
    obtain⟨d,e3,e4⟩:=d5 r0 r1;obtain⟨q,hq,rfl⟩:=List.mem_map.mp e4;have hq':=hw q hq;have nb:=fg (f:=f) hκ;exact⟨_,e3,fin _ q (uX.tr u3) ⟨hq'.ty,by have:=hq'.n;lia,by have:=hq'.d;lia⟩⟩
   refine⟨XM _,.inl (lZ (aV (λe=>⟨p,2,rfl,u2.hs,by decide,by decide,λr X3 u3 _ _=>bB (aV (λe2=>?_) λe2=>go _ (u2.tr u3))⟩) λe=>ay (by decide) (go Y u2)))⟩;exact⟨_,rfl,k,sc,0,p,rfl,hk,by unfold Rk;lia,am.du (XM _),u3.hs,λq X4 u4 g=>⟨l2,fin _ (.one q) ((u2.tr u3).tr u4) (LW hκ g)⟩⟩
  have Md:0<f->N [some (kD (.ai k)),some (aN sc),some (.int f),some (.ref p),none,none,some (.lst (vs.map qD)),some (.lst (ws.map qD)),some (.int cV),none,none] Y:=by
   intro fp;refine to _ _ ?_;obtain⟨b1,b2⟩:=Ao fp hκ;have i7:∀{κ'} {g:Int},κ'∈AK->g<=f-1->Rk n g κ' (TR κ'):=λ{κ' g} h1 h2=>by have:=eB h1;have:=@tK κ';unfold Rk;lia
   have ce:∀{κ' Ay q} {g:Int},κ'∈AK->g<=f-1->GQ g κ' Ay q->nq q<=zf (f-1).toNat/\dq q<=5 * (f-1).toNat+9:=λ{κ' Ay q g} h1 h2 h3=>by
    have:=fg (f:=g) h1;have:=oV (show g.toNat<=(f-1).toNat by lia);have:=h3.n;have:=h3.d
    lia
   have K8:=i6 (f-1).toNat;refine bB (aV (λ_=>?w2) λ_=>bB (aV (λ_=>?w3) λ_=>bB (aV (λ_=>?WM) λ_=>bB (aV (λ_=>?WN) λ_=>bB (aV (λ_=>?w7) λ_=>?_)))))
   case w2=>
    refine⟨.ai k,sc,f-1,p,rfl,hκ,i7 hκ (Yy _),am.du (by lia),u2.hs,λqa Xa ua ga=>⟨.ai k,sc,f-1,p,rfl,hκ,i7 hκ (Yy _),am.du (by lia),ua.hs,λqb Xb ub gb=>⟨l3,fin _ (.both qa qb) ((u2.tr ua).tr ub) ⟨.both (zO (g8 hκ)) ga.ty gb.ty,?_,?_⟩⟩⟩⟩
    ·have:=ce hκ (Yy _) ga;have:=ce hκ (Yy _) gb;rw[nq,b1];lia
    ·have:=ce hκ (Yy _) ga;have:=ce hκ (Yy _) gb;rw[dq,b2];lia
   case w3=>
    refine⟨p,7,rfl,u2.hs,by decide,by decide,λr X3 u3 _ _=>⟨.ai k,sc,f-1,p,rfl,hκ,i7 hκ (Yy _),am.du (by lia),u3.hs,λqa Xa ua ga=>⟨l3,fin _ (.times (r-3) qa) ((u2.tr u3).tr ua) ⟨.times ga.ty,?_,?_⟩⟩⟩⟩
    ·have:=ce hκ (Yy _) ga;rw[nq,b1];lia
    ·have:=ce hκ (Yy _) ga;rw[dq,b2];lia
   case WM=>
    refine⟨sc,1,p,rfl,by decide,by decide,by lia,am.du (XM _),u2.hs,λc Xc VM tc VN Uu=>⟨.ai k,sc,f-1,p,rfl,hκ,i7 hκ (Yy _),am.du (by lia),VM.hs,λqa Xa ua ga=>⟨l3,fin _ (.aU c qa) ((u2.tr VM).tr ua) ⟨.aU tc ga.ty,?_,?_⟩⟩⟩⟩
    ·have VN:nq c<=17:=VN;have:=ce hκ (Yy _) ga;rw[nq,b1];lia
    ·have Uu:dq c<=8:=Uu;have:=ce hκ (Yy _) ga;rw[dq,b2];lia
   case WN=>
    refine⟨_,rfl,k,sc,f-1,p,rfl,hk,by unfold Rk;lia,am.du (by lia),u2.hs,λqa Xa ua ga=>⟨l2,fin _ (.one qa) (u2.tr ua) ⟨.one ga.ty,?_,?_⟩⟩⟩
    ·have:=ce hk (Yy _) ga;rw[nq,b1];lia
    ·have:=ce hk (Yy _) ga;rw[dq,b2];lia
   case w7=>
    exact⟨.ai k,sc,f,p,rfl,hκ,fp,by lia,am,u2.hs,λqa Xa ua ga=>fin _ qa (u2.tr ua) ga⟩
   show B.w (Uh (w:=w) n).wd nm.af Aw (aS Q) [some (kD (.ai k)),some (aN sc),some (.int f),some (.ref p),none,none,some (.lst (vs.map qD)),some (.lst (ws.map qD)),some (.int cV),none,none] Y;refine fK λN8 Me=>?_;have go:∀X,Sx M' p X->N8 [some (kD (.ai k)),some (aN sc),some (.int f),some (.ref p),none,none,some (.lst (vs.map qD)),some (.lst (ws.map qD)),some (.int cV),none,none] X:=by
    intro X uX;refine Me _ _ ?_;refine⟨l3,.inl ⟨p,3,rfl,uX.hs,by decide,by decide,λr Z uZ r0 r1=>?_⟩⟩;obtain⟨d,e3,e4⟩:=d5 (xs:=[.str "t",.str "s",.str "z"]) r0 r1;obtain⟨x,rfl,hx⟩:∃x:Str,d=.str x/\x≠"w":=by
     simp only[X5,XT,or_false]at e4;rcases e4 with z |z |z
     ·exact⟨_,z,by decide +kernel⟩
     ·exact⟨_,z,by decide +kernel⟩
     ·exact⟨_,z,by decide +kernel⟩
    refine⟨_,e3,?_⟩;have Az:=uX.tr uZ;have ext:∀{κ':Kd},κ'∈AK->d6 ((x,κ')::sc) (f-1).toNat:=λ{κ'} h4=>by
     refine⟨λq hq=>?_,?_,λq hq=>?_⟩
     ·rcases List.mem_cons.mp hq with rfl |hq
      ·exact h4
      ·exact am.TZ q hq
     ·have:=am.len;rw[XI];lia
     ·rcases List.mem_cons.mp hq with rfl |hq
      ·exact hx
      ·exact am.Ve q hq
    have sl:([D.tup [.str x,kD .num]].length+(c8 sc).length)<=sizeLine:=XG (by have:=am.len;unfold c8;simp;lia:_<=300) (by decide)
    refine bB (aV (λ_=>?_) λ_=>?_)
    ·refine⟨l1,l1,l2,l2,.inl ⟨p,2,rfl,uZ.hs,by decide,by decide,λr X3 u3 r0 r1=>?_⟩⟩;obtain⟨d,Ue,Ug⟩:=d5 (xs:=[kD .num,kD (.ai .num)]) r0 r1;obtain⟨κ',rfl,hκ'⟩:∃ κ',d=kD κ'/\κ'∈AK:=by
      simp only[X5,XT,or_false]at Ug;rcases Ug with z |z
      ·exact⟨_,z,by decide +kernel⟩
      ·exact⟨_,z,by decide +kernel⟩
     refine⟨_,Ue,?_⟩;refine⟨κ',sc,f-2,p,rfl,hκ',i7 hκ' (by lia),am.du (by lia),u3.hs,λqa Xa ua ga=>⟨l2,l1,.inl ⟨sl,.inl ⟨.ai k,(x,κ')::sc,f-1,p,rfl,hκ,i7 hκ (Yy _),ext hκ',ua.hs,λqb Xb ub gb=>⟨l4,fin _ (.let x qa qb) (((Az.tr u3).tr ua).tr ub) ⟨.let (XG (eB hκ') (by decide)) ga.ty gb.ty,?_,?_⟩⟩⟩⟩⟩⟩
     ·have:=ce hκ' (by lia) ga;have:=ce hκ (Yy _) gb;rw[nq,b1];lia
     ·have:=ce hκ' (by lia) ga;have:=ce hκ (Yy _) gb;rw[dq,b2];lia
    ·refine⟨sc,f-1,p,rfl,by lia,am.du (by lia),uZ.hs,λqa κ' Xa ua hκ' ty Tr Ts=>⟨rfl,_,rfl,l2,l1,.inl ⟨sl,.inl ⟨.ai k,(x,κ')::sc,f-1,p,rfl,hκ,i7 hκ (Yy _),ext (g8 hκ'),ua.hs,λqb Xb ub gb=>⟨l4,fin _ (.for x qa qb) ((Az.tr ua).tr ub) ⟨.for (XG (eB (g8 hκ')) (by decide)) ty gb.ty,?_,?_⟩⟩⟩⟩⟩⟩
     ·have:=ce hκ (Yy _) gb;rw[nq,b1];lia
     ·have:=ce hκ (Yy _) gb;rw[dq,b2];lia
   refine bB (aV (λ_=>⟨p,2,rfl,u2.hs,by decide,by decide,λr X3 u3 _ _=>bB (aV (λ_=>⟨_,rfl,l2,fin _ (.none k) (u2.tr u3) (Av hκ)⟩) λ_=>go _ (u2.tr u3))⟩) λ_=>ay (by decide) (go Y u2))
  exact aV (λe1=>aY rfl io) λe1=>aV (λe2=>io) λe2=>Md (by have:=of_decide_eq_false (Bool.eq_false_iff.mpr e1);lia)
 ·rintro y xs ys M' ⟨rfl,rest,vs,e1,rfl,hr,hv,lv⟩;cases rest with
  |nil=>cases e1
  |cons g rest=>
   obtain⟨gf,gk⟩:=g;cases e1;have hg:=hr _ XH;have hr':∀p∈rest,p∈bb:=λp hp=>hr p (XF _ hp);rw[XI]at lv;have Au:kd (.ai gk)<=50:=(by decide +kernel:∀p∈bb,kd (.ai p.2)<=50) _ hg;refine⟨trivial,XN (by rw[Xx];lia:_<=5) (by decide),λN hN=>⟨rfl,l2,j6 (a:=.ai gk) (b:=.ai k) Au (aV (λe=>⟨l2,?_⟩) λe=>hN _ _ ⟨rfl,rest,vs,rfl,rfl,hr',hv,by lia⟩)⟩⟩;have e:Kd.ai gk=.ai k:=of_decide_eq_true e;cases e;have:=hN (vs.map qD++[qD (.tab gf)]) _ ⟨rfl,rest,vs++[.tab gf],rfl,by rw[XZ];rfl,hr',λv iy=>?_,by simp;lia⟩
   ·exact this
   ·rcases List.mem_append.mp iy with z |z
    ·exact hv v z
    ·rw[List.mem_singleton.mp z];exact⟨.tab (oK (by decide +kernel) hg),by rw[nq];lia,by rw[dq];lia⟩
structure Mf (w:Wo) (n:Nat):Prop where
 s:FO w 48 (n+4) (g' n)
 c:FO w 49 (n+4) (j' n)
 o:FO w 50 (n+4) (o6 n)
 t:FO w 51 (n+4) (oZ n)
 a:FO w 52 (n+4) (fh n)
theorem AA (O:Lw w):∀n,Mf w n
 | 0=>by
  have no:∀i d sp,eA[i]?=some d->(∀ds M Q E,¬sp ds M Q E)->FO w i 4 sp:=λi d sp h g=>FO.imp (iV O.ok (by rw[O.hd];exact h) (cs:=[]) trivial) λds M Q E z=>(g ds M Q E z).elim;refine⟨no _ _ _ rfl ?_,no _ _ _ rfl ?_,no _ _ _ rfl ?_,no _ _ _ rfl ?_,no _ _ _ rfl ?_⟩
  ·rintro ds M Q E ⟨κ,sc,f,p,_,_,rk,_⟩;unfold Rk at rk;lia
  ·rintro ds M Q E ⟨sc,f,p,_,_,_,rk,_⟩;lia
  ·rintro ds M Q E ⟨sc,f,p,_,rk,_⟩;lia
  ·rintro ds M Q E ⟨κ,sc,f,p,_,_,_,rk,_⟩;lia
  ·rintro ds M Q E ⟨κ,sc,f,p,_,hκ,rk,_⟩;have:=(oU hκ).2.2.2.2;unfold Rk at rk;lia
 |n+1=>let g:=AA O n;⟨Lh O g.s g.a,Lr O g.s g.c,LO O g.a,LB O g.a,Mc O g.s g.c g.o g.t g.a⟩
variable {w:Wo}
noncomputable def us:Qn->List Qn
 |.row fs=>fs.map (·.2)
 |.at _ q=>[q]
 |.add a b=>[a,b] |.mul a b=>[a,b]
 |.one q=>[q]
 |.both a b=>[a,b]
 |.times _ q=>[q]
 |.for _ a b=>[a,b] |.aU a b=>[a,b] |.let _ a b=>[a,b]
 |.same a b=>[a,b] |.under a b=>[a,b] |.and a b=>[a,b] |.or a b=>[a,b]
 |.not q=>[q]
 |_=>[]
theorem AB (O:Lw w) {s:Str}{b:Bool}{M:Mp}{k:Bool->Prop} (hb:cC (.str s) (oQ.map D.str)=b) (h:k b):dJ (.str s) (w.gv.getD 0 .aj) M k:=by
 rw[O.g0];refine⟨⟨rfl,by decide +kernel,by decide +kernel,?_⟩⟩;rw[hb];exact h
noncomputable def Mg:B:=(.cons (.cond (.cmp .Eq (.ix (.v 0) (.c (.int 0))) (.c (.str "row"))) (.cons (.ret (.bi .tuple (.cons (.lc 2 [] (.many [0,1]) (.seq (.ix (.v 0) (.c (.int 1)))) .ar (.v 1)) .nil))) .nil) .nil) (.cons (.ret (.ite (.cmp .In (.ix (.v 0) (.c (.int 0))) (.g 0)) (.sl (.v 0) (.c (.int 2)) .ar) (.sl (.v 0) (.c (.int 1)) .ar))) .nil))
theorem Mh:aB ["question"] ["question"] (ag (aa 6)):=⟨rfl,rfl,rfl,by decide +kernel,rfl,by decide +kernel,by decide +kernel⟩
theorem Mi:aH nm 40 ["question"] (ag (aa 6)) (aw (aa 6))=Mg:=by kernel_rfl
def kb:Sp:=λds M Q _=>∃q,ds=[qD q]/\(us q).length<100/\Q (.tup ((us q).map qD)) M
theorem mi:∀fs:List (Str×Qn),a9 fs=fs.map λp=>.tup [.str p.1,qD p.2]
 |[]=>by rw[a9];rfl
 |(f,q)::r=>by rw[a9,mi r];rfl
theorem hE:∀fs:List (Str×Kd),bj fs=fs.map λp=>.tup [.str p.1,kD p.2]
 |[]=>by rw[bj];rfl
 |(f,q)::r=>by rw[bj,hE r];rfl
theorem mj (O:Lw w):FO w 0 1 kb:=by
 refine aL O.ok O.hn _ ⟨"under",aa 6,["question"]⟩ (by rw[O.hd];rfl) {} { cs:=trivial } Mh Mi λds M Q _ h=>?_;obtain⟨q,rfl,hl,h⟩:=h;cases q with
 |row fs=>
  refine⟨rfl,_,rfl,au (aY (by decide) ⟨_,rfl,?_⟩)⟩;show c7 (λ_=>True) (.many [0,1]) gO _ _ _ (a9 fs) [] M;rw[mi];have hl:fs.length<100:=by simpa [us] using hl
  refine iY (λp:Str×Qn=>.tup [.str p.1,qD p.2]) (λp=>qD p.2) fs ?_ (Ys hl (by decide)) (λp _ N hN=>?_) ?_
  ·exact trivial
  ·exact⟨rfl,hN⟩
  ·refine .inl (ak ?_);rw[us,YI]at h;exact h
 |_=>
  refine⟨rfl,_,rfl,au (ay (by decide) ⟨_,rfl,?_⟩)⟩;dsimp only[E.w,jB]
  first
  |exact AB O (b:=true) (by decide +kernel) (aY rfl (ak h))
  |exact AB O (b:=false) (by decide +kernel) (ay (by decide) (ak h))
noncomputable def Mj:B:=(.cons (.ex (.mt .append (.fld (.v 0) "waiting") (.cons (.tup (.cons (.v 1) (.cons (.v 2) (.cons (.v 3) .nil)))) .nil))) .nil)
theorem Ml:aB ["self","step","question","around"] ["self","step","question","around"] (ag (bx (aa 11) 1)):=⟨rfl,rfl,rfl,by decide +kernel,rfl,by decide +kernel,by decide +kernel⟩
theorem Mm:aH nm 40 ["self","step","question","around"] (ag (bx (aa 11) 1)) (aw (bx (aa 11) 1))=Mj:=by kernel_rfl
noncomputable def Mn:B:=(.cons (.ex (.mt .append (.fld (.v 0) "found") (.cons (.v 1) .nil))) .nil)
theorem Mo:aB ["self","result"] ["self","result"] (ag (bx (aa 11) 2)):=⟨rfl,rfl,rfl,by decide +kernel,rfl,by decide +kernel,by decide +kernel⟩
theorem Mq:aH nm 40 ["self","result"] (ag (bx (aa 11) 2)) (aw (bx (aa 11) 2))=Mn:=by kernel_rfl
noncomputable def Mr:B:=(.cons (.set (.one 2) (.lc 1 [0] (.one 0) (.oh (.v 1)) .ar (.mt .pop (.fld (.v 1) "found") .nil))) (.cons (.ret (.rev (.v 2))) .nil))
theorem Ms:aB ["self","many","taken"] ["self","many"] (ag (bx (aa 11) 3)):=⟨rfl,rfl,rfl,by decide +kernel,rfl,by decide +kernel,by decide +kernel⟩
theorem Mu:aH nm 40 ["self","many","taken"] (ag (bx (aa 11) 3)) (aw (bx (aa 11) 3))=Mr:=by kernel_rfl
noncomputable def Mv:B:=(.cons (.oj (.v 0) "waiting" (.lst .nil)) (.cons (.oj (.v 0) "found" (.lst .nil)) .nil))
theorem Mw:aB ["self"] ["self"] (ag (bx (aa 11) 0)):=⟨rfl,rfl,rfl,by decide +kernel,rfl,by decide +kernel,by decide +kernel⟩
theorem My:aH nm 40 ["self"] (ag (bx (aa 11) 0)) (aw (bx (aa 11) 0))=Mv:=by kernel_rfl
def fM (w:Wo):Sp:=λds M Q _=>∃x a b dx s q r xs,ds=[.ref x,s,q,r]/\M x=some (.ins (w.ca 0) dx [("waiting",.ref a),("found",.ref b)])/\M a=some (.lst xs)/\xs.length<sizeLine/\Q .aj (up M a (.lst (xs++[.tup [s,q,r]])))
theorem i8 (O:Lw w):dt w 1 1 (fM w):=by
 refine iW O.ok O.hn _ ⟨"later",(bx (aa 11) 1),["self","step","question","around"]⟩ (by rw[O.hms];rfl) {} { cs:=trivial } Ml Mm λds M Q _ h=>?_;obtain⟨x,a,b,dx,s,q,r,xs,rfl,hx,ha,hl,h⟩:=h;exact⟨rfl,_,_,_,hx,_,O.fw,rfl,.inl ⟨rfl,_,ha⟩,l3,_,ha,hl,ak h⟩
def eC (w:Wo):Sp:=λds M Q _=>∃x a b dx d xs,ds=[.ref x,d]/\M x=some (.ins (w.ca 0) dx [("waiting",.ref a),("found",.ref b)])/\M b=some (.lst xs)/\xs.length<sizeLine/\Q .aj (up M b (.lst (xs++[d])))
theorem i9 (O:Lw w):dt w 2 1 (eC w):=by
 refine iW O.ok O.hn _ ⟨"tell",(bx (aa 11) 2),["self","result"]⟩ (by rw[O.hms];rfl) {} { cs:=trivial } Mo Mq λds M Q _ h=>?_;obtain⟨x,a,b,dx,d,xs,rfl,hx,hb,hl,h⟩:=h;exact⟨rfl,_,_,_,hx,_,O.T7,rfl,.inl ⟨rfl,_,hb⟩,_,hb,hl,ak h⟩
def i' (w:Wo):Sp:=λds M Q _=>∃x a b dx n fs ks,ds=[.ref x,.int n]/\M x=some (.ins (w.ca 0) dx [("waiting",.ref a),("found",.ref b)])/\M b=some (.lst (fs++ks))/\(ks.length:Int)=n/\n<1000/\Q (.lst ks) (up M b (.lst fs))
theorem kc (O:Lw w):dt w 3 1 (i' w):=by
 refine iW O.ok O.hn _ ⟨"take",(bx (aa 11) 3),["self","many"]⟩ (by rw[O.hms];rfl) {} { cs:=trivial } Ms Mu λds M Q _ h=>?_;obtain⟨x,a,b,dx,n,fs,ks,rfl,hx,hb,hn,hl,h⟩:=h;have Mz:x≠b:=by rintro rfl;rw[hx]at hb;cases hb
 refine⟨rfl,Int.le_trans (by decide) (by lia:0<=n),Int.lt_trans hl (by decide),?_⟩;refine ew (λxs ys M'=>xs.length<=ks.length/\M'=up M b (.lst (fs++ks.take xs.length))/\ys=(ks.drop xs.length).reverse) ?_ ?_ _ _ _ ⟨?_,?_,?_⟩
 ·rintro ys M' ⟨_,rfl,rfl⟩;refine⟨trivial,XN (by simp;lia:_<=1000) (by decide),.inl (.inl ?_)⟩;have e1:ks.drop ([]:List D).length=ks:=rfl;rw[e1,List.reverse_reverse];have e2:fs++ks.take ([]:List D).length=fs:=by simp
  rw[e2];exact ak h
 ·rintro d xs ys M' ⟨h1,rfl,rfl⟩;rw[XI]at h1 ⊢;refine⟨trivial,XN (by simp;lia:_<=1000) (by decide),λN hN=>?_⟩;have a2:xs.length<ks.length:=by lia
  refine⟨_,dx,[("waiting",.ref a),("found",.ref b)],by rw[aF Mz];exact hx,.ref b,O.T7,rfl,.inl ⟨rfl,_,av⟩,_,av,ks[xs.length],?_,?_⟩
  ·have:(fs++ks.take (xs.length+1)).length-1=fs.length+xs.length:=(by simp;lia);rw[this,Yp (by lia),Nat.add_sub_cancel_left,List.getElem?_take,if_pos (by lia),XB a2]
  ·have e1:(fs++ks.take (xs.length+1)).dropLast=fs++ks.take xs.length:=by
    rw[List.take_succ,XB a2,Option.toList_some,<- Ye,List.dropLast_concat]
   rw[e1,_root_.N.cF];refine hN _ _ ⟨by lia,rfl,?_⟩;rw[List.drop_eq_getElem_cons a2,YX]
 ·unfold fB;simp;lia
 ·have:(fB 0 n.toNat).length=ks.length:=by unfold fB;simp;lia
  rw[this,List.take_length,zZ hb]
 ·have:(fB 0 n.toNat).length=ks.length:=by unfold fB;simp;lia
  rw[this,List.drop_length];rfl
def o7 (w:Wo):Sp:=λds M Q _=>∃x dx,ds=[.ref x]/\M x=some (.ins (w.ca 0) dx [])/\∀a b,M a=none->M b=none->a≠b->Q .aj (Wm (up M x (.ins (w.ca 0) dx [("waiting",.ref a),("found",.ref b)])) a b [] [])
theorem tQ (O:Lw w):dt w 0 1 (o7 w):=by
 refine iW O.ok O.hn _ ⟨"__init__",(bx (aa 11) 0),["self"]⟩ (by rw[O.hms];rfl) {} { cs:=trivial } Mw My λds M Q _ h=>?_;obtain⟨x,dx,rfl,hx,h⟩:=h;refine⟨rfl,XM _,.inr λa ha=>?_⟩;have na:x≠a:=di hx ha;refine⟨_,dx,[],by rw[aF na];exact hx,O.fw,by decide,XM _,.inr λb hb=>?_⟩;have nb:x≠b:=by rintro rfl;rw[av]at hb;cases hb
 rw[aF (Y0 nb)]at hb;have VO:a≠b:=by rintro rfl;rw[av]at hb;cases hb
 rw[aF (Y0 VO)]at hb;refine⟨_,dx,[("waiting",.ref a)],by rw[aF nb];exact av,O.T7,(show 1<1000 by decide),ak ?_⟩;have e:=h a b ha hb VO;have z:Wm (up M x (.ins (w.ca 0) dx [("waiting",.ref a),("found",.ref b)])) a b [] []=up (up (up (up M a (.lst [])) x (.ins (w.ca 0) dx [("waiting",.ref a)])) b (.lst [])) x (.ins (w.ca 0) dx [("waiting",.ref a),("found",.ref b)]):=by
  unfold Wm;rw[oO (p:=b) (r:=x) (Y0 nb),_root_.N.cF,oO (p:=a) (r:=x) (Y0 na)]
 rw[z]at e;exact e
variable {w:Wo}
def dv (f:Qn->List D->D->Prop):Sp:=λds M Q _=>∃q ks d,ds=[qD q,.lst ks]/\f q ks d/\Q d M
noncomputable def MA:B:=(.cons (.ret (.tup (.cons (.c (.str "bag")) (.cons (.ix (.v 0) (.c (.int 1))) .nil)))) .nil)
theorem MB:aB ["question","below"] ["question","below"] (ag (aa 34)):=⟨rfl,rfl,rfl,by decide +kernel,rfl,by decide +kernel,by decide +kernel⟩
theorem MC:aH nm 40 ["question","below"] (ag (aa 34)) (aw (aa 34))=MA:=by kernel_rfl
noncomputable def MD:B:=(.cons (.ret (.tup (.cons (.ix (.v 0) (.c (.int 0))) .nil))) .nil)
theorem ME:aB ["question","below"] ["question","below"] (ag (aa 30)):=⟨rfl,rfl,rfl,by decide +kernel,rfl,by decide +kernel,by decide +kernel⟩
theorem MF:aH nm 40 ["question","below"] (ag (aa 30)) (aw (aa 30))=MD:=by kernel_rfl
noncomputable def MG:B:=(.cons (.ret (.tup (.cons (.c (.str "bag")) (.cons (.ix (.v 1) (.c (.int 0))) .nil)))) .nil)
theorem MH:aB ["question","below"] ["question","below"] (ag (aa 35)):=⟨rfl,rfl,rfl,by decide +kernel,rfl,by decide +kernel,by decide +kernel⟩
theorem MI:aH nm 40 ["question","below"] (ag (aa 35)) (aw (aa 35))=MG:=by kernel_rfl
noncomputable def MJ:B:=(.cons (.ret (.g 3)) .nil)
theorem MK:aB ["question","below"] ["question","below"] (ag (aa 40)):=⟨rfl,rfl,rfl,by decide +kernel,rfl,by decide +kernel,by decide +kernel⟩
theorem ML:aH nm 40 ["question","below"] (ag (aa 40)) (aw (aa 40))=MJ:=by kernel_rfl
theorem MM (O:Lw w):FO w 20 1 (dv λq _ d=>∃k,q=.none k/\d=kD (.ai k)):=by
 refine aL O.ok O.hn _ ⟨"none_kind",aa 34,["question","below"]⟩ (by rw[O.hd];rfl) {} { cs:=trivial } MB MC λds M Q _ h=>?_;obtain⟨q,ks,d,rfl,⟨k,rfl,rfl⟩,h⟩:=h;exact⟨rfl,_,rfl,l2,ak h⟩
theorem MN (O:Lw w):FO w 16 1 (dv λq _ d=>(∃i,q=.num i)/\d=kD .num\/(∃s,q=.word s)/\d=kD .word):=by
 refine aL O.ok O.hn _ ⟨"plain_kind",aa 30,["question","below"]⟩ (by rw[O.hd];rfl) {} { cs:=trivial } ME MF λds M Q _ h=>?_;obtain⟨q,ks,d,rfl,⟨⟨i,rfl⟩,rfl⟩ |⟨⟨i,rfl⟩,rfl⟩,h⟩:=h
 ·exact⟨rfl,_,rfl,l1,ak h⟩
 ·exact⟨rfl,_,rfl,l1,ak h⟩
theorem MP (O:Lw w):FO w 21 1 (dv λ_ ks d=>∃k,ks=[kD k]/\d=kD (.ai k)):=by
 refine aL O.ok O.hn _ ⟨"one_kind",aa 35,["question","below"]⟩ (by rw[O.hd];rfl) {} { cs:=trivial } MH MI λds M Q _ h=>?_;obtain⟨q,ks,d,rfl,⟨k,rfl,rfl⟩,h⟩:=h;exact⟨rfl,_,rfl,l2,ak h⟩
theorem MQ (O:Lw w):FO w 26 1 (dv λ_ _ d=>d=.tup [.str "truth"]):=by
 refine aL O.ok O.hn _ ⟨"truth_kind",aa 40,["question","below"]⟩ (by rw[O.hd];rfl) {} { cs:=trivial } MK ML λds M Q _ h=>?_;obtain⟨q,ks,d,rfl,rfl,h⟩:=h;refine⟨rfl,ak ?_⟩;show Q (w.gv.getD 3 .aj) M;rw[O.g3];exact h
noncomputable def MR:B:=(.cons (.ret (.ite (.cmp .Eq (.ix (.ix (.v 1) (.neg (.c (.int 1)))) (.c (.int 0))) (.c (.str "bag"))) (.ix (.v 1) (.neg (.c (.int 1)))) (.c .aj))) .nil)
theorem MS:aB ["question","below"] ["question","below"] (ag (aa 37)):=⟨rfl,rfl,rfl,by decide +kernel,rfl,by decide +kernel,by decide +kernel⟩
theorem MT:aH nm 40 ["question","below"] (ag (aa 37)) (aw (aa 37))=MR:=by kernel_rfl
noncomputable def MU:B:=(.cons (.ret (.ite (.cmp .Eq (.v 1) (.lst (.cons (.g 1) (.cons (.g 1) .nil)))) (.g 1) (.c .aj))) .nil)
theorem MV:aB ["question","below"] ["question","below"] (ag (aa 33)):=⟨rfl,rfl,rfl,by decide +kernel,rfl,by decide +kernel,by decide +kernel⟩
theorem MW:aH nm 40 ["question","below"] (ag (aa 33)) (aw (aa 33))=MU:=by kernel_rfl
noncomputable def MX:B:=(.cons (.ret (.ite (.cmp .Eq (.v 1) (.lst (.cons (.g 1) (.cons (.g 1) .nil)))) (.g 3) (.c .aj))) .nil)
theorem MY:aB ["question","below"] ["question","below"] (ag (aa 39)):=⟨rfl,rfl,rfl,by decide +kernel,rfl,by decide +kernel,by decide +kernel⟩
theorem MZ:aH nm 40 ["question","below"] (ag (aa 39)) (aw (aa 39))=MX:=by kernel_rfl
noncomputable def M4:B:=(.cons (.ret (.ite (.cmp .In (.v 1) (.tup (.cons (.lst (.cons (.g 1) (.cons (.g 1) .nil))) (.cons (.lst (.cons (.g 2) (.cons (.g 2) .nil))) .nil)))) (.g 3) (.c .aj))) .nil)
theorem M5:aB ["question","below"] ["question","below"] (ag (aa 38)):=⟨rfl,rfl,rfl,by decide +kernel,rfl,by decide +kernel,by decide +kernel⟩
theorem M6:aH nm 40 ["question","below"] (ag (aa 38)) (aw (aa 38))=M4:=by kernel_rfl
noncomputable def M7:B:=.cons (.ret (.v 3)) .nil
noncomputable def M8:B:=.cons (.put (.v 3) (.v 1) (.v 2)) M7
noncomputable def M9:B:=.cons (.set (.one 3) (.bi .dict (.cons (.v 0) .nil))) M8
theorem Na:aB ["names","name","meaning","more"] ["names","name","meaning"] (ag (aa 15)):=⟨rfl,rfl,rfl,by decide +kernel,rfl,by decide +kernel,by decide +kernel⟩
theorem Nb:aH nm 40 ["names","name","meaning","more"] (ag (aa 15)) (aw (aa 15))=M9:=by kernel_rfl
noncomputable def Nc:B:=(.cons (.ret (.lc 2 [] (.many [0,1]) (.seq (.ix (.v 0) (.c (.int 1)))) .ar (.v 0))) .nil)
theorem Nd:aB ["row"] ["row"] (ag (aa 17)):=⟨rfl,rfl,rfl,by decide +kernel,rfl,by decide +kernel,by decide +kernel⟩
theorem Nf:aH nm 40 ["row"] (ag (aa 17)) (aw (aa 17))=Nc:=by kernel_rfl
noncomputable def Ng:B:=(.cons (.ret (.tup (.cons (.c (.str "row")) (.cons (.bi .tuple (.cons (.lc 2 [] (.many [0,1]) (.zip (.ix (.v 0) (.c (.int 1))) (.v 1)) .ar (.tup (.cons (.ix (.v 0) (.c (.int 0))) (.cons (.v 1) .nil)))) .nil)) .nil)))) .nil)
theorem Nh:aB ["question","below"] ["question","below"] (ag (aa 31)):=⟨rfl,rfl,rfl,by decide +kernel,rfl,by decide +kernel,by decide +kernel⟩
theorem Ni:aH nm 40 ["question","below"] (ag (aa 31)) (aw (aa 31))=Ng:=by kernel_rfl
noncomputable def Nj:B:=(.cons (.cond (.cmp .NotEq (.ix (.ix (.v 1) (.c (.int 0))) (.c (.int 0))) (.c (.str "row"))) (.cons (.ret (.c .aj)) .nil) .nil) (.cons (.ret (.mt .get (.bi .dict (.cons (.ix (.ix (.v 1) (.c (.int 0))) (.c (.int 1))) .nil)) (.cons (.ix (.v 0) (.c (.int 1))) .nil))) .nil))
theorem Nk:aB ["question","below"] ["question","below"] (ag (aa 32)):=⟨rfl,rfl,rfl,by decide +kernel,rfl,by decide +kernel,by decide +kernel⟩
theorem Nn:aH nm 40 ["question","below"] (ag (aa 32)) (aw (aa 32))=Nj:=by kernel_rfl
theorem AD (O:Lw w):FO w 23 1 (dv λ_ ks d=>∃pre k,ks=pre++[kD (.ai k)]/\d=kD (.ai k)):=by
 refine aL O.ok O.hn _ ⟨"last_bag_kind",aa 37,["question","below"]⟩ (by rw[O.hd];rfl) {} { cs:=trivial } MS MT λds M Q _ h=>?_;obtain⟨q,ks,d,rfl,⟨pre,k,rfl,rfl⟩,h⟩:=h;exact⟨rfl,_,zG,_,rfl,au (aY (by decide) ⟨_,zG,ak h⟩)⟩
theorem AE {n:Bool}{a b:Kd}{M:Mp}{k:Bool->Prop} (ha:kd a<=50) (hb:kd b<=50) (q:k true):dI n (.lst [kD a,kD b]) (.lst [kD a,kD b]) M k:=by
 have h1:=fJ a;have h2:=fJ b;have ok:ax (.lst [kD a,kD b])=true:=by rw[ax,aJ,aJ,aJ,d4,d4];rfl
 refine .mk (.inl ⟨ok,ok,?_⟩) ?_
 ·show aM (.lst [kD a,kD b])<=100;rw[aM,aR,aR,aR];lia
 ·show k (aD (.lst [kD a,kD b]) (.lst [kD a,kD b]));rw[gg _ ok];exact q
theorem Np (O:Lw w):FO w 19 1 (dv λ_ ks d=>ks=[kD .num,kD .num]/\d=kD .num):=by
 refine aL O.ok O.hn _ ⟨"number_kind",aa 33,["question","below"]⟩ (by rw[O.hd];rfl) {} { cs:=trivial } MV MW λds M Q _ h=>?_;obtain⟨q,ks,d,rfl,⟨rfl,rfl⟩,h⟩:=h;refine⟨rfl,l2,.inl ?_⟩;show dI false (.lst [kD .num,kD .num]) (.lst [w.gv.getD 1 .aj,w.gv.getD 1 .aj]) M _;rw[O.g1];refine AE (by decide) (by decide) (aY rfl (ak ?_));show Q (w.gv.getD 1 .aj) M;rw[O.g1];exact h
theorem Nq (O:Lw w):FO w 25 1 (dv λ_ ks d=>ks=[kD .num,kD .num]/\d=.tup [.str "truth"]):=by
 refine aL O.ok O.hn _ ⟨"under_kind",aa 39,["question","below"]⟩ (by rw[O.hd];rfl) {} { cs:=trivial } MY MZ λds M Q _ h=>?_;obtain⟨q,ks,d,rfl,⟨rfl,rfl⟩,h⟩:=h;refine⟨rfl,l2,.inl ?_⟩;show dI false (.lst [kD .num,kD .num]) (.lst [w.gv.getD 1 .aj,w.gv.getD 1 .aj]) M _;rw[O.g1];refine AE (by decide) (by decide) (aY rfl (ak ?_));show Q (w.gv.getD 3 .aj) M;rw[O.g3];exact h
theorem Nu (O:Lw w):FO w 24 1 (dv λ_ ks d=>(ks=[kD .num,kD .num]\/ks=[kD .word,kD .word])/\d=.tup [.str "truth"]):=by
 refine aL O.ok O.hn _ ⟨"same_kind",aa 38,["question","below"]⟩ (by rw[O.hd];rfl) {} { cs:=trivial } M5 M6 λds M Q _ h=>?_;obtain⟨q,ks,d,rfl,⟨hk,rfl⟩,h⟩:=h;have key:dJ (.lst ks) (.tup [.lst [kD .num,kD .num],.lst [kD .word,kD .word]]) M λb=>if b=true then a6 Q (w.gv.getD 3 .aj) M else a6 Q .aj M:=by
  refine⟨⟨?_,by decide +kernel,by decide +kernel,?_⟩⟩
  ·rcases hk with rfl |rfl <;> decide +kernel
  ·have e:cC (.lst ks) [.lst [kD .num,kD .num],.lst [kD .word,kD .word]]=true:=(by rcases hk with rfl |rfl <;> decide +kernel);rw[e];refine aY rfl (ak ?_);rw[O.g3];exact h
 refine⟨rfl,l2,.inl ⟨l2,.inl ⟨l2,?_⟩⟩⟩;show dJ (.lst ks) (.tup [.lst [w.gv.getD 1 .aj,w.gv.getD 1 .aj],.lst [w.gv.getD 2 .aj,w.gv.getD 2 .aj]]) M _;rw[O.g1,O.g2];exact key
def AF:Sp:=λds M Q _=>∃kvs x d,ds=[dD kvs,.str x,d]/\kvs.length<1000/\Q (dD (bq kvs (.inr x) d)) M
theorem Nw (O:Lw w):FO w 7 1 AF:=by
 refine aL O.ok O.hn _ ⟨"bound",aa 15,["names","name","meaning"]⟩ (by rw[O.hd];rfl) {} { cs:=trivial } Na Nb λds M Q _ h=>?_;obtain⟨kvs,x,d,rfl,hl,h⟩:=h;refine⟨rfl,.inl (.inr λp hp=>.inr ⟨_,av,?_,?_⟩)⟩
 ·rw[ff];exact Ys hl (by decide)
 ·rw[N.cF,ff];exact JI hp h
def AG:Sp:=λds M Q _=>∃fs,ds=[kD (.row fs)]/\fs.length<1000/\Q (.lst (fs.map λp=>.str p.1)) M
theorem Nx (O:Lw w):FO w 8 1 AG:=by
 refine aL O.ok O.hn _ ⟨"fields_of",aa 17,["row"]⟩ (by rw[O.hd];rfl) {} { cs:=trivial } Nd Nf λds M Q _ h=>?_;obtain⟨fs,rfl,hl,h⟩:=h;refine⟨rfl,_,rfl,?_⟩;show c7 (λ_=>True) (.many [0,1]) gO _ _ _ (bj fs) [] M;rw[hE];refine iY (λp:Str×Kd=>.tup [.str p.1,kD p.2]) (λp=>.str p.1) fs ?_ (Ys hl (by decide)) (λp _ N hN=>?_) ?_
 ·exact trivial
 ·exact⟨rfl,hN⟩
 ·exact .inl (ak h)
theorem o8 {α β:Type} (f:α->D) (g:β->D):∀(as:List α) (bs:List β),List.zipWith (λx y=>D.tup [x,y]) (as.map f) (bs.map g)=(as.zip bs).map λp=>.tup [f p.1,g p.2]
 |[],_=>by simp
 |_::_,[]=>by simp
 |a::as,b::bs=>by rw[XJ,XJ,List.zipWith_cons_cons,o8 f g as bs,YN,XJ]
theorem Ny (fs:List (Str×Qn)):∀ κs:List Kd,(fs.zip κs).map (λp=>(p.1.1,p.2))=(fs.map (·.1)).zip κs:=fun κs=>by
 rw[List.zip_map_left];rfl
theorem Nz (O:Lw w):FO w 17 1 (dv λq ks d=>∃fs κs,q=.row fs/\ks=κs.map kD/\κs.length=fs.length/\fs.length<100/\d=kD (.row ((fs.map (·.1)).zip κs))):=by
 refine aL O.ok O.hn _ ⟨"row_kind",aa 31,["question","below"]⟩ (by rw[O.hd];rfl) {} { cs:=trivial } Nh Ni λds M Q _ h=>?_;obtain⟨q,ks,d,rfl,⟨fs,κs,rfl,rfl,hl,hf,rfl⟩,h⟩:=h;refine⟨rfl,_,rfl,?_⟩;show c7 (λM=>True/\True) (.many [0,1]) gO _ _ _ (List.zipWith (λx y=>D.tup [x,y]) (a9 fs) (κs.map kD)) [] M;rw[mi,o8];refine iY (λp:(Str×Qn)×Kd=>.tup [.tup [.str p.1.1,qD p.1.2],kD p.2]) (λp=>.tup [.str p.1.1,kD p.2]) (fs.zip κs) ?_ (Ys (by rw[Zp];lia:_<100) (by decide)) (λp _ N hN=>?_) ?_
 ·exact⟨trivial,trivial⟩
 ·exact⟨rfl,_,rfl,l2,hN⟩
 ·refine .inl ⟨l2,ak ?_⟩;rw[kD,hE,<- Ny,YI]at h;exact h
theorem AH:∀{fs pre:Sc},((pre++fs).map (·.1)).Nodup->(aP fs).foldl (λal kv=>bq al kv.1 kv.2) (aP pre)=aP (pre++fs)
 |[],pre,_=>by rw[XX];rfl
 |(x,k)::r,pre,nd=>by
  have nx:x ∉ pre.map (·.1):=by
   rw[XZ,XJ]at nd;exact λz=>(List.nodup_append.mp nd).2.2 x z x XH rfl
  show (aP r).foldl _ (bq (aP pre) (.inr x) (kD k))=_;rw[zw nx,AH (by simpa using nd)];simp
theorem pd {fs:Sc} (nd:(fs.map (·.1)).Nodup):cO (aP fs)=aP fs:=AH (pre:=[]) nd
theorem AI (fs:Sc):bj fs=(aP fs).map ek:=by unfold aP;rw[hE,YI];rfl
theorem NA (O:Lw w):FO w 18 1 (dv λq ks d=>∃f q' fs κ,q=.at f q'/\ks=[kD (.row fs)]/\(fs.map (·.1)).Nodup/\lk f fs=some κ/\d=kD κ):=by
 refine aL O.ok O.hn _ ⟨"part_kind",aa 32,["question","below"]⟩ (by rw[O.hd];rfl) {} { cs:=trivial } Nk Nn λds M Q _ h=>?_;obtain⟨q,ks,d,rfl,⟨f,q',fs,κ,rfl,rfl,nd,hk,rfl⟩,h⟩:=h;refine⟨rfl,_,rfl,_,rfl,au (ay (by decide) ⟨_,rfl,_,rfl,.inr ⟨aP fs,AI fs,.inl ?_⟩⟩)⟩;refine⟨rfl,_,rfl,ak ?_⟩;rw[pd nd,ff,fe,hk];exact h
variable {w:Wo}
theorem FO.cq {i k:Nat}{sp:Sp}{d:Ds} (h:FO w i k sp) (hd:w.ds[i]?=some d):cP w.G k (bc w d.x) sp:=by
 obtain⟨d',f,fd,h1,D,F⟩:=h;rw[hd]at h1;cases h1;have e:bc w d.x=f:=by unfold bc;rw[D.mg]
 rw[e];exact⟨fd,d.ps,w.G.K,F,D.kp,D.b,λz m b o=>m.fv.keeps λa ob q=>o.fz a _ (b.b a ob q)⟩
noncomputable def wd:Qn->Str
 |.num _=>"num" |.word _=>"word" |.var _=>"var" |.tab _=>"table" |.none _=>"none" |.row _=>"row" |.at _ _=>"at"
 |.add _ _=>"add" |.mul _ _=>"mul" |.one _=>"one" |.both _ _=>"both" |.times _ _=>"times" |.for _ _ _=>"for"
 |.aU _ _=>"when" |.let _ _ _=>"let" |.same _ _=>"same" |.under _ _=>"under" |.and _ _=>"and" |.or _ _=>"or" |.not _=>"not"
theorem cG (q:Qn):∃r,qD q=.tup (.str (wd q)::r):=by cases q <;> exact⟨_,rfl⟩
noncomputable def fN:List (Str×(Qn->List D->D->Prop)):=[
 ("plain_kind",λq _ d=>(∃i,q=.num i)/\d=kD .num\/(∃s,q=.word s)/\d=kD .word),
 ("row_kind",λq ks d=>∃fs κs,q=.row fs/\ks=κs.map kD/\κs.length=fs.length/\fs.length<100/\d=kD (.row ((fs.map (·.1)).zip κs))),
 ("part_kind",λq ks d=>∃f q' fs κ,q=.at f q'/\ks=[kD (.row fs)]/\(fs.map (·.1)).Nodup/\lk f fs=some κ/\d=kD κ),
 ("number_kind",λ_ ks d=>ks=[kD .num,kD .num]/\d=kD .num),
 ("none_kind",λq _ d=>∃k,q=.none k/\d=kD (.ai k)),
 ("one_kind",λ_ ks d=>∃k,ks=[kD k]/\d=kD (.ai k)),
 ("both_kind",λ_ ks d=>∃k,kz k<900/\ks=[kD (.ai k),kD (.ai k)]/\d=kD (.ai k)),
 ("last_bag_kind",λ_ ks d=>∃pre k,ks=pre++[kD (.ai k)]/\d=kD (.ai k)),
 ("same_kind",λ_ ks d=>(ks=[kD .num,kD .num]\/ks=[kD .word,kD .word])/\d=.tup [.str "truth"]),
 ("under_kind",λ_ ks d=>ks=[kD .num,kD .num]/\d=.tup [.str "truth"]),
 ("truth_kind",λ_ _ d=>d=.tup [.str "truth"])]
def AJ (w:Wo) (f:Addr) (sp:Sp):Prop:=∃p∈fN,f=bc w p.1/\sp=dv p.2
def ml (q:Qn) (ks:List D) (d:D):Prop:=(∃ds,d=.tup ds)/\∃p∈fN,(wd q,p.1)∈bG/\p.2 q ks d
theorem tR {s g:Str}:∀{t:List (Str×Str)},(t.map (·.1)).Nodup->(s,g)∈t->aT ((t.map λp=>(YO p.1:Key)).zip (t.map λp=>D.ref (bc w p.2))) (.inr s)=some (.ref (bc w g))
 |(x,y)::r,nd,h=>by
  rw[XJ,ZA]at nd;rw[XJ,XJ,YN];unfold aT;rw[Zr];rcases List.mem_cons.mp h with e |h
  ·cases e;simp
  ·have:¬x=s:=λe=>nd.1 (e ▸ List.mem_map.mpr ⟨_,h,rfl⟩);have e':¬(YO x:Key)=YO s:=λz=>this (ZP z);simp only[e',decide_false];exact tR nd.2 h
theorem AL:(bG.map (·.1)).Nodup:=by decide +kernel
def AM (w:Wo):Sp:=λds M Q _=>∃M0 x a b ws q r fs ks d,ds=[.ref x,qD q,r]/\M=Wm M0 a b ws (fs++ks)/\Wc (w.ca 0) M0 x a b/\ks.length=(if wd q="for" then 1 else (us q).length)/\(us q).length<100/\fs.length<1000000/\ml q ks d/\Q .aj (Wm M0 a b ws (fs++[d]))
noncomputable def NB:B:=.cons (.ex (.a4 2 (.v 0) (.cons (.v 5) .nil))) .nil
noncomputable def AN:B:=.cons (.cond (.cmp .Is (.v 5) (.c .aj)) (.cons .dead .nil) .nil) NB
noncomputable def AO:B:=.cons (.set (.one 5) (.app (.ix (.g 4) (.v 3)) (.cons (.v 1) (.cons (.a4 3 (.v 0) (.cons (.v 4) .nil)) .nil)))) AN
noncomputable def NC:B:=.cons (.set (.one 4) (.ite (.cmp .Eq (.v 3) (.c (.str "for"))) (.c (.int 1)) (.bi .len (.cons (.call 0 (.cons (.v 1) .nil)) .nil)))) AO
noncomputable def ND:B:=.cons (.set (.one 3) (.ix (.v 1) (.c (.int 0)))) NC
theorem NF:aB ["walk","question","around","word","many","kind"] ["walk","question","around"] (ag (aa 29)):=⟨rfl,rfl,rfl,by decide +kernel,rfl,by decide +kernel,by decide +kernel⟩
theorem NG:aH nm 40 ["walk","question","around","word","many","kind"] (ag (aa 29)) (aw (aa 29))=ND:=by kernel_rfl
noncomputable abbrev UX (w:Wo):a0 w:={ cs:=[(0,kb)],ms:=[(2,eC w),(3,i' w)],ca:=AJ w }
theorem NI (O:Lw w) (hF:∀p∈fN,cP w.G 5 (bc w p.1) (dv p.2)):FO w 15 6 (AM w):=by
 refine aL O.ok O.hn _ ⟨"finish",aa 29,["walk","question","around"]⟩ (by rw[O.hd];rfl) (UX w) { cs:=⟨⟨1,by decide,mj O⟩,trivial⟩,ms:=⟨⟨1,by decide,i9 O⟩,⟨1,by decide,kc O⟩,trivial⟩,ca:=?_ } NF NG λds M Q _ h=>?_
 ·rintro f sp ⟨p,hp,rfl,rfl⟩;exact hF p hp
 obtain⟨M0,x,a,b,ws,q,r,fs,ks,d,rfl,rfl,W,hl,hu,em,⟨⟨dd,No⟩,p,hp,ht,hd⟩,h⟩:=h;obtain⟨rr,e⟩:=cG q;obtain⟨dx,hx⟩:=W.gx (ws:=ws) (fs:=fs++ks);obtain⟨AC,cW⟩:=W.gx (ws:=ws) (fs:=fs);have hlk:ks.length<100:=by rw[hl];split <;> lia
 refine⟨rfl,?_⟩;rw[e];refine⟨_,c9,?_⟩;have go:∀n:Int,(ks.length:Int)=n->B.w (UX w).wd nm.af AO (aS Q) [some (.ref x),some (.tup (.str (wd q)::rr)),some r,some (.str (wd q)),some (.int n),none] (Wm M0 a b ws (fs++ks)):=by
  intro n hn;show aG (w.gv.getD 4 .aj) (.str (wd q)) (Wm M0 a b ws (fs++ks)) λx1 M1=>ry x1 λf=>∃sp,AJ w f sp/\L.w (UX w).wd nm.af (.cons (.v 1) (.cons (.a4 3 (.v 0) (.cons (.v 4) .nil)) .nil)) [some (.ref x),some (.tup (.str (wd q)::rr)),some r,some (.str (wd q)),some (.int n),none] M1 λds M2=>sp ds M2 (λd M3=>cm (.one 5) d [some (.ref x),some (.tup (.str (wd q)::rr)),some r,some (.str (wd q)),some (.int n),none] M3 (B.w (UX w).wd nm.af AN (aS Q))) X0;rw[O.gt];refine⟨_,tR AL ht,?_⟩;refine⟨_,⟨p,hp,rfl,rfl⟩,_,dx,_,hx,(O.mc _ (by decide)).symm,bD (by decide +kernel) (by decide +kernel),x,a,b,dx,n,fs,ks,rfl,hx,Wm.gb,hn,by lia,?_⟩;rw[Wm.pb];refine⟨q,ks,d,by rw[e],hd,?_⟩;subst No;refine⟨_,AC,_,cW,(O.mc _ (by decide)).symm,bD (by decide +kernel) (by decide +kernel),x,a,b,AC,_,fs,rfl,cW,Wm.gb,Ys em (by decide),?_⟩;rw[Wm.pb];exact ak h
 refine au (aV (λz=>go 1 ?_) λz=>?_)
 ·have z:=of_decide_eq_true z;rw[hl,if_pos z];rfl
 ·refine⟨q,by rw[e];rfl,hu,go _ ?_⟩;have z:¬wd q="for":=λy=>z (decide_eq_true y);rw[hl,if_neg z,Xx]
noncomputable def NJ:B:=(.cons (.cond (.cmp .NotIn (.v 1) (.v 0)) (.cons .dead .nil) .nil) (.cons (.ret (.ix (.v 0) (.v 1))) .nil))
theorem NK:aB ["kinds","name","path"] ["kinds","name","path"] (ag (aa 27)):=⟨rfl,rfl,rfl,by decide +kernel,rfl,by decide +kernel,by decide +kernel⟩
theorem NL:aH nm 40 ["kinds","name","path"] (ag (aa 27)) (aw (aa 27))=NJ:=by kernel_rfl
def AP:Sp:=λds M Q _=>∃kvs x p d,ds=[dD kvs,.str x,p]/\aT kvs (.inr x)=some d/\Q d M
theorem NM (O:Lw w):FO w 13 1 AP:=by
 refine aL O.ok O.hn _ ⟨"found_kind",aa 27,["kinds","name","path"]⟩ (by rw[O.hd];rfl) {} { cs:=trivial } NK NL λds M Q _ h=>?_;obtain⟨kvs,x,p,d,rfl,hv,h⟩:=h;refine⟨rfl,ma ?_⟩;rw[hv];exact l9 hv (ak h)
noncomputable def bf (w:Wo) (i:Nat) (q:Qn) (r:D):D:=.tup [w.gv.getD i .aj,qD q,r]
noncomputable def a' (K S:List (Key×D)) (ps:List D):D:=.tup [dD K,dD S,.tup ps]
noncomputable def AQ:B:=.cons (.ex (.a4 1 (.v 0) (.cons (.g 18) (.cons (.ix (.v 1) (.c (.int 3))) (.cons (.tup (.cons (.call 7 (.cons (.v 3) (.cons (.ix (.v 1) (.c (.int 1))) (.cons (.v 6) .nil)))) (.cons (.v 4) (.cons (.op .Add (.v 5) (.tup (.cons (.c (.int 1)) .nil))) .nil)))) .nil))))) .nil
noncomputable def NN:B:=.cons (.cond (.cmp .Eq (.ix (.v 1) (.c (.int 0))) (.c (.str "for"))) (.cons (.cond (.cmp .NotEq (.ix (.v 6) (.c (.int 0))) (.c (.str "bag"))) (.cons .dead .nil) .nil) (.cons (.set (.one 6) (.ix (.v 6) (.c (.int 1)))) (.cons (.ex (.a4 1 (.v 0) (.cons (.g 21) (.cons (.v 1) (.cons (.v 2) .nil))))) .nil))) .nil) AQ
noncomputable def NO:B:=.cons (.set (.one 6) (.ix (.a4 3 (.v 0) (.cons (.c (.int 1)) .nil)) (.c (.int 0)))) NN
noncomputable def NP:B:=.cons (.set (.many [3,4,5]) (.v 2)) NO
theorem NR:aB ["walk","question","around","kinds","stock","path","kind"] ["walk","question","around"] (ag (aa 28)):=⟨rfl,rfl,rfl,by decide +kernel,rfl,by decide +kernel,by decide +kernel⟩
theorem NS:aH nm 40 ["walk","question","around","kinds","stock","path","kind"] (ag (aa 28)) (aw (aa 28))=NP:=by kernel_rfl
def AR (w:Wo):Sp:=λds M Q _=>∃ M0 x a b ws fs K S ps q y qa qb k,ds=[.ref x,qD q,a' K S ps]/\ps.length<1000000/\ws.length<1000000/\K.length<1000/\Wc (w.ca 0) M0 x a b /\
  ((q=.for y qa qb/\M=Wm M0 a b ws (fs++[kD (.ai k)])/\Q .aj (Wm M0 a b (ws++[bf w 21 q (a' K S ps),bf w 18 qb (a' (bq K (.inr y) (kD k)) S (ps++[.int 1]))]) fs)) \/
   (q=.let y qa qb/\M=Wm M0 a b ws (fs++[kD k])/\Q .aj (Wm M0 a b (ws++[bf w 18 qb (a' (bq K (.inr y) (kD k)) S (ps++[.int 1]))]) fs)))
noncomputable abbrev Uy (w:Wo):a0 w:={ cs:=[(7,AF)],ms:=[(1,fM w),(3,i' w)] }
theorem NT (O:Lw w):FO w 14 2 (AR w):=by
 refine aL O.ok O.hn _ ⟨"bind",aa 28,["walk","question","around"]⟩ (by rw[O.hd];rfl) (Uy w) { cs:=⟨⟨1,by decide,Nw O⟩,trivial⟩,ms:=⟨⟨1,by decide,i8 O⟩,⟨1,by decide,kc O⟩,trivial⟩ } NR NS λds M Q _ h=>?_;obtain⟨M0,x,a,b,ws,fs,K,S,ps,q,y,qa,qb,k,rfl,hp,hw,gl,W,h⟩:=h;have m4:w.ca 0=w.mc 3:=(O.mc _ (by decide)).symm;have m2:w.ca 0=w.mc 1:=(O.mc _ (by decide)).symm;have tail:∀ (d:D) (cU:List D),cU.length<1000001->Q .aj (Wm M0 a b (cU++[bf w 18 qb (a' (bq K (.inr y) d) S (ps++[.int 1]))]) fs)->∀ z z2 q', q'=.tup [z,.str y,z2,qD qb] ->
   B.w (Uy w).wd nm.af AQ (aS Q) [some (.ref x),some q',some (a' K S ps),some (dD K),some (dD S),some (.tup ps),some d] (Wm M0 a b cU fs):=by
  rintro d cU NE h z z2 q' rfl;obtain⟨dx,hx⟩:=W.gx (ws:=cU) (fs:=fs);refine⟨_,dx,_,hx,m2,bD (by decide +kernel) (by decide +kernel),_,rfl,_,rfl,K,y,d,rfl,gl,l1,XG (by simp;lia:_<=1000001) (by decide),l3,?_⟩;refine⟨x,a,b,dx,_,_,_,cU,rfl,hx,W.ga,XW NE (by decide),?_⟩;rw[W.pa];exact ak h
 rcases h with ⟨rfl,rfl,h⟩ |⟨rfl,rfl,h⟩
 ·obtain⟨dx,hx⟩:=W.gx (ws:=ws) (fs:=fs++[kD (.ai k)]);obtain⟨dy,hy⟩:=W.gx (ws:=ws) (fs:=fs);refine⟨rfl,rfl,_,dx,_,hx,m4,bD (by decide +kernel) (by decide +kernel),x,a,b,dx,1,fs,[kD (.ai k)],rfl,hx,Wm.gb,rfl,by decide,?_⟩;rw[Wm.pb];refine⟨_,rfl,_,rfl,au (aY (by decide) ⟨_,rfl,au (ay (by decide) ⟨_,rfl,?_⟩)⟩)⟩;refine⟨_,dy,_,hy,m2,bD (by decide +kernel) (by decide +kernel),x,a,b,dy,_,_,_,ws,rfl,hy,W.ga,XW hw (by decide),?_⟩;rw[W.pa];refine tail (kD k) _ (by simp;lia) ?_ _ _ _ rfl;rw[Ye];exact h
 ·obtain⟨dx,hx⟩:=W.gx (ws:=ws) (fs:=fs++[kD k]);refine⟨rfl,rfl,_,dx,_,hx,m4,bD (by decide +kernel) (by decide +kernel),x,a,b,dx,1,fs,[kD k],rfl,hx,Wm.gb,rfl,by decide,?_⟩;rw[Wm.pb];refine⟨_,rfl,_,rfl,au (ay (by decide) ?_)⟩;exact tail (kD k) ws (by lia) h _ _ _ rfl
variable {w:Wo}
noncomputable def dw (w:Wo) (K S:List (Key×D)) (ps:List D):Nat->List Qn->List D
 |_,[]=>[]
 |i,q::r=>bf w 18 q (a' K S (ps++[.int i]))::dw w K S ps (i+1) r
theorem tS {K S:List (Key×D)}{ps:List D}:∀{r:List Qn}{i:Nat},(dw w K S ps i r).length=r.length
 |[],_=>by rw[dw];rfl
 |q::r,i=>by rw[dw,XI,XI,tS]
structure Pl (q:Qn):Prop where
 v:∀y,q≠.var y
 t:∀y,q≠.tab y
 f:wd q≠"for"
 l:wd q≠"let"
def AS (w:Wo):Sp:=λds M Q _=>∃ M0 x a b ws fs K S ps q,ds=[.ref x,qD q,a' K S ps]/\M=Wm M0 a b ws fs/\Wc (w.ca 0) M0 x a b/\ps.length<1000000/\ws.length<1000000/\fs.length<1000000/\(us q).length<100 /\
  ((∃y d,q=.var y/\aT K (.inr y)=some d/\Q .aj (Wm M0 a b ws (fs++[d]))) \/
   (∃y d,q=.tab y/\aT S (.inr y)=some d/\Q .aj (Wm M0 a b ws (fs++[.tup [.str "bag",d]]))) \/
   (∃y qa qb,(q=.for y qa qb\/q=.let y qa qb)/\Q .aj (Wm M0 a b (ws++[bf w 20 q (a' K S ps),bf w 18 qa (a' K S (ps++[.int 0]))]) fs)) \/
   (Pl q/\Q .aj (Wm M0 a b (ws++[bf w 21 q (a' K S ps)]++(dw w K S ps 0 (us q)).reverse) fs)))
theorem NU {q:Qn} (h:∀y,q≠.var y):wd q≠"var":=by cases q <;> first |exact absurd rfl (h _) |(rw[wd];decide)
theorem tT {q:Qn} (h:∀y,q≠.tab y):wd q≠"table":=by cases q <;> first |exact absurd rfl (h _) |(rw[wd];decide)
theorem NV {q:Qn} (h1:wd q≠"for") (h2:wd q≠"let"):cC (.str (wd q)) [D.str "for",D.str "let"]=false:=by
 cases q <;> first |exact absurd rfl h1 |exact absurd rfl h2 |(rw[wd];decide +kernel)
theorem dz {z y:Str}{p r:Prop} (n:z≠y) (h:r):if decide (z=y)=true then p else r:=by
 rw[if_neg];exact h;exact λe=>n (of_decide_eq_true e)
theorem AU {s:Str}{M:Mp}{k:Bool->Prop}{b:Bool} (hb:cC (.str s) [D.str "for",D.str "let"]=b) (q:k b):dJ (.str s) (.tup [.str "for",.str "let"]) M k:=by
 refine⟨⟨rfl,rfl,by decide +kernel,?_⟩⟩;rw[hb];exact q
theorem AV {ds:List D}{d:D}:gK (ds++[d])=gK ds++[.tup [.int ds.length,d]]:=by
 unfold gK;rw[List.mapIdx_append];simp
noncomputable def tU:B:=(.cons (.set (.many [3,4,5]) (.v 2)) (.cons (.cond (.cmp .Eq (.ix (.v 1) (.c (.int 0))) (.c (.str "var"))) (.cons (.ex (.a4 2 (.v 0) (.cons (.call 13 (.cons (.v 3) (.cons (.ix (.v 1) (.c (.int 1))) (.cons (.v 5) .nil)))) .nil))) .nil) (.cons (.cond (.cmp .Eq (.ix (.v 1) (.c (.int 0))) (.c (.str "table"))) (.cons (.ex (.a4 2 (.v 0) (.cons (.tup (.cons (.c (.str "bag")) (.cons (.call 13 (.cons (.v 4) (.cons (.ix (.v 1) (.c (.int 1))) (.cons (.v 5) .nil)))) .nil))) .nil))) .nil) (.cons (.cond (.cmp .In (.ix (.v 1) (.c (.int 0))) (.tup (.cons (.c (.str "for")) (.cons (.c (.str "let")) .nil)))) (.cons (.ex (.a4 1 (.v 0) (.cons (.g 20) (.cons (.v 1) (.cons (.v 2) .nil))))) (.cons (.ex (.a4 1 (.v 0) (.cons (.g 18) (.cons (.ix (.v 1) (.c (.int 2))) (.cons (.tup (.cons (.v 3) (.cons (.v 4) (.cons (.op .Add (.v 5) (.tup (.cons (.c (.int 0)) .nil))) .nil)))) .nil))))) .nil)) (.cons (.ex (.a4 1 (.v 0) (.cons (.g 21) (.cons (.v 1) (.cons (.v 2) .nil))))) (.cons (.loop (.many [6,7]) (.oi (.rZ (.call 0 (.cons (.v 1) .nil)))) (.cons (.ex (.a4 1 (.v 0) (.cons (.g 18) (.cons (.v 7) (.cons (.tup (.cons (.v 3) (.cons (.v 4) (.cons (.op .Add (.v 5) (.tup (.cons (.v 6) .nil))) .nil)))) .nil))))) .nil)) .nil))) .nil)) .nil)) .nil))
theorem NW:aB ["walk","question","around","kinds","stock","path","place","part"] ["walk","question","around"] (ag (aa 25)):=⟨rfl,rfl,rfl,by decide +kernel,rfl,by decide +kernel,by decide +kernel⟩
theorem NX:aH nm 40 ["walk","question","around","kinds","stock","path","place","part"] (ag (aa 25)) (aw (aa 25))=tU:=by kernel_rfl
noncomputable abbrev Vh (w:Wo):a0 w:={ cs:=[(0,kb),(13,AP)],ms:=[(1,fM w),(2,eC w)] }
theorem NY (O:Lw w):FO w 12 2 (AS w):=by
  refine aL O.ok O.hn _ ⟨"begin_kinds",aa 25,["walk","question","around"]⟩ (by rw[O.hd];rfl) (Vh w) { cs:=⟨⟨1,by decide,mj O⟩,⟨1,by decide,NM O⟩,trivial⟩,ms:=⟨⟨1,by decide,i8 O⟩,⟨1,by decide,i9 O⟩,trivial⟩ } NW NX λds M Q _ h=>?_;obtain⟨M0,x,a,b,ws,fs,K,S,ps,q,rfl,rfl,W,jQ,ke,em,hu,h⟩:=h;have m3:w.ca 0=w.mc 2:=(O.mc _ (by decide)).symm;have m2:w.ca 0=w.mc 1:=(O.mc _ (by decide)).symm;obtain⟨dx,hx⟩:=W.gx (ws:=ws) (fs:=fs);rcases h with ⟨y,d,rfl,hv,h⟩ |⟨y,d,rfl,hv,h⟩ |⟨y,qa,qb,hq,h⟩ |⟨pl,h⟩
  · refine⟨rfl,rfl,_,rfl,au (aY (by decide) ⟨_,dx,_,hx,m3,bD (by decide +kernel) (by decide +kernel),_,rfl,K,y,_,d,rfl,hv,x,a,b,dx,d,fs,rfl,hx,Wm.gb,Ys em (by decide),?_⟩)⟩;rw[Wm.pb];exact ak h
  · refine⟨rfl,rfl,_,rfl,au (ay (by decide) ⟨_,rfl,au (aY (by decide) ⟨_,dx,_,hx,m3,bD (by decide +kernel) (by decide +kernel),_,rfl,S,y,_,d,rfl,hv,l2,x,a,b,dx,_,fs,rfl,hx,Wm.gb,Ys em (by decide),?_⟩)⟩)⟩;rw[Wm.pb];exact ak h
  · have go : ∀ z, z = .tup [.str (wd q), .str y, qD qa, qD qb] → (wd q = "for" ∨ wd q = "let") → Q .aj (Wm M0 a b (ws ++ [.tup [w.gv.getD 20 .aj, z, a' K S ps], bf w 18 qa (a' K S (ps ++ [.int 0]))]) fs) →
        ([D.ref x,z,a' K S ps]).length=3/\B.w (Vh w).wd nm.af tU (aS Q) [some (.ref x),some z,some (a' K S ps),none,none,none,none,none] (Wm M0 a b ws fs):=by
      rintro z rfl hz h;have nv:wd q≠"var":=(by rcases hz with e |e <;> rw[e] <;> decide);have nt:wd q≠"table":=(by rcases hz with e |e <;> rw[e] <;> decide);have WO:cC (.str (wd q)) [D.str "for",D.str "let"]=true:=(by rcases hz with e |e <;> rw[e] <;> decide +kernel);refine⟨rfl,rfl,_,rfl,au (dz nv ⟨_,rfl,au (dz nt ⟨_,rfl,l2,AU WO (aY rfl ?_)⟩)⟩)⟩;refine⟨_,dx,_,hx,m2,bD (by decide +kernel) (by decide +kernel),x,a,b,dx,_,_,_,ws,rfl,hx,W.ga,Ys ke (by decide),?_⟩;rw[W.pa];obtain⟨dy,hy⟩:=W.gx (ws:=ws++[.tup [w.gv.getD 20 .aj,.tup [.str (wd q),.str y,qD qa,qD qb],a' K S ps]]) (fs:=fs);refine⟨_,dy,_,hy,m2,bD (by decide +kernel) (by decide +kernel),_,rfl,l1,XG (by simp;lia:_<=1000001) (by decide),l3,?_⟩;refine⟨x,a,b,dy,_,_,_,_,rfl,hy,W.ga,XN (by simp;lia:_<=1000001) (by decide),?_⟩;rw[W.pa,Ye];exact ak h
    rcases hq with rfl |rfl
    · exact go _ rfl (.inl rfl) h
    · exact go _ rfl (.inr rfl) h
  · obtain⟨r,e⟩:=cG q;have nf:=NV pl.f pl.l;have nl:(us q).length<sizeLine:=Ys hu (by decide);have go:∀ z,z=qD q->([D.ref x,z,a' K S ps]).length=3/\B.w (Vh w).wd nm.af tU (aS Q) [some (.ref x),some z,some (a' K S ps),none,none,none,none,none] (Wm M0 a b ws fs):=by
      intro z hz;have hz':z=.tup (.str (wd q)::r):=hz.trans e;subst hz';refine⟨rfl,rfl,_,c9,au (dz (NU pl.v) ⟨_,c9,au (dz (tT pl.t) ⟨_,c9,l2,AU nf (ay (by decide) ?_)⟩)⟩)⟩;refine⟨_,dx,_,hx,m2,bD (by decide +kernel) (by decide +kernel),x,a,b,dx,_,_,_,ws,rfl,hx,W.ga,Ys ke (by decide),?_⟩;rw[W.pa];have NZ:D.tup [w.gv.getD 21 .aj,.tup (.str (wd q)::r),a' K S ps]=bf w 21 q (a' K S ps):=(by unfold bf;rw[e]);refine⟨q,by rw[e];rfl,hu,by simpa using nl,.inl ?_⟩;refine ey (λxs τ M'=>∃ rest done v6 v7,us q=rest++done/\xs=(gK (rest.map qD)).reverse/\τ=[some (.ref x),some (.tup (.str (wd q)::r)),some (a' K S ps),some (dD K),some (dD S),some (.tup ps),v6,v7] /\
        M'=Wm M0 a b (ws++[bf w 21 q (a' K S ps)]++(dw w K S ps rest.length done).reverse) fs/\done.length<100) ?_ ?_ _ _ _ ⟨us q,[],none,none,by simp,rfl,rfl,?_,by simp⟩
      · rintro τ M' ⟨rest,done,v6,v7,e1,e2,rfl,rfl,_⟩;have:rest=[]:=by
          rcases ZD rest with z |⟨r',q',z⟩
          · exact z
          · subst z;rw[Zk,XZ,XJ,YA,AV,List.reverse_append]at e2;simp at e2
        subst this;rw[List.nil_append]at e1;rw[e1]at h;exact⟨trivial,.rfl (ak h)⟩
      · rintro y xs τ M' ⟨rest,done,v6,v7,e1,e2,rfl,rfl,hd⟩;refine⟨trivial,?_⟩;rcases ZD rest with z | ⟨r',q',z⟩
        · subst z;cases e2
        subst z;rw[Zk]at e1 e2;rw[Zk];rw[XZ,XJ,YA,AV,List.reverse_append]at e2;cases e2;have hlen:(us q).length=r'.length+1+done.length:=(by rw[e1];simp;lia);obtain⟨dy,hy⟩:=W.gx (ws:=ws++[bf w 21 q (a' K S ps)]++(dw w K S ps (r'++[q']).length done).reverse) (fs:=fs);refine λN hN=>⟨rfl,_,dy,_,hy,m2,bD (by decide +kernel) (by decide +kernel),l1,XG (by simp;lia:_<=1000001) (by decide),l3,?_⟩;refine⟨x,a,b,dy,_,_,_,_,rfl,hy,W.ga,XN (?_:_<=2000000) (by decide),hN _ _ ⟨r',q'::done,_,_,by rw[e1];simp,rfl,rfl,?_,by rw[XI];lia⟩⟩
        · rw[XU,XU,Zs,tS];simp;lia
        · rw[W.pa];have WQ:dw w K S ps r'.length (q'::done)=bf w 18 q' (a' K S (ps++[.int r'.length]))::dw w K S ps (r'.length+1) done:=(by rw[dw]);rw[WQ,YX,<- Ye,XU,Xx];rfl
      · rw[<- NZ,dw,List.reverse_nil,XX];rfl
    exact go _ rfl
variable {w:Wo}
noncomputable def N0:B:=.cons (.ret (.c (.bl true))) .nil
noncomputable def AW:B:=.cons (.jV (.v 3) (.cons (.set (.many [4,5]) (.mt .pop (.v 3) .nil)) (.cons (.cond (.cmp .NotEq (.ix (.v 4) (.c (.int 0))) (.ix (.v 5) (.c (.int 0)))) (.cons (.ret (.c (.bl false))) .nil) .nil) (.cons (.cond (.cmp .Eq (.ix (.v 4) (.c (.int 0))) (.c (.str "row"))) (.cons (.cond (.cmp .NotEq (.call 8 (.cons (.v 4) .nil)) (.call 8 (.cons (.v 5) .nil))) (.cons (.ret (.c (.bl false))) .nil) .nil) (.cons (.ex (.mt .extend (.v 3) (.cons (.lc 2 [] (.many [0,1]) (.zip (.ix (.v 4) (.c (.int 1))) (.ix (.v 5) (.c (.int 1)))) .ar (.tup (.cons (.ix (.v 0) (.c (.int 1))) (.cons (.ix (.v 1) (.c (.int 1))) .nil)))) .nil))) .nil)) .nil) (.cons (.cond (.cmp .Eq (.ix (.v 4) (.c (.int 0))) (.c (.str "bag"))) (.cons (.ex (.mt .extend (.v 3) (.cons (.lc 1 [5] (.one 0) (.seq (.app (.v 2) (.cons (.v 4) .nil))) .ar (.tup (.cons (.v 0) (.cons (.ix (.v 1) (.c (.int 1))) .nil)))) .nil))) .nil) .nil) .nil))))) N0
noncomputable def N1:B:=.cons (.set (.one 3) (.lst (.cons (.tup (.cons (.v 0) (.cons (.v 1) .nil))) .nil))) AW
theorem N7:aB ["whole","kind","rows_of","waiting","part","wanted"] ["whole","kind","rows_of"] (ag (aa 19)):=⟨rfl,rfl,rfl,by decide +kernel,rfl,by decide +kernel,by decide +kernel⟩
theorem N9:aH nm 40 ["whole","kind","rows_of","waiting","part","wanted"] (ag (aa 19)) (aw (aa 19))=N1:=by kernel_rfl
def tV:Sp:=λas M Q _=>∃x y,as=[.tup [x,y]]/\Q (.lst [y]) M
def Oa (f:Addr):Sp:=λds M Q _=>∃k,ds=[kD k,kD k,.ref f]/\kz k<1000/\Q (.bl true) M
noncomputable abbrev Vi (w:Wo) (f:Addr):a0 w:={ cs:=[(8,AG)],ca:=λg sp=>g=f/\sp=tV }
noncomputable def pr (k:Kd):D:=.tup [kD k,kD k]
noncomputable def b6:List Kd->Nat
 |[]=>0
 |k::r=>kz k+b6 r
theorem pe:∀{a b:List Kd},b6 (a++b)=b6 a+b6 b
 |[],b=>by rw[List.nil_append,b6];lia
 |k::a,b=>by rw[Y3,b6,b6,pe];lia
theorem Ob (k:Kd):1<=kz k:=by cases k <;> (rw[kz];try lia)
theorem tW:∀a:List Kd,a.length<=b6 a
 |[]=>XM _
 |k::r=>by have:=Ob k;have:=tW r;rw[b6,XI];lia
theorem tX:∀fs:List (Str×Kd),b6 (fs.map (·.2))+fs.length=gy fs
 |[]=>by rw[gy];rfl
 |(_,k)::r=>by have:=tX r;rw[XJ,b6,gy,XI];show kz k+_+_=_;lia
theorem Oc {fs:List (Str×Kd)} (h:kz (.row fs)<1000):fs.length<1000:=by
 have:=tX fs;rw[kz]at h;lia
noncomputable def tY:S->B
 |.jV _ b=>b
 |_=>.nil
theorem AX:∀fs:List (Str×Kd),aJ (fs.map λp=>D.str p.1)=true/\aR (fs.map λp=>D.str p.1)=0
 |[]=>⟨rfl,rfl⟩
 |(x,k)::r=>by obtain⟨h1,h2⟩:=AX r;rw[XJ,aJ,aR,h1,h2];exact⟨rfl,rfl⟩
theorem Od {n:Bool}{fs:List (Str×Kd)}{M:Mp}{k:Bool->Prop} (q:k true):dI n (.lst (fs.map λp=>D.str p.1)) (.lst (fs.map λp=>D.str p.1)) M k:=by
 obtain⟨h1,h2⟩:=AX fs;have ok:ax (.lst (fs.map λp=>D.str p.1))=true:=by rw[ax];exact h1
 refine .mk (.inl ⟨ok,ok,?_⟩) ?_
 ·show aM (.lst _)<=100;rw[aM,h2];decide
 ·show k (aD (.lst _) (.lst _));rw[gg _ ok];exact q
theorem AY (O:Lw w) {e:En}{wa f:Addr}{d0 TM:D}{M0:Mp} (hn:∀ v4 v5 ws,e.nx [some d0,some TM,some (.ref f),some (.ref wa),v4,v5] (up M0 wa (.lst ws))) :
  ∀(n:Nat) (ws:List Kd) v4 v5,b6 ws<n->b6 ws<1000->ie (E.w (Vi w f).wd nm.af (.v 3)).2 (B.w (Vi w f).wd nm.af (tY (ez AW))) e n [some d0,some TM,some (.ref f),some (.ref wa),v4,v5] (up M0 wa (.lst (ws.map pr)))
 | 0,ws,v4,v5,h,_=>by lia
 |n+1,ws,v4,v5,h,hz=>by
  rcases ZD ws with z |⟨r,k,z⟩
  ·subst z;exact .inl ⟨_,av,hn _ _ _⟩
  subst z;rw[Zk]at h hz ⊢;rw[pe,b6,b6]at h hz;have db:(!((r++[k]).map pr).isEmpty)=true:=by simp
  refine .inl ⟨_,av,?_⟩;rw[db];refine⟨.inl ⟨rfl,_,av⟩,_,av,pr k,by simp,rfl,?_⟩;have e1:up (up M0 wa (.lst ((r++[k]).map pr))) wa (.lst ((r++[k]).map pr).dropLast)=up M0 wa (.lst (r.map pr)):=by rw[_root_.N.cF,XZ,XJ,YA,List.dropLast_concat]
  rw[e1];have fin:=λ(rr:List Kd) v4 v5 (h1:b6 rr+1<=kz k+b6 r)=>AY O hn n rr v4 v5 (by lia) (by lia);cases k with
  |num=>exact⟨_,rfl,_,rfl,au (ay (by decide) ⟨_,rfl,au (ay (by decide) ⟨_,rfl,au (ay (by decide) (fin r _ _ (by rw[kz];lia)))⟩)⟩)⟩
  |word=>exact⟨_,rfl,_,rfl,au (ay (by decide) ⟨_,rfl,au (ay (by decide) ⟨_,rfl,au (ay (by decide) (fin r _ _ (by rw[kz];lia)))⟩)⟩)⟩
  |ai k'=>
   refine⟨_,rfl,_,rfl,au (ay (by decide) ⟨_,rfl,au (ay (by decide) ⟨_,rfl,au (aY (by decide) ?_)⟩)⟩)⟩;refine⟨.inl ⟨rfl,_,av⟩,_,⟨rfl,rfl⟩,_,_,rfl,trivial,by decide,_,rfl,l2,trivial,(by show 1<sizeLine;decide),.inl ⟨_,av,?_,?_⟩⟩
   ·have:=tW r;refine XG (?_:_<=2000) (by decide);simp;lia
   ·have:=fin (r++[k']) (some (kD (.ai k'))) (some (kD (.ai k'))) (by rw[pe,b6,b6,kz];lia);rw[XZ]at this;rw[_root_.N.cF];exact this
  |row fs=>
   have hl:=Oc (fs:=fs) (by lia);refine⟨_,rfl,_,rfl,au (ay (by decide) ⟨_,rfl,au (aY (by decide) ⟨fs,rfl,hl,fs,rfl,hl,Od (ay (by decide) ?_)⟩)⟩)⟩;refine⟨.inl ⟨rfl,_,av⟩,_,rfl,_,rfl,?_⟩;show c7 (λM=>True/\True) (.many [0,1]) gO _ _ _ (List.zipWith (λx y=>D.tup [x,y]) (bj fs) (bj fs)) [] _;rw[hE,o8];refine iY (λp:(Str×Kd)×(Str×Kd)=>.tup [.tup [.str p.1.1,kD p.1.2],.tup [.str p.2.1,kD p.2.2]]) (λp=>.tup [kD p.1.2,kD p.2.2]) (fs.zip fs) ?_ (Ys (by rw[Zp];lia:_<1000) (by decide)) (λp _ N hN=>?_) ?_
   ·exact⟨trivial,trivial⟩
   ·exact⟨rfl,_,rfl,_,rfl,l2,hN⟩
   ·refine .inl ⟨_,av,?_,?_⟩
    ·have:=tW r;refine XG (?_:_<=3000) (by decide);simp;lia
    ·have e2:(fs.zip fs).map (λp=>D.tup [kD p.1.2,kD p.2.2])=(fs.map (·.2)).map pr:=by
      clear fin e1 db h hz hl
      induction fs with
      |nil=>rfl
      |cons g fs ih=>rw[YN,XJ,ih];rfl
     rw[e2,_root_.N.cF,<- XZ];exact⟨_,rfl,au (ay (by decide) (fin (r++fs.map (·.2)) _ _ (by have:=tX fs;rw[pe,kz];lia)))⟩
theorem Oe (O:Lw w) {f:Addr} (hf:cP w.G 1 f tV):FO w 10 2 (Oa f):=by
 refine aL O.ok O.hn _ ⟨"fits",aa 19,["whole","kind","rows_of"]⟩ (by rw[O.hd];rfl) (Vi w f) { cs:=⟨⟨1,by decide,Nx O⟩,trivial⟩,ca:=?_ } N7 N9 λds M Q _ h=>?_
 ·rintro g sp ⟨rfl,rfl⟩;exact hf
 obtain⟨k,rfl,hz,h⟩:=h;refine⟨rfl,l2,l1,.inr λwa Of=>⟨1000,?_⟩⟩;refine AY O (λv4 v5 ws=>?_) 1000 [k] none none (by rw[b6,b6];lia) (by rw[b6,b6];lia);exact y' Of rfl h
theorem Og:aB ["one","other"] ["one","other"] (ag (aa 18)):=⟨rfl,rfl,rfl,by decide +kernel,rfl,by decide +kernel,by decide +kernel⟩
def AZ:Sp:=λds M Q _=>∃k,ds=[kD k,kD k]/\kz k<1000/\Q (.bl true) M
theorem Oh (O:Lw w):FO w 9 3 AZ:=by
 refine JR O.ok O.hn (kl:=0) (n:=30) (nl:=30) (ns:=["one","other"]) (lps:=["bag"]) (es:=.cons (.v 0) (.cons (.v 1) .nil)) (el:=.lst (.cons (.ix (.v 0) (.c (.int 1))) .nil)) (lU:=tV) 9 10 ⟨"alike",aa 18,["one","other"]⟩ (by rw[O.hd];rfl) hA (λf fd q=>O.UT f fd q) {} { cs:=trivial } Og
  (λ_ _ _ _=>rfl) (λ_ _ _ _=>rfl) (by kernel_rfl) (by kernel_rfl) (by kernel_rfl) (by kernel_rfl) (by kernel_rfl) ⟨by kernel_rfl,by kernel_rfl,by kernel_rfl,by decide +kernel,by decide +kernel,by decide +kernel,by decide +kernel⟩ (by decide +kernel) (λq pm c ctv K=>bT.all λus h=>?_) (by kernel_rfl) (λe l=>⟨{},{ cs:=trivial },λds M Q E hs=>?_⟩) λds M Q E hs=>?_
 ·match us,h with
  |[_],_=>rfl
 ·obtain⟨x,y,rfl,q⟩:=hs;exact⟨rfl,_,rfl,(by show 1<=sizeLine;decide),.inl (ak q)⟩
 ·obtain⟨k,rfl,hz,q⟩:=hs;exact⟨rfl,λe f l hh=>⟨_,Oe (O.at l) hh,k,rfl,hz,ak q⟩⟩
noncomputable def Oi:B:=(.cons (.ret (.ite (.call 9 (.cons (.ix (.v 1) (.c (.int 0))) (.cons (.ix (.v 1) (.c (.int 1))) .nil))) (.call 23 (.cons (.v 0) (.cons (.v 1) .nil))) (.c .aj))) .nil)
theorem Oj:aB ["question","below"] ["question","below"] (ag (aa 36)):=⟨rfl,rfl,rfl,by decide +kernel,rfl,by decide +kernel,by decide +kernel⟩
theorem Ol:aH nm 40 ["question","below"] (ag (aa 36)) (aw (aa 36))=Oi:=by kernel_rfl
noncomputable abbrev Om (w:Wo):a0 w:={ cs:=[(9,AZ),(23,dv λ_ ks d=>∃pre k,ks=pre++[kD (.ai k)]/\d=kD (.ai k))] }
theorem Oo (O:Lw w):FO w 22 4 (dv λ_ ks d=>∃k,kz k<900/\ks=[kD (.ai k),kD (.ai k)]/\d=kD (.ai k)):=by
 refine aL O.ok O.hn _ ⟨"both_kind",aa 36,["question","below"]⟩ (by rw[O.hd];rfl) (Om w) { cs:=⟨⟨3,by decide,Oh O⟩,⟨1,by decide,AD O⟩,trivial⟩ } Oj Ol λds M Q _ h=>?_;obtain⟨q,ks,d,rfl,⟨k,hz,rfl,rfl⟩,h⟩:=h;exact⟨rfl,_,rfl,_,rfl,.ai k,rfl,by rw[kz];lia,q,_,_,rfl,⟨[kD (.ai k)],k,rfl,rfl⟩,ak h⟩
theorem Oq (O:Lw w):∀p∈fN,cP w.G 5 (bc w p.1) (dv p.2):=by
 intro p hp;unfold fN at hp;simp only[X5,XT,or_false]at hp;rcases hp with rfl |rfl |rfl |rfl |rfl |rfl |rfl |rfl |rfl |rfl |rfl
 ·exact FO.cq ((MN O).mono (by decide)) (d:=⟨"plain_kind",aa 30,["question","below"]⟩) (by rw[O.hd];rfl)
 ·exact FO.cq ((Nz O).mono (by decide)) (d:=⟨"row_kind",aa 31,["question","below"]⟩) (by rw[O.hd];rfl)
 ·exact FO.cq ((NA O).mono (by decide)) (d:=⟨"part_kind",aa 32,["question","below"]⟩) (by rw[O.hd];rfl)
 ·exact FO.cq ((Np O).mono (by decide)) (d:=⟨"number_kind",aa 33,["question","below"]⟩) (by rw[O.hd];rfl)
 ·exact FO.cq ((MM O).mono (by decide)) (d:=⟨"none_kind",aa 34,["question","below"]⟩) (by rw[O.hd];rfl)
 ·exact FO.cq ((MP O).mono (by decide)) (d:=⟨"one_kind",aa 35,["question","below"]⟩) (by rw[O.hd];rfl)
 ·exact FO.cq ((Oo O).mono (by decide)) (d:=⟨"both_kind",aa 36,["question","below"]⟩) (by rw[O.hd];rfl)
 ·exact FO.cq ((AD O).mono (by decide)) (d:=⟨"last_bag_kind",aa 37,["question","below"]⟩) (by rw[O.hd];rfl)
 ·exact FO.cq ((Nu O).mono (by decide)) (d:=⟨"same_kind",aa 38,["question","below"]⟩) (by rw[O.hd];rfl)
 ·exact FO.cq ((Nq O).mono (by decide)) (d:=⟨"under_kind",aa 39,["question","below"]⟩) (by rw[O.hd];rfl)
 ·exact FO.cq ((MQ O).mono (by decide)) (d:=⟨"truth_kind",aa 40,["question","below"]⟩) (by rw[O.hd];rfl)
variable {w:Wo}
noncomputable def A0:B:=(.cons (.jV (.fld (.v 0) "waiting") (.cons (.set (.many [1,2,3]) (.mt .pop (.fld (.v 0) "waiting") .nil)) (.cons (.ex (.app (.v 1) (.cons (.v 0) (.cons (.v 2) (.cons (.v 3) .nil))))) .nil))) (.cons (.ret (.mt .pop (.fld (.v 0) "found") .nil)) .nil))
theorem tZ:aB ["self","step","question","around"] ["self"] (ag (bx (aa 11) 4)):=⟨rfl,rfl,rfl,by decide +kernel,rfl,by decide +kernel,by decide +kernel⟩
theorem t4:aH nm 40 ["self","step","question","around"] (ag (bx (aa 11) 4)) (aw (bx (aa 11) 4))=A0:=by kernel_rfl
noncomputable abbrev Uv (w:Wo) (ca:Addr->Sp->Prop):a0 w:={ ca:=ca }
def Lp (w:Wo) (ca:Addr->Sp->Prop) (e:En) (n:Nat) (x:Addr) (M:Mp):Prop:=∀u v z,ie (E.w (Uv w ca).wd nm.af (.fld (.v 0) "waiting")).2 (B.w (Uv w ca).wd nm.af (tY (ez A0))) e n [some (.ref x),u,v,z] M
theorem b8 (O:Lw w) {ca:Addr->Sp->Prop}{e:En}{n:Nat}{M0:Mp}{x a b:Addr}{ws fs:List D}{f:Addr}{sp:Sp}{qd r:D} (hc:ca f sp) (W:Wc (w.ca 0) M0 x a b)
  (h:∀Q:QK,(∀d M',Lp w ca e n x M'->Q d M')->sp [.ref x,qd,r] (Wm M0 a b ws fs) Q X0):Lp w ca e (n+1) x (Wm M0 a b (ws++[.tup [.ref f,qd,r]]) fs):=by
 intro u v z;obtain⟨dx,hx⟩:=W.gx (ws:=ws++[.tup [.ref f,qd,r]]) (fs:=fs);refine⟨_,dx,_,hx,.ref a,O.fw,rfl,.inl ⟨_,W.ga,?_⟩⟩;have db:(!(ws++[D.tup [.ref f,qd,r]]).isEmpty)=true:=by simp
 rw[db];refine⟨_,dx,_,hx,.ref a,O.fw,rfl,.inl ⟨rfl,_,W.ga⟩,_,W.ga,.tup [.ref f,qd,r],by simp,rfl,sp,hc,?_⟩;rw[List.dropLast_concat,W.pa];exact h _ λd M' z=>z _ _ _
theorem t6 (O:Lw w) {ca:Addr->Sp->Prop}{e:En}{n:Nat}{M0:Mp}{x a b:Addr}{fs:List D} (W:Wc (w.ca 0) M0 x a b) (h:∀u v z,e.nx [some (.ref x),u,v,z] (Wm M0 a b [] fs)):Lp w ca e (n+1) x (Wm M0 a b [] fs):=by
 intro u v z;obtain⟨dx,hx⟩:=W.gx (ws:=[]) (fs:=fs);exact⟨_,dx,_,hx,.ref a,O.fw,rfl,.inl ⟨_,W.ga,h u v z⟩⟩
mutual
noncomputable def Nt:Qn->Nat
 |.var _=>1 |.tab _=>1
 |.for _ a b=>3+Nt a+Nt b
 |.let _ a b=>2+Nt a+Nt b
 |.row fs=>2+Nr fs
 |.at _ q=>2+Nt q
 |.add a b=>2+Nt a+Nt b
 |.mul a b=>2+Nt a+Nt b
 |.one q=>2+Nt q
 |.both a b=>2+Nt a+Nt b
 |.times _ q=>2+Nt q
 |.aU a b=>2+Nt a+Nt b
 |.same a b=>2+Nt a+Nt b
 |.under a b=>2+Nt a+Nt b
 |.and a b=>2+Nt a+Nt b
 |.or a b=>2+Nt a+Nt b
 |.not q=>2+Nt q
 |.num _=>2 |.word _=>2 |.none _=>2
noncomputable def Nr:List (Str×Qn)->Nat
 |[]=>0
 |(_,q)::r=>Nt q+Nr r
end
noncomputable def Nl:List Qn->Nat
 |[]=>0
 |q::r=>Nt q+Nl r
theorem A2:∀fs:List (Str×Qn),Nl (fs.map (·.2))=Nr fs
 |[]=>by rw[Nr];rfl
 |(x,q)::r=>by rw[Nr,<- A2 r];rfl
theorem Ot {q:Qn} (h1:∀y,q≠.var y) (h2:∀y,q≠.tab y) (h3:wd q≠"for") (h4:wd q≠"let"):Nt q=2+Nl (us q):=by
 cases q with
 |var y=>exact absurd rfl (h1 y)
 |tab y=>exact absurd rfl (h2 y)
 | «for»=>exact absurd rfl h3
 | «let»=>exact absurd rfl h4
 |row fs=>rw[Nt,us,A2]
 |_=>simp [Nt,us,Nl] <;> lia
theorem fP {a k:Key}{v:D}{r:List (Key×D)}:aT ((a,v)::r) k=if a=k then some v else aT r k:=by
 unfold aT;rw[Zr];by_cases h:a=k
 ·simp [h]
 ·simp [h]
theorem t7 {k k':Key}{d:D} (h:k'≠k):∀r:List (Key×D),aT (r.map λkv=>if kv.1=k then (kv.1,d) else kv) k'=aT r k'
 |[]=>rfl
 |(a,v)::r=>by
  rw[XJ];by_cases e:a=k
  ·rw[if_pos e,fP,fP,if_neg (λz=>h (by rw[<- z,e])),if_neg (λz=>h (by rw[<- z,e])),t7 h r]
  ·rw[if_neg e,fP,fP,t7 h r]
theorem A3 {k:Key}{d:D}:∀r:List (Key×D),(r.any λkv=>decide (kv.1=k))=true->aT (r.map λkv=>if kv.1=k then (kv.1,d) else kv) k=some d
 |[],h=>by cases h
 |(a,v)::r,h=>by
  rw[XJ];by_cases e:a=k
  ·rw[if_pos e,fP,if_pos e]
  ·rw[if_neg e,fP,if_neg e];rw[ZK,decide_eq_false e,Bool.false_or]at h;exact A3 r h
theorem A4 {kvs:List (Key×D)}{k k':Key}{d:D}:aT (bq kvs k d) k'=if k'=k then some d else aT kvs k':=by
 unfold bq;by_cases h:(kvs.any λkv=>decide (kv.1=k))=true
 ·rw[if_pos h];by_cases e:k'=k
  ·subst e;rw[if_pos rfl,A3 kvs h]
  ·rw[if_neg e,t7 e]
 ·rw[if_neg h]
  induction kvs with
  |nil=>
   rw[List.nil_append,fP];by_cases e:k'=k
   ·rw[if_pos e,if_pos e.symm]
   ·rw[if_neg e,if_neg (Y0 e)]
  |cons p r ih=>
   obtain⟨a,v⟩:=p;have h':¬a=k/\¬(r.any λkv=>decide (kv.1=k))=true:=by
    rw[ZK]at h;exact⟨λz=>h (by simp [z]),λz=>h (by rw[z,Bool.or_true])⟩
   rw[Y3,fP,fP,ih h'.2];by_cases e:k'=k
   ·subst e;rw[if_neg h'.1,if_pos rfl,if_pos rfl]
   ·rw[if_neg e,if_neg e]
theorem t8 {kvs:List (Key×D)}{k:Key}{d:D}:(bq kvs k d).length<=kvs.length+1:=by
 unfold bq;split <;> simp
mutual
noncomputable def dn:Qn->Nat
 |.var _=>1 |.tab _=>1 |.num _=>1 |.word _=>1 |.none _=>1
 |.for _ a b=>1+max (dn a) (dn b)
 |.let _ a b=>1+max (dn a) (dn b)
 |.row fs=>1+gA fs
 |.at _ q=>1+dn q
 |.add a b=>1+max (dn a) (dn b)
 |.mul a b=>1+max (dn a) (dn b)
 |.one q=>1+dn q
 |.both a b=>1+max (dn a) (dn b)
 |.times _ q=>1+dn q
 |.aU a b=>1+max (dn a) (dn b)
 |.same a b=>1+max (dn a) (dn b)
 |.under a b=>1+max (dn a) (dn b)
 |.and a b=>1+max (dn a) (dn b)
 |.or a b=>1+max (dn a) (dn b)
 |.not q=>1+dn q
noncomputable def gA:List (Str×Qn)->Nat
 |[]=>0
 |(_,q)::r=>max (dn q) (gA r)
end
noncomputable def fQ:List Qn->Nat
 |[]=>0
 |q::r=>max (dn q) (fQ r)
theorem A5:∀fs:List (Str×Qn),fQ (fs.map (·.2))=gA fs
 |[]=>by rw[gA];rfl
 |(x,q)::r=>by rw[gA,<- A5 r];rfl
theorem mm (q:Qn):dn q=1+fQ (us q):=by
 cases q with
 |row fs=>rw[dn,us,A5]
 |_=>simp [dn,us,fQ]
mutual
inductive Tk (S:Str->Option Kd):Sc->Qn->D->Prop
 |var {G y k}:lk y G=some k->Tk S G (.var y) (kD k)
 |tab {G y k}:S y=some k->Tk S G (.tab y) (kD (.ai k))
 |for {G y a b k l}:Tk S G a (kD (.ai l))->Tk S ((y,l)::G) b (kD (.ai k))->Tk S G (.for y a b) (kD (.ai k))
 |let {G y a b l d}:Tk S G a (kD l)->Tk S ((y,l)::G) b d->Tk S G (.let y a b) d
 |dc {G q ks d}:Pl q->hH S G (us q) ks->ml q ks d->(us q).length<100->Tk S G q d
inductive hH (S:Str->Option Kd):Sc->List Qn->List D->Prop
 |nil {G}:hH S G [] []
 |cons {G q r d s}:Tk S G q d->hH S G r s->hH S G (q::r) (d::s)
end
theorem hH.len {S:Str->Option Kd}:∀{G:Sc}{qs:List Qn}{ks:List D},hH S G qs ks->ks.length=qs.length
 |_,_,_,.nil=>rfl
 |_,_,_,.cons _ r=>by rw[XI,XI,r.len]
def d7 (K:List (Key×D)) (G:Sc):Prop:=∀y k,lk y G=some k->aT K (.inr y)=some (kD k)
def ja (K:List (Key×D)) (S:Str->Option Kd):Prop:=∀y k,S y=some k->aT K (.inr y)=some (kD k)
theorem d7.put {K:List (Key×D)}{G:Sc}{y:Str}{l:Kd} (h:d7 K G):d7 (bq K (.inr y) (kD l)) ((y,l)::G):=λz k e=>by
 rw[A4];rw[lk]at e;by_cases c:z=y
 ·rw[if_pos c]at e;cases e;rw[if_pos (by rw[c])]
 ·rw[if_neg c]at e;rw[if_neg (λx=>c (ZP x))];exact h z k e
structure Bn (n m:Nat) (ps ws fs:List D) (K:List (Key×D)):Prop where
 p:ps.length+(n+103 * m)<1000000
 w:ws.length+(n+103 * m)<1000000
 f:fs.length+(n+103 * m)<1000000
 k:K.length+m<1000
theorem mq (O:Lw w) {q:Qn}{r:D}:bf w 18 q r=.tup [.ref (bc w "begin_kinds"),qD q,r]:=by unfold bf;rw[O.gb]
theorem fW (O:Lw w) {q:Qn}{r:D}:bf w 20 q r=.tup [.ref (bc w "bind"),qD q,r]:=by unfold bf;rw[O.gd]
theorem Ou (O:Lw w) {q:Qn}{r:D}:bf w 21 q r=.tup [.ref (bc w "finish"),qD q,r]:=by unfold bf;rw[O.gf]
def jb (w:Wo) (f:Addr) (sp:Sp):Prop:=(f=bc w "begin_kinds"/\sp=AS w)\/(f=bc w "bind"/\sp=AR w)\/(f=bc w "finish"/\sp=AM w)
theorem Ov {y:Str}{a b:Qn}{k:Kd}:ml (.for y a b) [kD (.ai k)] (kD (.ai k)):=by
 have hm:((("last_bag_kind" : Str),λ(_:Qn) (ks:List D) (d:D)=>∃pre k,ks=pre++[kD (.ai k)]/\d=kD (.ai k)):Str×(Qn->List D->D->Prop))∈fN:=by
  unfold fN
  iterate 7 refine XF _ ?_
  exact XH
 exact⟨⟨_,rfl⟩,_,hm,(by decide +kernel:(("for" : Str),("last_bag_kind" : Str))∈bG),[],k,rfl,rfl⟩
section
variable {e:En}{n:Nat}{M0:Mp}{x a b:Addr}{ws fs:List D}{K S':List (Key×D)}{ps:List D}
theorem A6 (O:Lw w) {ks:List D}{q:Qn}{r d:D} (W:Wc (w.ca 0) M0 x a b) (hk:ks.length=if wd q="for" then 1 else (us q).length) (hu:(us q).length<100) (hf:fs.length<1000000) (F:ml q ks d)
  (k:Lp w (jb w) e n x (Wm M0 a b ws (fs++[d]))):Lp w (jb w) e (n+1) x (Wm M0 a b (ws++[bf w 21 q r]) (fs++ks)):=by
 rw[Ou O];exact b8 O (.inr (.inr ⟨rfl,rfl⟩)) W λQ hQ=>⟨M0,x,a,b,ws,q,r,fs,ks,d,rfl,rfl,W,hk,hu,hf,F,hQ _ _ k⟩
end
def A7 (w:Wo) (S:Str->Option Kd) (G:Sc) (q:Qn) (d:D):Prop:=∀ {e:En}{n:Nat}{M0:Mp}{x a b:Addr}{ws fs:List D}{K S':List (Key×D)}{ps:List D},Wc (w.ca 0) M0 x a b->d7 K G->ja S' S->Bn 0 (dn q) ps ws fs K ->
  Lp w (jb w) e n x (Wm M0 a b ws (fs++[d]))->Lp w (jb w) e (n+Nt q) x (Wm M0 a b (ws++[bf w 18 q (a' K S' ps)]) fs)
def Ow (w:Wo) (S:Str->Option Kd) (G:Sc) (qs:List Qn) (ks:List D):Prop:=∀ {e:En}{n i:Nat}{M0:Mp}{x a b:Addr}{ws fs:List D}{K S':List (Key×D)}{ps:List D},Wc (w.ca 0) M0 x a b->d7 K G->ja S' S->Bn (1+qs.length) (fQ qs) ps ws fs K ->
  Lp w (jb w) e n x (Wm M0 a b ws (fs++ks))->Lp w (jb w) e (n+Nl qs) x (Wm M0 a b (ws++(dw w K S' ps i qs).reverse) fs)
theorem Ox (O:Lw w) {S:Str->Option Kd}{G:Sc}{q:Qn}{d:D} (t:Tk S G q d):A7 w S G q d:=by
 refine @Tk.rec S (λG q d _=>A7 w S G q d) (λG qs ks _=>Ow w S G qs ks) ?_ ?_ ?_ ?_ ?_ ?_ ?_ _ _ _ t
 ·intro G y k h e n M0 x a b ws fs K S' ps W rg rs B k';rw[Nt];have b1:=B.p;have b2:=B.w;have TH:=B.f
  rw[mq O];exact b8 O (.inl ⟨rfl,rfl⟩) W λQ hQ=>⟨M0,x,a,b,ws,fs,K,S',ps,_,rfl,rfl,W,by lia,by lia,by lia,(by decide:0<100),.inl ⟨y,_,rfl,rg _ _ h,hQ _ _ k'⟩⟩
 ·intro G y k h e n M0 x a b ws fs K S' ps W rg rs B k';rw[Nt];have b1:=B.p;have b2:=B.w;have TH:=B.f
  rw[mq O];exact b8 O (.inl ⟨rfl,rfl⟩) W λQ hQ=>⟨M0,x,a,b,ws,fs,K,S',ps,_,rfl,rfl,W,by lia,by lia,by lia,(by decide:0<100),.inr (.inl ⟨y,_,rfl,rs _ _ h,hQ _ _ k'⟩)⟩
 ·intro G y qa qb k l _ _ t1 t2 e n M0 x a b ws fs K S' ps W rg rs B k';have b1:=B.p;have b2:=B.w;have TH:=B.f;have b4:=B.k
  rw[Nt];rw[dn]at b1 b2 TH b4;rw[mq O,show n+(3+Nt qa+Nt qb)=(n+1+Nt qb+1+Nt qa)+1 by lia];refine b8 O (.inl ⟨rfl,rfl⟩) W λQ hQ=>⟨M0,x,a,b,ws,fs,K,S',ps,_,rfl,rfl,W,by lia,by lia,by lia,(by decide:2<100),.inr (.inr (.inl ⟨y,qa,qb,.inl rfl,hQ _ _ ?_⟩))⟩;rw[show ws++[bf w 20 (.for y qa qb) (a' K S' ps),bf w 18 qa (a' K S' (ps++[.int 0]))]=(ws++[bf w 20 (.for y qa qb) (a' K S' ps)])++[bf w 18 qa (a' K S' (ps++[.int 0]))] by simp];refine t1 W rg rs ⟨by simp;lia,by simp;lia,by lia,by lia⟩ ?_;rw[fW O];have pl:=@t8 K (.inr y) (kD l);refine b8 O (.inr (.inl ⟨rfl,rfl⟩)) W λQ hQ=>⟨M0,x,a,b,ws,fs,K,S',ps,_,y,qa,qb,l,rfl,by lia,by lia,by lia,W,.inl ⟨rfl,rfl,hQ _ _ ?_⟩⟩;rw[show ws++[bf w 21 (.for y qa qb) (a' K S' ps),bf w 18 qb (a' (bq K (.inr y) (kD l)) S' (ps++[.int 1]))]=(ws++[bf w 21 (.for y qa qb) (a' K S' ps)])++[bf w 18 qb (a' (bq K (.inr y) (kD l)) S' (ps++[.int 1]))] by simp];refine t2 W rg.put rs ⟨by simp;lia,by simp;lia,by lia,by lia⟩ ?_;exact A6 O W (by rw[if_pos (show wd (.for y qa qb)="for" from rfl)];rfl) (by decide:2<100) (by lia) Ov k'
 ·intro G y qa qb l d _ _ t1 t2 e n M0 x a b ws fs K S' ps W rg rs B k';have b1:=B.p;have b2:=B.w;have TH:=B.f;have b4:=B.k
  rw[Nt];rw[dn]at b1 b2 TH b4;rw[mq O,show n+(2+Nt qa+Nt qb)=(n+Nt qb+1+Nt qa)+1 by lia];refine b8 O (.inl ⟨rfl,rfl⟩) W λQ hQ=>⟨M0,x,a,b,ws,fs,K,S',ps,_,rfl,rfl,W,by lia,by lia,by lia,(by decide:2<100),.inr (.inr (.inl ⟨y,qa,qb,.inr rfl,hQ _ _ ?_⟩))⟩;rw[show ws++[bf w 20 (.let y qa qb) (a' K S' ps),bf w 18 qa (a' K S' (ps++[.int 0]))]=(ws++[bf w 20 (.let y qa qb) (a' K S' ps)])++[bf w 18 qa (a' K S' (ps++[.int 0]))] by simp];refine t1 W rg rs ⟨by simp;lia,by simp;lia,by lia,by lia⟩ ?_;rw[fW O];have pl:=@t8 K (.inr y) (kD l);refine b8 O (.inr (.inl ⟨rfl,rfl⟩)) W λQ hQ=>⟨M0,x,a,b,ws,fs,K,S',ps,_,y,qa,qb,l,rfl,by lia,by lia,by lia,W,.inr ⟨rfl,rfl,hQ _ _ ?_⟩⟩;exact t2 W rg.put rs ⟨by simp;lia,by lia,by lia,by lia⟩ k'
 ·intro G q ks d p ht F hu t e n M0 x a b ws fs K S' ps W rg rs B k';have hN:=Ot p.v p.t p.f p.l;have hb:=mm q;have b1:=B.p;have b2:=B.w;have TH:=B.f;have b4:=B.k
  rw[hN];rw[hb]at b1 b2 TH b4;rw[mq O,show n+(2+Nl (us q))=(n+1+Nl (us q))+1 by lia];refine b8 O (.inl ⟨rfl,rfl⟩) W λQ hQ=>⟨M0,x,a,b,ws,fs,K,S',ps,q,rfl,rfl,W,by lia,by lia,by lia,hu,.inr (.inr (.inr ⟨p,hQ _ _ ?_⟩))⟩;refine t W rg rs ⟨by lia,by simp;lia,by lia,by lia⟩ ?_;exact A6 O W (by rw[if_neg p.f,ht.len]) hu (by lia) F k'
 ·intro G e n i M0 x a b ws fs K S' ps W rg rs B k';rw[dw,List.reverse_nil,XX];rw[XX]at k';exact k'
 ·intro G q r d s _ Tt t ts e n i M0 x a b ws fs K S' ps W rg rs B k';have b1:=B.p;have b2:=B.w;have TH:=B.f;have b4:=B.k
  rw[Nl];rw[fQ,XI]at b1 b2 TH;rw[fQ]at b4;have Tu:(dw w K S' ps (i+1) r).length=r.length:=tS;rw[dw,YX,<- Ye,show n+(Nt q+Nl r)=n+Nl r+Nt q by lia];refine t W rg rs ⟨by simp;lia,by simp;lia,by lia,by lia⟩ ?_;refine ts W rg rs ⟨by lia,by lia,by simp;lia,by lia⟩ ?_;rw[Ye];exact k'
def A8 (w:Wo):Sp:=λds M Q _=>∃M0 x a b K S' S G q d,ds=[.ref x]/\M=Wm M0 a b [bf w 18 q (a' K S' [])] []/\Wc (w.ca 0) M0 x a b/\d7 K G/\ja S' S/\Tk S G q d/\dn q<500/\K.length<500/\Q d (Wm M0 a b [] [])
theorem Oy (O:Lw w):dt w 4 7 (A8 w):=by
 refine iW O.ok O.hn _ ⟨"run",(bx (aa 11) 4),["self"]⟩ (by rw[O.hms];rfl) (Uv w (jb w)) { cs:=trivial,ca:=?_ } tZ t4 λds M Q _ h=>?_
 ·rintro f sp (⟨rfl,rfl⟩ |⟨rfl,rfl⟩ |⟨rfl,rfl⟩)
  ·exact FO.cq ((NY O).mono (by decide)) (d:=⟨"begin_kinds",aa 25,["walk","question","around"]⟩) (by rw[O.hd];rfl)
  ·exact FO.cq ((NT O).mono (by decide)) (d:=⟨"bind",aa 28,["walk","question","around"]⟩) (by rw[O.hd];rfl)
  ·exact FO.cq (NI O (Oq O)) (d:=⟨"finish",aa 29,["walk","question","around"]⟩) (by rw[O.hd];rfl)
 obtain⟨M0,x,a,b,K,S',S,G,q,d,rfl,rfl,W,rg,rs,t,hn,gl,h⟩:=h;refine⟨rfl,1+Nt q,?_⟩;refine Ox O t (ws:=[]) (fs:=[]) (n:=1) W rg rs ⟨by simp;lia,by simp;lia,by simp;lia,by lia⟩ (t6 O W λ_ _ _=>?_) _ _ _;obtain⟨dx,hx⟩:=W.gx (ws:=[]) (fs:=[]++[d]);refine⟨_,dx,_,hx,.ref b,O.T7,rfl,.inl ⟨rfl,_,Wm.gb⟩,_,Wm.gb,d,rfl,?_⟩;rw[Wm.pb];exact ak h
theorem t9 {C x dx a b:Addr}{M:Mp}{UY i1:List (Str×D)}{ws fs:List D} (h1:M x=none) (h2:M dx=none) (h3:up (up M dx (.own x)) x (.ins C dx UY) a=none) (h4:up (up M dx (.own x)) x (.ins C dx UY) b=none) (n1:dx≠x) (n2:a≠b):cy M (Wm (up (up (up M dx (.own x)) x (.ins C dx UY)) x (.ins C dx i1)) a b ws fs)/\Wc C (up (up (up M dx (.own x)) x (.ins C dx UY)) x (.ins C dx [("waiting",.ref a),("found",.ref b)])) x a b:=by
 have xa:x≠a:=by rintro rfl;rw[av]at h3;cases h3
 have xb:x≠b:=by rintro rfl;rw[av]at h4;cases h4
 have da:dx≠a:=by rintro rfl;rw[aF n1,av]at h3;cases h3
 have TX:dx≠b:=by rintro rfl;rw[aF n1,av]at h4;cases h4
 rw[aF (Y0 xa),aF (Y0 da)]at h3;rw[aF (Y0 xb),aF (Y0 TX)]at h4;refine⟨Kc (λc hc=>?_) λc e q db=>?_,⟨dx,av⟩,n2,xa,xb⟩
 ·unfold Wm;rw[aF,aF,aF,aF,aF]
  ·rintro rfl;exact hc h2
  ·rintro rfl;exact hc h1
  ·rintro rfl;exact hc h1
  ·rintro rfl;exact hc h3
  ·rintro rfl;exact hc h4
 ·unfold Wm at q;by_cases VP:c=b
  ·subst VP;rw[av]at q;cases q
  rw[aF VP]at q;by_cases ca:c=a
  ·subst ca;rw[av]at q;cases q
  rw[aF ca]at q;by_cases Vj:c=x
  ·subst Vj;rw[av]at q;cases q
  rw[aF Vj,aF Vj]at q;by_cases cd:c=dx
  ·subst cd;rw[av]at q;cases q;exact absurd h1 db
  rw[aF cd]at q;exact q
noncomputable def Oz:B:=.cons (.ret (.a4 4 (.v 3) .nil)) .nil
noncomputable def OA:B:=.cons (.ex (.a4 1 (.v 3) (.cons (.g 18) (.cons (.v 0) (.cons (.tup (.cons (.v 1) (.cons (.v 2) (.cons (.tup .nil) .nil)))) .nil))))) Oz
noncomputable def OB:B:=.cons (.set (.one 3) (.new 0 .nil)) OA
theorem OD:aB ["question","kinds","stock","walk"] ["question","kinds","stock"] (ag (aa 24)):=⟨rfl,rfl,rfl,by decide +kernel,rfl,by decide +kernel,by decide +kernel⟩
theorem OE:aH nm 40 ["question","kinds","stock","walk"] (ag (aa 24)) (aw (aa 24))=OB:=by kernel_rfl
def A9:Sp:=λds M Q _=>∃K S' S G q d,ds=[qD q,dD K,dD S']/\d7 K G/\ja S' S/\Tk S G q d/\dn q<500/\K.length<500/\Q d M
noncomputable abbrev WR (w:Wo):a0 w:={ ms:=[(1,fM w),(4,A8 w)],ci:=[(0,0,o7 w)] }
theorem OF (O:Lw w):FO w 11 8 A9:=by
 refine aL O.ok O.hn _ ⟨"kind_of",aa 24,["question","kinds","stock"]⟩ (by rw[O.hd];rfl) (WR w) { cs:=trivial,ms:=⟨⟨1,by decide,i8 O⟩,⟨7,by decide,Oy O⟩,trivial⟩,ci:=⟨⟨O.mc _ (by decide),by rw[O.hms];rfl,1,by decide,tQ O⟩,trivial⟩ } OD OE λds M Q _ h=>?_;obtain⟨K,S',S,G,q,d,rfl,rg,rs,t,hn,gl,h⟩:=h;have m2:w.ca 0=w.mc 1:=(O.mc _ (by decide)).symm;have m5:w.ca 0=w.mc 4:=(O.mc _ (by decide)).symm;refine⟨rfl,λx dx hx mo nd=>⟨x,dx,rfl,av,λa b ha hb ne=>⟨rfl,?_⟩⟩⟩;obtain⟨sb,W⟩:=t9 (i1:=[("waiting",.ref a),("found",.ref b)]) (ws:=[]) (fs:=[]) hx mo ha hb nd ne;obtain⟨dy,hy⟩:=W.gx (ws:=[]) (fs:=[]);refine⟨_,dy,_,hy,m2,bD (by decide +kernel) (by decide +kernel),XM _,l3,x,a,b,dy,_,_,_,[],rfl,hy,W.ga,by decide,?_⟩;rw[W.pa];obtain⟨Uw,hz⟩:=W.gx (ws:=[]++[.tup [w.gv.getD 18 .aj,qD q,.tup [dD K,dD S',.tup []]]]) (fs:=[]);exact⟨_,Uw,_,hz,m5,bD (by decide +kernel) (by decide +kernel),_,x,a,b,K,S',S,G,q,d,rfl,rfl,W,rg,rs,t,hn,gl,l0 sb h⟩
variable {w:Wo}
noncomputable def tD:D:=.tup [.str "truth"]
section
variable {S:Str->Option Kd}{G:Sc}
theorem OG {i:Nat}{p:Str×(Qn->List D->D->Prop)} (h:fN[i]?=some p):p∈fN:=Yq h
theorem b3 {q:Qn}{ks ds:List D} (i:Nat) {p:Str×(Qn->List D->D->Prop)} (h:fN[i]?=some p) (hp:p.2 q ks (.tup ds)) (ht:bG.any (λx=>decide (x=(wd q,p.1)))=true:=by rw[wd];decide +kernel):ml q ks (.tup ds):=by
 refine⟨⟨ds,rfl⟩,p,OG h,?_,hp⟩;obtain⟨x,hx,e⟩:=List.any_eq_true.mp ht;rw[<- of_decide_eq_true e];exact hx
theorem pl {q:Qn} (h:wd q≠"var":=by rw[wd];decide) (h2:wd q≠"table":=by rw[wd];decide) (h3:wd q≠"for":=by rw[wd];decide) (h4:wd q≠"let":=by rw[wd];decide):Pl q:=⟨λy e=>h (by rw[e];rfl),λy e=>h2 (by rw[e];rfl),h3,h4⟩
theorem n0:0<100:=by decide
theorem n1:1<100:=by decide
theorem n2:2<100:=by decide
theorem OH {i:Int}:Tk S G (.num i) (kD .num):=.dc pl .nil (b3 0 rfl (.inl ⟨⟨i,rfl⟩,rfl⟩)) n0
theorem OI {i:Str}:Tk S G (.word i) (kD .word):=.dc pl .nil (b3 0 rfl (.inr ⟨⟨i,rfl⟩,rfl⟩)) n0
theorem OJ {k:Kd}:Tk S G (.none k) (kD (.ai k)):=.dc pl .nil (b3 4 rfl ⟨k,rfl,rfl⟩) n0
theorem OL {q:Qn}{k:Kd} (h:Tk S G q (kD k)):Tk S G (.one q) (kD (.ai k)):=.dc pl (.cons h .nil) (b3 5 rfl ⟨k,rfl,rfl⟩) n1
theorem OO {a b:Qn}{k:Kd} (hz:kz k<900) (h:Tk S G a (kD (.ai k))) (h':Tk S G b (kD (.ai k))):Tk S G (.both a b) (kD (.ai k)):=.dc pl (.cons h (.cons h' .nil)) (b3 6 rfl ⟨k,hz,rfl,rfl⟩) n2
theorem OP {i:Int}{q:Qn}{k:Kd} (h:Tk S G q (kD (.ai k))):Tk S G (.times i q) (kD (.ai k)):=.dc pl (.cons h .nil) (b3 7 rfl ⟨[],k,rfl,rfl⟩) n1
theorem OQ {a b:Qn}{k:Kd} (h:Tk S G a tD) (h':Tk S G b (kD (.ai k))):Tk S G (.aU a b) (kD (.ai k)):=.dc pl (.cons h (.cons h' .nil)) (b3 7 rfl ⟨[tD],k,rfl,rfl⟩) n2
theorem OR {a b:Qn} (h:Tk S G a (kD .num)) (h':Tk S G b (kD .num)):Tk S G (.add a b) (kD .num):=.dc pl (.cons h (.cons h' .nil)) (b3 3 rfl ⟨rfl,rfl⟩) n2
theorem OT {a b:Qn} (h:Tk S G a (kD .num)) (h':Tk S G b (kD .num)):Tk S G (.mul a b) (kD .num):=.dc pl (.cons h (.cons h' .nil)) (b3 3 rfl ⟨rfl,rfl⟩) n2
theorem Ba {a b:Qn}{k:Kd} (hk:k=.num\/k=.word) (h:Tk S G a (kD k)) (h':Tk S G b (kD k)):Tk S G (.same a b) tD:=.dc pl (.cons h (.cons h' .nil)) (b3 8 rfl ⟨hk.imp (λe=>by rw[e]) (λe=>by rw[e]),rfl⟩) n2
theorem OU {a b:Qn} (h:Tk S G a (kD .num)) (h':Tk S G b (kD .num)):Tk S G (.under a b) tD:=.dc pl (.cons h (.cons h' .nil)) (b3 9 rfl ⟨rfl,rfl⟩) n2
theorem OV {a b:Qn} (h:Tk S G a tD) (h':Tk S G b tD):Tk S G (.and a b) tD:=.dc pl (.cons h (.cons h' .nil)) (b3 10 rfl rfl) n2
theorem OW {a b:Qn} (h:Tk S G a tD) (h':Tk S G b tD):Tk S G (.or a b) tD:=.dc pl (.cons h (.cons h' .nil)) (b3 10 rfl rfl) n2
theorem OX {a:Qn} (h:Tk S G a tD):Tk S G (.not a) tD:=.dc pl (.cons h .nil) (b3 10 rfl rfl) n1
theorem OY {f:Str}{q:Qn}{fs:List (Str×Kd)}{k:Kd} (nd:(fs.map (·.1)).Nodup) (hf:lk f fs=some k) (h:Tk S G q (kD (.row fs))):Tk S G (.at f q) (kD k):=by
 have key:∀x,x=kD k->Tk S G (.at f q) x:=by
  intro x hx;obtain⟨ds,e⟩:∃ds,x=.tup ds:=by rw[hx];cases k <;> exact⟨_,by rw[kD]⟩
  subst e;exact .dc pl (.cons h .nil) (b3 2 rfl ⟨f,q,fs,k,rfl,rfl,nd,hf,hx⟩) (by show 1<100;decide)
 exact key _ rfl
theorem OZ {fs:List (Str×Qn)} {κs:List Kd} (hl:fs.length<100) (hk:κs.length=fs.length) (h:hH S G (fs.map (·.2)) (κs.map kD)):Tk S G (.row fs) (kD (.row ((fs.map (·.1)).zip κs))):=by
 rw[kD];exact .dc pl h (b3 1 rfl ⟨fs,κs,rfl,rfl,hk,hl,by rw[kD]⟩) (by show (fs.map (·.2)).length<100;simpa using hl)
end
section
variable {S:Str->Option Kd}
theorem O0 {G:Sc}{q:Qn}{k:Kd}:Ty S G q k->Tk S G q (kD k):=
 (Ty.all (P:=λG q k=>Tk S G q (kD k)) (L:=λG fs ks=>∃ κs:List Kd,κs.length=fs.length/\ks=(fs.map (·.1)).zip κs/\hH S G (fs.map (·.2)) (κs.map kD)) (C:=λG q=>Tk S G q tD)
  OH OI .var .tab (λ_ _=>OJ) (λl _ h=>by
   obtain⟨κs,e1,e2,e3⟩:=h;rw[e2];exact OZ l e1 e3) (λn h e=>OY n e h) OR OT OL OO OP (λ_=>.for) OQ (λ_=>.let) ⟨[],rfl,rfl,.nil⟩ (λ{_ _ _ k _ _} h e=>by
   obtain⟨κs,e1,e2,e3⟩:=e;exact⟨k::κs,by rw[XI,XI,e1],by rw[e2];rfl,.cons h e3⟩)
  (Ba (.inl rfl)) (Ba (.inr rfl)) OU OV OW OX).1
end
theorem j1 {m a:Nat} (h:m<=a):1+m<=1+a:=YZ h 1
theorem VQ {m n a b:Nat} (h:m<=a) (e:n<=b):max m n<=max a b:=Nat.max_le.mpr ⟨XG h (Zf ..),XG e (Y8 ..)⟩
theorem j2 {m n a b:Nat} (h:m<=a) (e:n<=b):1+max m n<=1+max a b:=j1 (VQ h e)
mutual
theorem bM:∀q:Qn,dn q<=dq q
 |.row fs=>Nat.add_le_add (by decide) (Bb fs)
 |.at _ a=>j1 (bM a) |.one a=>j1 (bM a) |.times _ a=>j1 (bM a) |.not a=>j1 (bM a)
 |.add a b=>j2 (bM a) (bM b) |.mul a b=>j2 (bM a) (bM b) |.both a b=>j2 (bM a) (bM b) |.for _ a b=>j2 (bM a) (bM b) |.aU a b=>j2 (bM a) (bM b) |.let _ a b=>j2 (bM a) (bM b)
 |.same a b=>j2 (bM a) (bM b) |.under a b=>j2 (bM a) (bM b) |.and a b=>j2 (bM a) (bM b) |.or a b=>j2 (bM a) (bM b)
 |.num _=>XC _ |.word _=>XC _ |.var _=>XC _ |.tab _=>XC _ |.none _=>Zx ..
theorem Bb:∀fs:List (Str×Qn),gA fs<=bo fs
 |[]=>XC _
 |(_,q)::r=>VQ (bM q) (Bb r)
end
variable {w:Wo}
mutual
noncomputable def aI:Qn->List Str
 |.tab x=>[x]
 |.row fs=>hK fs
 |.at _ q=>aI q
 |.one q=>aI q
 |.times _ q=>aI q
 |.not q=>aI q
 |.add a b=>aI a++aI b
 |.mul a b=>aI a++aI b
 |.both a b=>aI a++aI b
 |.for _ a b=>aI a++aI b
 |.aU a b=>aI a++aI b
 |.let _ a b=>aI a++aI b
 |.same a b=>aI a++aI b
 |.under a b=>aI a++aI b
 |.and a b=>aI a++aI b
 |.or a b=>aI a++aI b
 |.num _=>[] |.word _=>[] |.var _=>[] |.none _=>[]
noncomputable def hK:List (Str×Qn)->List Str
 |[]=>[]
 |(_,q)::r=>aI q++hK r
end
mutual
def wq:Qn->Prop
 |.row fs=>fs.length<100/\mr fs
 |.at _ q=>wq q
 |.one q=>wq q
 |.times _ q=>wq q
 |.not q=>wq q
 |.add a b=>wq a/\wq b
 |.mul a b=>wq a/\wq b
 |.both a b=>wq a/\wq b
 |.for _ a b=>wq a/\wq b
 |.aU a b=>wq a/\wq b
 |.let _ a b=>wq a/\wq b
 |.same a b=>wq a/\wq b
 |.under a b=>wq a/\wq b
 |.and a b=>wq a/\wq b
 |.or a b=>wq a/\wq b
 |.num _=>True |.word _=>True |.var _=>True |.none _=>True |.tab _=>True
def mr:List (Str×Qn)->Prop
 |[]=>True
 |(_,q)::r=>wq q/\mr r
end
noncomputable def bN:List Qn->Nat
 |[]=>0
 |q::r=>nq q+bN r
theorem uc:∀{a b:List Qn},bN (a++b)=bN a+bN b
 |[],b=>by rw[List.nil_append,bN];lia
 |q::r,b=>by rw[Y3,bN,bN,uc];lia
theorem Bc:∀fs:List (Str×Qn),bN (fs.map (·.2))=cp fs
 |[]=>by rw[cp];rfl
 |(x,q)::r=>by rw[cp,<- Bc r];rfl
theorem jc (q:Qn):nq q=1+bN (us q):=by
 cases q with
 |row fs=>rw[nq,us,Bc]
 |_=>simp [nq,us,bN,Nat.add_assoc]
theorem Bd:∀fs:List (Str×Qn),(fs.map (·.2)).flatMap aI=hK fs
 |[]=>by rw[hK];rfl
 |(x,q)::r=>by rw[hK,<- Bd r];rfl
theorem O3 {q:Qn} (h:∀x,q≠.tab x):aI q=(us q).flatMap aI:=by
 cases q with
 |tab x=>exact absurd rfl (h x)
 |row fs=>rw[aI,us,Bd]
 |_=>simp [aI,us]
theorem Be:∀fs:List (Str×Qn),mr fs->∀p∈fs.map (·.2),wq p
 |[],_,p,h=>by cases h
 |(x,q)::r,hw,p,h=>by
  rw[mr]at hw;rcases List.mem_cons.mp h with e |h
  ·rw[e];exact hw.1
  ·exact Be r hw.2 p h
theorem pf {q:Qn} (h:wq q):(us q).length<100/\∀p∈us q,wq p:=by
 cases q with
 |row fs=>rw[wq]at h;rw[us];exact⟨by simpa using h.1,Be fs h.2⟩
 |_=>simp [us] <;> simpa [wq] using h
structure Fq (S:Str->Option Kd) (q:Qn):Prop where
 w:wq q
 t:∀x∈aI q,∃l,S x=some l
section
variable {S:Str->Option Kd}
theorem f2 {a b:Qn} (h:Fq S a) (e:Fq S b):(wq a/\wq b)/\∀x∈aI a++aI b,∃l,S x=some l:=⟨⟨h.w,e.w⟩,λx z=>(List.mem_append.mp z).elim (h.t x) (e.t x)⟩
theorem fi {q a b:Qn} (hw:wq q=(wq a/\wq b)) (ht:aI q=aI a++aI b) (h:Fq S a) (e:Fq S b):Fq S q:=⟨hw ▸ (f2 h e).1,ht ▸ (f2 h e).2⟩
theorem Bf {G:Sc}{q:Qn}{k:Kd}:Ty S G q k->Fq S q:=
 (Ty.all (P:=λ_ q _=>Fq S q) (L:=λ_ fs _=>mr fs/\∀x∈hK fs,∃l,S x=some l) (C:=λ_ q=>Fq S q)
  ⟨ZJ,λ_ z=>nomatch z⟩ ⟨ZJ,λ_ z=>nomatch z⟩ (λ_=>⟨ZJ,λ_ z=>nomatch z⟩) (λh=>⟨ZJ,λx z=>by rw[List.mem_singleton.mp z];exact⟨_,h⟩⟩) (λ_ _=>⟨ZJ,λ_ z=>nomatch z⟩) (λl _ h=>⟨⟨l,h.1⟩,h.2⟩) (λ_ h _=>⟨h.w,h.t⟩)
  (fi rfl rfl) (fi rfl rfl) (λh=>⟨h.w,h.t⟩) (λ_=>fi rfl rfl) (λh=>⟨h.w,h.t⟩) (λ_=>fi rfl rfl) (fi rfl rfl) (λ_=>fi rfl rfl) ⟨ZJ,λ_ z=>nomatch z⟩ (λh e=>⟨⟨h.w,e.1⟩,λx z=>(List.mem_append.mp z).elim (h.t x) (e.2 x)⟩)
  (fi rfl rfl) (fi rfl rfl) (fi rfl rfl) (fi rfl rfl) (fi rfl rfl) (λh=>⟨h.w,h.t⟩)).1
end
theorem ue {x:Str}{p:Qn}:x∈aI p ↔ (p=.tab x\/x∈(us p).flatMap aI):=by
 by_cases h:∃y,p=.tab y
 ·obtain⟨y,rfl⟩:=h;simp [aI,us,eq_comm]
 ·rw[O3 λy e=>h ⟨y,e⟩];exact⟨.inr,λz=>z.elim (λe=>absurd ⟨x,e⟩ h) id⟩
theorem uf:∀l:List Qn,l.length<=bN l
 |[]=>XC _
 |q::r=>by have:=uf r;rw[bN,jc,XI];lia
noncomputable def O4:B:=.cons (.ret (.v 1)) .nil
noncomputable def Bg:B:=.cons (.jV (.v 2) (.cons (.set (.one 3) (.mt .pop (.v 2) .nil)) (.cons (.ex (.mt .append (.v 1) (.cons (.v 3) .nil))) (.cons (.ex (.mt .extend (.v 2) (.cons (.call 0 (.cons (.v 3) .nil)) .nil))) .nil)))) O4
noncomputable def O5:B:=.cons (.set (.one 2) (.lst (.cons (.v 0) .nil))) Bg
noncomputable def O6:B:=.cons (.set (.one 1) (.lst .nil)) O5
theorem O7:aB ["question","found","waiting","part"] ["question"] (ag (aa 8)):=⟨rfl,rfl,rfl,by decide +kernel,rfl,by decide +kernel,by decide +kernel⟩
theorem O8:aH nm 40 ["question","found","waiting","part"] (ag (aa 8)) (aw (aa 8))=O6:=by kernel_rfl
def Bh:Sp:=λds M Q _=>∃q,ds=[qD q]/\wq q/\nq q<1000000/\∀kl:List Qn,(∀x,Qn.tab x∈kl ↔ x∈aI q)->kl.length<=nq q->Q (.lst (kl.map qD)) M
noncomputable abbrev ug (w:Wo):a0 w:={ cs:=[(0,kb)] }
theorem O9 {M:Mp}{q0:Qn}{a b:Addr}{e:En} (hq:nq q0<1000000) (ne:a≠b) (h:∀ v (kl:List Qn),(∀ x,Qn.tab x∈kl ↔ x∈aI q0)->kl.length<=nq q0->e.nx [some (qD q0),some (.ref a),some (.ref b),v] (Wm M a b (kl.map qD) [])) :
  ∀(n:Nat) (ws kl:List Qn) v,bN ws=n->(∀p∈ws,wq p)->(∀x,(Qn.tab x∈kl\/x∈ws.flatMap aI) ↔ x∈aI q0)->kl.length+n<=nq q0 ->
   ie (E.w (ug w).wd nm.af (.v 2)).2 (B.w (ug w).wd nm.af (tY (ez Bg))) e (n+1) [some (qD q0),some (.ref a),some (.ref b),v] (Wm M a b (kl.map qD) (ws.map qD)):=by
 have ga:∀{ws fs:List D},Wm M a b ws fs a=some (.lst ws):=by intro ws fs;unfold Wm;rw[aF ne];exact av
 have pa:∀{ws fs cU:List D},up (Wm M a b ws fs) a (.lst cU)=Wm M a b cU fs:=by intro ws fs cU;unfold Wm;rw[oO (Y0 ne),_root_.N.cF]
 intro n
 induction n with
 |zero=>
  intro ws kl v e1 hw ht hl;have:ws=[]:=by
   cases ws with
   |nil=>rfl
   |cons p r=>rw[bN,jc]at e1;lia
  subst this;exact .inl ⟨_,Wm.gb,h v kl (λx=>by have:=ht x;simpa using this) (by lia)⟩
 |succ n ih=>
  intro ws kl v e1 hw ht hl;rcases ZD ws with rfl |⟨init,p,rfl⟩
  ·cases e1
  rw[Zk]at e1 hw ht ⊢;have wp:=pf (hw p (by simp));rw[uc,bN,bN,jc p]at e1;have hn:(!((init++[p]).map qD).isEmpty)=true:=by simp
  refine .inl ⟨_,Wm.gb,?_⟩;rw[hn];have bl:=uf (us p);have bi:=uf init;refine⟨.inl ⟨rfl,_,Wm.gb⟩,_,Wm.gb,qD p,by simp,?_⟩;rw[Wm.pb,XZ,XJ,YA,List.dropLast_concat];refine⟨.inl ⟨rfl,_,ga⟩,_,ga,XN (by rw[Xx];lia:_<=1000000) (by decide),?_⟩;rw[pa];refine⟨.inl ⟨rfl,_,Wm.gb⟩,p,rfl,wp.1,_,Wm.gb,XG (by rw[Xx,Xx];lia:_<=2000000) (by decide),?_⟩;have T3:kl.map qD++[qD p]=(kl++[p]).map qD:=by simp
  rw[Wm.pb,<- XZ,T3];refine ih (init++us p) (kl++[p]) _ (by rw[uc];lia) (λr hr=>?_) (λx=>?_) (by rw[XU,List.length_singleton];lia)
  ·rcases List.mem_append.mp hr with z |z
   ·exact hw r (ZM _ z)
   ·exact wp.2 r z
  ·rw[<- ht x,List.flatMap_append,List.flatMap_append,Ze,Ze,Ze,List.mem_singleton,List.flatMap_cons,List.flatMap_nil,XX,ue (p:=p)];constructor
   ·rintro ((z |z) |z |z)
    ·exact .inl z
    ·exact .inr (.inr (.inl z.symm))
    ·exact .inr (.inl z)
    ·exact .inr (.inr (.inr z))
   ·rintro (z |z |z |z)
    ·exact .inl (.inl z)
    ·exact .inr (.inl z)
    ·exact .inl (.inr z.symm)
    ·exact .inr (.inr z)
theorem Pa (O:Lw w):FO w 2 2 Bh:=by
 refine aL O.ok O.hn _ ⟨"knots",aa 8,["question"]⟩ (by rw[O.hd];rfl) (ug w) { cs:=⟨⟨1,by decide,mj O⟩,trivial⟩ } O7 O8 λds M Q _ h=>?_;obtain⟨q,rfl,hw,hn,h⟩:=h;refine⟨rfl,XM _,.inr λa ha=>⟨l1,.inr λb hb=>⟨nq q+1,?_⟩⟩⟩;have ne:a≠b:=by rintro rfl;rw[av]at hb;cases hb
 rw[aF (Y0 ne)]at hb;refine O9 (M:=M) hn ne ?_ (nq q) [q] [] _ (by rw[bN,bN];lia) (λp hp=>by rw[List.mem_singleton.mp hp];exact hw) (λx=>by simp) (by simp);intro v kl e2 e3;refine zD (M:=M) ?_ ha (by unfold Wm;rw[aF ne];exact av) (h kl e2 e3);exact oM (oM .rfl ha rfl) hb rfl
noncomputable def tn:Qn->Option Str
 |.tab x=>some x
 |_=>none
theorem Bj {kl:List Qn}{x:Str}:x∈kl.filterMap tn ↔ Qn.tab x∈kl:=by
 rw[List.mem_filterMap];constructor
 ·rintro⟨g,h1,h2⟩;cases g <;> cases h2;exact h1
 ·exact λh=>⟨_,h,rfl⟩
noncomputable def Pb:B:=(.cons (.ret (.sset (.lc 1 [] (.one 0) (.seq (.call 2 (.cons (.v 0) .nil))) (.cmp .Eq (.ix (.v 0) (.c (.int 0))) (.c (.str "table"))) (.ix (.v 0) (.c (.int 1)))))) .nil)
theorem Pc:aB ["question"] ["question"] (ag (aa 9)):=⟨rfl,rfl,rfl,by decide +kernel,rfl,by decide +kernel,by decide +kernel⟩
theorem Pd:aH nm 40 ["question"] (ag (aa 9)) (aw (aa 9))=Pb:=by kernel_rfl
def Bk:Sp:=λds M Q _=>∃(q:Qn) (N:List Str),ds=[qD q]/\wq q/\nq q<1000000/\N.length<64/\(∀x∈aI q,x∈N)/\∀ys:List Str,ys.Nodup->(∀x,x∈ys ↔ x∈aI q)->Q (.lst (ys.map D.str)) M
theorem Pe (O:Lw w):FO w 3 3 Bk:=by
 refine aL O.ok O.hn _ ⟨"tables",aa 9,["question"]⟩ (by rw[O.hd];rfl) { cs:=[(2,Bh)] } { cs:=⟨⟨2,by decide,Pa O⟩,trivial⟩ } Pc Pd λds M Q _ h=>?_;obtain⟨q,N,rfl,hw,hn,hN,hs,h⟩:=h;refine⟨rfl,q,rfl,hw,hn,λkl hk hl=>?_⟩;refine ew (λxs ys M'=>M'=M/\∃rest pre,xs=rest.map qD/\kl=pre++rest/\ys=(pre.filterMap tn).map D.str) ?_ ?_ _ _ _ ⟨rfl,kl,[],rfl,rfl,rfl⟩
 ·rintro ys M' ⟨rfl,rest,pre,e1,e2,rfl⟩;have:rest=[]:=by simpa using e1.symm
  subst this;rw[XX]at e2;subst e2;have ln:(kl.filterMap tn).length<=kl.length:=Zq ..;exact⟨trivial,XN (by rw[Xx];lia:_<=1000000) (by decide),.inl ⟨kl.filterMap tn,N,rfl,hN,λx hx=>hs x ((hk x).mp (Bj.mp hx)),λys nd hy _=>.inl (ak (h ys nd λx=>(hy x).trans (Bj.trans (hk x))))⟩⟩
 ·rintro x xs ys M' ⟨rfl,rest,pre,e1,e2,rfl⟩;cases rest with
  |nil=>cases e1
  |cons g rest=>
   cases e1;have ln:(pre.filterMap tn).length<=pre.length:=Zq ..;have lp:pre.length<=kl.length:=(by rw[e2];simp);refine⟨trivial,XN (by rw[Xx];lia:_<=1000000) (by decide),λN' o0=>?_⟩;by_cases hg:∃x,g=.tab x
   ·obtain⟨x,rfl⟩:=hg;exact⟨_,rfl,au (aY (by decide) ⟨_,rfl,o0 _ _ ⟨rfl,rest,pre++[.tab x],rfl,by rw[e2];simp,by rw[List.filterMap_append,XZ];rfl⟩⟩)⟩
   ·obtain⟨r,hr⟩:=cG g;have hd:=tT λx e=>hg ⟨x,e⟩;have ht:tn g=none:=by cases g <;> first |rfl |exact absurd ⟨_,rfl⟩ hg
    rw[hr];exact⟨_,c9,au (dz hd (o0 _ _ ⟨rfl,rest,pre++[g],rfl,by rw[e2];simp,by rw[List.filterMap_append,List.filterMap_cons,ht,List.filterMap_nil,XX]⟩))⟩
abbrev Nv:=List (Str×Str)
noncomputable def aC (nv:Nv):List (Key×D):=nv.map λp=>(.inr p.1,.str p.2)
noncomputable def bz (x:Str):Nv->Option Str
 |[]=>none
 |(y,z)::r=>if y=x then some z else bz x r
theorem fR {x:Str}:∀{nv:Nv},aT (aC nv) (.inr x)=(bz x nv).map D.str
 |[]=>rfl
 |(y,z)::r=>by
  show aT ((.inr y,.str z)::aC r) (.inr x)=_;rw[fP,bz];by_cases e:y=x
  ·rw[if_pos (by rw[e]),if_pos e];rfl
  ·rw[if_neg (λh=>e (ZP h)),if_neg e,fR]
noncomputable def hs (nv:Nv) (q:Qn):Bool:=(aI q).any λx=>(bz x nv).isSome
noncomputable def Pf:B:=(.cons (.ret (.bi .any (.cons (.lc 1 [1] (.one 0) (.seq (.call 3 (.cons (.v 0) .nil))) .ar (.cmp .In (.v 0) (.v 1))) .nil))) .nil)
theorem Pg:aB ["question","names"] ["question","names"] (ag (aa 47)):=⟨rfl,rfl,rfl,by decide +kernel,rfl,by decide +kernel,by decide +kernel⟩
theorem Ph:aH nm 40 ["question","names"] (ag (aa 47)) (aw (aa 47))=Pf:=by kernel_rfl
def Bl:Sp:=λds M Q _=>∃(q:Qn) (N:List Str) (nv:Nv),ds=[qD q,dD (aC nv)]/\wq q/\nq q<1000000/\N.length<64/\(∀x∈aI q,x∈N)/\Q (.bl (hs nv q)) M
theorem Bm:∀{ys N:List Str},ys.Nodup->(∀x∈ys,x∈N)->ys.length<=N.length
 |[],N,_,_=>XM _
 |y::ys,N,nd,h=>by
  rw[ZA]at nd;have hy:=h y XH;have:=Bm (N:=N.erase y) nd.2 λx hx=>(List.mem_erase_of_ne (by rintro rfl;exact nd.1 hx)).mpr (h x (XF _ hx));rw[List.length_erase_of_mem hy]at this;have:=List.length_pos_of_mem hy;rw[XI];lia
theorem Pj (O:Lw w):FO w 30 4 Bl:=by
 refine aL O.ok O.hn _ ⟨"names_some",aa 47,["question","names"]⟩ (by rw[O.hd];rfl) { cs:=[(3,Bk)] } { cs:=⟨⟨3,by decide,Pe O⟩,trivial⟩ } Pg Ph λds M Q _ h=>?_;obtain⟨q,N,nv,rfl,hw,hn,hN,ht,h⟩:=h;refine⟨rfl,q,N,rfl,hw,hn,hN,ht,λys nd hy=>?_⟩;have ly:=Bm nd (N:=N) λx hx=>ht x ((hy x).mp hx);refine iY (M:=M) D.str (λx=>D.bl (bz x nv).isSome) ys ?_ (XN (by lia:_<=64) (by decide)) (λy _ N' o0=>?_) ?_
 ·exact trivial
 ·refine ma ?_;rw[fR,Option.isSome_map];exact o0
 ·refine .inl ⟨ys.map λx=>(bz x nv).isSome,by rw[YI];rfl,ak ?_⟩;have:((ys.map λx=>(bz x nv).isSome).any id)=hs nv q:=by
   rw[List.any_map];unfold hs;rw[YT,List.any_eq_true,List.any_eq_true];constructor
   ·rintro⟨x,h1,h2⟩;exact⟨x,(hy x).mp h1,h2⟩
   ·rintro⟨x,h1,h2⟩;exact⟨x,(hy x).mpr h1,h2⟩
  show Q (.bl ((ys.map λx=>(bz x nv).isSome).any id)) M;rw[this];exact h
variable {w:Wo}
noncomputable def oD:Option Qn->D
 |none=>.aj
 |some q=>qD q
noncomputable def aO:Qn->Bool
 |.none _=>true
 |_=>false
noncomputable def mu:Option Qn->Bool
 |none=>true
 |some q=>aO q
noncomputable def uh:Option Qn->Qn->Qn
 |none,q=>q
 |some s,q=>.both s q
noncomputable def bu:Option Qn->List (Option Qn)->Option Qn
 |s,[]=>s
 |s,none::r=>bu s r
 |s,some q::r=>bu (some (uh s q)) r
noncomputable def mf (x:Str):Option Qn->Option Qn->Option Qn
 |some a,some b=>if aO a ||aO b then none else some (.for x a b)
 |_,_=>none
theorem hO (q:Qn):aO q=decide (wd q="none"):=by
 cases q with
 |none k=>rfl
 |_=>exact (decide_eq_false (by rw[wd];decide +kernel)).symm
noncomputable def Pk:B:=(.cons (.ret (.or (.cmp .Is (.v 0) (.c .aj)) (.cmp .Eq (.ix (.v 0) (.c (.int 0))) (.c (.str "none"))))) .nil)
theorem Pm:aB ["question"] ["question"] (ag (aa 48)):=⟨rfl,rfl,rfl,by decide +kernel,rfl,by decide +kernel,by decide +kernel⟩
theorem Pn:aH nm 40 ["question"] (ag (aa 48)) (aw (aa 48))=Pk:=by kernel_rfl
def Bo:Sp:=λds M Q _=>∃o,ds=[oD o]/\Q (.bl (mu o)) M
theorem Po (O:Lw w):FO w 31 1 Bo:=by
 refine aL O.ok O.hn _ ⟨"is_none",aa 48,["question"]⟩ (by rw[O.hd];rfl) {} { cs:=trivial } Pm Pn λds M Q _ h=>?_;obtain⟨o,rfl,h⟩:=h;cases o with
 |none=>exact⟨rfl,ak h⟩
 |some q=>
  have h:Q (.bl (aO q)) M:=h;rw[hO]at h;obtain⟨r,hr⟩:=cG q;have e:oD (some q)=.tup (.str (wd q)::r):=hr;rw[e];exact⟨rfl,_,c9,au (ak h)⟩
noncomputable def Pp:B:=.cons (.ret (.v 1)) .nil
noncomputable def Pq:B:=.cons (.loop (.one 2) (.seq (.lc 1 [] (.one 0) (.seq (.v 0)) (.cmp .IsNot (.v 0) (.c .aj)) (.v 0))) (.cons (.set (.one 1) (.ite (.cmp .Is (.v 1) (.c .aj)) (.v 2) (.tup (.cons (.c (.str "both")) (.cons (.v 1) (.cons (.v 2) .nil)))))) .nil)) Pp
noncomputable def Pr:B:=.cons (.set (.one 1) (.c .aj)) Pq
theorem Pt:aB ["parts","summed","part"] ["parts"] (ag (aa 49)):=⟨rfl,rfl,rfl,by decide +kernel,rfl,by decide +kernel,by decide +kernel⟩
theorem Pu:aH nm 40 ["parts","summed","part"] (ag (aa 49)) (aw (aa 49))=Pr:=by kernel_rfl
def ui:Sp:=λds M Q _=>∃ps:List (Option Qn),ds=[.lst (ps.map oD)]/\ps.length<100/\Q (oD (bu none ps)) M
theorem pg:∀{ps:List (Option Qn)}{s:Option Qn},bu s ps=bu s ((ps.filterMap id).map some)
 |[],s=>rfl
 |none::r,s=>by rw[bu,List.filterMap_cons];exact pg
 |some q::r,s=>by rw[bu,List.filterMap_cons];show _=bu s (some q::_);rw[bu];exact pg
theorem Bp (O:Lw w):FO w 32 1 ui:=by
 refine aL O.ok O.hn _ ⟨"total",aa 49,["parts"]⟩ (by rw[O.hd];rfl) {} { cs:=trivial } Pt Pu λds M Q _ h=>?_;obtain⟨ps,rfl,hl,h⟩:=h;rw[pg]at h;have ln:(ps.filterMap id).length<=ps.length:=Zq ..;refine⟨rfl,?_⟩;refine ew (λxs ys M'=>M'=M/\∃rest pre,xs=rest.map oD/\ps=pre++rest/\ys=(pre.filterMap id).map qD) ?_ ?_ _ _ _ ⟨rfl,ps,[],rfl,rfl,rfl⟩
 ·rintro ys M' ⟨rfl,rest,pre,e1,e2,rfl⟩;have:rest=[]:=by simpa using e1.symm
  subst this;rw[XX]at e2;subst e2;refine⟨trivial,XN (by rw[Xx];lia:_<=100) (by decide),.inl ?_⟩;generalize ps.filterMap id=qs at h;refine ey (λxs τ X=>X=M'/\∃(rest:List Qn) (s:Option Qn) (v:Option D),xs=rest.map qD/\τ=[some (.lst (ps.map oD)),some (oD s),v]/\Q (oD (bu s (rest.map some))) M') ?_ ?_ _ _ _ ⟨rfl,qs,none,_,rfl,rfl,h⟩
  ·rintro τ X ⟨rfl,rest,s,v,e1,rfl,h⟩;have:rest=[]:=(by simpa using e1.symm);subst this;exact⟨trivial,.rfl (ak h)⟩
  ·rintro x xs τ X ⟨rfl,rest,s,v,e1,rfl,h⟩;cases rest with
   |nil=>cases e1
   |cons q rest=>
    cases e1;refine⟨trivial,λN hN=>?_⟩;cases s with
    |none=>exact hN _ _ ⟨rfl,rest,some q,_,rfl,rfl,h⟩
    |some t=>
     obtain⟨r,hr⟩:=cG t;have fin:N [some (.lst (ps.map oD)),some (oD (some (.both t q))),some (qD q)] X:=hN _ _ ⟨rfl,rest,some (.both t q),_,rfl,rfl,h⟩;have e:oD (some t)=.tup (.str (wd t)::r):=hr;have e2:oD (some (.both t q))=.tup [.str "both",.tup (.str (wd t)::r),qD q]:=(by rw[<- hr];rfl);rw[e2]at fin;rw[e];exact⟨l3,fin⟩
 ·rintro x xs ys M' ⟨rfl,rest,pre,e1,e2,rfl⟩;cases rest with
  |nil=>cases e1
  |cons o rest=>
   cases e1;have Tv:(pre.filterMap id).length<=pre.length:=Zq ..;have lp:pre.length<=ps.length:=(by rw[e2];simp);refine⟨trivial,XN (by rw[Xx];lia:_<=100) (by decide),λN hN=>?_⟩;cases o with
   |none=>exact hN _ _ ⟨rfl,rest,pre++[none],rfl,by rw[e2];simp,by simp⟩
   |some t=>
    obtain⟨r,hr⟩:=cG t;have fin:N ((pre.filterMap id).map qD++[qD t]) M':=hN _ _ ⟨rfl,rest,pre++[some t],rfl,by rw[e2];simp,by simp⟩;have e:oD (some t)=.tup (.str (wd t)::r):=hr;rw[hr]at fin;rw[e];exact fin
noncomputable def Pw:B:=(.cons (.ret (.ite (.or (.call 31 (.cons (.v 1) .nil)) (.call 31 (.cons (.v 2) .nil))) (.c .aj) (.tup (.cons (.c (.str "for")) (.cons (.v 0) (.cons (.v 1) (.cons (.v 2) .nil))))))) .nil)
theorem Px:aB ["name","over","inner"] ["name","over","inner"] (ag (aa 52)):=⟨rfl,rfl,rfl,by decide +kernel,rfl,by decide +kernel,by decide +kernel⟩
theorem Py:aH nm 40 ["name","over","inner"] (ag (aa 52)) (aw (aa 52))=Pw:=by kernel_rfl
def Bq:Sp:=λds M Q _=>∃x a b,ds=[.str x,oD a,oD b]/\Q (oD (mf x a b)) M
theorem Br {x:Str}{a b:Option Qn} (h:mu a=true\/mu b=true):mf x a b=none:=by
 cases a with
 |none=>rfl
 |some a=>
  cases b with
  |none=>rfl
  |some b=>rw[mf,if_pos];simpa [mu] using h
theorem Pz (O:Lw w):FO w 35 2 Bq:=by
 refine aL O.ok O.hn _ ⟨"made_for",aa 52,["name","over","inner"]⟩ (by rw[O.hd];rfl) { cs:=[(31,Bo)] } { cs:=⟨⟨1,by decide,Po O⟩,trivial⟩ } Px Py λds M Q _ h=>?_;obtain⟨x,a,b,rfl,h⟩:=h;refine⟨rfl,a,rfl,aV (λe=>?_) λe=>⟨b,rfl,?_⟩⟩
 ·rw[Br (.inl e)]at h;exact aY rfl (ak h)
 ·refine aV (λe'=>?_) λe'=>?_
  ·rw[Br (.inr e')]at h;exact ak h
  ·cases a with
   |none=>exact absurd rfl e
   |some a=>
    cases b with
    |none=>exact absurd rfl e'
    |some b=>
     rw[mf,if_neg (by simp only[mu]at e e';simp [e,e'])]at h;exact⟨l4,ak h⟩
noncomputable def PB:B:=(.cons (.ex (.a4 2 (.v 0) (.cons (.call 32 (.cons (.a4 3 (.v 0) (.cons (.c (.int 2)) .nil)) .nil)) .nil))) .nil)
theorem PC:aB ["walk","question","names"] ["walk","question","names"] (ag (aa 50)):=⟨rfl,rfl,rfl,by decide +kernel,rfl,by decide +kernel,by decide +kernel⟩
theorem PD:aH nm 40 ["walk","question","names"] (ag (aa 50)) (aw (aa 50))=PB:=by kernel_rfl
noncomputable def PH:B:=.cons (.ex (.a4 2 (.v 0) (.cons (.call 32 (.cons (.lst (.cons (.call 35 (.cons (.v 3) (.cons (.v 6) (.cons (.v 5) .nil)))) (.cons (.call 35 (.cons (.v 3) (.cons (.v 4) (.cons (.v 7) .nil)))) (.cons (.call 35 (.cons (.v 3) (.cons (.v 6) (.cons (.v 7) .nil)))) .nil)))) .nil)) .nil))) .nil
noncomputable def PJ:B:=.cons (.set (.many [6,7]) (.a4 3 (.v 0) (.cons (.c (.int 2)) .nil))) PH
noncomputable def PK:B:=.cons (.set (.many [3,4,5]) (.sl (.v 1) (.c (.int 1)) .ar)) PJ
theorem PM:aB ["walk","question","names","name","over","inner","more_over","more_inner"] ["walk","question","names"] (ag (aa 51)):=⟨rfl,rfl,rfl,by decide +kernel,rfl,by decide +kernel,by decide +kernel⟩
theorem PN:aH nm 40 ["walk","question","names","name","over","inner","more_over","more_inner"] (ag (aa 51)) (aw (aa 51))=PK:=by kernel_rfl
noncomputable def PQ:B:=(.cons (.set (.one 3) (.ix (.a4 3 (.v 0) (.cons (.c (.int 1)) .nil)) (.c (.int 0)))) (.cons (.ex (.a4 2 (.v 0) (.cons (.ite (.cmp .Is (.v 3) (.c .aj)) (.c .aj) (.op .Add (.sl (.v 1) .ar (.neg (.c (.int 1)))) (.tup (.cons (.v 3) .nil)))) .nil))) .nil))
theorem PR:aB ["walk","question","names","inner"] ["walk","question","names"] (ag (aa 54)):=⟨rfl,rfl,rfl,by decide +kernel,rfl,by decide +kernel,by decide +kernel⟩
theorem PU:aH nm 40 ["walk","question","names","inner"] (ag (aa 54)) (aw (aa 54))=PQ:=by kernel_rfl
def Bt (w:Wo):Sp:=λds M Q _=>∃M0 x a b ws fs p q qd nr,ds=[.ref x,qd,nr]/\M=Wm M0 a b ws (fs++[oD p,oD q])/\Wc (w.ca 0) M0 x a b/\fs.length<1000000/\Q .aj (Wm M0 a b ws (fs++[oD (bu none [p,q])]))
theorem PV (O:Lw w):FO w 33 2 (Bt w):=by
 refine aL O.ok O.hn _ ⟨"both_differences",aa 50,["walk","question","names"]⟩ (by rw[O.hd];rfl) { cs:=[(32,ui)],ms:=[(2,eC w),(3,i' w)] } { cs:=⟨⟨1,by decide,Bp O⟩,trivial⟩,ms:=⟨⟨1,by decide,i9 O⟩,⟨1,by decide,kc O⟩,trivial⟩ } PC PD λds M Q _ h=>?_;obtain⟨M0,x,a,b,ws,fs,p,q,qd,nr,rfl,rfl,W,em,h⟩:=h;have m3:w.ca 0=w.mc 2:=(O.mc _ (by decide)).symm;have m4:w.ca 0=w.mc 3:=(O.mc _ (by decide)).symm;obtain⟨dx,hx⟩:=W.gx (ws:=ws) (fs:=fs++[oD p,oD q]);obtain⟨dy,hy⟩:=W.gx (ws:=ws) (fs:=fs);refine⟨rfl,_,dx,_,hx,m3,bD (by decide +kernel) (by decide +kernel),_,dx,_,hx,m4,bD (by decide +kernel) (by decide +kernel),x,a,b,dx,2,fs,[oD p,oD q],rfl,hx,Wm.gb,rfl,by decide,?_⟩;rw[Wm.pb];refine⟨[p,q],rfl,(by decide:2<100),x,a,b,dy,_,fs,rfl,hy,Wm.gb,Ys em (by decide),?_⟩;rw[Wm.pb];exact ak h
def Bu (w:Wo):Sp:=λds M Q _=>∃M0 x a b ws fs y qa qb p q nr,ds=[.ref x,qD (.for y qa qb),nr]/\M=Wm M0 a b ws (fs++[oD p,oD q])/\Wc (w.ca 0) M0 x a b/\fs.length<1000000/\Q .aj (Wm M0 a b ws (fs++[oD (bu none [mf y p (some qb),mf y (some qa) q,mf y p q])]))
theorem PX (O:Lw w):FO w 34 3 (Bu w):=by
 refine aL O.ok O.hn _ ⟨"for_differences",aa 51,["walk","question","names"]⟩ (by rw[O.hd];rfl) { cs:=[(32,ui),(35,Bq)],ms:=[(2,eC w),(3,i' w)] } { cs:=⟨⟨1,by decide,Bp O⟩,⟨2,by decide,Pz O⟩,trivial⟩,ms:=⟨⟨1,by decide,i9 O⟩,⟨1,by decide,kc O⟩,trivial⟩ } PM PN λds M Q _ h=>?_;obtain⟨M0,x,a,b,ws,fs,y,qa,qb,p,q,nr,rfl,rfl,W,em,h⟩:=h;have m3:w.ca 0=w.mc 2:=(O.mc _ (by decide)).symm;have m4:w.ca 0=w.mc 3:=(O.mc _ (by decide)).symm;obtain⟨dx,hx⟩:=W.gx (ws:=ws) (fs:=fs++[oD p,oD q]);obtain⟨dy,hy⟩:=W.gx (ws:=ws) (fs:=fs);refine⟨rfl,rfl,_,dx,_,hx,m4,bD (by decide +kernel) (by decide +kernel),x,a,b,dx,2,fs,[oD p,oD q],rfl,hx,Wm.gb,rfl,by decide,?_⟩;rw[Wm.pb];refine⟨rfl,_,dy,_,hy,m3,bD (by decide +kernel) (by decide +kernel),y,p,some qb,rfl,y,some qa,q,rfl,y,p,q,rfl,l3,.inl ⟨[mf y p (some qb),mf y (some qa) q,mf y p q],rfl,(by decide:3<100),x,a,b,dy,_,fs,rfl,hy,Wm.gb,Ys em (by decide),?_⟩⟩;rw[Wm.pb];exact ak h
def Wr (q:Qn) (f:Qn->Qn):Prop:=(∃i r,q=.times i r/\f=.times i)\/(∃c r,q=.aU c r/\f=.aU c)\/∃y r s,q=.let y r s/\f=.let y r
def Bv (w:Wo):Sp:=λds M Q _=>∃M0 x a b ws fs q f o nr,ds=[.ref x,qD q,nr]/\Wr q f/\M=Wm M0 a b ws (fs++[oD o])/\Wc (w.ca 0) M0 x a b/\fs.length<1000000/\Q .aj (Wm M0 a b ws (fs++[oD (o.map f)]))
theorem PY (O:Lw w):FO w 36 2 (Bv w):=by
 refine aL O.ok O.hn _ ⟨"wrap",aa 54,["walk","question","names"]⟩ (by rw[O.hd];rfl) { cs:=[],ms:=[(2,eC w),(3,i' w)] } { cs:=trivial,ms:=⟨⟨1,by decide,i9 O⟩,⟨1,by decide,kc O⟩,trivial⟩ } PR PU λds M Q _ h=>?_;obtain⟨M0,x,a,b,ws,fs,q,f,o,nr,rfl,wr,rfl,W,em,h⟩:=h;have m3:w.ca 0=w.mc 2:=(O.mc _ (by decide)).symm;have m4:w.ca 0=w.mc 3:=(O.mc _ (by decide)).symm;obtain⟨dx,hx⟩:=W.gx (ws:=ws) (fs:=fs++[oD o]);obtain⟨dy,hy⟩:=W.gx (ws:=ws) (fs:=fs);refine⟨rfl,_,dx,_,hx,m4,bD (by decide +kernel) (by decide +kernel),x,a,b,dx,1,fs,[oD o],rfl,hx,Wm.gb,rfl,by decide,?_⟩;rw[Wm.pb];refine⟨_,rfl,_,dy,_,hy,m3,bD (by decide +kernel) (by decide +kernel),?_⟩;have fin:∀d,d=oD (o.map f)->eC w [.ref x,d] (Wm M0 a b ws fs) (λ_ M1=>(aS Q).nx [some (.ref x),some (qD q),some nr,some (oD o)] M1) X0:=by
  rintro d rfl;refine⟨x,a,b,dy,_,fs,rfl,hy,Wm.gb,Ys em (by decide),?_⟩;rw[Wm.pb];exact ak h
 cases o with
 |none=>exact fin .aj rfl
 |some t=>
  obtain⟨r,hr⟩:=cG t;have e:oD (some t)=.tup (.str (wd t)::r):=hr;have fin:∀d,d=qD (f t)->eC w [.ref x,d] (Wm M0 a b ws fs) (λ_ M1=>(aS Q).nx [some (.ref x),some (qD q),some nr,some (oD (some t))] M1) X0:=fin;rw[e]at fin ⊢;rcases wr with ⟨i,s,rfl,rfl⟩ |⟨c,s,rfl,rfl⟩ |⟨y,s,u,rfl,rfl⟩
  ·exact⟨l1,l3,fin _ (by rw[qD,hr];rfl)⟩
  ·exact⟨l1,l3,fin _ (by rw[qD,hr];rfl)⟩
  ·exact⟨l1,l4,fin _ (by rw[qD,hr];rfl)⟩
variable {w:Wo}
mutual
noncomputable def aE (nv:Nv):Qn->Qn
 |.tab x=>match bz x nv with
  |some y=>.both (.tab x) (.tab y)
  |none=>.tab x
 |.row fs=>.row (gB nv fs)
 |.at f q=>.at f (aE nv q)
 |.one q=>.one (aE nv q)
 |.times i q=>.times i (aE nv q)
 |.not q=>.not (aE nv q)
 |.add a b=>.add (aE nv a) (aE nv b)
 |.mul a b=>.mul (aE nv a) (aE nv b)
 |.both a b=>.both (aE nv a) (aE nv b)
 |.for y a b=>.for y (aE nv a) (aE nv b)
 |.aU a b=>.aU (aE nv a) (aE nv b)
 |.let y a b=>.let y (aE nv a) (aE nv b)
 |.same a b=>.same (aE nv a) (aE nv b)
 |.under a b=>.under (aE nv a) (aE nv b)
 |.and a b=>.and (aE nv a) (aE nv b)
 |.or a b=>.or (aE nv a) (aE nv b)
 |.num i=>.num i |.word s=>.word s |.var s=>.var s |.none k=>.none k
noncomputable def gB (nv:Nv):List (Str×Qn)->List (Str×Qn)
 |[]=>[]
 |(f,q)::r=>(f,aE nv q)::gB nv r
end
noncomputable def fj (nv:Nv) (q:Qn):Qn:=.both (aE nv q) (.times (-1) q)
theorem Bw (nv:Nv):∀fs:List (Str×Qn),gB nv fs=fs.map λp=>(p.1,aE nv p.2)
 |[]=>by rw[gB];rfl
 |(f,q)::r=>by rw[gB,Bw nv r];rfl
theorem z0:decide (((0:Nat):Int)=0)=true:=rfl
theorem z1:¬decide (((1:Nat):Int)=0)=true:=by decide
theorem z2:¬decide (((2:Nat):Int)=0)=true:=by decide
noncomputable def PZ:B:=.cons (.ret (.op .Add (.sl (.v 0) .ar (.neg (.bi .len (.cons (.v 1) .nil)))) (.bi .tuple (.cons (.v 1) .nil)))) .nil
noncomputable def P0:B:=.cons (.cond (.cmp .Eq (.bi .len (.cons (.v 1) .nil)) (.c (.int 0))) (.cons (.ret (.v 0)) .nil) .nil) PZ
noncomputable def P1:B:=.cons (.cond (.cmp .Eq (.ix (.v 0) (.c (.int 0))) (.c (.str "row"))) (.cons (.ret (.tup (.cons (.c (.str "row")) (.cons (.bi .tuple (.cons (.lc 2 [] (.many [0,1]) (.zip (.ix (.v 0) (.c (.int 1))) (.v 1)) .ar (.tup (.cons (.ix (.v 0) (.c (.int 0))) (.cons (.v 1) .nil)))) .nil)) .nil)))) .nil) .nil) P0
theorem P2:aB ["question","parts"] ["question","parts"] (ag (aa 7)):=⟨rfl,rfl,rfl,by decide +kernel,rfl,by decide +kernel,by decide +kernel⟩
theorem P4:aH nm 40 ["question","parts"] (ag (aa 7)) (aw (aa 7))=P1:=by kernel_rfl
def ph:Sp:=λds M Q _=>∃q nv,ds=[qD q,.lst (((us q).map (aE nv)).map qD)]/\(∀x,q=.tab x->bz x nv=none)/\(us q).length<100/\Q (qD (aE nv q)) M
theorem P5 (O:Lw w):FO w 1 1 ph:=by
 refine aL O.ok O.hn _ ⟨"with_under",aa 7,["question","parts"]⟩ (by rw[O.hd];rfl) {} { cs:=trivial } P2 P4 λds M Q _ h=>?_;obtain⟨q,nv,rfl,ht,hl,h⟩:=h;cases q with
 |row fs=>
  refine⟨rfl,_,rfl,au (aY (by decide) ⟨_,rfl,?_⟩)⟩;have e:(((us (.row fs)).map (aE nv)).map qD)=fs.map λp=>qD (aE nv p.2):=by rw[us,YI,YI];rfl
  have hf:fs.length<100:=by simpa [us] using hl
  rw[aE,qD,Bw,mi,YI]at h;have key:∀ds,ds=(fs.map λp=>qD (aE nv p.2))->c7 (λM=>True/\True) (.many [0,1]) gO (E.w ({}:a0 w).wd nm.af (.tup (.cons (.ix (.v 0) (.c (.int 0))) (.cons (.v 1) .nil)))).1 [none,none] (λys M2=>bZ ys M2 λd M3=>qM [d] M3 λd WS=>2<=sizeLine/\a6 Q (.tup [.str "row",d]) WS) (List.zipWith (λx y=>D.tup [x,y]) (a9 fs) ds) [] M:=by
   rintro _ rfl;rw[mi,o8];have UE:fs.zip fs=fs.map λp=>(p,p):=by
    clear h hf hl e ht
    induction fs with
    |nil=>rfl
    |cons p r ih=>rw[YN,ih];rfl
   rw[UE,YI];refine iY (λp:Str×Qn=>.tup [.tup [.str p.1,qD p.2],qD (aE nv p.2)]) (λp=>.tup [.str p.1,qD (aE nv p.2)]) fs ⟨trivial,trivial⟩ (Ys hf (by decide)) (λp _ N hN=>?_) ?_
   ·exact⟨rfl,_,rfl,l2,hN⟩
   ·exact .inl ⟨l2,ak h⟩
  exact key _ e
 |tab x=>
  have hx:=ht x rfl;have e:aE nv (.tab x)=.tab x:=by rw[aE,hx]
  rw[e]at h;exact⟨rfl,_,rfl,au (ay (by decide) (bB (aY z0 (ak h))))⟩
 |num i=>exact⟨rfl,_,rfl,au (ay (by decide) (bB (aY z0 (ak h))))⟩
 |word s=>exact⟨rfl,_,rfl,au (ay (by decide) (bB (aY z0 (ak h))))⟩
 |var s=>exact⟨rfl,_,rfl,au (ay (by decide) (bB (aY z0 (ak h))))⟩
 |none k=>exact⟨rfl,_,rfl,au (ay (by decide) (bB (aY z0 (ak h))))⟩
 | «at» f q=>exact⟨rfl,_,rfl,au (ay (by decide) (bB (ay z1 ⟨l3,ak h⟩)))⟩
 |one q=>exact⟨rfl,_,rfl,au (ay (by decide) (bB (ay z1 ⟨l2,ak h⟩)))⟩
 |times i q=>exact⟨rfl,_,rfl,au (ay (by decide) (bB (ay z1 ⟨l3,ak h⟩)))⟩
 |not q=>exact⟨rfl,_,rfl,au (ay (by decide) (bB (ay z1 ⟨l2,ak h⟩)))⟩
 | «for» y a b=>exact⟨rfl,_,rfl,au (ay (by decide) (bB (ay z2 ⟨l4,ak h⟩)))⟩
 | «let» y a b=>exact⟨rfl,_,rfl,au (ay (by decide) (bB (ay z2 ⟨l4,ak h⟩)))⟩
 |_=>exact⟨rfl,_,rfl,au (ay (by decide) (bB (ay z2 ⟨l3,ak h⟩)))⟩
noncomputable def uj:B:=(.cons (.cond (.and (.cmp .Eq (.ix (.v 0) (.c (.int 0))) (.c (.str "table"))) (.cmp .In (.ix (.v 0) (.c (.int 1))) (.v 2))) (.cons (.ret (.tup (.cons (.c (.str "both")) (.cons (.v 0) (.cons (.tup (.cons (.c (.str "table")) (.cons (.ix (.v 2) (.ix (.v 0) (.c (.int 1)))) .nil))) .nil))))) .nil) .nil) (.cons (.ret (.call 1 (.cons (.v 0) (.cons (.v 1) .nil)))) .nil))
def mv (v:D):Sp:=λds M Q _=>∃q nv,v=dD (aC nv)/\ds=[qD q,.lst (((us q).map (aE nv)).map qD)]/\(us q).length<100/\Q (qD (aE nv q)) M
theorem P6 {q:Qn}{nv:Nv}{M:Mp}{Q:QK} (hl:(us q).length<100) (h:Q (qD (aE nv q)) M):B.w ({ cs:=[(1,ph)] }:a0 w).wd nm.af uj (aS Q) [some (qD q),some (.lst (((us q).map (aE nv)).map qD)),some (dD (aC nv))] M:=by
 by_cases hq:∃x,q=.tab x
 ·obtain⟨x,rfl⟩:=hq;refine⟨_,rfl,au (aY (by decide) ⟨_,rfl,ma ?_⟩)⟩;rw[fR,Option.isSome_map];cases e:bz x nv with
  |none=>exact⟨.tab x,nv,rfl,λy z=>by cases z;exact e,hl,ak h⟩
  |some y=>
   rw[aE,e]at h;exact⟨_,rfl,l9 (d:=.str y) (by rw[fR,e];rfl) ⟨l2,l3,ak h⟩⟩
 ·obtain⟨r,e⟩:=cG q;have hd:=tT λx z=>hq ⟨x,z⟩;have key:∀ z,z=qD q->B.w ({ cs:=[(1,ph)] }:a0 w).wd nm.af uj (aS Q) [some z,some (.lst (((us q).map (aE nv)).map qD)),some (dD (aC nv))] M:=by
   intro z hz;have hz':=hz.trans e;subst hz';exact⟨_,c9,au (dz hd ⟨q,nv,by rw[e];rfl,λy z=>absurd ⟨y,z⟩ hq,hl,ak h⟩)⟩
  exact key _ rfl
noncomputable def uI (w:Wo) (q:Qn) (r:D):D:=.tup [w.gv.getD 11 .aj,qD q,r]
noncomputable def Ux (w:Wo) (q:Qn) (r:D):D:=.tup [w.gv.getD 12 .aj,qD q,r]
noncomputable def P7:B:=(.cons (.ex (.a4 1 (.v 0) (.cons (.g 12) (.cons (.v 1) (.cons (.v 2) .nil))))) (.cons (.loop (.one 3) (.oi (.call 0 (.cons (.v 1) .nil))) (.cons (.ex (.a4 1 (.v 0) (.cons (.g 11) (.cons (.v 3) (.cons (.v 2) .nil))))) .nil)) .nil))
theorem P8:aB ["walk","question","told_of","part"] ["walk","question","told_of"] (ag (aa 13)):=⟨rfl,rfl,rfl,by decide +kernel,rfl,by decide +kernel,by decide +kernel⟩
theorem P9:aH nm 40 ["walk","question","told_of","part"] (ag (aa 13)) (aw (aa 13))=P7:=by kernel_rfl
noncomputable def P':B:=(.cons (.ex (.a4 2 (.v 0) (.cons (.app (.v 2) (.cons (.v 1) (.cons (.a4 3 (.v 0) (.cons (.bi .len (.cons (.call 0 (.cons (.v 1) .nil)) .nil)) .nil)) .nil))) .nil))) .nil)
theorem Qa:aB ["walk","question","told_of"] ["walk","question","told_of"] (ag (aa 14)):=⟨rfl,rfl,rfl,by decide +kernel,rfl,by decide +kernel,by decide +kernel⟩
theorem Qb:aH nm 40 ["walk","question","told_of"] (ag (aa 14)) (aw (aa 14))=P':=by kernel_rfl
noncomputable def Qc:B:=.cons (.ret (.a4 4 (.v 2) .nil)) .nil
noncomputable def Qd:B:=.cons (.ex (.a4 1 (.v 2) (.cons (.g 11) (.cons (.v 0) (.cons (.v 1) .nil))))) Qc
noncomputable def Qe:B:=.cons (.set (.one 2) (.new 0 .nil)) Qd
theorem Qf:aB ["question","told_of","walk"] ["question","told_of"] (ag (aa 12)):=⟨rfl,rfl,rfl,by decide +kernel,rfl,by decide +kernel,by decide +kernel⟩
theorem Qg:aH nm 40 ["question","told_of","walk"] (ag (aa 12)) (aw (aa 12))=Qe:=by kernel_rfl
def Bx (w:Wo):Sp:=λds M Q _=>∃M0 x a b ws fs q r,ds=[.ref x,qD q,r]/\M=Wm M0 a b ws fs/\Wc (w.ca 0) M0 x a b/\ws.length<1000000/\(us q).length<100/\Q .aj (Wm M0 a b (ws++[Ux w q r]++((us q).map λp=>uI w p r).reverse) fs)
theorem Qh (O:Lw w):FO w 5 2 (Bx w):=by
 refine aL O.ok O.hn _ ⟨"unfold",aa 13,["walk","question","told_of"]⟩ (by rw[O.hd];rfl) { cs:=[(0,kb)],ms:=[(1,fM w)] } { cs:=⟨⟨1,by decide,mj O⟩,trivial⟩,ms:=⟨⟨1,by decide,i8 O⟩,trivial⟩ } P8 P9 λds M Q _ h=>?_;obtain⟨M0,x,a,b,ws,fs,q,r,rfl,rfl,W,ke,hu,h⟩:=h;have m2:w.ca 0=w.mc 1:=(O.mc _ (by decide)).symm;obtain⟨dx,hx⟩:=W.gx (ws:=ws) (fs:=fs);refine⟨rfl,_,dx,_,hx,m2,bD (by decide +kernel) (by decide +kernel),x,a,b,dx,_,_,_,ws,rfl,hx,W.ga,Ys ke (by decide),?_⟩;rw[W.pa];refine⟨q,rfl,hu,?_⟩;refine ey (λxs τ M'=>∃rest done v,us q=rest++done/\xs=(rest.map qD).reverse/\τ=[some (.ref x),some (qD q),some r,v]/\M'=Wm M0 a b (ws++[Ux w q r]++(done.map λp=>uI w p r).reverse) fs) ?_ ?_ _ _ _ ⟨us q,[],none,by simp,rfl,rfl,by rw[YA,List.reverse_nil,XX];rfl⟩
 ·rintro τ M' ⟨rest,done,v,e1,e2,rfl,rfl⟩;have:rest=[]:=by
   have:=congrArg List.length e2;simpa using this.symm
  subst this;rw[List.nil_append]at e1;rw[e1]at h;exact⟨trivial,.rfl (ak h)⟩
 ·rintro y xs τ M' ⟨rest,done,v,e1,e2,rfl,rfl⟩;refine⟨trivial,?_⟩;rcases ZD rest with z |⟨r',q',z⟩
  ·subst z;cases e2
  subst z;rw[Zk]at e1 e2;rw[XZ,XJ,YA,List.reverse_append]at e2;cases e2;have hlen:(us q).length=r'.length+1+done.length:=by rw[e1];simp;lia
  obtain⟨dy,hy⟩:=W.gx (ws:=ws++[Ux w q r]++(done.map λp=>uI w p r).reverse) (fs:=fs);refine λN hN=>⟨_,dy,_,hy,m2,bD (by decide +kernel) (by decide +kernel),x,a,b,dy,_,_,_,_,rfl,hy,W.ga,XN (by simp;lia:_<=2000000) (by decide),hN _ _ ⟨r',q'::done,_,by rw[e1];simp,rfl,rfl,?_⟩⟩;rw[W.pa,XJ,YX,<- Ye];rfl
def By (w:Wo) (f:Addr) (nv:Nv):Sp:=λds M Q _=>∃M0 x a b ws fs q,ds=[.ref x,qD q,.ref f]/\M=Wm M0 a b ws (fs++((us q).map (aE nv)).map qD)/\Wc (w.ca 0) M0 x a b/\fs.length<1000000/\(us q).length<100/\Q .aj (Wm M0 a b ws (fs++[qD (aE nv q)]))
theorem Qi (O:Lw w) {f:Addr}{nv:Nv} (hf:cP w.G 2 f (mv (dD (aC nv)))):FO w 6 3 (By w f nv):=by
 refine aL O.ok O.hn _ ⟨"fold",aa 14,["walk","question","told_of"]⟩ (by rw[O.hd];rfl) { cs:=[(0,kb)],ms:=[(2,eC w),(3,i' w)],ca:=λg sp=>g=f/\sp=mv (dD (aC nv)) } { cs:=⟨⟨1,by decide,mj O⟩,trivial⟩,ms:=⟨⟨1,by decide,i9 O⟩,⟨1,by decide,kc O⟩,trivial⟩,ca:=?_ } Qa Qb λds M Q _ h=>?_
 ·rintro g sp ⟨rfl,rfl⟩;exact hf
 obtain⟨M0,x,a,b,ws,fs,q,rfl,rfl,W,em,hu,h⟩:=h;have m3:w.ca 0=w.mc 2:=(O.mc _ (by decide)).symm;have m4:w.ca 0=w.mc 3:=(O.mc _ (by decide)).symm;obtain⟨dx,hx⟩:=W.gx (ws:=ws) (fs:=fs++((us q).map (aE nv)).map qD);obtain⟨dy,hy⟩:=W.gx (ws:=ws) (fs:=fs);refine⟨rfl,_,dx,_,hx,m3,bD (by decide +kernel) (by decide +kernel),_,⟨rfl,rfl⟩,_,dx,_,hx,m4,bD (by decide +kernel) (by decide +kernel),q,rfl,hu,x,a,b,dx,_,fs,((us q).map (aE nv)).map qD,rfl,hx,Wm.gb,by simp,by simp;lia,?_⟩;rw[Wm.pb];refine⟨q,nv,rfl,rfl,hu,x,a,b,dy,_,fs,rfl,hy,Wm.gb,Ys em (by decide),?_⟩;rw[Wm.pb];exact ak h
def mw (w:Wo) (f:Addr) (nv:Nv) (g:Addr) (sp:Sp):Prop:=(g=bc w "unfold"/\sp=Bx w)\/(g=bc w "fold"/\sp=By w f nv)
theorem Qj (O:Lw w) {q:Qn}{r:D}:uI w q r=.tup [.ref (bc w "unfold"),qD q,r]:=by unfold uI;rw[O.VE]
theorem Qk (O:Lw w) {q:Qn}{r:D}:Ux w q r=.tup [.ref (bc w "fold"),qD q,r]:=by unfold Ux;rw[O.go]
theorem Bz (O:Lw w) {f:Addr}{nv:Nv}{M0:Mp}{x a b:Addr} (W:Wc (w.ca 0) M0 x a b) {e:En}:∀ (m:Nat) (q:Qn),nq q<=m->wq q->∀ {n:Nat}{ws fs:List D},ws.length+110 * dn q<900000->fs.length+110 * dn q<900000 ->
  Lp w (mw w f nv) e n x (Wm M0 a b ws (fs++[qD (aE nv q)]))->Lp w (mw w f nv) e (n+2 * nq q) x (Wm M0 a b (ws++[uI w q (.ref f)]) fs)
 | 0,q,h,_,_,_,_,_,_,_=>by rw[jc]at h;lia
 |m+1,q,h,hw,n,ws,fs,lw,lf,k=>by
  obtain⟨hu,ke⟩:=pf hw;have hd:=mm q;rw[jc]at h ⊢;rw[show n+2 * (1+bN (us q))=(n+1+2 * bN (us q))+1 by lia,Qj O];refine b8 O (.inl ⟨rfl,rfl⟩) W λQ hQ=>⟨M0,x,a,b,ws,fs,q,_,rfl,rfl,W,by lia,hu,hQ _ _ ?_⟩;have list:∀ (qs:List Qn),bN qs<=m->(∀ p∈qs,wq p)->∀ {n:Nat}{ws fs:List D},ws.length+qs.length+110 * fQ qs<900000->fs.length+qs.length+110 * fQ qs<900000 ->
    Lp w (mw w f nv) e n x (Wm M0 a b ws (fs++(qs.map (aE nv)).map qD))->Lp w (mw w f nv) e (n+2 * bN qs) x (Wm M0 a b (ws++(qs.map λp=>uI w p (.ref f)).reverse) fs):=by
   intro qs
   induction qs with
   |nil=>intro _ _ n ws fs _ _ k;rw[YA,YA,XX]at k;rw[YA,List.reverse_nil,XX];exact k
   |cons p r ih=>
    intro hm AT n ws fs lw lf k;rw[bN]at hm;rw[fQ,XI]at lw lf;have n1:=jc p;rw[XJ,YX,<- Ye,bN,show n+2 * (nq p+bN r)=(n+2 * bN r)+2 * nq p by lia];refine Bz O W m p (by lia) (AT p XH) (by simp;lia) (by lia) ?_;refine ih (by lia) (λz hz=>AT z (XF _ hz)) (by lia) (by simp;lia) ?_;rw[Ye];exact k
  refine list (us q) (by lia) ke (by simp;lia) (by lia) ?_;rw[Qk O];exact b8 O (.inr ⟨rfl,rfl⟩) W λQ hQ=>⟨M0,x,a,b,ws,fs,q,rfl,rfl,W,by lia,hu,hQ _ _ k⟩
def BA (w:Wo) (f:Addr) (nv:Nv):Sp:=λds M Q _=>∃M0 x a b q,ds=[.ref x]/\M=Wm M0 a b [uI w q (.ref f)] []/\Wc (w.ca 0) M0 x a b/\wq q/\dn q<500/\Q (qD (aE nv q)) (Wm M0 a b [] [])
theorem Ql (O:Lw w) {f:Addr}{nv:Nv} (hf:cP w.G 2 f (mv (dD (aC nv)))):dt w 4 4 (BA w f nv):=by
 refine iW O.ok O.hn _ ⟨"run",(bx (aa 11) 4),["self"]⟩ (by rw[O.hms];rfl) (Uv w (mw w f nv)) { cs:=trivial,ca:=?_ } tZ t4 λds M Q _ h=>?_
 ·rintro g sp (⟨rfl,rfl⟩ |⟨rfl,rfl⟩)
  ·exact FO.cq ((Qh O).mono (by decide)) (d:=⟨"unfold",aa 13,["walk","question","told_of"]⟩) (by rw[O.hd];rfl)
  ·exact FO.cq (Qi O hf) (d:=⟨"fold",aa 14,["walk","question","told_of"]⟩) (by rw[O.hd];rfl)
 obtain⟨M0,x,a,b,q,rfl,rfl,W,hw,hd,h⟩:=h;refine⟨rfl,1+2 * nq q,?_⟩;refine Bz O W (nq q) q (XC _) hw (ws:=[]) (fs:=[]) (n:=1) (by simp;lia) (by simp;lia) (t6 O W λ_ _ _=>?_) _ _ _;obtain⟨dx,hx⟩:=W.gx (ws:=[]) (fs:=[]++[qD (aE nv q)]);refine⟨_,dx,_,hx,.ref b,O.T7,rfl,.inl ⟨rfl,_,Wm.gb⟩,_,Wm.gb,qD (aE nv q),rfl,?_⟩;rw[Wm.pb];exact ak h
def Qm (f:Addr) (nv:Nv):Sp:=λds M Q _=>∃q,ds=[qD q,.ref f]/\wq q/\dn q<500/\Q (qD (aE nv q)) M
theorem Qo (O:Lw w) {f:Addr}{nv:Nv} (hf:cP w.G 2 f (mv (dD (aC nv)))):FO w 4 5 (Qm f nv):=by
 refine aL O.ok O.hn _ ⟨"folded",aa 12,["question","told_of"]⟩ (by rw[O.hd];rfl) { ms:=[(1,fM w),(4,BA w f nv)],ci:=[(0,0,o7 w)] } { cs:=trivial,ms:=⟨⟨1,by decide,i8 O⟩,⟨4,by decide,Ql O hf⟩,trivial⟩,ci:=⟨⟨O.mc _ (by decide),by rw[O.hms];rfl,1,by decide,tQ O⟩,trivial⟩ } Qf Qg λds M Q _ h=>?_;obtain⟨q,rfl,hw,hd,h⟩:=h;have m2:w.ca 0=w.mc 1:=(O.mc _ (by decide)).symm;have m5:w.ca 0=w.mc 4:=(O.mc _ (by decide)).symm;refine⟨rfl,λx dx hx mo nd=>⟨x,dx,rfl,av,λa b ha hb ne=>⟨rfl,?_⟩⟩⟩;obtain⟨sb,W⟩:=t9 (i1:=[("waiting",.ref a),("found",.ref b)]) (ws:=[]) (fs:=[]) hx mo ha hb nd ne;obtain⟨dy,hy⟩:=W.gx (ws:=[]) (fs:=[]);refine⟨_,dy,_,hy,m2,bD (by decide +kernel) (by decide +kernel),x,a,b,dy,_,_,_,[],rfl,hy,W.ga,by decide,?_⟩;rw[W.pa];obtain⟨Uw,hz⟩:=W.gx (ws:=[]++[.tup [w.gv.getD 11 .aj,qD q,.ref f]]) (fs:=[]);exact⟨_,Uw,_,hz,m5,bD (by decide +kernel) (by decide +kernel),_,x,a,b,q,rfl,rfl,W,hw,hd,l0 sb h⟩
noncomputable def Qp:Expr:=pB.es.headD (.Name "" ⟨0,0,0,0⟩)
theorem Qq:aw (aa 56)=[.FunctionDef pB.name pB.params pB.body [] none [] pB.scope none pB.name pB.np,.Return (some (.Call (.Name pB.g pB.gp) (Qp::pB.es.tail) [] pB.TP)) pB.rp]:=by kernel_rfl
theorem Qr:aB ["question","names","put"] ["question","names"] (ag (aa 56)):=⟨rfl,rfl,rfl,by decide +kernel,rfl,by decide +kernel,by decide +kernel⟩
def BB:Sp:=λds M Q _=>∃q nv,ds=[qD q,dD (aC nv)]/\wq q/\dn q<500/\Q (qD (aE nv q)) M
theorem Qs (O:Lw w):FO w 38 6 BB:=by
 refine JU O.ok O.hn (kp:=1) (n:=40) (np:=40) (j:=2) (ci:=1) (ns:=["question","names","put"]) (g7:=["part","below"]) (ls:=[]) (x:="names") (b:=uj) (t:=.cons (.v 0) (.cons (.v 2) .nil)) (lY:=mv) 38 4 ⟨"behind",aa 56,["question","names"]⟩ (by rw[O.hd];rfl) Qq (λf fd q=>O.UU f fd q) {} { cs:=trivial } Qr (by kernel_rfl) (by kernel_rfl) (by decide) rfl (by decide) (by kernel_rfl)
  (λ_ _ _ _=>rfl) (λ_ _ _ _=>rfl) (λ_=>rfl) (by kernel_rfl) (by kernel_rfl) (λ_=>by kernel_rfl) (by kernel_rfl) (by kernel_rfl) (by kernel_rfl) (by kernel_rfl) (by kernel_rfl) ⟨by kernel_rfl,by kernel_rfl,by kernel_rfl,by decide +kernel,by decide +kernel,by decide +kernel,by decide +kernel⟩ (by decide +kernel) (λq clos doc pm c ctv K=>bT.all λus h=>?_) (by kernel_rfl) (λe v l=>⟨{ cs:=[(1,ph)] },{ cs:=⟨⟨1,by decide,P5 (O.at l)⟩,trivial⟩ },λds M Q E hs=>?_⟩) λds M Q E hs=>?_
 ·match us,h with
  |[_,_],_=>rfl
 ·obtain⟨q,nv,rfl,rfl,hu,h⟩:=hs;exact⟨rfl,P6 (w:=w.at e) hu h⟩
 ·obtain⟨q,nv,rfl,hw,hd,h⟩:=hs;exact⟨rfl,λf e v l Ua hh=>by
   cases Ua;exact⟨_,Qo (O.at l) hh,q,rfl,hw,hd,ak h⟩⟩
noncomputable def Qt:B:=(.cons (.ret (.tup (.cons (.c (.str "both")) (.cons (.call 38 (.cons (.v 0) (.cons (.v 1) .nil))) (.cons (.tup (.cons (.c (.str "times")) (.cons (.neg (.c (.int 1))) (.cons (.v 0) .nil)))) .nil))))) .nil)
theorem Qu:aB ["question","names"] ["question","names"] (ag (aa 55)):=⟨rfl,rfl,rfl,by decide +kernel,rfl,by decide +kernel,by decide +kernel⟩
theorem Qv:aH nm 40 ["question","names"] (ag (aa 55)) (aw (aa 55))=Qt:=by kernel_rfl
def BC:Sp:=λds M Q _=>∃q nv,ds=[qD q,dD (aC nv)]/\wq q/\dn q<500/\Q (qD (fj nv q)) M
theorem Qw (O:Lw w):FO w 37 7 BC:=by
 refine aL O.ok O.hn _ ⟨"behind_less_ahead",aa 55,["question","names"]⟩ (by rw[O.hd];rfl) { cs:=[(38,BB)] } { cs:=⟨⟨6,by decide,Qs O⟩,trivial⟩ } Qu Qv λds M Q _ h=>?_;obtain⟨q,nv,rfl,hw,hd,h⟩:=h;exact⟨rfl,q,nv,rfl,hw,hd,l3,l3,ak h⟩
variable {w:Wo}
theorem hR {W:Wd}{mn:List Str}{s:S}{r:B}{e:En} {τ:St} {M:Mp} (h:S.w W mn s { e with nx:=B.w W mn r e } τ M):B.w W mn (.cons s r) e τ M:=by cases r <;> exact h
section
variable {e:En} {τ:St} {M0:Mp}{x a b:Addr}{ws fs:List D}
theorem uk (O:Lw w) {c:a0 w} (hm:gu c.ms 2=some (eC w)) {f:E}{r:B}{d:D} (W:Wc (w.ca 0) M0 x a b) (h0:∀ k:QK,k (.ref x) (Wm M0 a b ws fs)->bY 0 τ (Wm M0 a b ws fs) k) (hl:fs.length<1000000) (hf:∀ k:QK,k d (Wm M0 a b ws fs)->(f.w c.wd nm.af).1 τ (Wm M0 a b ws fs) k) (h:B.w c.wd nm.af r e τ (Wm M0 a b ws (fs++[d]))) :
  B.w c.wd nm.af (.cons (.ex (.a4 2 (.v 0) (.cons f .nil))) r) e τ (Wm M0 a b ws fs):=by
 refine hR ?_;show mW (r8 ((gu c.ms 2).map λsp=>(w.mc 2,sp)) (nm.af.getD 2 "") (bY 0) (fx (f.w c.wd nm.af).1 eK)) { e with nx:=B.w c.wd nm.af r e } τ (Wm M0 a b ws fs);rw[hm];obtain⟨dx,hx⟩:=W.gx (ws:=ws) (fs:=fs);refine h0 (λo M1=>cD o M1 λ_ C' _ fs=>C'=w.mc 2/\fs.lookup (nm.af.getD 2 "")=none/\fx (f.w c.wd nm.af).1 eK τ M1 λds M2=>eC w (o::(ds++[])) M2 (λ_ M3=>B.w c.wd nm.af r e τ M3) X0) ⟨_,dx,_,hx,(O.mc _ (by decide)).symm,bD (by decide +kernel) (by decide +kernel),hf _ ⟨x,a,b,dx,d,fs,rfl,hx,Wm.gb,Ys hl (by decide),?_⟩⟩;rw[Wm.pb];exact h
theorem eD (O:Lw w) {c:a0 w} (hm:gu c.ms 1=some (fM w)) {f g i:E}{rr:B}{d s r:D} (W:Wc (w.ca 0) M0 x a b) (h0:∀ k:QK,k (.ref x) (Wm M0 a b ws fs)->bY 0 τ (Wm M0 a b ws fs) k) (hl:ws.length<1000010) (hf:∀ k:QK,k d (Wm M0 a b ws fs)->(f.w c.wd nm.af).1 τ (Wm M0 a b ws fs) k) (hg:∀ k:QK,k s (Wm M0 a b ws fs)->(g.w c.wd nm.af).1 τ (Wm M0 a b ws fs) k) (hi:∀ k:QK,k r (Wm M0 a b ws fs)->(i.w c.wd nm.af).1 τ (Wm M0 a b ws fs) k)
  (h:B.w c.wd nm.af rr e τ (Wm M0 a b (ws++[.tup [d,s,r]]) fs)):B.w c.wd nm.af (.cons (.ex (.a4 1 (.v 0) (.cons f (.cons g (.cons i .nil))))) rr) e τ (Wm M0 a b ws fs):=by
 refine hR ?_;show mW (r8 ((gu c.ms 1).map λsp=>(w.mc 1,sp)) (nm.af.getD 1 "") (bY 0) (fx (f.w c.wd nm.af).1 (fx (g.w c.wd nm.af).1 (fx (i.w c.wd nm.af).1 eK)))) { e with nx:=B.w c.wd nm.af rr e } τ (Wm M0 a b ws fs);rw[hm];obtain⟨dx,hx⟩:=W.gx (ws:=ws) (fs:=fs);refine h0 (λo M1=>cD o M1 λ_ C' _ fs=>C'=w.mc 1/\fs.lookup (nm.af.getD 1 "")=none/\fx (f.w c.wd nm.af).1 (fx (g.w c.wd nm.af).1 (fx (i.w c.wd nm.af).1 eK)) τ M1 λds M2=>fM w (o::(ds++[])) M2 (λ_ M3=>B.w c.wd nm.af rr e τ M3) X0) ⟨_,dx,_,hx,(O.mc _ (by decide)).symm,bD (by decide +kernel) (by decide +kernel),hf _ (hg _ (hi _ ⟨x,a,b,dx,d,s,r,ws,rfl,hx,W.ga,Ys hl (by decide),?_⟩))⟩;rw[W.pa];exact h
end
def Wl (nv:Nv) (q:Qn) (f:Qn->Qn) (r:Qn):Prop:=(∃i,q=.times i r/\f=.times i)\/(∃c,q=.aU c r/\f=.aU c)\/∃y s,q=.let y s r/\f=.let y s/\hs nv s=false
noncomputable def um:B:=(.cons (.set (.one 3) (.ix (.v 1) (.c (.int 0)))) (.cons (.cond (.not (.call 30 (.cons (.v 1) (.cons (.v 2) .nil)))) (.cons (.ex (.a4 2 (.v 0) (.cons (.c .aj) .nil))) .nil) (.cons (.cond (.cmp .Eq (.v 3) (.c (.str "table"))) (.cons (.ex (.a4 2 (.v 0) (.cons (.tup (.cons (.c (.str "table")) (.cons (.ix (.v 2) (.ix (.v 1) (.c (.int 1)))) .nil))) .nil))) .nil) (.cons (.cond (.cmp .In (.v 3) (.tup (.cons (.c (.str "both")) (.cons (.c (.str "for")) .nil)))) (.cons (.ex (.a4 1 (.v 0) (.cons (.ix (.g 5) (.v 3)) (.cons (.v 1) (.cons (.v 2) .nil))))) (.cons (.ex (.a4 1 (.v 0) (.cons (.g 35) (.cons (.ix (.v 1) (.neg (.c (.int 1)))) (.cons (.v 2) .nil))))) (.cons (.ex (.a4 1 (.v 0) (.cons (.g 35) (.cons (.ix (.v 1) (.neg (.c (.int 2)))) (.cons (.v 2) .nil))))) .nil))) (.cons (.cond (.or (.cmp .In (.v 3) (.tup (.cons (.c (.str "times")) (.cons (.c (.str "when")) .nil)))) (.and (.cmp .Eq (.v 3) (.c (.str "let"))) (.not (.call 30 (.cons (.ix (.v 1) (.c (.int 2))) (.cons (.v 2) .nil)))))) (.cons (.ex (.a4 1 (.v 0) (.cons (.g 42) (.cons (.v 1) (.cons (.v 2) .nil))))) (.cons (.ex (.a4 1 (.v 0) (.cons (.g 35) (.cons (.ix (.v 1) (.neg (.c (.int 1)))) (.cons (.v 2) .nil))))) .nil)) (.cons (.ex (.a4 2 (.v 0) (.cons (.call 37 (.cons (.v 1) (.cons (.v 2) .nil))) .nil))) .nil)) .nil)) .nil)) .nil)) .nil))
theorem Qx:aB ["walk","question","names","word"] ["walk","question","names"] (ag (aa 45)):=⟨rfl,rfl,rfl,by decide +kernel,rfl,by decide +kernel,by decide +kernel⟩
theorem Qy:aH nm 40 ["walk","question","names","word"] (ag (aa 45)) (aw (aa 45))=um:=by kernel_rfl
noncomputable def b5 (w:Wo) (q:Qn) (nv:Nv):D:=.tup [w.gv.getD 35 .aj,qD q,dD (aC nv)]
def pj (nv:Nv) (q:Qn):Prop:=wd q≠"table"/\wd q≠"both"/\wd q≠"for"/\wd q≠"times"/\wd q≠"when"/\(wd q≠"let"\/∃y a b,q=.let y a b/\hs nv a=true)
structure Wt (ws fs:List D) (q:Qn) (N:List Str):Prop where
 lw:ws.length+3 * dn q<900000
 lf:fs.length+3 * dn q<900000
 wd:wq q
 n:nq q<1000000
 d:dn q<500
 lN:N.length<64
 t:∀x∈aI q,x∈N
def BD (w:Wo) (nv:Nv) (q:Qn) (ws fs:List D) (K:List D->List D->Prop):Prop:=
  (hs nv q=false/\K ws (fs++[.aj])) \/
   (hs nv q=true/\((∃y z,q=.tab y/\bz y nv=some z/\K ws (fs++[qD (.tab z)])) \/
    (∃f r s,(q=.both r s/\f=bc w "both_differences"\/∃y,q=.for y r s/\f=bc w "for_differences")/\K (ws++[.tup [.ref f,qD q,dD (aC nv)],b5 w s nv,b5 w r nv]) fs) \/
    (∃f r,Wl nv q f r/\K (ws++[.tup [w.gv.getD 42 .aj,qD q,dD (aC nv)],b5 w r nv]) fs) \/
    (pj nv q/\K ws (fs++[qD (fj nv q)]))))
def BE (w:Wo):Sp:=λds M Q _=>∃M0 x a b ws fs q nv N,ds=[.ref x,qD q,dD (aC nv)]/\M=Wm M0 a b ws fs/\Wc (w.ca 0) M0 x a b/\Wt ws fs q N/\BD w nv q ws fs λcU fs'=>Q .aj (Wm M0 a b cU fs')
noncomputable abbrev cu (w:Wo):a0 w:={ cs:=[(30,Bl),(37,BC)],ms:=[(1,fM w),(2,eC w)] }
theorem uo {s t z:Str} (h:z≠s) (h':z≠t):cC (.str z) [D.str s,D.str t]=false:=by
 have e:∀u:Str,z≠u->aD (.str u) (.str z)=false:=λu hu=>by
  show (some z == some u)=false;exact beq_eq_false_iff_ne.mpr λq=>hu (Ym q)
 unfold cC;rw[ZK,ZK,List.any_nil,e s h,e t h'];rfl
theorem eE {s t z:Str}{M:Mp}{k:Bool->Prop}{b:Bool} (hb:cC (.str z) [D.str s,D.str t]=b) (q:k b):dJ (.str z) (.tup [.str s,.str t]) M k:=by
 refine⟨⟨rfl,rfl,by rw[aR,aR,aR,aM,aM];decide,?_⟩⟩;rw[hb];exact q
theorem Qz {c:Bool}{A B:Prop} (h:c=true) (b:A):if c=true then A else B:=by rw[h];exact aY rfl b
theorem BF:(([("both","both_differences"),("for","for_differences")]:List (Str×Str)).map (·.1)).Nodup:=by decide +kernel
theorem QA (O:Lw w):FO w 29 8 (BE w):=by
 refine aL O.ok O.hn _ ⟨"begin_differences",aa 45,["walk","question","names"]⟩ (by rw[O.hd];rfl) (cu w) { cs:=⟨⟨4,by decide,Pj O⟩,⟨7,by decide,Qw O⟩,trivial⟩,ms:=⟨⟨1,by decide,i8 O⟩,⟨1,by decide,i9 O⟩,trivial⟩ } Qx Qy λds M Q _ h=>?_;obtain⟨M0,x,a,b,ws,fs,q,nv,N,rfl,rfl,W,C,h⟩:=h;have lf:fs.length<1000000:=by have:=C.lf;lia
 have lw:=C.lw;obtain⟨r,e⟩:=cG q;have start:∀ z,z=qD q->(hs nv q=true->B.w (cu w).wd nm.af (Kb (ez (a7 um))) (aS Q) [some (.ref x),some z,some (dD (aC nv)),some (.str (wd q))] (Wm M0 a b ws fs))->(hs nv q=false->B.w (cu w).wd nm.af (.cons (.ex (.a4 2 (.v 0) (.cons (.c .aj) .nil))) .nil) (aS Q) [some (.ref x),some z,some (dD (aC nv)),some (.str (wd q))] (Wm M0 a b ws fs)) ->
   [D.ref x,z,dD (aC nv)].length=3/\B.w (cu w).wd nm.af um (aS Q) [some (.ref x),some z,some (dD (aC nv)),none] (Wm M0 a b ws fs):=by
  intro z hz h1 h2;have hz':=hz.trans e;subst hz';refine⟨rfl,_,c9,q,N,nv,by rw[e];rfl,C.wd,C.n,C.lN,C.t,?_⟩;cases hh:hs nv q with
  |true=>exact h1 hh
  |false=>exact h2 hh
 rcases h with ⟨hf,h⟩ |⟨ht,⟨y,z,rfl,hz,h⟩ |⟨f,p,s,hq,h⟩ |⟨f,p,hq,h⟩ |⟨hq,h⟩⟩
 ·exact start _ rfl (λz=>by rw[hf]at z;cases z) λ_=>uk (c:=cu w) O rfl W (λ_ z=>z) lf (λ_ z=>z) (ak h)
 ·refine start _ rfl (λ_=>au (aY (by rw[wd];decide +kernel) ?_)) λz=>by rw[ht]at z;cases z
  exact uk (c:=cu w) O rfl W (λ_ z=>z) lf (d:=qD (.tab z)) (λk hk=>⟨_,rfl,l9 (d:=.str z) (by rw[fR,hz];rfl) ⟨l2,hk⟩⟩) (ak h)
 ·have no:hs nv q=false->False:=λz=>by rw[ht]at z;cases z
  have VR:∀{s g:Str} (Mx:Mp) (k:QK),(s,g)∈([("both","both_differences"),("for","for_differences")]:List (Str×Str))->k (.ref (bc w g)) Mx->aG (w.gv.getD 5 .aj) (.str s) Mx k:=λ{s g} Mx k hm z=>by
   rw[O.gs];exact⟨_,tR BF hm,z⟩
  rcases hq with ⟨rfl,rfl⟩ |⟨y,rfl,rfl⟩
  ·refine start _ rfl (λ_=>au (dz (by rw[wd];decide +kernel) ⟨l2,eE (b:=true) (by rw[wd];decide +kernel) (aY rfl ?_)⟩)) λz=>(no z).elim;refine eD (c:=cu w) O rfl W (λ_ z=>z) (by lia) (λk hk=>VR (s:="both") _ k XH hk) (λk hk=>hk) (λk hk=>hk) ?_;refine eD (c:=cu w) O rfl W (λ_ z=>z) (by simp;lia) (λk hk=>hk) (λk hk=>⟨_,rfl,hk⟩) (λk hk=>hk) ?_;refine eD (c:=cu w) O rfl W (λ_ z=>z) (by simp;lia) (λk hk=>hk) (λk hk=>⟨_,rfl,hk⟩) (λk hk=>hk) (ak ?_);rw[Ye,Ye];exact h
  ·refine start _ rfl (λ_=>au (dz (by rw[wd];decide +kernel) ⟨l2,eE (b:=true) (by rw[wd];decide +kernel) (aY rfl ?_)⟩)) λz=>(no z).elim;refine eD (c:=cu w) O rfl W (λ_ z=>z) (by lia) (λk hk=>VR (s:="for") _ k (XF _ XH) hk) (λk hk=>hk) (λk hk=>hk) ?_;refine eD (c:=cu w) O rfl W (λ_ z=>z) (by simp;lia) (λk hk=>hk) (λk hk=>⟨_,rfl,hk⟩) (λk hk=>hk) ?_;refine eD (c:=cu w) O rfl W (λ_ z=>z) (by simp;lia) (λk hk=>hk) (λk hk=>⟨_,rfl,hk⟩) (λk hk=>hk) (ak ?_);rw[Ye,Ye];exact h
 ·have no:hs nv q=false->False:=λz=>by rw[ht]at z;cases z
  rcases hq with ⟨i,rfl,rfl⟩ |⟨c,rfl,rfl⟩ |⟨y,s,rfl,rfl,fo⟩
  ·refine start _ rfl (λ_=>au (dz (by rw[wd];decide +kernel) ⟨l2,eE (b:=false) (by rw[wd];decide +kernel) (ay (by decide) ⟨l2,eE (b:=true) (by rw[wd];decide +kernel) (aY rfl ?_)⟩)⟩)) λz=>(no z).elim;refine eD (c:=cu w) O rfl W (λ_ z=>z) (by lia) (λk hk=>hk) (λk hk=>hk) (λk hk=>hk) ?_;refine eD (c:=cu w) O rfl W (λ_ z=>z) (by simp;lia) (λk hk=>hk) (λk hk=>⟨_,rfl,hk⟩) (λk hk=>hk) (ak ?_);rw[Ye];exact h
  ·refine start _ rfl (λ_=>au (dz (by rw[wd];decide +kernel) ⟨l2,eE (b:=false) (by rw[wd];decide +kernel) (ay (by decide) ⟨l2,eE (b:=true) (by rw[wd];decide +kernel) (aY rfl ?_)⟩)⟩)) λz=>(no z).elim;refine eD (c:=cu w) O rfl W (λ_ z=>z) (by lia) (λk hk=>hk) (λk hk=>hk) (λk hk=>hk) ?_;refine eD (c:=cu w) O rfl W (λ_ z=>z) (by simp;lia) (λk hk=>hk) (λk hk=>⟨_,rfl,hk⟩) (λk hk=>hk) (ak ?_);rw[Ye];exact h
  ·have n2:=C.n;have w2:=C.wd;have t2:=C.t
   rw[nq]at n2;rw[wq]at w2;rw[aI]at t2;refine start _ rfl (λ_=>au (dz (by rw[wd];decide +kernel) ⟨l2,eE (b:=false) (by rw[wd];decide +kernel) (ay (by decide) ⟨l2,eE (b:=false) (by rw[wd];decide +kernel) (ay (by decide) (au (aY (by rw[wd];decide +kernel) ⟨_,rfl,s,N,nv,rfl,w2.1,by lia,C.lN,λx z=>t2 x (ZM _ z),?_⟩)))⟩)⟩)) λz=>(no z).elim;rw[fo];refine eD (c:=cu w) O rfl W (λ_ z=>z) (by lia) (λk hk=>hk) (λk hk=>hk) (λk hk=>hk) ?_;refine eD (c:=cu w) O rfl W (λ_ z=>z) (by simp;lia) (λk hk=>hk) (λk hk=>⟨_,rfl,hk⟩) (λk hk=>hk) (ak ?_);rw[Ye];exact h
 ·have no:hs nv q=false->False:=λz=>by rw[ht]at z;cases z
  obtain⟨h1,h2,h3,h4,h5,h6⟩:=hq;have fin:∀z,z=qD q->B.w (cu w).wd nm.af (.cons (.ex (.a4 2 (.v 0) (.cons (.call 37 (.cons (.v 1) (.cons (.v 2) .nil))) .nil))) .nil) (aS Q) [some (.ref x),some z,some (dD (aC nv)),some (.str (wd q))] (Wm M0 a b ws fs):=by
   rintro z rfl;exact uk (c:=cu w) O rfl W (λ_ z=>z) lf (d:=qD (fj nv q)) (λk hk=>⟨q,nv,rfl,C.wd,C.d,hk⟩) (ak h)
  refine start _ rfl (λ_=>au (dz h1 ⟨l2,eE (uo h2 h3) (ay (by decide) ⟨l2,eE (uo h4 h5) (ay (by decide) ?_)⟩)⟩)) λz=>(no z).elim;rcases h6 with h6 |⟨y,p,s,rfl,hp⟩
  ·exact au (dz h6 (fin _ rfl))
  ·have n2:=C.n;have w2:=C.wd;have t2:=C.t
   rw[nq]at n2;rw[wq]at w2;rw[aI]at t2;refine au (aY (by rw[wd];decide +kernel) ⟨_,rfl,p,N,nv,rfl,w2.1,by lia,C.lN,λx z=>t2 x (ZM _ z),?_⟩);rw[hp];exact fin _ rfl
variable {w:Wo}
noncomputable def fS (nv:Nv) (q:Qn):Option Qn:=if hs nv q=true then some (fj nv q) else none
noncomputable def aq (nv:Nv):Qn->Option Qn
 |.tab x=>if hs nv (.tab x)=true then (bz x nv).map .tab else none
 |.both a b=>if hs nv (.both a b)=true then bu none [aq nv a,aq nv b] else none
 |.for y a b=>if hs nv (.for y a b)=true then bu none [mf y (aq nv a) (some b),mf y (some a) (aq nv b),mf y (aq nv a) (aq nv b)] else none
 |.times i a=>if hs nv (.times i a)=true then (aq nv a).map (.times i) else none
 |.aU c a=>if hs nv (.aU c a)=true then (aq nv a).map (.aU c) else none
 |.let y a b=>if hs nv (.let y a b)=true then (if hs nv a=true then some (fj nv (.let y a b)) else (aq nv b).map (.let y a)) else none
 |q=>fS nv q
def mx (w:Wo) (f:Addr) (sp:Sp):Prop:=(f=bc w "begin_differences"/\sp=BE w)\/(f=bc w "both_differences"/\sp=Bt w)\/(f=bc w "for_differences"/\sp=Bu w)\/(f=bc w "wrap"/\sp=Bv w)
theorem my (O:Lw w) {e:En}{n:Nat}{M0:Mp}{x a b:Addr}{ws fs:List D}{q:Qn}{nv:Nv}{N:List Str} (W:Wc (w.ca 0) M0 x a b) (T:Wt ws fs q N) (h:BD w nv q ws fs λcU fs'=>Lp w (mx w) e n x (Wm M0 a b cU fs')):Lp w (mx w) e (n+1) x (Wm M0 a b (ws++[b5 w q nv]) fs):=by
 unfold b5;rw[O.ga];refine b8 O (.inl ⟨rfl,rfl⟩) W λQ hQ=>⟨M0,x,a,b,ws,fs,q,nv,N,rfl,rfl,W,T,?_⟩;rcases h with ⟨h1,h⟩ |⟨h1,⟨y,z,e1,e2,h⟩ |⟨f,r,s,e1,h⟩ |⟨f,r,e1,h⟩ |⟨e1,h⟩⟩
 ·exact .inl ⟨h1,hQ _ _ h⟩
 ·exact .inr ⟨h1,.inl ⟨y,z,e1,e2,hQ _ _ h⟩⟩
 ·exact .inr ⟨h1,.inr (.inl ⟨f,r,s,e1,hQ _ _ h⟩)⟩
 ·exact .inr ⟨h1,.inr (.inr (.inl ⟨f,r,e1,hQ _ _ h⟩))⟩
 ·exact .inr ⟨h1,.inr (.inr (.inr ⟨e1,hQ _ _ h⟩))⟩
def gC (w:Wo) (nv:Nv) (N:List Str) (q:Qn) (m:Nat):Prop:=∀ {e:En}{n:Nat}{M0:Mp}{x a b:Addr}{ws fs:List D},Wc (w.ca 0) M0 x a b->Wt ws fs q N ->
  Lp w (mx w) e n x (Wm M0 a b ws (fs++[oD (aq nv q)]))->Lp w (mx w) e (n+m) x (Wm M0 a b (ws++[b5 w q nv]) fs)
theorem jd (O:Lw w) {nv:Nv}{N:List Str}{q:Qn} (h:hs nv q=false) (e:aq nv q=none):gC w nv N q 1:=λW T K=>by
 rw[e]at K;exact my O W T (.inl ⟨h,K⟩)
theorem BG (O:Lw w) {nv:Nv}{N:List Str}{q:Qn} (h:hs nv q=true) (hq:pj nv q) (e:aq nv q=some (fj nv q)):gC w nv N q 1:=λW T K=>by
 rw[e]at K;exact my O W T (.inr ⟨h,.inr (.inr (.inr ⟨hq,K⟩))⟩)
theorem BH (O:Lw w) {nv:Nv}{N:List Str}{q r s:Qn}{f:Addr}{m1 m2:Nat} (h:hs nv q=true) (hq:q=.both r s/\f=bc w "both_differences"\/∃y,q=.for y r s/\f=bc w "for_differences") (h1:gC w nv N r m1) (h2:gC w nv N s m2):gC w nv N q (m1+m2+2):=by
 intro e n M0 x a b ws fs W T K;have hu:us q=[r,s]:=by rcases hq with ⟨rfl,_⟩ |⟨y,rfl,_⟩ <;> rfl
 have hd:=mm q;rw[hu]at hd;have hd:dn q=1+max (dn r) (max (dn s) 0):=hd;have hn:=jc q;rw[hu]at hn;have hn:nq q=1+(nq r+(nq s+0)):=hn;obtain⟨_,hw⟩:=pf T.wd;rw[hu]at hw;have ht:∀p∈us q,∀x∈aI p,x∈N:=λp hp x hx=>T.t x (ue.mpr (.inr (List.mem_flatMap.mpr ⟨p,hp,hx⟩)));rw[hu]at ht;have lw:=T.lw;have lf:=T.lf;have QB:=T.n;have td:=T.d
 rw[show n+(m1+m2+2)=(n+1+m2+m1)+1 by lia];refine my O W T (.inr ⟨h,.inr (.inl ⟨f,r,s,hq,?_⟩)⟩);rw[show ws++[.tup [.ref f,qD q,dD (aC nv)],b5 w s nv,b5 w r nv]=(ws++[.tup [.ref f,qD q,dD (aC nv)],b5 w s nv])++[b5 w r nv] by simp];refine h1 W ⟨by simp;lia,by lia,hw r (by simp),by lia,by lia,T.lN,ht r (by simp)⟩ ?_;rw[show ws++[.tup [.ref f,qD q,dD (aC nv)],b5 w s nv]=(ws++[.tup [.ref f,qD q,dD (aC nv)]])++[b5 w s nv] by simp];refine h2 W ⟨by simp;lia,by simp;lia,hw s (by simp),by lia,by lia,T.lN,ht s (by simp)⟩ ?_;rw[show fs++[oD (aq nv r)]++[oD (aq nv s)]=fs++[oD (aq nv r),oD (aq nv s)] by simp];rcases hq with ⟨rfl,rfl⟩ |⟨y,rfl,rfl⟩
 ·rw[aq,if_pos h]at K;exact b8 O (.inr (.inl ⟨rfl,rfl⟩)) W λQ hQ=>⟨M0,x,a,b,ws,fs,aq nv r,aq nv s,_,_,rfl,rfl,W,by lia,hQ _ _ K⟩
 ·rw[aq,if_pos h]at K;exact b8 O (.inr (.inr (.inl ⟨rfl,rfl⟩))) W λQ hQ=>⟨M0,x,a,b,ws,fs,y,r,s,aq nv r,aq nv s,_,rfl,rfl,W,by lia,hQ _ _ K⟩
theorem uq (O:Lw w) {nv:Nv}{N:List Str}{q r:Qn}{f:Qn->Qn}{m:Nat} (h:hs nv q=true) (hq:Wl nv q f r) (e1:aq nv q=(aq nv r).map f) (hd:dn r+1<=dn q) (hn:nq r<=nq q) (hr:r∈us q) (h1:gC w nv N r m):gC w nv N q (m+2):=by
 intro e n M0 x a b ws fs W T K;obtain⟨_,hw⟩:=pf T.wd;have ht:∀x∈aI r,x∈N:=λx hx=>T.t x (ue.mpr (.inr (List.mem_flatMap.mpr ⟨r,hr,hx⟩)));have lw:=T.lw;have lf:=T.lf;have QB:=T.n;have td:=T.d
 rw[show n+(m+2)=(n+1+m)+1 by lia];refine my O W T (.inr ⟨h,.inr (.inr (.inl ⟨f,r,hq,?_⟩))⟩);rw[show ws++[.tup [w.gv.getD 42 .aj,qD q,dD (aC nv)],b5 w r nv]=(ws++[.tup [w.gv.getD 42 .aj,qD q,dD (aC nv)]])++[b5 w r nv] by simp];refine h1 W ⟨by simp;lia,by lia,hw r hr,by lia,by lia,T.lN,ht⟩ ?_;rw[O.gp];rw[e1]at K;have wr:Wr q f:=by
  rcases hq with ⟨i,rfl,rfl⟩ |⟨c,rfl,rfl⟩ |⟨y,s,rfl,rfl,_⟩
  ·exact .inl ⟨_,_,rfl,rfl⟩
  ·exact .inr (.inl ⟨_,_,rfl,rfl⟩)
  ·exact .inr (.inr ⟨_,_,_,rfl,rfl⟩)
 exact b8 O (.inr (.inr (.inr ⟨rfl,rfl⟩))) W λQ hQ=>⟨M0,x,a,b,ws,fs,q,f,aq nv r,_,rfl,wr,rfl,W,by lia,hQ _ _ K⟩
theorem de {nv:Nv}{q:Qn} (h:(["table","both","for","times","when","let"]:List Str).all (λs=>decide (wd q≠s))=true):pj nv q:=by
 have g:=λs hs=>of_decide_eq_true (List.all_eq_true.mp h s hs);exact⟨g _ (by simp),g _ (by simp),g _ (by simp),g _ (by simp),g _ (by simp),.inl (g _ (by simp))⟩
theorem dQ (O:Lw w) {nv:Nv}{N:List Str}{q:Qn} (hq:pj nv q) (e:aq nv q=fS nv q):∃m,gC w nv N q m:=by
 cases h:hs nv q with
 |true=>exact⟨_,BG O h hq (by rw[e,fS,if_pos h])⟩
 |false=>exact⟨_,jd O h (by rw[e,fS,if_neg (by rw[h];decide)])⟩
theorem hU (O:Lw w) {nv:Nv}{N:List Str}:∀ q,∃ m,gC w nv N q m
  | .tab y=>by
    cases h:hs nv (.tab y) with
    |false=>exact⟨_,jd O h (by rw[aq,if_neg (by rw[h];decide)])⟩
    | true=>
      refine⟨1,λW T K=>?_⟩;cases hz:bz y nv with
      | none => have : hs nv (.tab y) = false := by simp [hs, aI, hz]
                rw[h]at this;cases this
      | some z=>
        rw[aq,if_pos h,hz]at K;exact my O W T (.inr ⟨h,.inl ⟨y,z,rfl,hz,K⟩⟩)
  | .both a b=>by
    cases h:hs nv (.both a b) with
    |false=>exact⟨_,jd O h (by rw[aq,if_neg (by rw[h];decide)])⟩
    | true=>
      obtain⟨m1,h1⟩:=hU O a;obtain⟨m2,h2⟩:=hU O b;exact⟨_,BH O h (.inl ⟨rfl,rfl⟩) h1 h2⟩
  | .for y a b=>by
    cases h:hs nv (.for y a b) with
    |false=>exact⟨_,jd O h (by rw[aq,if_neg (by rw[h];decide)])⟩
    | true=>
      obtain⟨m1,h1⟩:=hU O a;obtain⟨m2,h2⟩:=hU O b;exact⟨_,BH O h (.inr ⟨y,rfl,rfl⟩) h1 h2⟩
  | .times i a=>by
    cases h:hs nv (.times i a) with
    |false=>exact⟨_,jd O h (by rw[aq,if_neg (by rw[h];decide)])⟩
    | true=>
      obtain⟨m1,h1⟩:=hU O a;exact⟨_,uq O h (.inl ⟨i,rfl,rfl⟩) (by rw[aq,if_pos h]) (by rw[dn];lia) (by rw[nq];lia) (by simp [us]) h1⟩
  | .aU c a=>by
    cases h:hs nv (.aU c a) with
    |false=>exact⟨_,jd O h (by rw[aq,if_neg (by rw[h];decide)])⟩
    | true=>
      obtain⟨m1,h1⟩:=hU O a;exact⟨_,uq O h (.inr (.inl ⟨c,rfl,rfl⟩)) (by rw[aq,if_pos h]) (by rw[dn];lia) (by rw[nq];lia) (by simp [us]) h1⟩
  | .let y a b=>by
    cases h:hs nv (.let y a b) with
    |false=>exact⟨_,jd O h (by rw[aq,if_neg (by rw[h];decide)])⟩
    | true=>
      cases h':hs nv a with
      |true=>exact⟨_,BG O h ⟨by rw[wd];decide +kernel,by rw[wd];decide +kernel,by rw[wd];decide +kernel,by rw[wd];decide +kernel,by rw[wd];decide +kernel,.inr ⟨y,a,b,rfl,h'⟩⟩ (by rw[aq,if_pos h,if_pos h'])⟩
      | false=>
        obtain⟨m1,h1⟩:=hU O b;exact⟨_,uq O h (.inr (.inr ⟨y,a,rfl,rfl,h'⟩)) (by rw[aq,if_pos h,if_neg (by rw[h'];decide)]) (by rw[dn];lia) (by rw[nq];lia) (by simp [us]) h1⟩
  |.num _=>dQ O (de (by rw[wd];decide +kernel)) rfl
  |.word _=>dQ O (de (by rw[wd];decide +kernel)) rfl
  |.var _=>dQ O (de (by rw[wd];decide +kernel)) rfl
  |.none _=>dQ O (de (by rw[wd];decide +kernel)) rfl
  |.row _=>dQ O (de (by rw[wd];decide +kernel)) rfl
  |.at _ _=>dQ O (de (by rw[wd];decide +kernel)) rfl
  |.add _ _=>dQ O (de (by rw[wd];decide +kernel)) rfl
  |.mul _ _=>dQ O (de (by rw[wd];decide +kernel)) rfl
  |.one _=>dQ O (de (by rw[wd];decide +kernel)) rfl
  |.same _ _=>dQ O (de (by rw[wd];decide +kernel)) rfl
  |.under _ _=>dQ O (de (by rw[wd];decide +kernel)) rfl
  |.and _ _=>dQ O (de (by rw[wd];decide +kernel)) rfl
  |.or _ _=>dQ O (de (by rw[wd];decide +kernel)) rfl
  |.not _=>dQ O (de (by rw[wd];decide +kernel)) rfl
def BI (w:Wo):Sp:=λds M Q _=>∃(M0:Mp) (x a b:Addr) (q:Qn) (nv:Nv) (N:List Str),ds=[.ref x]/\M=Wm M0 a b [b5 w q nv] []/\Wc (w.ca 0) M0 x a b/\wq q/\nq q<1000000/\dn q<500/\N.length<64/\(∀x∈aI q,x∈N)/\Q (oD (aq nv q)) (Wm M0 a b [] [])
theorem QC (O:Lw w):dt w 4 9 (BI w):=by
 refine iW O.ok O.hn _ ⟨"run",(bx (aa 11) 4),["self"]⟩ (by rw[O.hms];rfl) (Uv w (mx w)) { cs:=trivial,ca:=?_ } tZ t4 λds M Q _ h=>?_
 ·rintro f sp (⟨rfl,rfl⟩ |⟨rfl,rfl⟩ |⟨rfl,rfl⟩ |⟨rfl,rfl⟩)
  ·exact FO.cq (QA O) (d:=⟨"begin_differences",aa 45,["walk","question","names"]⟩) (by rw[O.hd];rfl)
  ·exact FO.cq ((PV O).mono (by decide)) (d:=⟨"both_differences",aa 50,["walk","question","names"]⟩) (by rw[O.hd];rfl)
  ·exact FO.cq ((PX O).mono (by decide)) (d:=⟨"for_differences",aa 51,["walk","question","names"]⟩) (by rw[O.hd];rfl)
  ·exact FO.cq ((PY O).mono (by decide)) (d:=⟨"wrap",aa 54,["walk","question","names"]⟩) (by rw[O.hd];rfl)
 obtain⟨M0,x,a,b,q,nv,N,rfl,rfl,W,hw,hn,hd,hN,ht,h⟩:=h;obtain⟨m,R⟩:=hU (nv:=nv) (N:=N) O q;refine⟨rfl,1+m,?_⟩;refine R (ws:=[]) (fs:=[]) (n:=1) W ⟨by simp;lia,by simp;lia,hw,hn,hd,hN,ht⟩ (t6 O W λ_ _ _=>?_) _ _ _;obtain⟨dx,hx⟩:=W.gx (ws:=[]) (fs:=[]++[oD (aq nv q)]);refine⟨_,dx,_,hx,.ref b,O.T7,rfl,.inl ⟨rfl,_,Wm.gb⟩,_,Wm.gb,oD (aq nv q),rfl,?_⟩;rw[Wm.pb];exact ak h
noncomputable def QD:B:=.cons (.ret (.ix (.v 3) (.c (.int 1)))) .nil
noncomputable def QE:B:=.cons (.cond (.cmp .NotEq (.ix (.v 3) (.c (.int 0))) (.c (.str "bag"))) (.cons .dead .nil) .nil) QD
noncomputable def QF:B:=.cons (.cond (.c (.bl true)) (.cons (.set (.one 3) (.call 11 (.cons (.v 0) (.cons (.v 1) (.cons (.v 2) .nil))))) .nil) .nil) QE
theorem QG:aB ["question","kinds","stock","kind","fault"] ["question","kinds","stock"] (ag (aa 44)):=⟨rfl,rfl,rfl,by decide +kernel,rfl,by decide +kernel,by decide +kernel⟩
theorem QH:aH nm 40 ["question","kinds","stock","kind","fault"] (ag (aa 44)) (aw (aa 44))=QF:=by kernel_rfl
def BJ:Sp:=λds M Q _=>∃K S' S G q k,ds=[qD q,dD K,dD S']/\d7 K G/\ja S' S/\Ty S G q (.ai k)/\dn q<500/\K.length<500/\Q (kD k) M
theorem QI (O:Lw w):FO w 28 9 BJ:=by
 refine aL O.ok O.hn _ ⟨"kind_of_rows",aa 44,["question","kinds","stock"]⟩ (by rw[O.hd];rfl) { cs:=[(11,A9)] } { cs:=⟨⟨8,by decide,OF O⟩,trivial⟩ } QG QH λds M Q _ h=>?_;obtain⟨K,S',S,G,q,k,rfl,rg,rs,t,hd,hk,h⟩:=h;exact⟨rfl,K,S',S,G,q,_,rfl,rg,rs,O0 t,hd,hk,_,rfl,au (ay (by decide) ⟨_,rfl,ak h⟩)⟩
noncomputable def QJ:B:=.cons (.ret (.ite (.cmp .Is (.v 6) (.c .aj)) (.tup (.cons (.c (.str "none")) (.cons (.v 4) .nil))) (.v 6))) .nil
noncomputable def QL:B:=.cons (.set (.one 6) (.a4 4 (.v 5) .nil)) QJ
noncomputable def QO:B:=.cons (.ex (.a4 1 (.v 5) (.cons (.g 35) (.cons (.v 0) (.cons (.v 1) .nil))))) QL
noncomputable def QP:B:=.cons (.set (.one 5) (.new 0 .nil)) QO
noncomputable def QQ:B:=.cons (.set (.one 4) (.call 28 (.cons (.v 0) (.cons (.v 2) (.cons (.v 3) .nil))))) QP
theorem QR:aB ["question","names","kinds","stock","row_kind","walk","told"] ["question","names","kinds","stock"] (ag (aa 43)):=⟨rfl,rfl,rfl,by decide +kernel,rfl,by decide +kernel,by decide +kernel⟩
theorem QT:aH nm 40 ["question","names","kinds","stock","row_kind","walk","told"] (ag (aa 43)) (aw (aa 43))=QQ:=by kernel_rfl
def BK:Sp:=λds M Q _=>∃(nv:Nv) (K S':List (Key×D)) (S:Str->Option Kd) (G:Sc) (q:Qn) (k:Kd) (N:List Str),ds=[qD q,dD (aC nv),dD K,dD S']/\d7 K G/\ja S' S/\Ty S G q (.ai k)/\dn q<500/\nq q<1000000/\K.length<500/\N.length<64/\(∀x∈aI q,x∈N)/\Q (qD ((aq nv q).getD (.none k))) M
noncomputable abbrev QU (w:Wo):a0 w:={ cs:=[(28,BJ)],ms:=[(1,fM w),(4,BI w)],ci:=[(0,0,o7 w)] }
theorem QV (O:Lw w):FO w 27 10 BK:=by
 refine aL O.ok O.hn _ ⟨"difference",aa 43,["question","names","kinds","stock"]⟩ (by rw[O.hd];rfl) (QU w) { cs:=⟨⟨9,by decide,QI O⟩,trivial⟩,ms:=⟨⟨1,by decide,i8 O⟩,⟨9,by decide,QC O⟩,trivial⟩,ci:=⟨⟨O.mc _ (by decide),by rw[O.hms];rfl,1,by decide,tQ O⟩,trivial⟩ } QR QT λds M Q _ h=>?_;obtain⟨nv,K,S',S,G,q,kk,N,rfl,rg,rs,t,hd,hn,gl,hN,ht,h⟩:=h;have m2:w.ca 0=w.mc 1:=(O.mc _ (by decide)).symm;have m5:w.ca 0=w.mc 4:=(O.mc _ (by decide)).symm;have hw:=(Bf t).w;refine⟨rfl,K,S',S,G,q,kk,rfl,rg,rs,t,hd,gl,λx dx hx mo nd=>⟨x,dx,rfl,av,λa b ha hb ne=>⟨rfl,?_⟩⟩⟩;obtain⟨sb,W⟩:=t9 (i1:=[("waiting",.ref a),("found",.ref b)]) (ws:=[]) (fs:=[]) hx mo ha hb nd ne;obtain⟨dy,hy⟩:=W.gx (ws:=[]) (fs:=[]);refine⟨_,dy,_,hy,m2,bD (by decide +kernel) (by decide +kernel),x,a,b,dy,_,_,_,[],rfl,hy,W.ga,by decide,?_⟩;rw[W.pa];obtain⟨Uw,hz⟩:=W.gx (ws:=[]++[.tup [w.gv.getD 35 .aj,qD q,dD (aC nv)]]) (fs:=[]);refine⟨_,Uw,_,hz,m5,bD (by decide +kernel) (by decide +kernel),_,x,a,b,q,nv,N,rfl,rfl,W,hw,hn,hd,hN,ht,?_⟩;cases hq:aq nv q with
 |none=>rw[hq]at h;exact⟨l2,l0 sb h⟩
 |some p=>
  rw[hq]at h;have h:Q (qD p) M:=h;obtain⟨r,hr⟩:=cG p;have e:oD (some p)=.tup (.str (wd p)::r):=hr;rw[hr]at h;rw[e];exact l0 sb h
variable {w:Wo}
theorem BL {s t u z:Str}{M:Mp}{k:Bool->Prop}{b:Bool} (hb:cC (.str z) [D.str s,D.str t,D.str u]=b) (q:k b):dJ (.str z) (.tup [.str s,.str t,.str u]) M k:=by
 refine⟨⟨rfl,rfl,by rw[aR,aR,aR,aR,aM,aM,aM];decide,?_⟩⟩;rw[hb];exact q
section
variable {c:a0 w}{i:Nat}{s t u z:Str}{A r:B}{e:En} {τ:St} {M:Mp}
theorem az (h:B.w c.wd nm.af r e τ M) (n:z≠s:=by decide +kernel) (h2:∀k:QK,k (.str z) M->bY i τ M k:=by exact λ_ z=>z):B.w c.wd nm.af (.cons (.cond (.cmp .Eq (.v i) (.c (.str s))) A .nil) r) e τ M:=hR (show bY i τ M (λx M1=>dI false x (.str s) M1 λb=>if b=true then B.w c.wd nm.af A { e with nx:=B.w c.wd nm.af r e } τ M1 else B.w c.wd nm.af .nil { e with nx:=B.w c.wd nm.af r e } τ M1) from h2 _ (au (dz n h)))
theorem eF (h:B.w c.wd nm.af A { e with nx:=B.w c.wd nm.af r e } τ M) (h2:∀k:QK,k (.str s) M->bY i τ M k:=by exact λ_ z=>z):B.w c.wd nm.af (.cons (.cond (.cmp .Eq (.v i) (.c (.str s))) A .nil) r) e τ M:=hR (show bY i τ M (λx M1=>dI false x (.str s) M1 λb=>if b=true then B.w c.wd nm.af A { e with nx:=B.w c.wd nm.af r e } τ M1 else B.w c.wd nm.af .nil { e with nx:=B.w c.wd nm.af r e } τ M1) from h2 _ (au (Qz (decide_eq_true rfl) h)))
theorem pk (h:B.w c.wd nm.af r e τ M) (n:cC (.str z) [D.str s,D.str t]=false:=by decide +kernel) (h2:∀k:QK,k (.str z) M->bY i τ M k:=by exact λ_ z=>z):B.w c.wd nm.af (.cons (.cond (.cmp .In (.v i) (.tup (.cons (.c (.str s)) (.cons (.c (.str t)) .nil)))) A .nil) r) e τ M:=hR (show bY i τ M (λx M1=>[D.str s,D.str t].length<=sizeLine/\dJ x (.tup [.str s,.str t]) M1 λb=>if b=true then B.w c.wd nm.af A { e with nx:=B.w c.wd nm.af r e } τ M1 else B.w c.wd nm.af .nil { e with nx:=B.w c.wd nm.af r e } τ M1) from h2 _ ⟨l2,eE n (ay (by decide) h)⟩)
theorem pq (h:B.w c.wd nm.af A { e with nx:=B.w c.wd nm.af r e } τ M) (n:cC (.str z) [D.str s,D.str t]=true:=by decide +kernel) (h2:∀k:QK,k (.str z) M->bY i τ M k:=by exact λ_ z=>z):B.w c.wd nm.af (.cons (.cond (.cmp .In (.v i) (.tup (.cons (.c (.str s)) (.cons (.c (.str t)) .nil)))) A .nil) r) e τ M:=hR (show bY i τ M (λx M1=>[D.str s,D.str t].length<=sizeLine/\dJ x (.tup [.str s,.str t]) M1 λb=>if b=true then B.w c.wd nm.af A { e with nx:=B.w c.wd nm.af r e } τ M1 else B.w c.wd nm.af .nil { e with nx:=B.w c.wd nm.af r e } τ M1) from h2 _ ⟨l2,eE n (aY rfl h)⟩)
theorem eG (h:B.w c.wd nm.af r e τ M) (n:cC (.str z) [D.str s,D.str t,D.str u]=false:=by decide +kernel) (h2:∀k:QK,k (.str z) M->bY i τ M k:=by exact λ_ z=>z):B.w c.wd nm.af (.cons (.cond (.cmp .In (.v i) (.tup (.cons (.c (.str s)) (.cons (.c (.str t)) (.cons (.c (.str u)) .nil))))) A .nil) r) e τ M:=hR (show bY i τ M (λx M1=>[D.str s,D.str t,D.str u].length<=sizeLine/\dJ x (.tup [.str s,.str t,.str u]) M1 λb=>if b=true then B.w c.wd nm.af A { e with nx:=B.w c.wd nm.af r e } τ M1 else B.w c.wd nm.af .nil { e with nx:=B.w c.wd nm.af r e } τ M1) from h2 _ ⟨l3,BL n (ay (by decide) h)⟩)
theorem ur (h:B.w c.wd nm.af A { e with nx:=B.w c.wd nm.af r e } τ M) (n:cC (.str z) [D.str s,D.str t,D.str u]=true:=by decide +kernel) (h2:∀k:QK,k (.str z) M->bY i τ M k:=by exact λ_ z=>z):B.w c.wd nm.af (.cons (.cond (.cmp .In (.v i) (.tup (.cons (.c (.str s)) (.cons (.c (.str t)) (.cons (.c (.str u)) .nil))))) A .nil) r) e τ M:=hR (show bY i τ M (λx M1=>[D.str s,D.str t,D.str u].length<=sizeLine/\dJ x (.tup [.str s,.str t,.str u]) M1 λb=>if b=true then B.w c.wd nm.af A { e with nx:=B.w c.wd nm.af r e } τ M1 else B.w c.wd nm.af .nil { e with nx:=B.w c.wd nm.af r e } τ M1) from h2 _ ⟨l3,BL n (aY rfl h)⟩)
end
noncomputable def QW:B:=(.cons (.ret (.lst (.cons (.tup (.cons (.c (.str "s")) (.cons (.tup (.cons (.c (.str "num")) .nil)) .nil))) (.cons (.tup (.cons (.c (.str "v")) (.cons (.ix (.call 45 .nil) (.c (.str "u"))) .nil))) (.cons (.tup (.cons (.c (.str "o")) (.cons (.tup (.cons (.c (.str "bag")) (.cons (.tup (.cons (.c (.str "num")) .nil)) .nil))) .nil))) .nil))))) .nil)
theorem QX:aB [] [] (ag (aa 78)):=⟨rfl,rfl,rfl,by decide +kernel,rfl,by decide +kernel,by decide +kernel⟩
theorem QY:aH nm 40 [] (ag (aa 78)) (aw (aa 78))=QW:=by kernel_rfl
noncomputable def G0:Sc:=[("s",.num),("v",fL),("o",.ai .num)]
def BM:Sp:=λds M Q _=>ds=[]/\Q (aN G0) M
theorem uv {ms:Sc}{x:Str}{k:Kd}{M:Mp}{Q:QK} (h:lk x ms=some k) (q:Q (kD k) M):aG (bU ms) (.str x) M Q:=⟨kD k,by rw[iZ,fe,h];rfl,q⟩
theorem QZ (O:Lw w):FO w 54 2 BM:=by
 refine aL O.ok O.hn _ ⟨"_law_free",aa 78,[]⟩ (by rw[O.hd];rfl) { cs:=[(45,j7)] } { cs:=⟨⟨1,by decide,md O⟩,trivial⟩ } QX QY λds M Q _ h=>?_;obtain⟨rfl,h⟩:=h;exact⟨rfl,l1,l2,rfl,uv (k:=fL) rfl ⟨l2,l1,l2,l2,l3,.inl (ak h)⟩⟩
noncomputable def Q3:B:=.cons (.ret (.call 53 (.cons (.ix (.v 0) (.c (.int 3))) (.cons (.op .Add (.lst (.cons (.tup (.cons (.ix (.v 0) (.c (.int 1))) (.cons (.v 3) .nil))) .nil)) (.v 1)) .nil)))) .nil
noncomputable def Q4:B:=.cons (.cond (.cmp .Eq (.v 2) (.c (.str "for"))) (.cons (.set (.one 3) (.ix (.v 3) (.c (.int 1)))) .nil) .nil) Q3
noncomputable def Q5:B:=.cons (.set (.one 3) (.call 53 (.cons (.ix (.v 0) (.c (.int 2))) (.cons (.v 1) .nil)))) Q4
noncomputable def Q6:B:=.cons (.cond (.cmp .In (.v 2) (.tup (.cons (.c (.str "times")) (.cons (.c (.str "when")) .nil)))) (.cons (.ret (.call 53 (.cons (.ix (.v 0) (.c (.int 2))) (.cons (.v 1) .nil)))) .nil) .nil) Q5
noncomputable def Q7:B:=.cons (.cond (.cmp .Eq (.v 2) (.c (.str "both"))) (.cons (.ret (.call 53 (.cons (.ix (.v 0) (.c (.int 1))) (.cons (.v 1) .nil)))) .nil) .nil) Q6
noncomputable def Q8:B:=.cons (.cond (.cmp .Eq (.v 2) (.c (.str "one"))) (.cons (.ret (.tup (.cons (.c (.str "bag")) (.cons (.call 53 (.cons (.ix (.v 0) (.c (.int 1))) (.cons (.v 1) .nil))) .nil)))) .nil) .nil) Q7
noncomputable def Q9:B:=.cons (.cond (.cmp .Eq (.v 2) (.c (.str "none"))) (.cons (.ret (.tup (.cons (.c (.str "bag")) (.cons (.ix (.v 0) (.c (.int 1))) .nil)))) .nil) .nil) Q8
noncomputable def Ra:B:=.cons (.cond (.cmp .Eq (.v 2) (.c (.str "at"))) (.cons (.ret (.ix (.bi .dict (.cons (.ix (.call 53 (.cons (.ix (.v 0) (.c (.int 2))) (.cons (.v 1) .nil))) (.c (.int 1))) .nil)) (.ix (.v 0) (.c (.int 1))))) .nil) .nil) Q9
noncomputable def Rb:B:=.cons (.cond (.cmp .Eq (.v 2) (.c (.str "row"))) (.cons (.ret (.tup (.cons (.c (.str "row")) (.cons (.bi .tuple (.cons (.lc 2 [1] (.many [0,1]) (.seq (.ix (.v 0) (.c (.int 1)))) .ar (.tup (.cons (.v 0) (.cons (.call 53 (.cons (.v 1) (.cons (.v 2) .nil))) .nil)))) .nil)) .nil)))) .nil) .nil) Ra
noncomputable def Rc:B:=.cons (.cond (.cmp .Eq (.v 2) (.c (.str "table"))) (.cons (.ret (.tup (.cons (.c (.str "bag")) (.cons (.ix (.call 45 .nil) (.ix (.v 0) (.c (.int 1)))) .nil)))) .nil) .nil) Rb
noncomputable def Rd:B:=.cons (.cond (.cmp .Eq (.v 2) (.c (.str "var"))) (.cons (.ret (.ix (.bi .dict (.cons (.call 46 (.cons (.v 1) .nil)) .nil)) (.ix (.v 0) (.c (.int 1))))) .nil) .nil) Rc
noncomputable def Rg:B:=.cons (.cond (.cmp .Eq (.v 2) (.c (.str "word"))) (.cons (.ret (.tup (.cons (.c (.str "word")) .nil))) .nil) .nil) Rd
noncomputable def Rh:B:=.cons (.cond (.cmp .In (.v 2) (.tup (.cons (.c (.str "num")) (.cons (.c (.str "add")) (.cons (.c (.str "mul")) .nil))))) (.cons (.ret (.tup (.cons (.c (.str "num")) .nil))) .nil) .nil) Rg
noncomputable def Ri:B:=.cons (.set (.one 2) (.ix (.v 0) (.c (.int 0)))) Rh
theorem Rj:aB ["asked","scope","word","over"] ["asked","scope"] (ag (aa 77)):=⟨rfl,rfl,rfl,by decide +kernel,rfl,by decide +kernel,by decide +kernel⟩
theorem Rl:aH nm 40 ["asked","scope","word","over"] (ag (aa 77)) (aw (aa 77))=Ri:=by kernel_rfl
def je (n:Nat):Sp:=λds M Q _=>∃(q:Qn) (sc:Sc) (k:Kd),ds=[qD q,aN sc]/\sc.length+dn q<60/\(∀m∈sc,kd m.2<=20)/\Ty kS sc q k/\dn q<=n/\Q (kD k) M
noncomputable abbrev cH (w:Wo) (n:Nat):a0 w:={ cs:=[(45,j7),(46,oR),(53,je n)] }
theorem BN (sc:Sc):c8 sc=(aP sc).map ek:=by unfold c8 aP;rw[YI];rfl
theorem Rm {x:Str}{k:Kd}{a:List (Str×Kd)}:bj (a++[(x,k)])=bj a++[.tup [.str x,kD k]]:=by rw[hE,hE,XZ];rfl
theorem uw {a:List (Str×Kd)}:(bj a).length=a.length:=by rw[hE,Xx]
theorem pv {sc:Sc}{x:Str}{l:Kd} (hk:∀m∈sc,kd m.2<=20) (z:kd l<=20):∀m∈(x,l)::sc,kd m.2<=20:=λm hm=>by
 rcases List.mem_cons.mp hm with e |e
 ·rw[e];exact z
 ·exact hk m e
theorem px {sc:Sc}{n:Nat} (h:sc.length+n<60) {x:Str}{k:Kd}:[D.tup [.str x,kD k]].length+(c8 sc).length<=sizeLine:=XG (by show 1+(c8 sc).length<=100;rw[c8,Xx];lia:_<=100) (by decide)
theorem Rn (O:Lw w) {n:Nat} (ih:FO w 53 (n+2) (je n)):FO w 53 (n+3) (je (n+1)):=by
 refine aL O.ok O.hn _ ⟨"_law_kind",aa 77,["asked","scope"]⟩ (by rw[O.hd];rfl) (cH w n) { cs:=⟨⟨1,by lia,md O⟩,⟨1,by lia,tH O⟩,⟨n+2,XC _,ih⟩,trivial⟩ } Rj Rl λds M Q _ h=>?_;obtain⟨q,sc,k,rfl,hl,hk,t,hd,h⟩:=h;cases t with
 |num=>exact⟨rfl,_,rfl,ur (c:=cH w n) (z:="num") ⟨l1,ak h⟩⟩
 |add _ _=>exact⟨rfl,_,rfl,ur (c:=cH w n) (z:="add") ⟨l1,ak h⟩⟩
 |mul _ _=>exact⟨rfl,_,rfl,ur (c:=cH w n) (z:="mul") ⟨l1,ak h⟩⟩
 |word=>exact⟨rfl,_,rfl,eG (c:=cH w n) (z:="word") (eF ⟨l1,ak h⟩)⟩
 |none _ _=>exact⟨rfl,_,rfl,eG (c:=cH w n) (z:="none") (az (z:="none") (az (z:="none") (az (z:="none") (az (z:="none") (az (z:="none") (eF ⟨_,rfl,l2,ak h⟩))))))⟩
 |tab e=>exact⟨rfl,_,rfl,eG (c:=cH w n) (z:="table") (az (z:="table") (az (z:="table") (eF ⟨rfl,_,rfl,uv e ⟨l2,ak h⟩⟩)))⟩
 |var e=>
  refine⟨rfl,_,rfl,eG (c:=cH w n) (z:="var") (az (z:="var") (eF ⟨sc,rfl,by lia,λm hm=>XG (hk m hm) (by decide),λout hm ho nd=>.inr ⟨aP out,BN out,.inl ⟨_,rfl,_,?_,ak h⟩⟩⟩))⟩;rw[pd nd,ff,fe,oK nd ((hm _ _).mpr e)];rfl
 |one t=>
  rw[dn]at hd hl;exact⟨rfl,_,rfl,eG (c:=cH w n) (z:="one") (az (z:="one") (az (z:="one") (az (z:="one") (az (z:="one") (az (z:="one") (az (z:="one") (eF ⟨_,rfl,_,sc,_,rfl,by lia,hk,t,by lia,l2,ak h⟩)))))))⟩
 |both _ t _=>
  rw[dn]at hd hl;exact⟨rfl,_,rfl,eG (c:=cH w n) (z:="both") (az (z:="both") (az (z:="both") (az (z:="both") (az (z:="both") (az (z:="both") (az (z:="both") (az (z:="both") (eF ⟨_,rfl,_,sc,_,rfl,by lia,hk,t,by lia,ak h⟩))))))))⟩
 |times t=>
  rw[dn]at hd hl;exact⟨rfl,_,rfl,eG (c:=cH w n) (z:="times") (az (z:="times") (az (z:="times") (az (z:="times") (az (z:="times") (az (z:="times") (az (z:="times") (az (z:="times") (az (z:="times") (pq (z:="times") ⟨_,rfl,_,sc,_,rfl,by lia,hk,t,by lia,ak h⟩)))))))))⟩
 |aU _ t=>
  rw[dn]at hd hl;exact⟨rfl,_,rfl,eG (c:=cH w n) (z:="when") (az (z:="when") (az (z:="when") (az (z:="when") (az (z:="when") (az (z:="when") (az (z:="when") (az (z:="when") (az (z:="when") (pq (z:="when") ⟨_,rfl,_,sc,_,rfl,by lia,hk,t,by lia,ak h⟩)))))))))⟩
 | «at» nd t e=>
  rw[dn]at hd hl;refine⟨rfl,_,rfl,eG (c:=cH w n) (z:="at") (az (z:="at") (az (z:="at") (az (z:="at") (az (z:="at") (eF ⟨_,rfl,_,sc,_,rfl,by lia,hk,t,by lia,_,rfl,.inr ⟨aP _,AI _,.inl ⟨_,rfl,_,?_,ak h⟩⟩⟩)))))⟩;rw[pd nd,ff,fe,e];rfl
 |@row _ fs ks l nt t=>
  rw[dn]at hd hl;have Tw:=oX t;refine⟨rfl,_,rfl,eG (c:=cH w n) (z:="row") (az (z:="row") (az (z:="row") (az (z:="row") (eF ⟨_,rfl,?_⟩))))⟩;refine ew (λxs ys M'=>M'=M/\∃rest pc kf,xs=a9 rest/\dP kS sc rest pc/\ks=kf++pc/\ys=bj kf/\gA rest<=gA fs) ?_ ?_ _ _ _ ⟨rfl,fs,ks,[],rfl,t,rfl,by rw[bj],XC _⟩
  ·rintro ys M' ⟨rfl,rest,pc,kf,e1,t',e2,rfl,_⟩;cases t' with
   |cons _ _=>rw[a9]at e1;cases e1
   |nil=>
    rw[XX]at e2;subst e2;refine⟨trivial,XN (by rw[uw];lia:_<=100) (by decide),.inl ⟨l2,ak ?_⟩⟩;rw[kD]at h;exact h
  ·rintro x xs ys M' ⟨rfl,rest,pc,kf,e1,t',e2,rfl,lB⟩;have lp:kf.length<=ks.length:=(by rw[e2];simp);cases t' with
   |nil=>rw[a9]at e1;cases e1
   |@cons _ f q k r s h1 h2=>
    rw[a9]at e1;cases e1;rw[gA]at lB;exact⟨trivial,XN (by rw[uw];lia:_<=100) (by decide),λN hN=>⟨rfl,q,sc,k,rfl,by lia,hk,h1,by lia,l2,hN _ _ ⟨rfl,r,s,kf++[(f,k)],rfl,h2,by rw[e2];simp,by rw[Rm],by lia⟩⟩⟩
 |@«for» _ x qa qb k l z t1 t2=>
  rw[dn]at hd hl;refine⟨rfl,_,rfl,eG (c:=cH w n) (z:="for") (az (z:="for") (az (z:="for") (az (z:="for") (az (z:="for") (az (z:="for") (az (z:="for") (az (z:="for") (az (z:="for") (pk (z:="for") ⟨_,rfl,qa,sc,.ai l,rfl,by lia,hk,t1,by lia,?_⟩)))))))))⟩;exact eF (c:=cH w n) ⟨_,rfl,_,rfl,_,rfl,l2,l1,.inl ⟨px hl,.inl ⟨qb,(x,l)::sc,.ai k,rfl,by rw[XI];lia,pv hk z,t2,by lia,ak h⟩⟩⟩
 |@«let» _ x qa qb k l z t1 t2=>
  rw[dn]at hd hl;refine⟨rfl,_,rfl,eG (c:=cH w n) (z:="let") (az (z:="let") (az (z:="let") (az (z:="let") (az (z:="let") (az (z:="let") (az (z:="let") (az (z:="let") (az (z:="let") (pk (z:="let") ⟨_,rfl,qa,sc,l,rfl,by lia,hk,t1,by lia,?_⟩)))))))))⟩;exact az (c:=cH w n) (z:="let") ⟨_,rfl,_,rfl,l2,l1,.inl ⟨px hl,.inl ⟨qb,(x,l)::sc,k,rfl,by rw[XI];lia,pv hk z,t2,by lia,ak h⟩⟩⟩
theorem ux (O:Lw w):∀n,FO w 53 (n+2) (je n)
 | 0=>(FO.imp (iV O.ok (by rw[O.hd];rfl) (cs:=[]) trivial) λds M Q E ⟨q,_,_,_,_,_,_,hd,_⟩=>by rw[mm]at hd;lia:FO w 53 2 (je 0))
 |n+1=>Rn O (ux O n)
variable {w:Wo}
noncomputable def dg:List D->Bool
 |[.str s,_]=>decide (s="table")
 |_=>false
theorem kg {ds:List D} (h:ds.length≠2):dg ds=false:=by
 unfold dg;split
 ·exact absurd rfl h
 ·rfl
noncomputable def uy (nv:Nv):List D->Bool
 |[_,.str x]=>(bz x nv).isSome
 |_=>false
mutual
noncomputable def b7 (nv:Nv):D->Bool
 |.tup ds=>if dg ds=true then uy nv ds else bO nv ds
 |.aj=>false |.bl _=>false |.int _=>false |.str _=>false |.ref _=>false |.ty _=>false |.lst _=>false |.ao _ _=>false
noncomputable def bO (nv:Nv):List D->Bool
 |[]=>false
 |d::r=>b7 nv d ||bO nv r
end
def Gd:Nat->D->Prop
 | 0,_=>False
 |_+1,.str _=>True
 |_+1,.int _=>True
 |n+1,.tup ds=>ds.length<1000/\(∀d∈ds,Gd n d)/\∀x,ds=[.str "table",x]->∃s,x=.str s
 |_+1,_=>False
theorem BO {n:Nat} (ih:∀d,Gd n d->ax d=true/\aM d<=n):∀ds:List D,(∀d∈ds,Gd n d)->aJ ds=true/\aR ds<=n
 |[],_=>⟨rfl,by rw[aR];lia⟩
 |d::r,h=>by
  obtain⟨h1,h2⟩:=ih d (h d XH);obtain⟨h3,h4⟩:=BO ih r λx hx=>h x (XF _ hx);exact⟨by rw[aJ,h1,h3];rfl,by rw[aR];lia⟩
theorem BP:∀{n:Nat} (d:D),Gd n d->ax d=true/\aM d<=n
 | 0,_,h=>h.elim
 |n+1,.str s,_=>⟨rfl,XM _⟩
 |n+1,.int s,_=>⟨rfl,XM _⟩
 |n+1,.tup ds,h=>by
  obtain⟨h1,h2⟩:=BO (λd=>BP d) ds h.2.1;exact⟨by rw[ax,h1],by rw[aM];lia⟩
 |n+1,.aj,h=>h.elim
 |n+1,.bl _,h=>h.elim
 |n+1,.ref _,h=>h.elim
 |n+1,.ty _,h=>h.elim
 |n+1,.lst _,h=>h.elim
 |n+1,.ao _ _,h=>h.elim
theorem BQ {n:Nat}{x:D}{s:Str}{M:Mp}{k:Bool->Prop} (g:Gd n x) (hn:n<=100) (q1:x=.str s->k true) (q2:x≠.str s->k false):dI false x (.str s) M k:=by
 obtain⟨h1,h2⟩:=BP x g;cases n with
 |zero=>exact g.elim
 |succ n=>
  cases x with
  | str t=>exact au (by
    by_cases e:t=s
    ·rw[decide_eq_true e];exact q1 (by rw[e])
    ·rw[decide_eq_false e];exact q2 λz=>e (D.str.inj z))
  |int i=>exact .mk (.inl ⟨h1,rfl,XM _⟩) (q2 λz=>by cases z)
  | tup ds=>exact .mk (.inl ⟨h1,rfl,XG h2 hn⟩) (by
    have e:aD (.tup ds) (.str s)=false:=(by rw[aD];rfl);show k (aD (.tup ds) (.str s));rw[e];exact q2 λz=>by cases z)
  |_=>exact g.elim
theorem BR {d0 TM:D} (h:d0≠.str "table"):dg [d0,TM]=false:=by
 cases d0 with
 |str s=>exact decide_eq_false λz=>h (by rw[z])
 |_=>rfl
noncomputable def Ro:B:=.cons (.ret (.cmp .NotEq (.lc 1 [1] (.one 0) (.seq (.v 0)) (.call 55 (.cons (.v 0) (.cons (.v 1) .nil))) (.v 0)) (.lst .nil))) .nil
noncomputable def BS:B:=.cons (.cond (.not (.bi .iP (.cons (.v 0) (.cons (.ty "tuple") .nil)))) (.cons (.ret (.c (.bl false))) .nil) .nil) Ro
noncomputable def Rp:B:=.cons (.cond (.and (.bi .iP (.cons (.v 0) (.cons (.ty "tuple") .nil))) (.and (.cmp .Eq (.bi .len (.cons (.v 0) .nil)) (.c (.int 2))) (.cmp .Eq (.ix (.v 0) (.c (.int 0))) (.c (.str "table"))))) (.cons (.ret (.cmp .In (.ix (.v 0) (.c (.int 1))) (.v 1))) .nil) .nil) BS
theorem Rq:aB ["asked","names"] ["asked","names"] (ag (aa 79)):=⟨rfl,rfl,rfl,by decide +kernel,rfl,by decide +kernel,by decide +kernel⟩
theorem Rr:aH nm 40 ["asked","names"] (ag (aa 79)) (aw (aa 79))=Rp:=by kernel_rfl
def kh (n:Nat):Sp:=λds M Q _=>∃d nv,ds=[d,dD (aC nv)]/\Gd n d/\n<=90/\Q (.bl (b7 nv d)) M
noncomputable abbrev BU (w:Wo) (n:Nat):a0 w:={ cs:=[(55,kh n)] }
theorem Rt (O:Lw w) {n:Nat} (ih:FO w 55 (n+1) (kh n)):FO w 55 (n+2) (kh (n+1)):=by
 refine aL O.ok O.hn _ ⟨"_law_names_one",aa 79,["asked","names"]⟩ (by rw[O.hd];rfl) (BU w n) { cs:=⟨⟨n+1,XC _,ih⟩,trivial⟩ } Rq Rr λds M Q _ h=>?_;obtain⟨d,nv,rfl,g,hn,h⟩:=h;cases d with
 |str s=>rw[b7]at h;exact⟨rfl,false,rfl,false,rfl,ak h⟩
 |int s=>rw[b7]at h;exact⟨rfl,false,rfl,false,rfl,ak h⟩
 |tup ds=>
  obtain⟨g1,g2,g3⟩:=g;have rest:dg ds=false->B.w (BU w n).wd nm.af BS (aS Q) [some (.tup ds),some (dD (aC nv))] M:=by
   intro hb;rw[b7,if_neg (by rw[hb];decide)]at h;refine⟨true,rfl,?_⟩;refine ew (λxs ys M'=>M'=M/\(∀d∈xs,d∈ds)/\xs.length+ys.length<=ds.length/\(bO nv ds=(!ys.isEmpty ||bO nv xs))) ?_ ?_ _ _ _ ⟨rfl,λ_ z=>z,by simp,by simp⟩
   ·rintro ys M' ⟨rfl,_,hl,e⟩;refine⟨trivial,XN (by lia:_<=1000) (by decide),.inl ⟨XM _,.inl (lZ (ak ?_))⟩⟩;have:bO nv ds=!ys.isEmpty:=(by rw[e,bO,Bool.or_false]);rw[<- this];exact h
   ·rintro x xs ys M' ⟨rfl,hm,hl,e⟩;rw[XI]at hl;refine⟨trivial,XN (by lia:_<=1000) (by decide),λN hN=>⟨x,nv,rfl,g2 x (hm x XH),by lia,?_⟩⟩;rw[bO]at e;cases hx:b7 nv x with
    |true=>exact hN _ _ ⟨rfl,λd hd=>hm d (XF _ hd),by simp;lia,by rw[e,hx];simp⟩
    |false=>exact hN _ _ ⟨rfl,λd hd=>hm d (XF _ hd),by lia,by rw[e,hx];simp⟩
  refine⟨rfl,true,rfl,bB (aV (λe=>?_) λe=>ay (by decide) ?_)⟩
  ·have hl:ds.length=2:=by have:=of_decide_eq_true e;lia
   match ds,hl with
   |[d0,TM],_=>
    refine⟨_,rfl,BQ (g2 d0 (by simp)) (by lia) (λhb=>?_) λhb=>rest (BR hb)⟩;subst hb;obtain⟨s,rfl⟩:=g3 TM rfl;rw[b7,if_pos (by rfl)]at h;refine⟨_,rfl,ma (ak ?_)⟩;rw[fR,Option.isSome_map];exact h
  ·exact rest (kg λz=>e (by rw[z];rfl))
 |_=>exact g.elim
theorem BV (O:Lw w):∀n,FO w 55 (n+1) (kh n)
 | 0=>(FO.imp (iV O.ok (by rw[O.hd];rfl) (cs:=[]) trivial) λds M Q E ⟨_,_,_,g,_⟩=>g.elim:FO w 55 1 (kh 0))
 |n+1=>Rt O (BV O n)
noncomputable def uz (nv:Nv):List D->D
 |[_,.str x]=>.str ((bz x nv).getD "")
 |_=>.aj
mutual
noncomputable def bP (nv:Nv):D->D
 |.tup ds=>if (dg ds && uy nv ds)=true then .tup [.str "both",.tup ds,.tup [.str "table",uz nv ds]] else .tup (bI nv ds)
 |.aj=>.aj |.bl b=>.bl b |.int i=>.int i |.str s=>.str s |.ref a=>.ref a |.ty t=>.ty t |.lst l=>.lst l |.ao k l=>.ao k l
noncomputable def bI (nv:Nv):List D->List D
 |[]=>[]
 |d::r=>bP nv d::bI nv r
end
theorem BW {nv:Nv}:∀ds:List D,bI nv ds=ds.map (bP nv)
 |[]=>by rw[bI];rfl
 |d::r=>by rw[bI,BW r];rfl
noncomputable def BX:B:=.cons (.ret (.bi .tuple (.cons (.lc 1 [1] (.one 0) (.seq (.v 0)) .ar (.call 56 (.cons (.v 0) (.cons (.v 1) .nil)))) .nil))) .nil
noncomputable def Ru:B:=.cons (.cond (.and (.cmp .Eq (.bi .len (.cons (.v 0) .nil)) (.c (.int 2))) (.and (.cmp .Eq (.ix (.v 0) (.c (.int 0))) (.c (.str "table"))) (.cmp .In (.ix (.v 0) (.c (.int 1))) (.v 1)))) (.cons (.ret (.tup (.cons (.c (.str "both")) (.cons (.v 0) (.cons (.tup (.cons (.c (.str "table")) (.cons (.ix (.v 1) (.ix (.v 0) (.c (.int 1)))) .nil))) .nil))))) .nil) .nil) BX
noncomputable def Rv:B:=.cons (.cond (.not (.bi .iP (.cons (.v 0) (.cons (.ty "tuple") .nil)))) (.cons (.ret (.v 0)) .nil) .nil) Ru
theorem Rw:aB ["asked","names"] ["asked","names"] (ag (aa 80)):=⟨rfl,rfl,rfl,by decide +kernel,rfl,by decide +kernel,by decide +kernel⟩
theorem Rx:aH nm 40 ["asked","names"] (ag (aa 80)) (aw (aa 80))=Rv:=by kernel_rfl
def ki (n:Nat):Sp:=λds M Q _=>∃d nv,ds=[d,dD (aC nv)]/\Gd n d/\n<=90/\Q (bP nv d) M
noncomputable abbrev BY (w:Wo) (n:Nat):a0 w:={ cs:=[(56,ki n)] }
theorem Ry (O:Lw w) {n:Nat} (ih:FO w 56 (n+1) (ki n)):FO w 56 (n+2) (ki (n+1)):=by
 refine aL O.ok O.hn _ ⟨"_law_behind",aa 80,["asked","names"]⟩ (by rw[O.hd];rfl) (BY w n) { cs:=⟨⟨n+1,XC _,ih⟩,trivial⟩ } Rw Rx λds M Q _ h=>?_;obtain⟨d,nv,rfl,g,hn,h⟩:=h;cases d with
 |str s=>rw[bP]at h;exact⟨rfl,false,rfl,ak h⟩
 |int s=>rw[bP]at h;exact⟨rfl,false,rfl,ak h⟩
 |tup ds=>
  obtain⟨g1,g2,g3⟩:=g;have rest:(dg ds && uy nv ds)=false->B.w (BY w n).wd nm.af BX (aS Q) [some (.tup ds),some (dD (aC nv))] M:=by
   intro hb;rw[bP,if_neg (by rw[hb];decide),BW]at h;refine ew (λxs ys M'=>M'=M/\∃pre,ds=pre++xs/\ys=pre.map (bP nv)) ?_ ?_ _ _ _ ⟨rfl,[],rfl,rfl⟩
   ·rintro ys M' ⟨rfl,pre,e,rfl⟩;rw[XX]at e;subst e;exact⟨trivial,XN (by rw[Xx];lia:_<=1000) (by decide),.inl (ak h)⟩
   ·rintro x xs ys M' ⟨rfl,pre,e,rfl⟩;have lp:pre.length<=ds.length:=(by rw[e];simp);exact⟨trivial,XN (by rw[Xx];lia:_<=1000) (by decide),λN hN=>⟨x,nv,rfl,g2 x (by rw[e];simp),by lia,hN _ _ ⟨rfl,pre++[x],by rw[e];simp,by simp⟩⟩⟩
  refine⟨rfl,true,rfl,bB (aV (λe=>?_) λe=>ay (by decide) ?_)⟩
  ·have hl:ds.length=2:=by have:=of_decide_eq_true e;lia
   match ds,hl with
   |[d0,TM],_=>
    refine⟨_,rfl,BQ (g2 d0 (by simp)) (by lia) (λhb=>?_) λhb=>rest (by rw[BR hb];rfl)⟩;subst hb;obtain⟨s,rfl⟩:=g3 TM rfl;have it:dg [.str "table",.str s]=true:=(by rfl);refine⟨_,rfl,ma ?_⟩;rw[fR,Option.isSome_map];cases hz:bz s nv with
    |none=>exact rest (by rw[it];show (bz s nv).isSome=false;rw[hz];rfl)
    |some z=>
     rw[bP,if_pos (by rw[it];show (bz s nv).isSome=true;rw[hz];rfl)]at h;refine⟨_,rfl,l9 (d:=.str z) (by rw[fR,hz];rfl) ⟨l2,l3,ak ?_⟩⟩;have:uz nv [.str "table",.str s]=.str z:=(by show D.str ((bz s nv).getD "")=_;rw[hz];rfl);rw[this]at h;exact h
  ·exact rest (by rw[kg λz=>e (by rw[z];rfl)];rfl)
 |_=>exact g.elim
theorem BZ (O:Lw w):∀n,FO w 56 (n+1) (ki n)
 | 0=>(FO.imp (iV O.ok (by rw[O.hd];rfl) (cs:=[]) trivial) λds M Q E ⟨_,_,_,g,_⟩=>g.elim:FO w 56 1 (ki 0))
 |n+1=>Ry O (BZ O n)
theorem Gd.up:∀{n m:Nat}{d:D},Gd n d->n<=m->Gd m d
 | 0,_,_,h,_=>h.elim
 |n+1,0,_,_,h=>by lia
 |n+1,m+1,.str _,h,_=>trivial
 |n+1,m+1,.int _,h,_=>trivial
 |n+1,m+1,.tup ds,h,l=>⟨h.1,λd hd=>Gd.up (h.2.1 d hd) (by lia),h.2.2⟩
 |n+1,m+1,.aj,h,_=>h.elim
 |n+1,m+1,.bl _,h,_=>h.elim
 |n+1,m+1,.ref _,h,_=>h.elim
 |n+1,m+1,.ty _,h,_=>h.elim
 |n+1,m+1,.lst _,h,_=>h.elim
 |n+1,m+1,.ao _ _,h,_=>h.elim
structure Cd (nv:Nv) (n:Nat) (d:D) (b:Bool) (e:D):Prop where
 m:b7 nv d=b
 h:bP nv d=e
 g:Gd n d
section
variable {nv:Nv}{n m:Nat}{d e d' e':D}{b b':Bool}{s y:Str}{i:Int}
theorem Cd.up (h:Cd nv n d b e) (l:n<=m):Cd nv m d b e:=⟨h.m,h.h,h.g.up l⟩
theorem uA:Cd nv (n+1) (.str s) false (.str s):=⟨by rw[b7],by rw[bP],trivial⟩
theorem B0:Cd nv (n+1) (.int i) false (.int i):=⟨by rw[b7],by rw[bP],trivial⟩
theorem B1 (h:s≠"table"):dg [.str s,d]=false:=decide_eq_false h
theorem gD (hs:s≠"table") (h:Cd nv (n+1) d b e):Cd nv (n+2) (.tup [.str s,d]) b (.tup [.str s,e]):=by
 refine⟨?_,?_,by simp,?_,λx z=>?_⟩
 ·rw[b7,B1 hs,if_neg (by decide),bO,bO,bO,b7,h.m];simp
 ·rw[bP,B1 hs,ZR,if_neg (by decide),bI,bI,bI,bP,h.h]
 ·intro x hx;simp only[X5,XT,or_false]at hx;rcases hx with rfl |rfl
  ·exact trivial
  ·exact h.g
 ·injection z with z;injection z with z;exact absurd z hs
theorem uB (h:Cd nv (n+1) d b e) (h':Cd nv (n+1) d' b' e'):Cd nv (n+2) (.tup [.str s,d,d']) (b ||b') (.tup [.str s,e,e']):=by
 have t:dg [D.str s,d,d']=false:=kg (by simp);refine⟨?_,?_,by simp,?_,λx z=>by cases z⟩
 ·rw[b7,t,if_neg (by decide),bO,bO,bO,bO,b7,h.m,h'.m];simp
 ·rw[bP,t,ZR,if_neg (by decide),bI,bI,bI,bI,bP,h.h,h'.h]
 ·intro x hx;simp only[X5,XT,or_false]at hx;rcases hx with rfl |rfl |rfl
  ·exact trivial
  ·exact h.g
  ·exact h'.g
theorem B2 (h:Cd nv (n+1) d b e) (h':Cd nv (n+1) d' b' e'):Cd nv (n+2) (.tup [.str s,.str y,d,d']) (b ||b') (.tup [.str s,.str y,e,e']):=by
 have t:dg [D.str s,.str y,d,d']=false:=kg (by simp);refine⟨?_,?_,by simp,?_,λx z=>by cases z⟩
 ·rw[b7,t,if_neg (by decide),bO,bO,bO,bO,bO,b7,b7,h.m,h'.m];simp
 ·rw[bP,t,ZR,if_neg (by decide),bI,bI,bI,bI,bI,bP,bP,h.h,h'.h]
 ·intro x hx;simp only[X5,XT,or_false]at hx;rcases hx with rfl |rfl |rfl |rfl
  ·exact trivial
  ·exact trivial
  ·exact h.g
  ·exact h'.g
end
structure Cf (nv:Nv) (n:Nat) (ds:List D) (b:Bool) (es:List D):Prop where
 m:bO nv ds=b
 h:bI nv ds=es
 g:∀d∈ds,Gd n d
 t:∀d∈ds,∃l,d=.tup l
theorem B3 {nv:Nv}{n:Nat}:Cf nv n [] false []:=⟨by rw[bO],by rw[bI],λ_ z=>(nomatch z),λ_ z=>nomatch z⟩
theorem B4 {nv:Nv}{n:Nat}{ds es:List D}{f:Str}{d e:D}{b c:Bool} (hf:f≠"table") (h:Cd nv (n+1) d c e) (r:Cf nv (n+2) ds b es):Cf nv (n+2) (.tup [.str f,d]::ds) (c ||b) (.tup [.str f,e]::es):=by
 have h:=gD hf h;refine⟨by rw[bO,h.m,r.m],by rw[bI,h.h,r.h],λx hx=>?_,λx hx=>?_⟩
 ·rcases List.mem_cons.mp hx with e |e
  ·rw[e];exact h.g
  ·exact r.g x e
 ·rcases List.mem_cons.mp hx with e |e
  ·rw[e];exact⟨_,rfl⟩
  ·exact r.t x e
theorem B5 {nv:Nv}{n:Nat}{ds es:List D}{b:Bool} (hl:ds.length<1000) (h:Cf nv n ds b es):Cd nv (n+2) (.tup [.str "row",.tup ds]) b (.tup [.str "row",.tup es]):=by
 have t:dg ds=false:=by
  match ds,h.t with
  |[],_=>rfl
  |d::r,ht=>
   obtain⟨l,rfl⟩:=ht d XH;cases r with
   |nil=>rfl
   |cons _ r=>cases r <;> rfl
 refine gD (by decide +kernel) ⟨by rw[b7,t,if_neg (by decide)];exact h.m,by rw[bP,t,ZR,if_neg (by decide),h.h],hl,h.g,λx z=>?_⟩;rw[z]at t;cases (show dg [.str "table",x]=true from rfl).symm.trans t
mutual
theorem uC {nv:Nv}:∀(k:Kd),fb k=true->kz k<900->Cd nv (kd k+1) (kD k) false (kD k)
 |.num,_,_=>by
  have t:dg [D.str "num"]=false:=kg (by simp);rw[kD,kd];exact⟨by rw[b7,t,if_neg (by decide),bO,bO,b7];rfl,by rw[bP,t,ZR,if_neg (by decide),bI,bI,bP],by decide,λx hx=>by rw[List.mem_singleton.mp hx];exact trivial,λx z=>by cases z⟩
 |.word,_,_=>by
  have t:dg [D.str "word"]=false:=kg (by simp);rw[kD,kd];exact⟨by rw[b7,t,if_neg (by decide),bO,bO,b7];rfl,by rw[bP,t,ZR,if_neg (by decide),bI,bI,bP],by decide,λx hx=>by rw[List.mem_singleton.mp hx];exact trivial,λx z=>by cases z⟩
 |.ai k,h,z=>by
  rw[fb]at h;rw[kz]at z;rw[kD,kd];exact gD (by decide +kernel) (uC k h (by lia))
 |.row fs,h,z=>by
  rw[fb]at h;rw[kz]at z;rw[kD,kd];exact B5 (by rw[uw];have:=B6 fs;lia) (B7 fs (NQ.gz fs) (XC _) h (by lia))
theorem B7 {nv:Nv}:∀(fs:List (Str×Kd)) (n:Nat),NQ.gz fs<=n->j3 fs=true->gy fs<900->Cf nv (n+2) (bj fs) false (bj fs)
 |[],n,_,_,_=>by rw[bj];exact B3
 |(f,k)::r,n,hn,h,z=>by
  rw[j3,XD,XD]at h;rw[gy]at z;rw[NQ.gz]at hn;rw[bj];exact B4 (of_decide_eq_true h.1.1) ((uC k h.1.2 (by lia)).up (by lia)) (B7 r n (by lia) h.2 (by lia))
theorem B6:∀fs:List (Str×Kd),fs.length<=gy fs
 |[]=>XM _
 |(_,k)::r=>by rw[gy,XI];have:=B6 r;lia
end
noncomputable def mz (nv:Nv) (fs:List (Str×Qn)):Bool:=(hK fs).any λx=>(bz x nv).isSome
theorem Rz {nv:Nv}{q a b:Qn}{s:Str}{d':D} (h1:qD q=.tup [.str s,qD a,qD b]) (h2:d'=.tup [.str s,qD (aE nv a),qD (aE nv b)]) (h3:dq q=1+max (dq a) (dq b)) (h4:hs nv q=(hs nv a ||hs nv b)) (h5:qD (aE nv q)=d') (t:Cd nv (dq a+1) (qD a) (hs nv a) (qD (aE nv a))) (u:Cd nv (dq b+1) (qD b) (hs nv b) (qD (aE nv b))):Cd nv (dq q+1) (qD q) (hs nv q) (qD (aE nv q)):=by
 rw[h5,h2,h1,h4,h3,show 1+max (dq a) (dq b)+1=max (dq a) (dq b)+2 by lia];exact uB (t.up (by lia)) (u.up (by lia))
theorem hs2 {nv:Nv}{q a b:Qn} (h:aI q=aI a++aI b):hs nv q=(hs nv a ||hs nv b):=by unfold hs;rw[h,List.any_append]
theorem RA {nv:Nv}{x:Str}:Cd nv (dq (.tab x)+1) (qD (.tab x)) (hs nv (.tab x)) (qD (aE nv (.tab x))):=by
 have it:dg [.str "table",.str x]=true:=by rfl
 have e1:hs nv (.tab x)=(bz x nv).isSome:=by simp [hs,aI]
 refine⟨?_,?_,by simp,?_,λy z=>?_⟩
 ·rw[qD,b7,if_pos it,e1];rfl
 ·rw[qD,bP,it,Bool.true_and,aE];cases h:bz x nv with
  |none=>rw[if_neg (by show ¬(bz x nv).isSome=true;rw[h];decide),bI,bI,bI,bP,bP];rfl
  |some y=>
   rw[if_pos (by show (bz x nv).isSome=true;rw[h];rfl)];have:uz nv [.str "table",.str x]=.str y:=(by show D.str ((bz x nv).getD "")=_;rw[h];rfl);rw[this];rfl
 ·rw[dq];intro d hd;simp only[X5,XT,or_false]at hd;rcases hd with rfl |rfl <;> exact trivial
 ·injection z with _ z;injection z with z _;exact⟨x,z.symm⟩
abbrev hV (nv:Nv) (q:Qn):Prop:=Cd nv (dq q+1) (qD q) (hs nv q) (qD (aE nv q))
theorem gE {nv:Nv}{q a b:Qn}{s:Str} (h1:qD q=.tup [.str s,qD a,qD b]) (h2:qD (aE nv q)=.tup [.str s,qD (aE nv a),qD (aE nv b)]) (h3:dq q=1+max (dq a) (dq b)) (h4:aI q=aI a++aI b):hV nv a->hV nv b->hV nv q:=Rz h1 rfl h3 (hs2 h4) h2
theorem B8 {S:Str->Option Kd}{nv:Nv}{G:Sc}{q:Qn}{k:Kd}:Ty S G q k->hV nv q:=
 (Ty.all (P:=λ_ q _=>hV nv q) (L:=λ_ fs ks=>("table" : Str) ∉ ks.map (·.1)->∀n,bo fs<=n->Cf nv (n+2) (a9 fs) (mz nv fs) (a9 (gB nv fs))) (C:=λ_ q=>hV nv q)
  (gD (by decide +kernel) B0) (gD (by decide +kernel) uA) (λ_=>gD (by decide +kernel) uA) (λ_=>RA) (λ{_ k} h z=>by
   show Cd nv (1+kd k+1) _ _ _;rw[show 1+kd k+1=kd k+2 by lia];exact gD (by decide +kernel) (uC k h z))
  (λ{_ fs _} l n t=>by
   show Cd nv (3+bo fs+1) _ (mz nv fs) _;rw[show 3+bo fs+1=(bo fs+2)+2 by lia];exact B5 (by rw[mh];lia) (t n (bo fs) (XC _)))
  (λ{_ _ q _ _} _ t _=>by
   show Cd nv (1+dq q+1) _ (false ||hs nv q) _;rw[show 1+dq q+1=dq q+2 by lia];exact uB uA t)
  (gE rfl rfl rfl rfl) (gE rfl rfl rfl rfl) (λ{_ q _} t=>by
   show Cd nv (1+dq q+1) _ (hs nv q) _;rw[show 1+dq q+1=dq q+2 by lia];exact gD (by decide +kernel) t) (λ_=>gE rfl rfl rfl rfl) (λ{_ _ q _} t=>by
   show Cd nv (1+dq q+1) _ (false ||hs nv q) _;rw[show 1+dq q+1=dq q+2 by lia];exact uB B0 t)
  (λ{_ _ a b _ _} _ t u=>by
   rw[hV,hs2 (a:=a) (b:=b) rfl];show Cd nv (1+max (dq a) (dq b)+1) _ _ _;rw[show 1+max (dq a) (dq b)+1=max (dq a) (dq b)+2 by lia];exact B2 (t.up (by lia)) (u.up (by lia))) (gE rfl rfl rfl rfl)
  (λ{_ _ a b _ _} _ t u=>by
   rw[hV,hs2 (a:=a) (b:=b) rfl];show Cd nv (1+max (dq a) (dq b)+1) _ _ _;rw[show 1+max (dq a) (dq b)+1=max (dq a) (dq b)+2 by lia];exact B2 (t.up (by lia)) (u.up (by lia)))
  (λ_ _ _=>B3) (λ{_ f q _ r _} t ts hn n hd=>by
   rw[bo]at hd;have e:mz nv ((f,q)::r)=(hs nv q ||mz nv r):=(by unfold mz hs;rw[hK,List.any_append]);rw[a9,gB,a9,e];rw[XJ,X5,not_or]at hn;exact B4 (Y0 hn.1) (t.up (by lia)) (ts hn.2 n (by lia)))
  (gE rfl rfl rfl rfl) (gE rfl rfl rfl rfl) (gE rfl rfl rfl rfl) (gE rfl rfl rfl rfl) (gE rfl rfl rfl rfl) (λ{_ q} t=>by
   show Cd nv (1+dq q+1) _ (hs nv q) _;rw[show 1+dq q+1=dq q+2 by lia];exact gD (by decide +kernel) t)).1
variable {w:Wo}
noncomputable def pC:S->B
 |.loop _ _ b=>b
 |_=>.nil
noncomputable def sq:Qn->List Qn->Qn
 |f,[]=>f
 |f,p::r=>sq (if aO f=true then p else if aO p=true then f else .both f p) r
noncomputable def uD:B:=.cons (.ret (.v 2)) .nil
noncomputable def uE:B:=.cons (.loop (.one 3) (.seq (.v 0)) (.cons (.cond (.cmp .Eq (.ix (.v 2) (.c (.int 0))) (.c (.str "none"))) (.cons (.set (.one 2) (.v 3)) .nil) (.cons (.cond (.cmp .NotEq (.ix (.v 3) (.c (.int 0))) (.c (.str "none"))) (.cons (.set (.one 2) (.tup (.cons (.c (.str "both")) (.cons (.v 2) (.cons (.v 3) .nil))))) .nil) .nil) .nil)) .nil)) uD
noncomputable def RB:B:=.cons (.set (.one 2) (.v 1)) uE
theorem RC:aB ["parts","empty","found","part"] ["parts","empty"] (ag (aa 81)):=⟨rfl,rfl,rfl,by decide +kernel,rfl,by decide +kernel,by decide +kernel⟩
theorem RD:aH nm 40 ["parts","empty","found","part"] (ag (aa 81)) (aw (aa 81))=RB:=by kernel_rfl
def uF:Sp:=λds M Q _=>∃(ps:List Qn) (e:Qn) (x:D),ds=[x,qD e]/\(x=.lst (ps.map qD)\/∃p,x=.ref p/\M p=some (.lst (ps.map qD)))/\Q (qD (sq e ps)) M
theorem B9 {ok:Mp->Prop}{M:Mp}{Q:QK}{x:D}{e0:Qn} (hok:ok M) {ps:List Qn}{e:Qn} (h:Q (qD (sq e ps)) M):f9 ok (cm (.one 3)) (B.w ({}:a0 w).wd nm.af (pC (ez uE))) { aS Q with nx:=dr (B.w ({}:a0 w).wd nm.af uD (aS Q)) } (ps.map qD) [some x,some (qD e0),some (qD e),none] M:=by
 refine ey (λxs τ X=>X=M/\∃(rest:List Qn) (f:Qn) (v:Option D),xs=rest.map qD/\τ=[some x,some (qD e0),some (qD f),v]/\Q (qD (sq f rest)) M) ?_ ?_ _ _ _ ⟨rfl,ps,e,_,rfl,rfl,h⟩
 ·rintro τ X ⟨rfl,rest,f,v,e1,rfl,h⟩;have:rest=[]:=by simpa using e1.symm
  subst this;exact⟨hok,.rfl (ak h)⟩
 ·rintro y xs τ X ⟨rfl,rest,f,v,e1,rfl,h⟩;cases rest with
  |nil=>cases e1
  |cons p rest=>
   cases e1;refine⟨hok,λN hN=>?_⟩;rw[sq,hO,hO]at h;obtain⟨rf,Vk⟩:=cG f;obtain⟨rp,ep⟩:=cG p;have fin:∀g:Qn,Q (qD (sq g rest)) X->N [some x,some (qD e0),some (qD g),some (qD p)] X:=λg hg=>hN _ _ ⟨rfl,rest,g,_,rfl,rfl,hg⟩;have key:∀df dp,df=qD f->dp=qD p->B.w ({}:a0 w).wd nm.af (pC (ez uE)) { nx:=N,ct:=N,rt:=a6 Q,bk:=dr (B.w ({}:a0 w).wd nm.af uD (aS Q)) } [some x,some (qD e0),some df,some dp] X:=by
    intro df dp hf hp;have hf':=hf.trans Vk;have gi:=hp.trans ep;subst hf';subst gi;refine⟨_,c9,au (aV (λz=>?_) λz=>⟨_,c9,au (aV (λy=>?_) λy=>?_)⟩)⟩
    ·rw[if_pos z]at h;rw[hp];exact fin p h
    ·have y:¬decide (wd p="none")=true:=(by simpa using y);rw[if_neg z,if_neg y]at h;have:=fin (.both f p) h;rw[show qD (.both f p)=.tup [.str "both",qD f,qD p] by rw[qD],<- hf,<- hp]at this;exact⟨l3,this⟩
    ·have y:decide (wd p="none")=true:=(by simpa using y);rw[if_neg z,if_pos y]at h;have:=fin f h;rw[<- hf,<- hp]at this;exact this
   exact key _ _ rfl rfl
theorem B' (O:Lw w):FO w 57 1 uF:=by
 refine aL O.ok O.hn _ ⟨"_law_sum",aa 81,["parts","empty"]⟩ (by rw[O.hd];rfl) {} { cs:=trivial } RC RD λds M Q _ h=>?_;obtain⟨ps,e,x,rfl,hx,h⟩:=h;rcases hx with rfl |⟨p,rfl,hM⟩
 ·exact⟨rfl,B9 (x:=.lst (ps.map qD)) (ok:=λ_=>True) trivial h⟩
 ·exact⟨rfl,_,hM,B9 (x:=.ref p) (ok:=λM'=>M' p=some (.lst (ps.map qD))) hM h⟩
variable {w:Wo}
theorem RE {s:Option Qn}{q:Qn} (h:aO q=false):aO (uh s q)=false:=by cases s <;> first |exact h |rfl
theorem pD:∀{ps:List (Option Qn)}{s:Option Qn},(∀p,some p∈ps->aO p=false)->(∀p,s=some p->aO p=false)->∀p,bu s ps=some p->aO p=false
 |[],s,_,h,p,e=>h p e
 |none::r,s,hp,h,p,e=>pD (ps:=r) (λp z=>hp p (XF _ z)) h p e
 |some q::r,s,hp,h,p,e=>pD (ps:=r) (s:=some (uh s q)) (λp z=>hp p (XF _ z)) (λp z=>by cases z;exact RE (hp q XH)) p e
theorem Cb {x:Str}{a b:Option Qn}{p:Qn} (h:mf x a b=some p):aO p=false:=by
 cases a with
 |none=>cases h
 |some a=>cases b with
  |none=>cases h
  |some b=>
   rw[mf]at h;split at h
   ·cases h
   ·cases h;rfl
theorem pE {α:Type} {o:Option α}{f:α->Qn}{p:Qn} (hf:∀q,aO (f q)=false) (h:o.map f=some p):aO p=false:=by
 obtain⟨q,_,rfl⟩:=Option.map_eq_some_iff.mp h;exact hf q
theorem dR {nv:Nv}{q p:Qn} (h:fS nv q=some p):aO p=false:=by
 unfold fS at h;split at h
 ·cases h;rfl
 ·cases h
theorem uG {nv:Nv}:∀{q p:Qn},aq nv q=some p->aO p=false
 |.tab x,p,h=>by rw[aq]at h;split at h;exact pE (λ_=>rfl) h;cases h
 |.both a b,p,h=>by
  rw[aq]at h;split at h
  ·refine pD (λq z=>?_) (λq z=>by cases z) p h;simp only[X5,XT,or_false]at z;rcases z with z |z
   ·exact uG z.symm
   ·exact uG z.symm
  ·cases h
 |.for y a b,p,h=>by
  rw[aq]at h;split at h
  ·refine pD (λq z=>?_) (λq z=>by cases z) p h;simp only[X5,XT,or_false]at z;rcases z with z |z |z <;> exact Cb z.symm
  ·cases h
 |.times i a,p,h=>by rw[aq]at h;split at h;exact pE (λ_=>rfl) h;cases h
 |.aU c a,p,h=>by rw[aq]at h;split at h;exact pE (λ_=>rfl) h;cases h
 |.let y a b,p,h=>by
  rw[aq]at h;split at h
  ·split at h
   ·cases h;rfl
   ·exact pE (λ_=>rfl) h
  ·cases h
 |.num _,p,h=>dR h
 |.word _,p,h=>dR h
 |.var _,p,h=>dR h
 |.none _,p,h=>dR h
 |.row _,p,h=>dR h
 |.at _ _,p,h=>dR h
 |.add _ _,p,h=>dR h
 |.mul _ _,p,h=>dR h
 |.one _,p,h=>dR h
 |.same _ _,p,h=>dR h
 |.under _ _,p,h=>dR h
 |.and _ _,p,h=>dR h
 |.or _ _,p,h=>dR h
 |.not _,p,h=>dR h
noncomputable def aA (nv:Nv) (q:Qn) (k:Kd):Qn:=(aq nv q).getD (.none k)
theorem fT {nv:Nv}{q:Qn}{k:Kd}:aO (aA nv q k)=(aq nv q).isNone:=by
 unfold aA;cases h:aq nv q with
 |none=>rfl
 |some p=>exact uG h
theorem Cc:∀{ps:List Qn}{s:Qn},aO s=false->(∀p∈ps,aO p=false)->sq s ps=(bu (some s) (ps.map some)).getD s
 |[],s,_,_=>rfl
 |p::r,s,h,hp=>by
  have h1:=hp p XH;have e:sq s (p::r)=sq (.both s p) r:=by rw[sq,h,h1];rfl
  rw[e,Cc (s:=.both s p) rfl λq z=>hp q (XF _ z),XJ,bu];show (bu (some (.both s p)) _).getD _=(bu (some (.both s p)) _).getD _;cases z:bu (some (.both s p)) (r.map some) with
  |some q=>rfl
  |none=>
   exfalso;have:∀{ps:List (Option Qn)}{s:Qn},bu (some s) ps≠none:=by
    intro ps
    induction ps with
    |nil=>intro s e;cases e
    |cons o r ih=>intro s e;cases o with
     |none=>exact ih e
     |some q=>exact ih e
   exact this z
theorem RF {ps:List Qn}{k:Kd} (hp:∀p∈ps,aO p=false):sq (.none k) ps=(bu none (ps.map some)).getD (.none k):=by
 cases ps with
 |nil=>rfl
 |cons p r=>
  have e:sq (.none k) (p::r)=sq p r:=by rw[sq];rfl
  rw[e,Cc (hp p XH) λq z=>hp q (XF _ z),XJ,bu];show _=(bu (some p) _).getD _;cases z:bu (some p) (r.map some) with
  |some q=>rfl
  |none=>
   exfalso;have:∀{ps:List (Option Qn)}{s:Qn},bu (some s) ps≠none:=by
    intro ps
    induction ps with
    |nil=>intro s e;cases e
    |cons o r ih=>intro s e;cases o with
     |none=>exact ih e
     |some q=>exact ih e
   exact this z
theorem RG {nv:Nv}{a b:Qn}{k:Kd}:sq (.none k) [aA nv a k,aA nv b k]=(bu none [aq nv a,aq nv b]).getD (.none k):=by
 have e:sq (.none k) [aA nv a k,aA nv b k]=sq (aA nv a k) [aA nv b k]:=by rw[sq];rfl
 rw[e,sq,sq,fT,fT];unfold aA;cases aq nv a <;> cases aq nv b <;> rfl
noncomputable def hW (nv:Nv) (y:Str) (a b:Qn):List (Option Qn):=[mf y (aq nv a) (some b),mf y (some a) (aq nv b),mf y (aq nv a) (aq nv b)]
theorem RH {nv:Nv}{y:Str}{a b:Qn}{k:Kd}:sq (.none k) ((hW nv y a b).filterMap id)=(bu none (hW nv y a b)).getD (.none k):=by
 rw[pg,RF];intro p hp;obtain⟨o,h1,h2⟩:=List.mem_filterMap.mp hp;cases h2;unfold hW at h1;simp only[X5,XT,or_false]at h1;rcases h1 with z |z |z <;> exact Cb z.symm
structure Du (sc:Sc) (q:Qn) (k:Kd) (n:Nat):Prop where
 t:Ty kS sc q (.ai k)
 l:sc.length+dn q<60
 k:∀m∈sc,kd m.2<=20
 n:dn q<=n
 d:dq q<=60
def hY (n:Nat):Sp:=λds M Q _=>∃(q:Qn) (sc:Sc) (nv:Nv) (k:Kd),ds=[qD q,aN sc,dD (aC nv)]/\Du sc q k n/\Q (qD (aA nv q k)) M
def Ce (n:Nat):Sp:=λds M Q _=>∃(y:Str) (a b:Qn) (sc:Sc) (nv:Nv) (k:Kd),ds=[qD (.for y a b),aN sc,dD (aC nv),qD (.none k)]/\Du sc (.for y a b) k (n+1)/\Q (qD ((bu none (hW nv y a b)).getD (.none k))) M
noncomputable def Cg:B:=.cons (.ret (.call 57 (.cons (.v 11) (.cons (.v 3) .nil)))) .nil
noncomputable def Ci:B:=.cons (.loop (.many [12,13]) (.seq (.lst (.cons (.tup (.cons (.v 9) (.cons (.v 7) .nil))) (.cons (.tup (.cons (.v 6) (.cons (.v 10) .nil))) (.cons (.tup (.cons (.v 9) (.cons (.v 10) .nil))) .nil))))) (.cons (.cond (.and (.cmp .NotEq (.ix (.v 12) (.c (.int 0))) (.c (.str "none"))) (.cmp .NotEq (.ix (.v 13) (.c (.int 0))) (.c (.str "none")))) (.cons (.ex (.mt .append (.v 11) (.cons (.tup (.cons (.c (.str "for")) (.cons (.v 5) (.cons (.v 12) (.cons (.v 13) .nil))))) .nil))) .nil) .nil) .nil)) Cg
noncomputable def RI:B:=.cons (.set (.one 11) (.lst .nil)) Ci
noncomputable def RJ:B:=.cons (.set (.one 10) (.call 59 (.cons (.v 7) (.cons (.v 8) (.cons (.v 2) .nil))))) RI
noncomputable def RK:B:=.cons (.set (.one 9) (.call 59 (.cons (.v 6) (.cons (.v 1) (.cons (.v 2) .nil))))) RJ
noncomputable def RL:B:=.cons (.set (.one 8) (.op .Add (.lst (.cons (.tup (.cons (.v 5) (.cons (.ix (.call 53 (.cons (.v 6) (.cons (.v 1) .nil))) (.c (.int 1))) .nil))) .nil)) (.v 1))) RK
noncomputable def RM:B:=.cons (.set (.many [4,5,6,7]) (.v 0)) RL
theorem RN:aB ["asked","scope","names","empty","word","name","over","body","inner","one","two","parts","left","right"] ["asked","scope","names","empty"] (ag (aa 82)):=⟨rfl,rfl,rfl,by decide +kernel,rfl,by decide +kernel,by decide +kernel⟩
theorem RO:aH nm 40 ["asked","scope","names","empty","word","name","over","body","inner","one","two","parts","left","right"] (ag (aa 82)) (aw (aa 82))=RM:=by kernel_rfl
noncomputable abbrev uH (w:Wo) (n:Nat):a0 w:={ cs:=[(53,je 60),(59,hY n),(57,uF)] }
theorem uJ {nv:Nv}{y:Str}{l r:Qn}{o p:Option Qn} (hl:aO l=o.isNone\/o=some l) (hr:aO r=p.isNone\/p=some r) (ho:∀q,o=some q->q=l) (hp:∀q,p=some q->q=r):mf y o p=if aO l=true\/aO r=true then none else some (.for y l r):=by
 cases o with
 |none=>
  have:aO l=true:=by rcases hl with h |h;exact h;cases h
  rw[if_pos (.inl this)];rfl
 |some q=>
  cases ho q rfl;cases p with
  |none=>
   have:aO r=true:=(by rcases hr with h |h;exact h;cases h);rw[if_pos (.inr this)];rfl
  |some s=>
   cases hp s rfl;rw[mf];by_cases h:aO l=true\/aO r=true
   ·rw[if_pos h,if_pos (by simpa using h)]
   ·rw[if_neg h,if_neg (by simpa using h)]
theorem RP (O:Lw w) {n:Nat} (ih:FO w 59 (2 * n+70) (hY n)):FO w 58 (2 * n+71) (Ce n):=by
 refine aL O.ok O.hn _ ⟨"_law_fors",aa 82,["asked","scope","names","empty"]⟩ (by rw[O.hd];rfl) (uH w n) { cs:=⟨⟨62,by lia,ux O 60⟩,⟨2 * n+70,XC _,ih⟩,⟨1,by lia,B' O⟩,trivial⟩ } RN RO λds M Q _ h=>?_;obtain⟨y,a,b,sc,nv,k,rfl,U,h⟩:=h;have ul:=U.l;have un:=U.n;have ud:=U.d
 rw[dn]at ul un;rw[dq]at ud;cases U.t with
 |@«for» _ _ _ _ _ l z t1 t2=>
 refine⟨rfl,rfl,a,sc,.ai l,rfl,by lia,U.k,t1,by lia,_,rfl,l2,l1,.inl ⟨px U.l,.inl ?_⟩⟩;refine⟨a,sc,nv,l,rfl,⟨t1,by lia,U.k,by lia,by lia⟩,?_⟩;refine⟨b,(y,l)::sc,nv,k,rfl,⟨t2,by rw[XI];lia,pv U.k z,by lia,by lia⟩,?_⟩;refine⟨XM _,.inr λp hp=>⟨l2,l2,l2,l3,.inl ?_⟩⟩;have h1:aO (aA nv a l)=(aq nv a).isNone:=fT;have h2:aO (aA nv b k)=(aq nv b).isNone:=fT;have e1:∀q,aq nv a=some q->q=aA nv a l:=λq e=>by unfold aA;rw[e];rfl
 have e2:∀q,aq nv b=some q->q=aA nv b k:=λq e=>by unfold aA;rw[e];rfl
 have ep:hW nv y a b=[(aA nv a l,b),(a,aA nv b k),(aA nv a l,aA nv b k)].map λp=>if aO p.1=true\/aO p.2=true then none else some (.for y p.1 p.2):=by
  unfold hW;rw[uJ (nv:=nv) (l:=aA nv a l) (r:=b) (.inl h1) (.inr rfl) e1 (λq e=>by cases e;rfl),uJ (nv:=nv) (l:=a) (r:=aA nv b k) (.inr rfl) (.inl h2) (λq e=>by cases e;rfl) e2,uJ (nv:=nv) (l:=aA nv a l) (r:=aA nv b k) (.inl h1) (.inl h2) e1 e2];rfl
 refine ey (λxs τ X=>∃ (rest pre:List (Qn×Qn)) (u v:Option D),xs=rest.map (λp=>.tup [qD p.1,qD p.2])/\[(aA nv a l,b),(a,aA nv b k),(aA nv a l,aA nv b k)]=pre++rest/\τ=[some (qD (.for y a b)),some (aN sc),some (dD (aC nv)),some (qD (.none k)),some (.str "for"),some (.str y),some (qD a),some (qD b),some (aN ((y,l)::sc)),some (qD (aA nv a l)),some (qD (aA nv b k)),some (.ref p),u,v] /\
   X=up M p (.lst (((pre.map λp=>if aO p.1=true\/aO p.2=true then none else some (Qn.for y p.1 p.2)).filterMap id).map qD))) ?_ ?_ _ _ _ ⟨_,[],none,none,rfl,rfl,rfl,rfl⟩
 ·rintro τ X ⟨rest,pre,u,v,e3,e4,rfl,rfl⟩;have:rest=[]:=by simpa using e3.symm
  subst this;rw[XX]at e4;subst e4;refine⟨trivial,.rfl ?_⟩;rw[<- ep];refine⟨(hW nv y a b).filterMap id,.none k,.ref p,rfl,.inr ⟨p,rfl,av⟩,y' hp rfl ?_⟩;rw[RH];exact h
 ·rintro x xs τ X ⟨rest,pre,u,v,e3,e4,rfl,rfl⟩;cases rest with
  |nil=>cases e3
  |cons g rest=>
   obtain⟨L,R⟩:=g;cases e3;have lp:pre.length<=3:=by have:=congrArg List.length e4;simp at this;lia
   have Ue:[(aA nv a l,b),(a,aA nv b k),(aA nv a l,aA nv b k)]=(pre++[(L,R)])++rest:=(by rw[e4];simp);have ll:((pre.map λp=>if aO p.1=true\/aO p.2=true then none else some (Qn.for y p.1 p.2)).filterMap id).length<=3:=XG (Zq ..) (by rw[Xx];exact lp)
   refine⟨trivial,λN hN=>⟨rfl,?_⟩⟩;have skip:aO L=true\/aO R=true->N [some (qD (.for y a b)),some (aN sc),some (dD (aC nv)),some (qD (.none k)),some (.str "for"),some (.str y),some (qD a),some (qD b),some (aN ((y,l)::sc)),some (qD (aA nv a l)),some (qD (aA nv b k)),some (.ref p),some (qD L),some (qD R)] (up M p (.lst (((pre.map λp=>if aO p.1=true\/aO p.2=true then none else some (Qn.for y p.1 p.2)).filterMap id).map qD))):=λz=>hN _ _ ⟨rest,pre++[(L,R)],_,_,rfl,Ue,rfl,by rw[XZ,List.filterMap_append,XJ,YA,if_pos z];simp⟩
   obtain⟨VB,el⟩:=cG L;obtain⟨rr,WT⟩:=cG R;have key:∀dl T4,dl=qD L->T4=qD R->B.w (uH w n).wd nm.af (pC (ez Ci)) { nx:=N,ct:=N,rt:=a6 Q,bk:=dr (B.w (uH w n).wd nm.af Cg (aS Q)) } [some (qD (.for y a b)),some (aN sc),some (dD (aC nv)),some (qD (.none k)),some (.str "for"),some (.str y),some (qD a),some (qD b),some (aN ((y,l)::sc)),some (qD (aA nv a l)),some (qD (aA nv b k)),some (.ref p),some dl,some T4] (up M p (.lst (((pre.map λp=>if aO p.1=true\/aO p.2=true then none else some (Qn.for y p.1 p.2)).filterMap id).map qD))):=by
    intro dl T4 hl hr;have hl':=hl.trans el;have hr':=hr.trans WT;subst hl';subst hr';refine⟨_,c9,au (aV (λz1=>⟨_,c9,au (aV (λz2=>?_) λz2=>?_)⟩) λz1=>ay (by decide) ?_)⟩
    ·have n1:¬aO L=true:=(by rw[hO];simpa using z1);have n2:¬aO R=true:=(by rw[hO];simpa using z2);refine⟨.inl ⟨rfl,_,av⟩,l4,_,av,XN (by rw[Xx];exact ll:_<=3) (by decide),?_⟩;have:=hN _ (up M p (.lst ((((pre++[(L,R)]).map λp=>if aO p.1=true\/aO p.2=true then none else some (Qn.for y p.1 p.2)).filterMap id).map qD))) ⟨rest,pre++[(L,R)],some (qD L),some (qD R),rfl,Ue,rfl,rfl⟩
     rw[_root_.N.cF,hl,hr];rw[XZ,List.filterMap_append,XJ,YA,if_neg (λz=>z.elim n1 n2),XZ]at this;exact this
    ·rw[hl,hr];exact skip (.inr (by rw[hO];simpa using z2))
    ·rw[hl,hr];exact skip (.inl (by rw[hO];simpa using z1))
   exact key _ _ rfl rfl
variable {w:Wo}
noncomputable def Cj:B:=.cons (.ret (.tup (.cons (.c (.str "both")) (.cons (.call 56 (.cons (.v 0) (.cons (.v 2) .nil))) (.cons (.tup (.cons (.c (.str "times")) (.cons (.neg (.c (.int 1))) (.cons (.v 0) .nil)))) .nil))))) .nil
noncomputable def pF:B:=.cons (.cond (.and (.cmp .Eq (.v 4) (.c (.str "let"))) (.not (.call 55 (.cons (.ix (.v 0) (.c (.int 2))) (.cons (.v 2) .nil))))) (.cons (.set (.one 5) (.call 59 (.cons (.ix (.v 0) (.c (.int 3))) (.cons (.op .Add (.lst (.cons (.tup (.cons (.ix (.v 0) (.c (.int 1))) (.cons (.call 53 (.cons (.ix (.v 0) (.c (.int 2))) (.cons (.v 1) .nil))) .nil))) .nil)) (.v 1)) (.cons (.v 2) .nil))))) (.cons (.ret (.ix (.lst (.cons (.tup (.cons (.c (.str "let")) (.cons (.ix (.v 0) (.c (.int 1))) (.cons (.ix (.v 0) (.c (.int 2))) (.cons (.v 5) .nil))))) (.cons (.v 3) .nil))) (.bi .int (.cons (.cmp .Eq (.ix (.v 5) (.c (.int 0))) (.c (.str "none"))) .nil)))) .nil)) .nil) Cj
noncomputable def uK:B:=.cons (.cond (.cmp .In (.v 4) (.tup (.cons (.c (.str "times")) (.cons (.c (.str "when")) .nil)))) (.cons (.set (.one 5) (.call 59 (.cons (.ix (.v 0) (.c (.int 2))) (.cons (.v 1) (.cons (.v 2) .nil))))) (.cons (.ret (.ix (.lst (.cons (.tup (.cons (.v 4) (.cons (.ix (.v 0) (.c (.int 1))) (.cons (.v 5) .nil)))) (.cons (.v 3) .nil))) (.bi .int (.cons (.cmp .Eq (.ix (.v 5) (.c (.int 0))) (.c (.str "none"))) .nil)))) .nil)) .nil) pF
noncomputable def RQ:B:=.cons (.cond (.cmp .Eq (.v 4) (.c (.str "for"))) (.cons (.ret (.call 58 (.cons (.v 0) (.cons (.v 1) (.cons (.v 2) (.cons (.v 3) .nil)))))) .nil) .nil) uK
noncomputable def RS:B:=.cons (.cond (.cmp .Eq (.v 4) (.c (.str "both"))) (.cons (.ret (.call 57 (.cons (.lst (.cons (.call 59 (.cons (.ix (.v 0) (.c (.int 1))) (.cons (.v 1) (.cons (.v 2) .nil)))) (.cons (.call 59 (.cons (.ix (.v 0) (.c (.int 2))) (.cons (.v 1) (.cons (.v 2) .nil)))) .nil))) (.cons (.v 3) .nil)))) .nil) .nil) RQ
noncomputable def uL:B:=.cons (.cond (.cmp .Eq (.v 4) (.c (.str "table"))) (.cons (.ret (.tup (.cons (.c (.str "table")) (.cons (.ix (.v 2) (.ix (.v 0) (.c (.int 1)))) .nil)))) .nil) .nil) RS
noncomputable def Ck:B:=.cons (.cond (.not (.call 55 (.cons (.v 0) (.cons (.v 2) .nil)))) (.cons (.ret (.v 3)) .nil) .nil) uL
noncomputable def Cm:B:=.cons (.set (.one 4) (.ix (.v 0) (.c (.int 0)))) Ck
noncomputable def RT:B:=.cons (.set (.one 3) (.tup (.cons (.c (.str "none")) (.cons (.ix (.call 53 (.cons (.v 0) (.cons (.v 1) .nil))) (.c (.int 1))) .nil)))) Cm
theorem RU:aB ["asked","scope","names","empty","word","part"] ["asked","scope","names"] (ag (aa 83)):=⟨rfl,rfl,rfl,by decide +kernel,rfl,by decide +kernel,by decide +kernel⟩
theorem RV:aH nm 40 ["asked","scope","names","empty","word","part"] (ag (aa 83)) (aw (aa 83))=RT:=by kernel_rfl
noncomputable abbrev cI (w:Wo) (n:Nat):a0 w:={ cs:=[(53,je 60),(55,kh 61),(56,ki 61),(57,uF),(58,Ce n),(59,hY n)] }
theorem uM {x:D}{p:Qn}{e:D}{M:Mp}{k:QK} (h1:aO p=true->k e M) (h2:¬aO p=true->k x M):aG (.lst [x,e]) (.int (if decide (wd p="none") then 1 else 0)) M k:=by
 rw[<- hO];cases h:aO p with
 |true=>exact⟨e,rfl,h1 h⟩
 |false=>exact⟨x,rfl,h2 (by rw[h];decide)⟩
theorem RW {nv:Nv}{q:Qn} (h:hs nv q=false):aq nv q=none:=by
 have n:¬hs nv q=true:=by rw[h];decide
 cases q with
 |tab x=>rw[aq,if_neg n]
 |both a b=>rw[aq,if_neg n]
 | «for» y a b=>rw[aq,if_neg n]
 |times i a=>rw[aq,if_neg n]
 |aU c a=>rw[aq,if_neg n]
 | «let» y a b=>rw[aq,if_neg n]
 |_=>show fS nv _=none;unfold fS;exact if_neg n
theorem RX (O:Lw w) {n:Nat} (ih:FO w 59 (2 * n+70) (hY n)):FO w 59 (2 * n+72) (hY (n+1)):=by
  refine aL O.ok O.hn _ ⟨"_law_due",aa 83,["asked","scope","names"]⟩ (by rw[O.hd];rfl) (cI w n) { cs:=⟨⟨62,by lia,ux O 60⟩,⟨62,by lia,BV O 61⟩,⟨62,by lia,BZ O 61⟩,⟨1,by lia,B' O⟩,⟨2 * n+71,XC _,RP O ih⟩,⟨2 * n+70,by lia,ih⟩,trivial⟩ } RU RV λds M Q _ h=>?_;obtain⟨q,sc,nv,k,rfl,U,h⟩:=h;have C:=B8 (nv:=nv) U.t;have G:=C.g.up (m:=61) (by have:=U.d;lia)
  have ul:=U.l;have un:=U.n;have ud:=U.d
  obtain⟨r,e⟩:=cG q;refine⟨rfl,q,sc,.ai k,rfl,U.l,U.k,U.t,by lia,_,rfl,l2,?_⟩;have st:∀ z,z=qD q->B.w (cI w n).wd nm.af Ck (aS Q) [some z,some (aN sc),some (dD (aC nv)),some (qD (.none k)),some (.str (wd q)),none] M->B.w (cI w n).wd nm.af Cm (aS Q) [some z,some (aN sc),some (dD (aC nv)),some (qD (.none k)),none,none] M:=by
    intro z hz hh;have hz':=hz.trans e;subst hz';exact⟨_,c9,hh⟩
  refine st _ rfl ⟨qD q,nv,rfl,G,by decide,?_⟩;rw[C.m];cases hh:hs nv q with
  | false=>
    have e0:aA nv q k=.none k:=by
      unfold aA;rw[RW hh];rfl
    rw[e0]at h;exact ak h
  | true=>
    show B.w (cI w n).wd nm.af uL (aS Q) [some (qD q),some (aN sc),some (dD (aC nv)),some (qD (.none k)),some (.str (wd q)),none] M;have de:(["table","both","for","times","when","let"]:List Str).all (λs=>decide (wd q≠s))=true->aq nv q=some (fj nv q)->B.w (cI w n).wd nm.af uL (aS Q) [some (qD q),some (aN sc),some (dD (aC nv)),some (qD (.none k)),some (.str (wd q)),none] M:=by
      intro ha hd;have g:=λs hs=>of_decide_eq_true (List.all_eq_true.mp ha s hs);unfold aA at h;rw[hd]at h;refine az (c:=cI w n) (z:=wd q) (az (z:=wd q) (az (z:=wd q) (pk (z:=wd q) ?_ (uo (g _ (by simp)) (g _ (by simp)))) (g _ (by simp))) (g _ (by simp))) (g _ (by simp));refine au (dz (g _ (by simp)) ⟨qD q,nv,rfl,G,by decide,l3,l3,ak ?_⟩);rw[C.h];exact h
    cases q with
    | tab x=>
      have hx:∃ z,bz x nv=some z:=by
        cases hz:bz x nv with
        | none => have : hs nv (.tab x) = false := by simp [hs, aI, hz]
                  rw[hh]at this;cases this
        |some z=>exact⟨z,rfl⟩
      obtain⟨z,hz⟩:=hx;unfold aA at h;rw[aq,if_pos hh,hz]at h;exact eF (c:=cI w n) ⟨_,rfl,l9 (d:=.str z) (by rw[fR,hz];rfl) ⟨l2,ak h⟩⟩
    | both a b=>
      cases U.t with
      |both kz t1 t2=>
      rw[dn]at ul un;rw[dq]at ud;have e0:aA nv (.both a b) k=(bu none [aq nv a,aq nv b]).getD (.none k):=(by unfold aA;rw[aq,if_pos hh]);rw[e0,<- RG]at h;exact az (c:=cI w n) (z:="both") (eF ⟨_,rfl,a,sc,nv,k,rfl,⟨t1,by lia,U.k,by lia,by lia⟩,_,rfl,b,sc,nv,k,rfl,⟨t2,by lia,U.k,by lia,by lia⟩,l2,.inl ⟨[aA nv a k,aA nv b k],.none k,_,rfl,.inl rfl,ak h⟩⟩)
    | «for» y a b=>
      have e0:aA nv (.for y a b) k=(bu none (hW nv y a b)).getD (.none k):=(by unfold aA;rw[aq,if_pos hh];rfl);rw[e0]at h;exact az (c:=cI w n) (z:="for") (az (z:="for") (eF ⟨y,a,b,sc,nv,k,rfl,U,ak h⟩))
    | times i a=>
      cases U.t with
      |times t1=>
      rw[dn]at ul un;rw[dq]at ud;have e0:aA nv (.times i a) k=((aq nv a).map (.times i)).getD (.none k):=(by unfold aA;rw[aq,if_pos hh]);rw[e0]at h;refine az (c:=cI w n) (z:="times") (az (z:="times") (az (z:="times") (pq (z:="times") ⟨_,rfl,a,sc,nv,k,rfl,⟨t1,by lia,U.k,by lia,by lia⟩,?_⟩)));obtain⟨rp,ep⟩:=cG (aA nv a k);have key:∀ z,z=qD (aA nv a k)->B.w (cI w n).wd nm.af (a7 (oN (ez uK))) { aS Q with nx:=B.w (cI w n).wd nm.af pF (aS Q) } [some (qD (.times i a)),some (aN sc),some (dD (aC nv)),some (qD (.none k)),some (.str "times"),some z] M:=by
        intro z hz;have hz':=hz.trans ep;subst hz';refine⟨_,rfl,l3,l2,.inl ⟨_,c9,au (uM (λhn=>?_) λhn=>?_)⟩⟩
        · rw[fT]at hn;cases hd:aq nv a with
          |none=>rw[hd]at h;exact ak h
          |some p=>rw[hd]at hn;cases hn
        · rw[fT]at hn;cases hd:aq nv a with
          |none=>rw[hd]at hn;exact absurd rfl hn
          | some p=>
            have e1:aA nv a k=p:=(by unfold aA;rw[hd];rfl);rw[hd]at h;rw[hz,e1];exact ak h
      exact key _ rfl
    | aU c a=>
      cases U.t with
      |aU _ t1=>
      rw[dn]at ul un;rw[dq]at ud;have e0:aA nv (.aU c a) k=((aq nv a).map (.aU c)).getD (.none k):=(by unfold aA;rw[aq,if_pos hh]);rw[e0]at h;refine az (c:=cI w n) (z:="when") (az (z:="when") (az (z:="when") (pq (z:="when") ⟨_,rfl,a,sc,nv,k,rfl,⟨t1,by lia,U.k,by lia,by lia⟩,?_⟩)));obtain⟨rp,ep⟩:=cG (aA nv a k);have key:∀ z,z=qD (aA nv a k)->B.w (cI w n).wd nm.af (a7 (oN (ez uK))) { aS Q with nx:=B.w (cI w n).wd nm.af pF (aS Q) } [some (qD (.aU c a)),some (aN sc),some (dD (aC nv)),some (qD (.none k)),some (.str "when"),some z] M:=by
        intro z hz;have hz':=hz.trans ep;subst hz';refine⟨_,rfl,l3,l2,.inl ⟨_,c9,au (uM (λhn=>?_) λhn=>?_)⟩⟩
        · rw[fT]at hn;cases hd:aq nv a with
          |none=>rw[hd]at h;exact ak h
          |some p=>rw[hd]at hn;cases hn
        · rw[fT]at hn;cases hd:aq nv a with
          |none=>rw[hd]at hn;exact absurd rfl hn
          | some p=>
            have e1:aA nv a k=p:=(by unfold aA;rw[hd];rfl);rw[hd]at h;rw[hz,e1];exact ak h
      exact key _ rfl
    | «let» y a b=>
      cases U.t with
      |@«let» _ _ _ _ _ l WU t1 t2=>
      rw[dn]at ul un;rw[dq]at ud;have Ca:=B8 (nv:=nv) t1;have WV:=Ca.g.up (m:=61) (by lia);refine az (c:=cI w n) (z:="let") (az (z:="let") (az (z:="let") (pk (z:="let") (au (aY (by rw[wd];decide +kernel) ⟨_,rfl,qD a,nv,rfl,WV,by decide,?_⟩)))));rw[Ca.m];cases ha:hs nv a with
      | true=>
        have e0:aA nv (.let y a b) k=fj nv (.let y a b):=(by unfold aA;rw[aq,if_pos hh,if_pos ha];rfl);rw[e0]at h;refine⟨qD (.let y a b),nv,rfl,G,by decide,l3,l3,ak ?_⟩;rw[C.h];exact h
      | false=>
        have e0:aA nv (.let y a b) k=((aq nv b).map (.let y a)).getD (.none k):=(by unfold aA;rw[aq,if_pos hh,if_neg (by rw[ha];decide)]);rw[e0]at h;refine⟨_,rfl,_,rfl,_,rfl,a,sc,l,rfl,by lia,U.k,t1,by lia,l2,l1,.inl ⟨px U.l,.inl ⟨b,(y,l)::sc,nv,k,rfl,⟨t2,by rw[XI];lia,pv U.k WU,by lia,by lia⟩,?_⟩⟩⟩;obtain⟨rp,ep⟩:=cG (aA nv b k);have key:∀ z,z=qD (aA nv b k)->B.w (cI w n).wd nm.af (a7 (oN (ez pF))) { aS Q with nx:=B.w (cI w n).wd nm.af Cj (aS Q) } [some (qD (.let y a b)),some (aN sc),some (dD (aC nv)),some (qD (.none k)),some (.str "let"),some z] M:=by
          intro z hz;have hz':=hz.trans ep;subst hz';refine⟨_,rfl,_,rfl,l4,l2,.inl ⟨_,c9,au (uM (λhn=>?_) λhn=>?_)⟩⟩
          · rw[fT]at hn;cases hd:aq nv b with
            |none=>rw[hd]at h;exact ak h
            |some p=>rw[hd]at hn;cases hn
          · rw[fT]at hn;cases hd:aq nv b with
            |none=>rw[hd]at hn;exact absurd rfl hn
            | some p=>
              have e1:aA nv b k=p:=(by unfold aA;rw[hd];rfl);rw[hd]at h;rw[hz,e1];exact ak h
        exact key _ rfl
    |_=>exact de (by rw[wd];decide +kernel) (if_pos hh)
theorem Cn (O:Lw w):∀n,FO w 59 (2 * n+70) (hY n)
 | 0=>(FO.imp (iV O.ok (by rw[O.hd];rfl) (cs:=[]) trivial) λds M Q E ⟨q,_,_,_,_,U,_⟩=>by have:=U.n;rw[mm]at this;lia:FO w 59 70 (hY 0))
 |n+1=>RX O (Cn O n)
variable {w:Wo}
theorem o1 {s:Str}{a:D} (h:ax a=true):ax (.tup [.str s,a])=true:=by rw[ax,aJ,aJ,aJ,ax,h];rfl
theorem o2 {s:Str}{a b:D} (h:ax a=true) (e:ax b=true):ax (.tup [.str s,a,b])=true:=by rw[ax,aJ,aJ,aJ,aJ,ax,h,e];rfl
theorem o3 {s x:Str}{a b:D} (h:ax a=true) (e:ax b=true):ax (.tup [.str s,.str x,a,b])=true:=by rw[ax,aJ,aJ,aJ,aJ,aJ,ax,ax,h,e];rfl
mutual
theorem bH:∀q,ax (qD q)=true
 |.num _=>rfl |.word _=>rfl |.var _=>rfl |.tab _=>rfl
 |.none k=>o1 (d4 k) |.row fs=>o1 (by rw[ax];exact Co fs)
 |.at _ a=>o2 rfl (bH a) |.one a=>o1 (bH a) |.times _ a=>o2 rfl (bH a) |.not a=>o1 (bH a)
 |.add a b=>o2 (bH a) (bH b) |.mul a b=>o2 (bH a) (bH b) |.both a b=>o2 (bH a) (bH b) |.aU a b=>o2 (bH a) (bH b) |.same a b=>o2 (bH a) (bH b)
 |.under a b=>o2 (bH a) (bH b) |.and a b=>o2 (bH a) (bH b) |.or a b=>o2 (bH a) (bH b) |.for _ a b=>o3 (bH a) (bH b) |.let _ a b=>o3 (bH a) (bH b)
theorem Co:∀fs,aJ (a9 fs)=true
 |[]=>rfl
 |(f,q)::r=>by rw[a9,aJ,o1 (bH q),Co r];rfl
end
theorem dA {a b c:Nat} (h:a<=c) (e:b<=c):max a b<=c:=Nat.max_le.mpr ⟨h,e⟩
theorem p1 {s:Str}{a:D}{n:Nat} (h:aM a<=n):aM (.tup [.str s,a])<=1+n:=by rw[Nat.add_comm];exact YK (dA (XM _) (dA h (XM _)))
theorem p2 {a b d:D}{m n:Nat} (z:aM d=0) (h:aM a<=m) (e:aM b<=n):aM (.tup [d,a,b])<=1+max m n:=by rw[Nat.add_comm];exact YK (dA (z ▸ XM _) (dA (XG h (Zf ..)) (dA (XG e (Y8 ..)) (XM _))))
theorem Cp {s:Str}{d a:D}{n:Nat} (z:aM d=0) (h:aM a<=n):aM (.tup [.str s,d,a])<=1+n:=by rw[Nat.add_comm];exact YK (dA (XM _) (dA (z ▸ XM _) (dA h (XM _))))
theorem p3 {s x:Str}{a b:D}{m n:Nat} (h:aM a<=m) (e:aM b<=n):aM (.tup [.str s,.str x,a,b])<=1+max m n:=by rw[Nat.add_comm];exact YK (dA (XM _) (dA (XM _) (dA (XG h (Zf ..)) (dA (XG e (Y8 ..)) (XM _)))))
mutual
theorem bQ:∀q,aM (qD q)<=dq q
 |.num _=>XC _ |.word _=>XC _ |.var _=>XC _ |.tab _=>XC _
 |.none k=>p1 (fJ k) |.row fs=>by rw[dq,show 3+bo fs=1+(2+bo fs) by lia];exact p1 (by rw[aM,show 2+bo fs=(bo fs+1)+1 by lia];exact YK (Cq fs))
 |.at _ a=>Cp rfl (bQ a) |.one a=>p1 (bQ a) |.times _ a=>Cp rfl (bQ a) |.not a=>p1 (bQ a)
 |.add a b=>p2 rfl (bQ a) (bQ b) |.mul a b=>p2 rfl (bQ a) (bQ b) |.both a b=>p2 rfl (bQ a) (bQ b) |.aU a b=>p2 rfl (bQ a) (bQ b) |.same a b=>p2 rfl (bQ a) (bQ b)
 |.under a b=>p2 rfl (bQ a) (bQ b) |.and a b=>p2 rfl (bQ a) (bQ b) |.or a b=>p2 rfl (bQ a) (bQ b) |.for _ a b=>p3 (bQ a) (bQ b) |.let _ a b=>p3 (bQ a) (bQ b)
theorem Cq:∀fs,aR (a9 fs)<=bo fs+1
 |[]=>XM _
 |(f,q)::r=>by rw[a9,aR,bo];exact dA (XG (p1 (bQ q)) (by rw[Nat.add_comm];exact YK (Zf ..))) (XG (Cq r) (YK (Y8 ..)))
end
theorem i1 {m a:Nat} (h:m<=a+1):1+m<=1+a+1:=by rw[Nat.add_assoc];exact YZ h 1
theorem i2 {m n a b:Nat} (h:m<=a+1) (e:n<=b+1):1+max m n<=1+max a b+1:=i1 (dA (XG h (YK (Zf ..))) (XG e (YK (Y8 ..))))
mutual
theorem bR {nv:Nv}:∀q,dq (aE nv q)<=dq q+1
 |.tab x=>by
  rw[aE];cases bz x nv with
  |none=>exact Y7 _
  |some y=>exact XC _
 |.num _=>Y7 _ |.word _=>Y7 _ |.var _=>Y7 _ |.none _=>Y7 _
 |.row fs=>by rw[aE,dq,dq,Nat.add_assoc];exact YZ (Cr fs) 3
 |.at _ a=>i1 (bR a) |.one a=>i1 (bR a) |.times _ a=>i1 (bR a) |.not a=>i1 (bR a)
 |.add a b=>i2 (bR a) (bR b) |.mul a b=>i2 (bR a) (bR b) |.both a b=>i2 (bR a) (bR b) |.aU a b=>i2 (bR a) (bR b) |.same a b=>i2 (bR a) (bR b)
 |.under a b=>i2 (bR a) (bR b) |.and a b=>i2 (bR a) (bR b) |.or a b=>i2 (bR a) (bR b) |.for _ a b=>i2 (bR a) (bR b) |.let _ a b=>i2 (bR a) (bR b)
theorem Cr {nv:Nv}:∀fs,bo (gB nv fs)<=bo fs+1
 |[]=>XM _
 |(f,q)::r=>by rw[gB,bo,bo];exact dA (XG (bR q) (YK (Zf ..))) (XG (Cr r) (YK (Y8 ..)))
end
noncomputable def od:Option Qn->Nat
 |none=>0
 |some q=>dq q
theorem RY (q:Qn):1<=dq q:=by cases q <;> (rw[dq];lia)
theorem Cs {nv:Nv}{q:Qn}:dq (fj nv q)<=dq q+2:=by have:=bR (nv:=nv) q;unfold fj;rw[dq,dq];lia
theorem uN {x:Str}{a b:Option Qn}{n:Nat} (ha:od a<=n) (hb:od b<=n):od (mf x a b)<=1+n:=by
 cases a with
 |none=>exact XM _
 |some a=>cases b with
  |none=>exact XM _
  |some b=>
   rw[mf];split
   ·exact XM _
   ·show dq (.for x a b)<=1+n;rw[dq];exact YZ (Nat.max_le.mpr ⟨ha,hb⟩) 1
theorem mC {a b:Option Qn}{n:Nat} (ha:od a<=n) (hb:od b<=n):od (bu none [a,b])<=1+n:=by
 cases a with
 |none=>cases b with
  |none=>exact XM _
  |some b=>exact XG hb (Nat.le_add_left ..)
 |some a=>cases b with
  |none=>exact XG ha (Nat.le_add_left ..)
  |some b=>show dq (.both a b)<=1+n;rw[dq];exact YZ (Nat.max_le.mpr ⟨ha,hb⟩) 1
theorem RZ {a b c:Option Qn}{n:Nat} (ha:od a<=n) (hb:od b<=n) (hc:od c<=n):od (bu none [a,b,c])<=1+(1+n):=by
 cases a with
 |none=>exact XG (mC hb hc) (Nat.le_add_left ..)
 |some a=>cases b with
  |none=>exact XG (mC ha hc) (Nat.le_add_left ..)
  |some b=>exact @mC (some (.both a b)) c (1+n) (@mC (some a) (some b) n ha hb) (XG hc (Nat.le_add_left ..))
theorem R0 {o:Option Qn}{f:Qn->Qn}{n:Nat} (h:∀q,dq (f q)<=n+dq q):od (o.map f)<=n+od o:=by
 cases o with
 |none=>exact XM _
 |some q=>exact h q
theorem dS {nv:Nv}{q:Qn}:od (fS nv q)<=3 * dq q:=by
 have:=RY q;have:=Cs (nv:=nv) (q:=q)
 unfold fS;split
 ·show dq (fj nv q)<=_;lia
 ·exact XM _
theorem mD {a b c:Nat} (h:c<=3 * a):c<=3 * max a b:=XG h (Nat.mul_le_mul_left 3 (Zf ..))
theorem mE {a b c:Nat} (h:c<=3 * b):c<=3 * max a b:=XG h (Nat.mul_le_mul_left 3 (Y8 ..))
theorem e3 (a:Nat):a<=3 * a:=Nat.le_mul_of_pos_left a (by decide)
theorem f3 (m:Nat):1+(1+(1+3 * m))<=3 * (1+m):=by lia
theorem g3 {m n:Nat} (h:n<=1+3 * m):n<=3 * (1+m):=XG h (by lia)
theorem hZ {nv:Nv}:∀q,od (aq nv q)<=3 * dq q
 |.tab x=>by
  rw[aq];split
  ·cases bz x nv with
   |none=>exact XM _
   |some y=>show dq (.tab y)<=_;rw[dq,dq];decide
  ·exact XM _
 |.both a b=>by
  rw[aq,dq];split
  ·exact g3 (mC (mD (hZ a)) (mE (hZ b)))
  ·exact XM _
 |.for y a b=>by
  have A:=mD (b:=dq b) (hZ (nv:=nv) a);have B:=mE (a:=dq a) (hZ (nv:=nv) b)
  rw[aq,dq];split
  ·exact XG (RZ (uN A (b:=some b) (mE (e3 _))) (uN (a:=some a) (mD (e3 _)) B) (uN A B)) (f3 _)
  ·exact XM _
 |.times i a=>by
  rw[aq,dq];split
  ·exact g3 (XG (R0 (n:=1) λq=>by rw[dq];exact XC _) (YZ (hZ a) 1))
  ·exact XM _
 |.aU c a=>by
  have A:=mE (a:=dq c) (hZ (nv:=nv) a);rw[aq,dq];split
  ·cases h:aq nv a with
   |none=>exact XM _
   |some q=>rw[h]at A;show dq (.aU c q)<=_;rw[dq];exact g3 (YZ (Nat.max_le.mpr ⟨mD (e3 _),A⟩) 1)
  ·exact XM _
 |.let y a b=>by
  have A:=mE (a:=dq a) (hZ (nv:=nv) b);rw[aq];split
  ·split
   ·refine XG Cs ?_;rw[dq];lia
   ·cases h:aq nv b with
    |none=>exact XM _
    |some q=>rw[h]at A;show dq (.let y a q)<=_;rw[dq,dq];exact g3 (YZ (Nat.max_le.mpr ⟨mD (e3 _),A⟩) 1)
  ·exact XM _
 |.num _=>dS |.word _=>dS |.var _=>dS |.none _=>dS |.row _=>dS |.at _ _=>dS |.add _ _=>dS |.mul _ _=>dS |.one _=>dS |.same _ _=>dS |.under _ _=>dS |.and _ _=>dS |.or _ _=>dS |.not _=>dS
theorem R1 {nv:Nv}{q:Qn}{k:Kd}:dq (aA nv q k)<=3 * dq q+1+kd k:=by
 have:=hZ (nv:=nv) q;unfold aA;cases h:aq nv q with
 |none=>show dq (.none k)<=_;rw[dq];lia
 |some p=>rw[h]at this;have:dq p<=3 * dq q:=this;show dq p<=_;lia
theorem Ct {n:Bool}{q:Qn}{M:Mp}{k:Bool->Prop} (h:dq q<=100) (z:k true):dI n (qD q) (qD q) M k:=by
 have r:cb (qD q) M=qD q:=by cases q <;> rfl
 refine .mk (.inl ?_) ?_
 ·rw[r];exact⟨bH q,bH q,XG (bQ q) h⟩
 ·rw[r,gg _ (bH q)];exact z
variable {w:Wo}
noncomputable def R2:B:=(.cons (.cond (.cmp .Lt (.v 1) (.bi .len (.cons (.v 0) .nil))) (.cons (.ret (.ix (.v 0) (.v 1))) .nil) .nil) (.cons (.ret (.c (.int 0))) .nil))
theorem R3:aB ["script","k"] ["script","k"] (ag (aa 58)):=⟨rfl,rfl,rfl,by decide +kernel,rfl,by decide +kernel,by decide +kernel⟩
theorem R4:aH nm 40 ["script","k"] (ag (aa 58)) (aw (aa 58))=R2:=by kernel_rfl
def Cu:Sp:=λds M Q _=>∃(ns:List Int) (k:Int),ds=[.lst (ns.map D.int),.int k]/\0<=k/\∀c,Q (.int c) M
theorem R5 (O:Lw w):FO w 39 1 Cu:=by
 refine aL O.ok O.hn _ ⟨"_law_cell_at",aa 58,["script","k"]⟩ (by rw[O.hd];rfl) {} { cs:=trivial } R3 R4 λds M Q _ h=>?_;obtain⟨ns,k,rfl,h0,h⟩:=h;refine⟨rfl,aV (λe=>?_) λe=>ak (h 0)⟩;have e:k<(ns.map D.int).length:=of_decide_eq_true e;obtain⟨d,e1,e2⟩:=d5 h0 e;obtain⟨c,_,rfl⟩:=List.mem_map.mp e2;exact⟨_,e1,ak (h c)⟩
noncomputable def kN:List Str:=bb.map (·.1)
theorem R6 {x:Str} (h:x∈kN):∃k,kS x=some k:=by
 have:(lk x bb).isSome=true:=by rw[NQ.lQ];exact decide_eq_true h
 exact Option.isSome_iff_exists.mp this
theorem R7 {x:Str}{k:Kd} (h:kS x=some k):x∈kN:=List.mem_map.mpr ⟨_,et h,rfl⟩
theorem Cv {x:Str} (h:x∈kN):kS ("d"++x)=none/\("d" : Str).length+x.length<=sizeLine:=by
 have h1:∀x∈kN,kS ("d"++x)=none:=by decide +kernel
 have h2:∀x∈kN,("d" : Str).length+x.length<=100:=by decide +kernel
 exact⟨h1 x h,XG (h2 x h) (by decide)⟩
theorem R8 {x:Str}{k:Kd} (h:kS x=some k):kd k<=20:=(by decide +kernel:∀p∈bb,kd p.2<=20) _ (et h)
theorem R9 {nv:Nv}{x y:Str} (h:x ∉ nv.map (·.1)):bq (aC nv) (.inr x) (.str y)=aC (nv++[(x,y)]):=by
 unfold bq;rw[if_neg]
 ·unfold aC;simp
 ·intro z;obtain⟨kv,h1,h2⟩:=List.any_eq_true.mp z;unfold aC at h1;obtain⟨m,hm,rfl⟩:=List.mem_map.mp h1;exact h (List.mem_map.mpr ⟨m,hm,ZP (of_decide_eq_true h2)⟩)
theorem Cw {x y:Str}:∀{nv:Nv},(nv.map (·.1)).Nodup->(x,y)∈nv->bz x nv=some y
 |(a,b)::r,nd,h=>by
  rw[XJ,ZA]at nd;rw[bz];rcases List.mem_cons.mp h with e |h
  ·cases e;rw[if_pos rfl]
  ·rw[if_neg,Cw nd.2 h];intro e;exact nd.1 (e ▸ List.mem_map.mpr ⟨_,h,rfl⟩)
theorem R' {kvs:List (Key×D)}{k:Key}{v:D}{p:Key×D} (h:p∈bq kvs k v):p∈kvs\/p.2=v:=by
 unfold bq at h;split at h
 ·obtain⟨q,h1,h2⟩:=List.mem_map.mp h;split at h2
  ·rw[<- h2];exact .inr rfl
  ·rw[<- h2];exact .inl h1
 ·rcases List.mem_append.mp h with h |h
  ·exact .inl h
  ·rw[List.mem_singleton.mp h];exact .inr rfl
theorem pG:∀{kvs:List (Key×D)},(∀p∈kvs,ax p.2=true/\aM p.2<=50)->aJ (kvs.map (·.2))=true/\aR (kvs.map (·.2))<=50
 |[],_=>⟨rfl,by rw[YA,aR];lia⟩
 |p::r,h=>by
  obtain⟨h1,h2⟩:=h p XH;obtain⟨h3,h4⟩:=pG λq hq=>h q (XF _ hq);rw[XJ,aJ,aR,h1,h3];exact⟨rfl,by lia⟩
theorem Cy {a:Addr}{d:D}{q:Qn}:br a d (some (qD q))=some (qD q):=by cases q <;> rfl
theorem d7.Uu (ms:Sc):d7 (aP ms) ms:=λy k e=>by rw[fe,e];rfl
noncomputable def Sa:B:=.cons (.ret (.c (.bl true))) .nil
noncomputable def Cz:B:=.cons (.loop (.one 3) (.seq (.op .Add (.sl (.v 0) (.c (.int 1)) (.c (.int 7))) (.lst (.cons (.bi .len (.cons (.v 0) .nil)) .nil)))) (.cons (.set (.one 4) (.tup (.cons (.c (.str "bag")) (.cons (.ix (.v 2) (.ix (.lst (.cons (.c (.str "r")) (.cons (.c (.str "t")) (.cons (.c (.str "u")) (.cons (.c (.str "v")) .nil))))) (.call 41 (.cons (.v 1) (.cons (.c (.int 4)) .nil))))) .nil)))) (.cons (.set (.one 5) (.call 52 (.cons (.v 4) (.cons (.call 54 .nil) (.cons (.op .Add (.c (.int 2)) (.call 41 (.cons (.v 1) (.cons (.c (.int 2)) .nil)))) (.cons (.v 1) .nil)))))) (.cons (.set (.one 6) .oe) (.cons (.loop (.one 7) (.seq (.bi .sorted (.cons (.v 2) .nil))) (.cons (.cond (.cmp .Gt (.op .Mod (.v 3) (.c (.int 3))) (.c (.int 0))) (.cons (.put (.v 6) (.v 7) (.op .Add (.c (.str "d")) (.v 7))) .nil) .nil) (.cons (.set (.one 3) (.op .FloorDiv (.v 3) (.c (.int 3)))) .nil))) (.cons (.set (.one 8) (.bi .dict (.cons (.v 2) .nil))) (.cons (.loop (.one 7) (.seq (.v 6)) (.cons (.put (.v 8) (.ix (.v 6) (.v 7)) (.ix (.v 2) (.v 7))) .nil)) (.cons (.set (.one 9) (.bi .dict (.cons (.call 54 .nil) .nil))) (.cons (.set (.one 10) (.lst (.cons (.bi .dict (.cons (.v 6) .nil)) (.cons (.bi .dict (.cons (.v 9) .nil)) (.cons (.bi .dict (.cons (.v 8) .nil)) .nil))))) (.cons (.set (.one 11) (.call 27 (.cons (.v 5) (.cons (.ix (.v 10) (.c (.int 0))) (.cons (.ix (.v 10) (.c (.int 1))) (.cons (.ix (.v 10) (.c (.int 2))) .nil)))))) (.cons (.cond (.or (.cmp .NotEq (.v 11) (.call 59 (.cons (.v 5) (.cons (.call 54 .nil) (.cons (.v 6) .nil))))) (.cmp .NotEq (.v 10) (.lst (.cons (.v 6) (.cons (.v 9) (.cons (.v 8) .nil)))))) (.cons (.ret (.c (.bl false))) .nil) .nil) (.cons (.cond (.cmp .NotEq (.call 27 (.cons (.v 5) (.cons (.v 6) (.cons (.v 9) (.cons (.v 8) .nil))))) (.v 11)) (.cons (.ret (.c (.bl false))) .nil) .nil) (.cons (.set (.one 1) (.call 40 (.cons (.op .Add (.op .Add (.call 39 (.cons (.v 0) (.cons (.c (.int 0)) .nil))) (.op .Mult (.c (.int 7)) (.v 3))) (.ix (.v 1) (.c (.int 2)))) .nil))) .nil))))))))))))) Sa
noncomputable def Sb:B:=.cons (.set (.one 2) (.call 45 .nil)) Cz
noncomputable def Se:B:=.cons (.set (.one 1) (.call 40 (.cons (.call 39 (.cons (.v 0) (.cons (.c (.int 0)) .nil))) .nil))) Sb
theorem Sf:aB ["script","seed","kinds","cell","kind","asked","names","name","stock","kinds_of","handed","found"] ["script"] (ag (aa 84)):=⟨rfl,rfl,rfl,by decide +kernel,rfl,by decide +kernel,by decide +kernel⟩
theorem Sg:aH nm 40 ["script","seed","kinds","cell","kind","asked","names","name","stock","kinds_of","handed","found"] (ag (aa 84)) (aw (aa 84))=Se:=by kernel_rfl
def spLaw:Sp:=λds M Q _=>∃ns:List Int,ds=[.lst (ns.map D.int)]/\ns.length<=63/\∀M',Q (.bl true) M'
noncomputable abbrev T1 (w:Wo):a0 w:={ cs:=[(39,Cu),(40,zN),(45,j7),(41,i5),(54,BM),(52,fh 80),(27,BK),(59,hY 30)] }
structure CA (nv:Nv) (pre:List Str):Prop where
 nd:(nv.map (·.1)).Nodup
 sub:∀p∈nv,p.1∈pre/\p.2="d"++p.1
 len:nv.length<=pre.length
structure CC (S':List (Key×D)) (n:Nat):Prop where
 rs:ja S' kS
 ok:∀p∈S',ax p.2=true/\aM p.2<=50
 len:S'.length<=n
theorem Si {m:Nat} (h:m<=3):d6 G0 m:=⟨by decide +kernel,by show 3+m<=40;lia,by decide +kernel⟩
noncomputable def jf:B:=pC (ez Cz)
theorem Sj (O:Lw w) {N:St->Mp->Prop}{bk:St->Mp->Prop}{Q:QK}{ns:List Int}{X:Mp}{p:Addr}{c:Int} {κ:Kd} {q:Qn}{nv:Nv}{pre:List Str}{v7 v8 v9 cJ cK:Option D} (hN:∀ p' v3 v4 v5 v6 v7 v8 v9 cJ cK X',Hs X' p'->N [some (.lst (ns.map D.int)),some (.ref p'),some (bU bb),v3,v4,v5,v6,v7,v8,v9,cJ,cK] X')
  (hp:Hs X p) (hκ:.ai κ∈AK) (hq:Ty kS G0 q (.ai κ)) (hn:nq q<=2990) (hd:dq q<=24) (hv:CA nv pre) (iX:∀x∈pre,x∈kN) (hl:pre.length<=5) :
  B.w (T1 w).wd nm.af (a7 (a7 (a7 (a7 jf)))) { nx:=N,ct:=N,rt:=a6 Q,bk:=bk } [some (.lst (ns.map D.int)),some (.ref p),some (bU bb),some (.int c),some (kD (.ai κ)),some (qD q),some (dD (aC nv)),v7,v8,v9,cJ,cK] X:=by
 have WW:(G0.map (·.1)).Nodup:=by decide +kernel
 have Op:jA (dD (aC nv)):=pG λp hp=>by unfold aC at hp;obtain⟨m,_,rfl⟩:=List.mem_map.mp hp;exact⟨rfl,XM _⟩
 have f8:jA (dD (aP G0)):=pG λp hp=>by unfold aP at hp;obtain⟨m,hm,rfl⟩:=List.mem_map.mp hp;exact⟨d4 _,XG (fJ _) ((by decide +kernel:∀m∈G0,kd m.2<=50) m hm)⟩
 have Sk:=eB (g8 hκ);have dd:=R1 (nv:=nv) (q:=q) (k:=κ);have Tx:=bM q;have tq:=(Bf hq).t;obtain⟨os,be,TJ,TF,TK,TL,rfl⟩:=hp;have fin:∀(S':List (Key×D)) (u7 u9 fU fk:Option D),CC S' 15->B.w (T1 w).wd nm.af (a7 (a7 (a7 (a7 (a7 (a7 jf)))))) { nx:=N,ct:=N,rt:=a6 Q,bk:=bk } [some (.lst (ns.map D.int)),some (.ref p),some (bU bb),some (.int c),some (kD (.ai κ)),some (qD q),some (dD (aC nv)),u7,some (dD S'),u9,fU,fk] X:=by
  intro S' u7 u9 fU fk st;have Ps:jA (dD S'):=pG st.ok;have Ch:∀x∈aI q,x∈kN:=λx hx=>let ⟨l,e⟩:=tq x hx;R7 e
  have WX:∀d,d=dD (aP G0)->B.w (T1 w).wd nm.af (a7 (a7 (a7 (a7 (a7 (a7 (a7 jf))))))) { nx:=N,ct:=N,rt:=a6 Q,bk:=bk } [some (.lst (ns.map D.int)),some (.ref p),some (bU bb),some (.int c),some (kD (.ai κ)),some (qD q),some (dD (aC nv)),u7,some (dD S'),some d,fU,fk] X:=by
   rintro _ rfl;have Re:∀TM UR VS,TM=dD (aC nv)->UR=dD (aP G0)->VS=dD S'->B.w (T1 w).wd nm.af (a7 (a7 (a7 (a7 (a7 (a7 (a7 (a7 jf)))))))) { nx:=N,ct:=N,rt:=a6 Q,bk:=bk } [some (.lst (ns.map D.int)),some (.ref p),some (bU bb),some (.int c),some (kD (.ai κ)),some (qD q),some (dD (aC nv)),u7,some (dD S'),some (dD (aP G0)),some (.lst [TM,UR,VS]),fk] X:=by
    rintro _ _ _ rfl rfl rfl;refine⟨_,rfl,_,rfl,_,rfl,nv,aP G0,S',kS,G0,q,κ,kN,rfl,d7.Uu G0,st.rs,hq,by lia,by lia,(by decide:3<500),(by decide:5<64),Ch,?_⟩;refine⟨rfl,q,G0,nv,κ,rfl,⟨hq,by show 3+dn q<60;lia,by decide +kernel,by lia,by lia⟩,Ct (by show dq (aA nv q κ)<=100;lia) (ay (by decide) ⟨l3,.inl (.dd rfl _ rfl rfl (λd hd=>?_) (ay (by decide) ?_))⟩)⟩
    ·simp only[X5,XT,or_false]at hd;rcases hd with rfl |rfl |rfl
     ·exact Op
     ·exact f8
     ·exact Ps
    ·refine⟨nv,aP G0,S',kS,G0,q,κ,kN,rfl,d7.Uu G0,st.rs,hq,by lia,by lia,(by decide:3<500),(by decide:5<64),Ch,Ct (by show dq (aA nv q κ)<=100;lia) (ay (by decide) ?_)⟩;exact⟨ns,0,rfl,Yy _,λV8=>⟨zt (by decide),.inl ⟨_,be,_,rfl,_,rfl,λp' o' gi Rs=>hN p' _ _ _ _ _ _ _ _ _ _ ⟨o',av,Rs⟩⟩⟩⟩
   have z:∀kvs:List (Key×D),D.ao (((kvs.map (·.1)).zip (kvs.map (·.2))).map (·.1)) (((kvs.map (·.1)).zip (kvs.map (·.2))).map (·.2))=dD kvs:=λkvs=>(by rw[ff];rfl);exact .inl (.inl (.inl (.inl (.inl (.inl ⟨l3,.inl (Re _ _ _ (z _) (z _) (z _))⟩)))))
  refine⟨rfl,.inr ⟨aP G0,BN G0,.inl (WX _ ?_)⟩⟩;rw[pd WW];rfl
 refine .inl (.inr λps jQ=>?_);have g7:p≠ps:=di be jQ;refine ey (λxs τ M'=>∃rest jg S' u,xs=rest.map (λp=>D.str p.1)/\nv=jg++rest/\CC S' (5+jg.length)/\τ=[some (.lst (ns.map D.int)),some (.ref p),some (bU bb),some (.int c),some (kD (.ai κ)),some (qD q),some (dD (aC nv)),u,some (.ref ps),v9,cJ,cK]/\M'=up X ps (.ao S')) ?_ ?_ _ _ _ ⟨nv,[],aP bb,v7,by rw[ff];unfold aC;rw[YI];rfl,rfl,⟨λy k e=>by rw[fe];unfold kS at e;rw[e];rfl,λp hp=>?_,by decide⟩,rfl,by rw[iZ]⟩
 ·rintro τ M' ⟨rest,jg,S',u,e1,e2,st,rfl,rfl⟩;have:rest=[]:=by simpa using e1.symm
  subst this;rw[XX]at e2;refine⟨trivial,tG jQ (.rfl ?_)⟩;have hl2:jg.length<=10:=by rw[<- e2];have:=hv.len;lia
  have key:∀ τ u7 u9 fU fk,τ=[some (.lst (ns.map D.int)),some (.ref p),some (bU bb),some (.int c),some (kD (.ai κ)),some (qD q),some (dD (aC nv)),u7,some (dD S'),u9,fU,fk]->B.w (T1 w).wd nm.af (a7 (a7 (a7 (a7 (a7 (a7 jf)))))) { nx:=N,ct:=N,rt:=a6 Q,bk:=bk } τ X:=by
   rintro _ u7 u9 fU fk rfl;exact fin S' u7 u9 fU fk ⟨st.rs,st.ok,by have:=st.len;lia⟩
  refine key _ (br ps (dD S') u) (br ps (dD S') v9) (br ps (dD S') cJ) (br ps (dD S') cK) ?_;show [_,br ps (dD S') (some (.ref p)),_,_,_,br ps (dD S') (some (qD q)),_,_,br ps (dD S') (some (.ref ps)),_,_,_]=_;rw[tF g7,Cy,oL];rfl
 ·rintro x xs τ M' ⟨rest,jg,S',u,e1,e2,st,rfl,rfl⟩;cases rest with
  |nil=>cases e1
  |cons m rest=>
   obtain⟨x,y⟩:=m;cases e1;have hm:(x,y)∈nv:=(by rw[e2];simp);obtain⟨h1,h2⟩:=hv.sub _ hm;have h2:y="d"++x:=h2;obtain⟨k,hk⟩:=R6 (iX x h1);have hkd:=R8 hk;have hl2:jg.length<=5:=by have:=congrArg List.length e2;rw[XU]at this;have:=hv.len;lia
   have sl:=st.len;refine⟨trivial,λWY pi=>⟨kD k,by rw[iZ,fe];unfold kS at hk;rw[hk];rfl,.str y,by rw[ff,fR,Cw hv.nd hm];rfl,.inr ⟨S',av,XN (by lia:_<=100) (by decide),pi _ _ ⟨rest,jg++[(x,y)],bq S' (.inr y) (kD k),_,rfl,by rw[e2];simp,⟨λz l e=>?_,λr hr=>?_,?_⟩,rfl,by rw[_root_.N.cF]⟩⟩⟩⟩
   ·rw[A4,if_neg,st.rs z l e];intro WZ;rw[ZP WZ,h2,(Cv (iX x h1)).1]at e;cases e
   ·rcases R' hr with z |z
    ·exact st.ok r z
    ·rw[z];exact⟨d4 k,XG (fJ k) (by lia)⟩
   ·have:=@t8 S' (.inr y) (kD k);rw[XU,List.length_singleton];lia
 ·unfold aP at hp;obtain⟨m,hm,rfl⟩:=List.mem_map.mp hp;exact⟨d4 _,XG (fJ _) ((by decide +kernel:∀m∈bb,kd m.2<=50) m hm)⟩
theorem Sl (O:Lw w) {N:St->Mp->Prop}{bk:St->Mp->Prop}{Q:QK}{ns:List Int}{X:Mp}{p:Addr}{c:Int}{v4 v5 v6 v7 v8 v9 cJ cK:Option D} (hN:∀ p' v3 v4 v5 v6 v7 v8 v9 cJ cK X',Hs X' p'->N [some (.lst (ns.map D.int)),some (.ref p'),some (bU bb),v3,v4,v5,v6,v7,v8,v9,cJ,cK] X')
  (hp:Hs X p):B.w (T1 w).wd nm.af jf { nx:=N,ct:=N,rt:=a6 Q,bk:=bk } [some (.lst (ns.map D.int)),some (.ref p),some (bU bb),some (.int c),v4,v5,v6,v7,v8,v9,cJ,cK] X:=by
 refine⟨l4,.inl ⟨p,4,rfl,hp,by decide,by decide,λr X1 u1 r0 r1=>?_⟩⟩;obtain⟨d,e1,e2⟩:=d5 (xs:=[.str "r",.str "t",.str "u",.str "v"]) r0 r1;obtain⟨x,κ,rfl,hx,hκ⟩:∃x κ,d=.str x/\kS x=some κ/\.ai κ∈AK:=by
  simp only[X5,XT,or_false]at e2;rcases e2 with z |z |z |z
  ·exact⟨"r",i0,z,by decide +kernel,by decide +kernel⟩
  ·exact⟨"t",.num,z,by decide +kernel,by decide +kernel⟩
  ·exact⟨"u",fL,z,by decide +kernel,by decide +kernel⟩
  ·exact⟨"v",.ai .word,z,by decide +kernel,by decide +kernel⟩
 refine⟨_,e1,uv hx ⟨l2,?_⟩⟩;refine⟨rfl,p,2,rfl,u1.hs,by decide,by decide,λr2 X2 u2 oY j9=>?_⟩;have j9:r2<2:=j9;have Sk:=eB hκ;refine⟨.ai κ,G0,2+r2,p,rfl,hκ,by unfold Rk;rw[TR];lia,Si (by lia),u2.hs,λq X3 u3 g=>.inr λpn CD=>?_⟩;have hp3:=u3.hs;obtain⟨os,be,Tz⟩:=id hp3;have Sm:p≠pn:=di be CD;have VI:nq q<=2990:=XG g.n (XG (fg hκ).2.1 (XG (oV (show (2+r2).toNat<=3 by lia)) (by decide)));have gd:dq q<=24:=XG g.d (XG (fg hκ).2.2.2 (by lia));refine⟨kN,by unfold kN;rw[iZ];rfl,(by decide:5<64),λys pm _=>.inl ?_⟩;have CE:ys.Nodup:=pm.nodup_iff.mpr (by decide +kernel);have Xu:ys.length=5:=pm.length_eq;refine ey (λxs τ M'=>∃rest pre nv c' u,xs=rest.map D.str/\ys=pre++rest/\CA nv pre/\τ=[some (.lst (ns.map D.int)),some (.ref p),some (bU bb),some (.int c'),some (kD (.ai κ)),some (qD q),some (.ref pn),u,v8,v9,cJ,cK]/\M'=up X3 pn (.ao (aC nv))) ?_ ?_ _ _ _ ⟨ys,[],[],c,v7,rfl,rfl,⟨.nil,λp h=>(nomatch h),XC _⟩,rfl,rfl⟩
 ·rintro τ M' ⟨rest,pre,nv,c',u,e3,e4,hv,rfl,rfl⟩;have:rest=[]:=by simpa using e3.symm
  subst this;rw[XX]at e4;subst e4;refine⟨trivial,tG CD (.rfl ?_)⟩;have key:∀ τ u7 VT u9 fU fk,τ=[some (.lst (ns.map D.int)),some (.ref p),some (bU bb),some (.int c'),some (kD (.ai κ)),some (qD q),some (dD (aC nv)),u7,VT,u9,fU,fk]->B.w (T1 w).wd nm.af (a7 (a7 (a7 (a7 jf)))) { nx:=N,ct:=N,rt:=a6 Q,bk:=bk } τ X3:=by
   rintro _ u7 VT u9 fU fk rfl;exact Sj O hN hp3 hκ g.ty VI gd hv (λx hx=>pm.mem_iff.mp hx) (by lia)
  refine key ([some (.lst (ns.map D.int)),some (.ref p),some (bU bb),some (.int c'),some (kD (.ai κ)),some (qD q),some (.ref pn),u,v8,v9,cJ,cK].map (br pn (dD (aC nv)))) (br pn (dD (aC nv)) u) (br pn (dD (aC nv)) v8) (br pn (dD (aC nv)) v9) (br pn (dD (aC nv)) cJ) (br pn (dD (aC nv)) cK) ?_;show [_,br pn (dD (aC nv)) (some (.ref p)),_,_,_,br pn (dD (aC nv)) (some (qD q)),br pn (dD (aC nv)) (some (.ref pn)),_,_,_,_,_]=_;rw[tF Sm,Cy,oL];rfl
 ·rintro d xs τ M' ⟨rest,pre,nv,c',u,e3,e4,hv,rfl,rfl⟩;cases rest with
  |nil=>cases e3
  |cons x rest=>
   cases e3;have Sn:x∈kN:=pm.mem_iff.mp (by rw[e4];simp);have nx:x ∉ pre:=λz=>(by rw[e4]at CE;exact (List.nodup_append.mp CE).2.2 x z x XH rfl);have pl:pre.length<=5:=by have:=congrArg List.length e4;rw[XU]at this;lia
   refine⟨trivial,λWY pi=>⟨pz,aV (λz=>?_) λz=>?_⟩⟩
   ·refine⟨(Cv Sn).2,.inr ⟨_,av,?_,⟨pz,by decide⟩,pi _ _ ⟨rest,pre++[x],nv++[(x,"d"++x)],_,_,rfl,by rw[e4];simp,⟨?_,λm hm=>?_,?_⟩,rfl,?_⟩⟩⟩
    ·unfold aC;rw[Xx];exact XN (by have:=hv.len;lia:_<=5) (by decide)
    ·rw[XZ];exact zx hv.nd λz=>by obtain⟨m,hm,e⟩:=List.mem_map.mp z;have e:m.1=x:=e;exact nx (e ▸ (hv.sub m hm).1)
    ·rcases List.mem_append.mp hm with y |y
     ·exact⟨ZM _ (hv.sub m y).1,(hv.sub m y).2⟩
     ·rw[List.mem_singleton.mp y];exact⟨by simp,rfl⟩
    ·have:=hv.len;simp;lia
    ·rw[_root_.N.cF,R9];exact λz=>by obtain⟨m,hm,e⟩:=List.mem_map.mp z;exact nx (e ▸ (hv.sub m hm).1)
   ·exact⟨⟨pz,by decide⟩,pi _ _ ⟨rest,pre++[x],nv,_,_,rfl,by rw[e4];simp,⟨hv.nd,λm hm=>⟨ZM _ (hv.sub m hm).1,(hv.sub m hm).2⟩,by have:=hv.len;simp;lia⟩,rfl,rfl⟩⟩
theorem So (O:Lw w):FO w 60 140 spLaw:=by
 refine aL O.ok O.hn _ ⟨"law",aa 84,["script"]⟩ (by rw[O.hd];rfl) (T1 w) { cs:=⟨⟨1,by decide,R5 O⟩,⟨1,by decide,Kr O⟩,⟨1,by decide,md O⟩,⟨1,by decide,j8 O⟩,⟨2,by decide,QZ O⟩,⟨84,by decide,(AA O 80).a⟩,⟨10,by decide,QV O⟩,⟨130,by decide,Cn O 30⟩,trivial⟩ } Sf Sg λds M Q _ h=>?_;obtain⟨ns,rfl,hl,h⟩:=h;refine⟨rfl,ns,0,rfl,Yy _,λc=>⟨_,rfl,λp o hp so=>⟨rfl,.inl ?_⟩⟩⟩;have cl:(dK (ns.map D.int) (some 1) (some 7)).length<=63:=by
  unfold dK;rw[List.length_take,List.length_drop,Xx];lia
 refine⟨l1,.inl ⟨XG (by show _+1<=100;lia) (by decide:100<=sizeLine),.inl ?_⟩⟩;refine ey (λxs τ M'=>(∀d∈xs,∃i,d=.int i)/\∃p v3 v4 v5 v6 v7 v8 v9 cJ cK,τ=[some (.lst (ns.map D.int)),some (.ref p),some (bU bb),v3,v4,v5,v6,v7,v8,v9,cJ,cK]/\Hs M' p) ?_ ?_ _ _ _ ⟨λd hd=>?_,p,none,none,none,none,none,none,none,none,none,rfl,o,av,so⟩
 ·rintro τ M' ⟨_,p,v3,v4,v5,v6,v7,v8,v9,cJ,cK,rfl,_⟩;exact⟨trivial,.rfl (ak (h _))⟩
 ·rintro x xs τ M' ⟨hi,p,v3,v4,v5,v6,v7,v8,v9,cJ,cK,rfl,hp⟩;obtain⟨i,rfl⟩:=hi x XH;refine⟨trivial,λN hN=>?_⟩;exact Sl O (c:=i) (λp' v3 v4 v5 v6 v7 v8 v9 cJ cK X' gi=>hN _ _ ⟨λd hd=>hi d (XF _ hd),p',v3,v4,v5,v6,v7,v8,v9,cJ,cK,rfl,gi⟩) hp
 ·rcases List.mem_append.mp hd with z |z
  ·unfold dK at z;obtain⟨i,_,e⟩:=List.mem_map.mp (List.mem_of_mem_drop (List.mem_of_mem_take z));exact⟨i,e.symm⟩
  ·exact⟨_,List.mem_singleton.mp z⟩
end K26
end
section
namespace NH
open PySem N NQ
open L2
def pH (K:PySem.W.Frag) (d:Ds):Prop:=∃(n:Str) (f:Addr) (fd:FuncData),PySem.W.nsIn K mainGlobals d.x=some (some (.ref f))/\dH K n n d.st f fd
theorem Sq {K:PySem.W.Frag}{d:Ds}{n:Str}{f:Addr}{oc:Value}{od TC:Option Addr}{ch:Array (Option Value)}{kV doc pm an ct:Value} (a:PySem.W.nsIn K mainGlobals d.x=some (some (.ref f)))
  (l:K.lookup f=some ⟨oc,od,.func (PySem.W.fnOf n n (ej d.st) (aw d.st) (ag d.st) .none kV doc pm TC an ct),ch⟩) (c:PySem.W.codeIn K an n=true) (k:PySem.W.keepIn K (.ref f)=true):pH K d:=⟨n,f,_,a,qx l c k⟩
def uO (d:Ds):Prop:=∀(n:Str) (kV doc pm:Value) (TC:Option Addr) (an ct:Value) (us:List Value),us.length=d.ps.length->bindArgs (PySem.W.fnOf n n (ej d.st) (aw d.st) (ag d.st) .none kV doc pm TC an ct) ⟨us,[]⟩=pure (d.ps.zip us)
theorem uP {P:List Value->Prop} (h:P []):∀us,us.length=0->P us
 |[],_=>h
theorem dT {P:List Value->Prop} (h:∀a,P [a]):∀us,us.length=1->P us
 |a::us,e=>uP (P:=λus=>P (a::us)) (h a) us (ZQ e)
theorem bJ {P:List Value->Prop} (h:∀a b,P [a,b]):∀us,us.length=2->P us
 |a::us,e=>dT (P:=λus=>P (a::us)) (h a) us (ZQ e)
theorem cw {P:List Value->Prop} (h:∀a b c,P [a,b,c]):∀us,us.length=3->P us
 |a::us,e=>bJ (P:=λus=>P (a::us)) (h a) us (ZQ e)
theorem kj {P:List Value->Prop} (h:∀a b c d,P [a,b,c,d]):∀us,us.length=4->P us
 |a::us,e=>cw (P:=λus=>P (a::us)) (h a) us (ZQ e)
def mF (K:PySem.W.Frag):List Ds->Prop
 |[]=>True
 |d::r=>(pH K d/\uO d)/\mF K r
theorem mF.at {K:PySem.W.Frag}:∀{l:List Ds}{i:Nat}{d:Ds},mF K l->l[i]?=some d->pH K d/\uO d
 |[],_,_,_,h=>by simp at h
 |e::r,0,d,a,h=>by simp at h;rw[<- h];exact a.1
 |e::r,i+1,d,a,h=>mF.at a.2 (by simpa using h)
def jh (K:PySem.W.Frag) (C:Addr) (d:Ds):Prop:=∃(q:Str) (f:Addr) (fd:FuncData),dH K d.x q d.st f fd/\jw K C d.x f/\bT K fd d.ps []
theorem mG {K:PySem.W.Frag}{C:Addr}{d:Ds}{q:Str}{f:Addr}{oc:Value}{od TC:Option Addr}{ch:Array (Option Value)}{kV doc pm an ct:Value} (a:PySem.W.findIn K (.ref C) d.x=some (some (.ref f)))
  (l:K.lookup f=some ⟨oc,od,.func (PySem.W.fnOf d.x q (ej d.st) (aw d.st) (ag d.st) .none kV doc pm TC an ct),ch⟩) (c:PySem.W.codeIn K an q=true) (k:PySem.W.keepIn K (.ref f)=true) (n:PySem.W.isFn K (.ref f)=true)
  (b:∀us:List Value,us.length=d.ps.length->bindArgs (PySem.W.fnOf d.x q (ej d.st) (aw d.st) (ag d.st) .none kV doc pm TC an ct) ⟨us,[]⟩=pure (d.ps.zip us)):jh K C d:=⟨q,f,_,qx l c k,⟨a,n,k⟩,.all b⟩
noncomputable def eH (mg:Str->Option Value) (x:Str):Addr:=match mg x with
 |some (.ref f)=>f
 |_=>0
noncomputable def pI (mg:Str->Option Value) (t:List (Str×Str)):D:=.ao (t.map λp=>.inr p.1) (t.map λp=>.ref (eH mg p.2))
inductive ji (P:Params) (K:PySem.W.Frag):List DictEntry->List (Str×Str)->Prop
 |nil:ji P K [] []
 |cons {e:DictEntry}{es:List DictEntry}{x g:Str}{n:Tok}{f:Addr}{t:List (Str×Str)}:e.key=.str x n->e.hash=PyData.keyHash P x->e.val=.ref f->PySem.W.nsIn K mainGlobals g=some (some (.ref f))->ji P K es t->ji P K (e::es) ((x,g)::t)
structure pJ (P:Params) (K:PySem.W.Frag) (x:Str) (t:List (Str×Str)):Prop where
 ex:∃(a:Addr) (es:List DictEntry) (n:Nat),PySem.W.nsIn K mainGlobals x=some (some (.ref a))/\K.lookup a=some ⟨.type "dict",none,.dict es.toArray n,#[]⟩/\(a == sysModules)=false/\ji P K es t
theorem CF {P:Params}{K:PySem.W.Frag}{x:Str}{t:List (Str×Str)}{a:Addr}{es:List DictEntry}{n:Nat} (h1:PySem.W.nsIn K mainGlobals x=some (some (.ref a))) (h2:K.lookup a=some ⟨.type "dict",none,.dict es.toArray n,#[]⟩) (h3:(a == sysModules)=false) (h4:ji P K es t):pJ P K x t:=⟨a,es,n,h1,h2,h3,h4⟩
section
variable {G:Gx}{h:Heap}{w:World}
theorem Sr {P:Params}{K:PySem.W.Frag}{es:List DictEntry}{t:List (Str×Str)} (T:ji P K es t):∀e∈es,∃x n,e.key=.str x n/\e.hash=PyData.keyHash P x:=by
 induction T with
 |nil=>exact λe h=>(nomatch h)
 |cons h1 h2 _ _ _ ih=>
  intro e he;rcases List.mem_cons.mp he with z |z
  ·subst z;exact⟨_,_,h1,h2⟩
  ·exact ih e z
theorem Ss {K:PySem.W.Frag}{P:Params}{mg:Str->Option Value}{prog:Program} (X:K.In h) (Gn:h.Ns mainGlobals mg) {es:List DictEntry}{t:List (Str×Str)} (T:ji P K es t):Pairs (bE prog w) es ((t.map λp=>(YO p.1:Key)).zip (t.map λp=>Yj (eH mg p.2))):=by
 induction T with
 |nil=>exact .nil
 |@cons e es x g n f t h1 h2 h3 h4 _ ih=>
  refine .cons (kv:=(YO x,Yj (eH mg g))) (by show fm (.inr x) e.key=true;rw[h1];exact pO x n) ?_ ih;rw[h3];show Yj f=Yj (eH mg g);unfold eH;rw[PySem.W.mg_of X Gn h4]
theorem CG {F:Fz} {α:Type} (a:α->Addr):∀l:List α,ah G F (l.map λp=>.ref (a p)) (l.map λp=>.ref (a p))
 |[]=>.nil
 |x::r=>.cons (by rw[ab]) (CG a r)
theorem CH {K:PySem.W.Frag}{mg:Str->Option Value}{x:Str}{t:List (Str×Str)} (UP:G.K=K) (hmg:G.mg=mg) (hb:K.In G.base) (X:K.In h) (Gn:h.Ns mainGlobals mg) (nd:(t.map (·.1)).Nodup) (hl:t.length<=100) (T:pJ G.w.params K x t):∃u,mg x=some u/\∀F:Fz,(∀b o,G.base.get? b=some o->F b=some (.dat o))->ab G F (pI mg t) u:=by
 obtain⟨a,es,n,h1,h2,h3,h4⟩:=T.ex;refine⟨.ref a,PySem.W.mg_of X Gn h1,λF hF=>?_⟩;have o:=hF a _ (hb a _ h2);unfold pI;rw[ab];refine⟨a,_,t.map λp=>Yj (eH mg p.2),rfl,o,⟨⟨rfl,rfl,rfl⟩,⟨es.toArray,n,rfl,λe he=>?_,?_⟩,?_,by simp,?_⟩,h3,CG (λp:Str×Str=>eH mg p.2) t⟩
 ·obtain⟨x,n,e1,e2⟩:=Sr h4 e (by simpa using he);exact⟨.inr x,by show fm (.inr x) e.key=true;rw[e1];exact pO x n,e2⟩
 ·exact Ss X Gn h4
 ·have:(t.map λp=>(YO p.1:Key))=(t.map (·.1)).map YO:=by rw[YI];rfl
  rw[this];exact List.pairwise_map.mpr (nd.imp λh e=>h (ZP e))
 ·rw[Xx];exact XG hl (by decide)
noncomputable def mH:List Value->List Str->Bool
 |[],[]=>true
 |.str y _::r,x::s=>decide (y=x) && mH r s
 |_,_=>false
theorem jK {F:Fz}:∀{us:List Value}{xs:List Str},mH us xs=true->ah G F (xs.map D.str) us
 |[],[],_=>.nil
 |.str y t::r,x::s,h=>by
  rw[mH,XD]at h;cases of_decide_eq_true h.1;exact .cons (by rw[ab];exact⟨t,rfl⟩) (jK h.2)
structure km (K:PySem.W.Frag) (x:Str) (xs:List Str):Prop where
 ex:∃(a:Addr) (us:List Value) (n:Nat),PySem.W.nsIn K mainGlobals x=some (some (.ref a))/\K.lookup a=some ⟨.type "tuple",none,.seq us.toArray n,#[]⟩/\mH us xs=true
theorem pK {K:PySem.W.Frag}{x:Str}{xs:List Str}{a:Addr}{us:List Value}{n:Nat} (h1:PySem.W.nsIn K mainGlobals x=some (some (.ref a))) (h2:K.lookup a=some ⟨.type "tuple",none,.seq us.toArray n,#[]⟩) (h3:mH us xs=true):km K x xs:=⟨a,us,n,h1,h2,h3⟩
theorem pL {K:PySem.W.Frag}{mg:Str->Option Value}{x:Str}{xs:List Str} (hb:K.In G.base) (X:K.In h) (Gn:h.Ns mainGlobals mg) (hl:xs.length<=100) (T:km K x xs):∃u,mg x=some u/\∀F:Fz,(∀b o,G.base.get? b=some o->F b=some (.dat o))->ab G F (.tup (xs.map D.str)) u:=by
 obtain⟨a,us,n,h1,h2,h3⟩:=T.ex;refine⟨.ref a,PySem.W.mg_of X Gn h1,λF hF=>?_⟩;have rs:=jK (G:=G) (F:=F) h3;exact mZ (hF a _ (hb a _ h2)) ⟨rfl,rfl,⟨n,rfl⟩,by rw[<- rs.len,Xx];exact XG hl (by decide)⟩ rs
theorem CI {K:PySem.W.Frag}{d:Ds} (UP:G.K=K) (X:K.In h) (Gn:h.Ns mainGlobals G.mg) (a:pH K d) (b:uO d):∃f fd,lP G d.x d.st f fd d.ps:=by
 obtain⟨n,f,fd,e,F⟩:=a;subst UP;refine⟨f,fd,⟨n,F⟩,F.iu (b n),PySem.W.mg_of X Gn e⟩
end
end NH
end
section
namespace K26
open PySem N NQ NH
open L2
noncomputable def CJ:List Str:=["HAVE_MORE","NUMBER","WORD","TRUTH","FINISHED","SUMS"]
noncomputable def CK:List (Str×Str):=[("both","both_differences"),("for","for_differences")]
noncomputable def CL (mg:Str->Option Value):List D:=[.tup (oQ.map D.str),kD .num,kD .word,.tup [.str "truth"],pI mg K26.bG,pI mg CK]
noncomputable def wO (G:Gx) (C:Addr):Wo where
 G:=G
 ds:=eA
 fG:=nm.fG
 gv:=CL G.mg++eA.map λd=>.ref (eH G.mg d.x)
 fl:=λc f=>c=C/\(f="waiting"\/f="found")
 cls:=nm.cls
 ca:=λ_=>C
 ms:=oP
 mc:=λ_=>C
theorem Su {i:Nat}{x:Str} (h:nm.fG[i]?=some x):(i<6/\CJ[i]?=some x)\/∃j d,i=6+j/\eA[j]?=some d/\d.x=x:=by
 have e:nm.fG=CJ++eA.map (·.x):=by kernel_rfl
 rw[e]at h;by_cases hi:i<6
 ·rw[Yr hi]at h;exact .inl ⟨hi,h⟩
 ·rw[Yp (by show 6<=i;lia),XS]at h;obtain⟨d,h1,h2⟩:=Option.map_eq_some_iff.mp h;exact .inr ⟨i-6,d,by lia,h1,h2⟩
structure pM (K:PySem.W.Frag) (x:Str) (st:Stmt) (c T:Addr):Prop where
 d:∃(n:Str) (f:Addr) (fd:FuncData),PySem.W.nsIn K mainGlobals x=some (some (.ref f))/\dH K n n st f fd/\fd.code=.ref c/\n=x
 h:PySem.W.codeHdIn K c T=true
theorem CN {K:PySem.W.Frag}{x:Str}{st:Stmt}{c T f:Addr}{oc:Value}{od TC:Option Addr}{ch:Array (Option Value)}{kV doc pm ct:Value} (a:PySem.W.nsIn K mainGlobals x=some (some (.ref f)))
  (l:K.lookup f=some ⟨oc,od,.func (PySem.W.fnOf x x (ej st) (aw st) (ag st) .none kV doc pm TC (.ref c) ct),ch⟩) (W0:PySem.W.codeIn K (.ref c) x=true) (k:PySem.W.keepIn K (.ref f)=true) (h:PySem.W.codeHdIn K c T=true):pM K x st c T:=⟨⟨x,f,_,a,qx l W0 k,rfl,rfl⟩,h⟩
structure mI (P:Params) (K:PySem.W.Frag) (C:Addr):Prop where
 ds:mF K eA
 s0:km K "HAVE_MORE" oQ
 s1:km K "NUMBER" ["num"]
 s2:km K "WORD" ["word"]
 s3:km K "TRUTH" ["truth"]
 s4:pJ P K "FINISHED" K26.bG
 s5:pJ P K "SUMS" CK
 bi:iS.all (λx=>decide (PySem.W.nsIn K mainGlobals x=some none))=true
 wa:PySem.W.nsIn K mainGlobals "Walk"=some (some (.ref C))
 wc:cZ K C
 w1:eh K C "waiting"
 w2:eh K C "found"
 wm:PySem.W.makesIn K C=true
 wk:PySem.W.keepIn K (.ref C)=true
 m0:jh K C ⟨"__init__",(bx (aa 11) 0),["self"]⟩
 m1:jh K C ⟨"later",(bx (aa 11) 1),["self","step","question","around"]⟩
 m2:jh K C ⟨"tell",(bx (aa 11) 2),["self","result"]⟩
 m3:jh K C ⟨"take",(bx (aa 11) 3),["self","many"]⟩
 m4:jh K C ⟨"run",(bx (aa 11) 4),["self"]⟩
 la:pM K "alike" (aa 18) 167 163
 lb:pM K "behind" (aa 56) 367 363
 bt:∃(bm:Addr) (ob:Obj),PySem.W.nsIn K mainGlobals "__builtins__"=some (some (.ref bm))/\K.lookup bm=some ob/\bm≠builtinsNs/\bm≠mainGlobals/\bm≠163/\bm≠363/\ob.cls=.type "module"/\ob.dict=some builtinsNs/\ob.data=.plain
noncomputable def tbs2:gw:=[(163,pA.lp,"alike.<locals>.<lambda>"),(363,pB.np,"behind.<locals>."++pB.name)]
section
variable {P:Program}{w:World}{K:PySem.W.Frag}{mg:Str->Option Value}{base h:Heap}{C:Addr}
theorem Sv (X:K.In h) (Gn:h.Ns mainGlobals mg) (hb:K.In base) (F:mI w.params K C):(wO ⟨P,w,K,mg,base,N.bG tbs2⟩ C).Ok where
 df:=λi d hd=>let ⟨a,b⟩:=F.ds.at hd;CI (G:=⟨P,w,K,mg,base,N.bG tbs2⟩) rfl X Gn a b
 gv:=λi x hx=>by
  rcases Su hx with ⟨h1,h2⟩ |⟨j,d,rfl,h1,rfl⟩
  ·rcases (by lia:i=0\/i=1\/i=2\/i=3\/i=4\/i=5) with rfl |rfl |rfl |rfl |rfl |rfl
   ·cases h2;exact pL (G:=⟨P,w,K,mg,base,N.bG tbs2⟩) hb X Gn (by decide) F.s0
   ·cases h2;exact pL (G:=⟨P,w,K,mg,base,N.bG tbs2⟩) hb X Gn (by decide) F.s1
   ·cases h2;exact pL (G:=⟨P,w,K,mg,base,N.bG tbs2⟩) hb X Gn (by decide) F.s2
   ·cases h2;exact pL (G:=⟨P,w,K,mg,base,N.bG tbs2⟩) hb X Gn (by decide) F.s3
   ·cases h2;exact CH (G:=⟨P,w,K,mg,base,N.bG tbs2⟩) rfl rfl hb X Gn AL (by decide) F.s4
   ·cases h2;exact CH (G:=⟨P,w,K,mg,base,N.bG tbs2⟩) rfl rfl hb X Gn BF (by decide) F.s5
  ·obtain⟨a,b⟩:=F.ds.at h1;obtain⟨f,fd,DF⟩:=CI (G:=⟨P,w,K,mg,base,N.bG tbs2⟩) rfl X Gn a b;refine⟨.ref f,DF.mg,λFz _=>?_⟩;have e:(wO ⟨P,w,K,mg,base,N.bG tbs2⟩ C).gv.getD (6+j) .aj=.ref f:=by
    show (CL mg++eA.map λd=>D.ref (eH mg d.x):List D).getD (6+j) .aj=_;rw[X9,Yp (by show 6<=6+j;lia)];show ((eA.map λd=>D.ref (eH mg d.x))[6+j-6]?).getD .aj=_;rw[Nat.add_sub_cancel_left,XS,h1];show D.ref (eH mg d.x)=_;have:mg d.x=some (.ref f):=DF.mg;unfold eH;rw[this]
   rw[e,ab]
 bl:=λx hx=>PySem.W.mg_none_of X Gn (of_decide_eq_true (List.all_eq_true.mp F.bi x hx))
 fl:=λc f h=>by
  obtain⟨rfl,e |e⟩:=h
  ·rw[e];exact⟨F.wc,F.w1⟩
  ·rw[e];exact⟨F.wc,F.w2⟩
 mt:=λi d hd=>by
  have mk:∀{d:Ds},jh K C d->∃f fd,sL K C d f fd:=λ⟨q,f,fd,F1,M1,W2⟩=>⟨f,fd,⟨q,F1⟩,W2,M1,F.wc⟩;have kt:oP[i]?=some d:=hd
  match i,kt with
  | 0,e=>cases e;exact mk F.m0
  | 1,e=>cases e;exact mk F.m1
  | 2,e=>cases e;exact mk F.m2
  | 3,e=>cases e;exact mk F.m3
  | 4,e=>cases e;exact mk F.m4
  |n+5,e=>cases e
 cl:=λi x hx=>by
  have cW:(["Walk"]:List Str)[i]?=some x:=hx
  match i,cW with
  | 0,e=>cases e;exact⟨PySem.W.mg_of X Gn F.wa,λf a n=>⟨F.wm,a,n,F.wk⟩⟩
  |n+1,e=>cases e
theorem CO (X:K.In h) (Gn:h.Ns mainGlobals mg) (F:mI w.params K C) {x:Str}{st:Stmt}{c T:Addr}{p:Pos}{q0:Str} (A:pM K x st c T) (hT:tbs2.lookup T=some (p,x++q0)) (W3:mainGlobals≠T) (nB:∀bm,bm≠163->bm≠363->bm≠T):∀f fd q,dH K q q st f fd->mg x=some (.ref f)->∃c T,fd.code=.ref c/\eu ⟨P,w,K,mg,base,N.bG tbs2⟩ c T p (q++q0):=by
 intro f fd q Fn hm;obtain⟨n,f0,CP,e1,F0,e2,rfl⟩:=A.d;have m0:=PySem.W.mg_of X Gn e1;rw[m0]at hm;cases hm;obtain⟨oc,od,kV,doc,pm,TC,an,ct,ch,hf,l1,_⟩:=Fn.ex;obtain⟨Sw,Sy,Sz,zi,SA,SD,SE,SF,SG,hf',l2,_⟩:=F0.ex;rw[l1]at l2;injection l2 with l3;injection l3 with _ _ l4;injection l4 with l5;have Vk:fd=CP:=l5;have eq:q=n:=by
  have:fd.name=CP.name:=congrArg FuncData.name l5;rw[hf,hf']at this;exact this
 subst eq;subst Vk;obtain⟨bm,ob,b1,b2,TH,b4,Uo,SH,Up,Uq,Ur⟩:=F.bt;exact⟨c,T,e2,A.h,⟨bm,ob,PySem.W.mg_of X Gn b1,b2,TH,b4,nB bm Uo SH,Up,Uq,Ur⟩,W3,by show (tbs2.lookup T).map _=_;rw[hT];rfl⟩
theorem SI (X:K.In h) (Gn:h.Ns mainGlobals mg) (hb:K.In base) (F:mI w.params K C):Lw (wO ⟨P,w,K,mg,base,N.bG tbs2⟩ C) where
 ok:=Sv X Gn hb F
 hn:=by show (⟨eA.map (·.x),nm.fG,nm.cls,oP.map (·.x)⟩:Nm)=nm;kernel_rfl
 hd:=rfl
 hms:=rfl
 g0:=rfl
 g1:=rfl
 g2:=rfl
 g3:=rfl
 gt:=rfl
 gs:=rfl
 gb:=rfl
 gd:=rfl
 gf:=rfl
 VE:=rfl
 go:=rfl
 gp:=rfl
 ga:=rfl
 fw:=⟨rfl,.inl rfl⟩
 T7:=⟨rfl,.inr rfl⟩
 mc:=λ_ _=>rfl
 UT:=by
  intro f fd q h1 h2;have:=CO (P:=P) (base:=base) X Gn F (p:=pA.lp) (q0:=".<locals>.<lambda>") F.la (by kernel_rfl) (by decide) (λ_ a _=>a) f fd q h1 h2;exact this
 UU:=by
  intro f fd q h1 h2;have:=CO (P:=P) (base:=base) X Gn F (p:=pB.np) (q0:=".<locals>."++pB.name) F.lb (by kernel_rfl) (by decide) (λ_ _ a=>a) f fd q h1 h2;exact this
end
section
variable {P:Program}{w:World}{K:PySem.W.Frag}{mg:Str->Option Value}{h:Heap}{C:Addr}
theorem law_ok {fa:Addr} (X:K.In h) (Gn:h.Ns mainGlobals mg) (CQ:mg "law"=some (.ref fa)) (F:mI w.params K C) :
  ∃fd:FuncData,(∀(s:Shared) (v:Value),BindsTo s fd ⟨[v],[]⟩ [("script",v)])/\∀base:Heap,K.In base->base.Ns mainGlobals mg->bh ⟨P,w,K,mg,base,N.bG tbs2⟩ 140 fa fd ["script"] spLaw:=by
 obtain⟨a,b⟩:=F.ds.at (i:=60) (d:=⟨"law",aa 84,["script"]⟩) rfl;obtain⟨n,f,fd,e,Fn⟩:=a;have m1:=PySem.W.mg_of X Gn e;have m2:mg "law"=some (.ref f):=m1;rw[CQ]at m2;cases m2;refine⟨fd,?_,λbase hb _=>?_⟩
 ·obtain⟨oc,od,kV,doc,pm,TC,an,ct,ch,rfl,lk,dF⟩:=Fn.ex;exact λs v=>.of_eq rfl
 obtain⟨d',f',y6,h1,D',SJ⟩:=So (SI (P:=P) (base:=base) X Gn hb F);have e:d'=⟨"law",aa 84,["script"]⟩:=by
  have h2:eA[60]?=some d':=h1;have h3:eA[60]?=some ⟨"law",aa 84,["script"]⟩:=rfl;rw[h3]at h2;cases h2;rfl
 subst e;have m3:mg "law"=some (.ref f'):=D'.mg;rw[CQ]at m3;cases m3;obtain⟨_,SK⟩:=D'.fn;obtain⟨oc,od,kV,doc,pm,TC,an,ct,ch,hf,l1,_⟩:=Fn.ex;obtain⟨Sw,Sy,Sz,zi,SA,SD,SE,SF,SG,hf',l2,_⟩:=SK.ex;have SM:K.lookup fa=_:=l1;have CS:K.lookup fa=_:=l2;rw[SM]at CS;injection CS with l3;injection l3 with _ _ l4;injection l4 with l5;rw[l5];exact SJ
end
theorem room_law:bF 140 callerA:=⟨rfl,by decide,by decide⟩
theorem TB:PySem.Challenge.rw_keptnest_k26_difference_told=PySem.Challenge.rw_keptnest_k26_difference_told/\zK=zK:=by k_fill;exact⟨rfl,rfl⟩
theorem zF (w:World):mI w.params (zK w.params) 124:=by
 refine' ⟨?ds,?s0,?s1,?s2,?s3,?s4,?s5,?bi,?wa,⟨?c1,?c2,?c3,?c4⟩,?w1,?w2,?wm,?wk,?m0,?m1,?m2,?m3,?m4,?la,?lb,?bt⟩
 case ds=>
  refine' ⟨⟨?_,λ_ _ _ _ _ _ _=>dT λ_=>rfl⟩,⟨⟨?_,λ_ _ _ _ _ _ _=>bJ λ_ _=>rfl⟩,⟨⟨?_,λ_ _ _ _ _ _ _=>dT λ_=>rfl⟩,⟨⟨?_,λ_ _ _ _ _ _ _=>dT λ_=>rfl⟩,⟨⟨?_,λ_ _ _ _ _ _ _=>bJ λ_ _=>rfl⟩,⟨⟨?_,λ_ _ _ _ _ _ _=>cw λ_ _ _=>rfl⟩,⟨⟨?_,λ_ _ _ _ _ _ _=>cw λ_ _ _=>rfl⟩,⟨⟨?_,λ_ _ _ _ _ _ _=>cw λ_ _ _=>rfl⟩,⟨⟨?_,λ_ _ _ _ _ _ _=>dT λ_=>rfl⟩,⟨⟨?_,λ_ _ _ _ _ _ _=>bJ λ_ _=>rfl⟩,⟨⟨?_,λ_ _ _ _ _ _ _=>cw λ_ _ _=>rfl⟩,⟨⟨?_,λ_ _ _ _ _ _ _=>cw λ_ _ _=>rfl⟩,⟨⟨?_,λ_ _ _ _ _ _ _=>cw λ_ _ _=>rfl⟩,⟨⟨?_,λ_ _ _ _ _ _ _=>cw λ_ _ _=>rfl⟩,⟨⟨?_,λ_ _ _ _ _ _ _=>cw λ_ _ _=>rfl⟩,⟨⟨?_,λ_ _ _ _ _ _ _=>cw λ_ _ _=>rfl⟩,⟨⟨?_,λ_ _ _ _ _ _ _=>bJ λ_ _=>rfl⟩,⟨⟨?_,λ_ _ _ _ _ _ _=>bJ λ_ _=>rfl⟩,⟨⟨?_,λ_ _ _ _ _ _ _=>bJ λ_ _=>rfl⟩,⟨⟨?_,λ_ _ _ _ _ _ _=>bJ λ_ _=>rfl⟩,⟨⟨?_,λ_ _ _ _ _ _ _=>bJ λ_ _=>rfl⟩,⟨⟨?_,λ_ _ _ _ _ _ _=>bJ λ_ _=>rfl⟩,⟨⟨?_,λ_ _ _ _ _ _ _=>bJ λ_ _=>rfl⟩,⟨⟨?_,λ_ _ _ _ _ _ _=>bJ λ_ _=>rfl⟩,⟨⟨?_,λ_ _ _ _ _ _ _=>bJ λ_ _=>rfl⟩,⟨⟨?_,λ_ _ _ _ _ _ _=>bJ λ_ _=>rfl⟩,⟨⟨?_,λ_ _ _ _ _ _ _=>bJ λ_ _=>rfl⟩,⟨⟨?_,λ_ _ _ _ _ _ _=>kj λ_ _ _ _=>rfl⟩,⟨⟨?_,λ_ _ _ _ _ _ _=>cw λ_ _ _=>rfl⟩,⟨⟨?_,λ_ _ _ _ _ _ _=>cw λ_ _ _=>rfl⟩,⟨⟨?_,λ_ _ _ _ _ _ _=>bJ λ_ _=>rfl⟩,⟨⟨?_,λ_ _ _ _ _ _ _=>dT λ_=>rfl⟩,⟨⟨?_,λ_ _ _ _ _ _ _=>dT λ_=>rfl⟩,⟨⟨?_,λ_ _ _ _ _ _ _=>cw λ_ _ _=>rfl⟩,⟨⟨?_,λ_ _ _ _ _ _ _=>cw λ_ _ _=>rfl⟩,⟨⟨?_,λ_ _ _ _ _ _ _=>cw λ_ _ _=>rfl⟩,⟨⟨?_,λ_ _ _ _ _ _ _=>cw λ_ _ _=>rfl⟩,⟨⟨?_,λ_ _ _ _ _ _ _=>bJ λ_ _=>rfl⟩,⟨⟨?_,λ_ _ _ _ _ _ _=>bJ λ_ _=>rfl⟩,⟨⟨?_,λ_ _ _ _ _ _ _=>bJ λ_ _=>rfl⟩,⟨⟨?_,λ_ _ _ _ _ _ _=>dT λ_=>rfl⟩,⟨⟨?_,λ_ _ _ _ _ _ _=>bJ λ_ _=>rfl⟩,⟨⟨?_,λ_ _ _ _ _ _ _=>dT λ_=>rfl⟩,⟨⟨?_,λ_ _ _ _ _ _ _=>dT λ_=>rfl⟩,⟨⟨?_,λ_ _ _ _ _ _ _=>cw λ_ _ _=>rfl⟩,⟨⟨?_,λ_ _ _ _ _ _ _=>uP rfl⟩,⟨⟨?_,λ_ _ _ _ _ _ _=>dT λ_=>rfl⟩,⟨⟨?_,λ_ _ _ _ _ _ _=>bJ λ_ _=>rfl⟩,⟨⟨?_,λ_ _ _ _ _ _ _=>kj λ_ _ _ _=>rfl⟩,⟨⟨?_,λ_ _ _ _ _ _ _=>cw λ_ _ _=>rfl⟩,⟨⟨?_,λ_ _ _ _ _ _ _=>cw λ_ _ _=>rfl⟩,⟨⟨?_,λ_ _ _ _ _ _ _=>kj λ_ _ _ _=>rfl⟩,⟨⟨?_,λ_ _ _ _ _ _ _=>kj λ_ _ _ _=>rfl⟩,⟨⟨?_,λ_ _ _ _ _ _ _=>bJ λ_ _=>rfl⟩,⟨⟨?_,λ_ _ _ _ _ _ _=>uP rfl⟩,⟨⟨?_,λ_ _ _ _ _ _ _=>bJ λ_ _=>rfl⟩,⟨⟨?_,λ_ _ _ _ _ _ _=>bJ λ_ _=>rfl⟩,⟨⟨?_,λ_ _ _ _ _ _ _=>bJ λ_ _=>rfl⟩,⟨⟨?_,λ_ _ _ _ _ _ _=>kj λ_ _ _ _=>rfl⟩,⟨⟨?_,λ_ _ _ _ _ _ _=>cw λ_ _ _=>rfl⟩,⟨⟨?_,λ_ _ _ _ _ _ _=>dT λ_=>rfl⟩,trivial⟩⟩⟩⟩⟩⟩⟩⟩⟩⟩⟩⟩⟩⟩⟩⟩⟩⟩⟩⟩⟩⟩⟩⟩⟩⟩⟩⟩⟩⟩⟩⟩⟩⟩⟩⟩⟩⟩⟩⟩⟩⟩⟩⟩⟩⟩⟩⟩⟩⟩⟩⟩⟩⟩⟩⟩⟩⟩⟩⟩⟩
  all_goals (refine' Sq ?a ?l ?c ?k;(case a=>k_is);(case l=>k_is);(case c=>k_is);(case k=>k_is))
 case s0=>refine' pK ?a ?l ?c;(case a=>k_is);(case l=>k_is);(case c=>kernel_rfl)
 case s1=>refine' pK ?a ?l ?c;(case a=>k_is);(case l=>k_is);(case c=>kernel_rfl)
 case s2=>refine' pK ?a ?l ?c;(case a=>k_is);(case l=>k_is);(case c=>kernel_rfl)
 case s3=>refine' pK ?a ?l ?c;(case a=>k_is);(case l=>k_is);(case c=>kernel_rfl)
 case s4=>refine' CF ?a ?l ?z ?c;(case a=>k_is);(case l=>k_is);(case z=>rfl);(case c=>repeat (first |exact .nil |(refine' .cons rfl rfl rfl ?k ?_;(case k=>k_is))))
 case s5=>refine' CF ?a ?l ?z ?c;(case a=>k_is);(case l=>k_is);(case z=>rfl);(case c=>repeat (first |exact .nil |(refine' .cons rfl rfl rfl ?k ?_;(case k=>k_is))))
 case bi=>kernel_rfl
 (case wa=>k_is);(case c1=>k_is);(case c2=>k_is);(case c3=>k_is);(case c4=>k_is);(case w1=>show PySem.W.findIn _ _ _=_;k_is);(case w2=>show PySem.W.findIn _ _ _=_;k_is);(case wm=>k_is);(case wk=>k_is)
 case m0=>refine' mG ?a ?l ?c ?k ?n (dT λ_=>rfl);(case a=>k_is);(case l=>k_is);(case c=>k_is);(case k=>k_is);(case n=>k_is)
 case m1=>refine' mG ?a ?l ?c ?k ?n (kj λ_ _ _ _=>rfl);(case a=>k_is);(case l=>k_is);(case c=>k_is);(case k=>k_is);(case n=>k_is)
 case m2=>refine' mG ?a ?l ?c ?k ?n (bJ λ_ _=>rfl);(case a=>k_is);(case l=>k_is);(case c=>k_is);(case k=>k_is);(case n=>k_is)
 case m3=>refine' mG ?a ?l ?c ?k ?n (bJ λ_ _=>rfl);(case a=>k_is);(case l=>k_is);(case c=>k_is);(case k=>k_is);(case n=>k_is)
 case m4=>refine' mG ?a ?l ?c ?k ?n (dT λ_=>rfl);(case a=>k_is);(case l=>k_is);(case c=>k_is);(case k=>k_is);(case n=>k_is)
 case la=>refine' CN ?a ?l ?c ?k ?h;(case a=>k_is);(case l=>k_is);(case c=>k_is);(case k=>k_is);(case h=>kernel_rfl)
 case lb=>refine' CN ?a ?l ?c ?k ?h;(case a=>k_is);(case l=>k_is);(case c=>k_is);(case k=>k_is);(case h=>kernel_rfl)
 case bt=>refine' ⟨4,{ cls:=PySem.Value.type "module",data:=PySem.Data.plain,dict:=some 0 },?a,?l,?h1,?h2,?h3,?h3',?h4,?h5,?h6⟩;(case a=>kernel_rfl);(case l=>kernel_rfl);(case h1=>decide);(case h2=>decide);(case h3=>decide);(case h3'=>decide);(case h4=>rfl);(case h5=>rfl);(case h6=>rfl)
end K26
open PySem PySem.W PyProof.Rows
set_option maxRecDepth 100000 in
set_option maxHeartbeats 0 in
theorem PySem.Challenge.cw_keptnest_k26_difference_told_holds : PySem.Challenge.rw_keptnest_k26_difference_told.Holds := by
 w_on
 refine PySem.W.holds_law K26.zS fun said=>?_
 refine PySem.W.holds_open (q:=K26.zV) (loose:=K26.zL) (Xt:=fun s=>PySem.W.xlAt K26.zV [] s && PySem.W.recOk (PySem.W.RowW.records (PySem.W.OpenRow.toRowW PySem.Challenge.rw_keptnest_k26_difference_told.row)) s) (XP:=PySem.W.XL K26.zV []) (Yf:=PySem.W.Hook.obs (PySem.W.kmHook K26.zK K26.zA K26.zE K26.zTs)) (Ya:=PySem.W.Hook.val (PySem.W.kmHook K26.zK K26.zA K26.zE K26.zTs)) (YP:=PySem.W.Hook.says (PySem.W.kmHook K26.zK K26.zA K26.zE K26.zTs)) (N:=7028) (Hq.left_two "special-get-raises" K26.zR_false K26.zR_true) (PySem.W.Hook.of _) (PySem.W.Hook.keeps _) (fun s e=>PySem.W.xl_of s (Bool.and_eq_true_iff.mp e).1) PySem.W.XL.keeps (by rfl) (by rfl) (by rfl) (fun s e=>PySem.W.recFacts_of (Bool.and_eq_true_iff.mp e).2) (by rfl) (by first | assumption | decide +kernel) (by decide +kernel) ⟨rfl,rfl,rfl,rfl,rfl,by decide +kernel⟩ ?hw ?hc
 case hw=>w_witness2
 k_fill
 refine N.walk_of (l:=PySem.Challenge.rw_keptnest_k26_difference_told) (K:=K26.zK) (ts:=K26.tbs2) (x:="script") (k:=140) (sp:=fun _=>K26.spLaw) (n:=63) rfl (by decide) rfl K26.room_law (fun w h Y=>⟨PySem.W.km_in_of Y,fun T hT=>?Tb⟩) ?KT ?F (fun w ns hl=>⟨ns,rfl,hl,fun _=>rfl⟩)
 case Tb=>
  have:T∈K26.zTs:=by simpa [K26.tbs2,K26.zTs] using hT
  exact PySem.W.km_tabs_of Y T this
 case KT=>
  intro w T hT
  have:T=163\/T=363:=by simpa [K26.tbs2] using hT
  rcases this with rfl | rfl
  ·exact⟨by kernel_rfl,167,by kernel_rfl⟩
  ·exact⟨by kernel_rfl,367,by kernel_rfl⟩
 case F=>
  intro w mg fa h KX G hmg
  exact K26.law_ok KX G hmg (K26.zF w)
#print axioms PySem.Challenge.cw_keptnest_k26_difference_told_holds
end
