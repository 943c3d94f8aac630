import PyProof.Rows.All
import Wide.All
import OpenK.AllK
import Wide.FinOn
import PySem.Challenge.RW_keptnest_k32_whole_degree_falls
import Lean
import PyProof.EqAt
import PyProof.EqKinds
import PyProof.TupleCall
import PyProof.ZipIter
import PyProof.NeKinds
import PyProof.Draws
import KE.KRevIter
import PyProof.AutoSeq1
import KE.KEqDict
import PyProof.SeqI3
import KE.KUnpack
import KE.KTupSum
import PyProof.ConsumeS
import PyProof.AttrMissHeap
import KE.KItemsList
import KE.KDictOf
import PyProof.Rows.SortStr
import PyProof.Rows.SetFrom
import KE.KPairComp
import KE.KSortAsk
import KE.KSortTup
import KE.KNestM
import KE.KLam
import KE.KNest
set_option Elab.async false
set_option linter.all false
set_option maxRecDepth 100000
set_option maxHeartbeats 4000000
open PySem renaming wpAny_bind->Xp,wpAny_pure->Xs,wpAny_callSpecial?_slot->XY,wpAny_call_entry->X5,wpAny_newObj_type->Yi,wpAny_holding->Yq,wpAny_field->Yr,wpAny_Call_Name_kw->Yt,codeAny_builtin->Yu,builtinLookup_eq_fast->Yx,plainId_quiet->YA,wpAny_setState_of->YR,wpAny_ite_split->Y7,typeLookup_type->Y8,codeAny_mono->Y9,wpAny_seqItems->Zh,wpAny_truthy_bool->Zk,wpAny_isInstance->Zo,wpAny_attempt->Zp,wpAny_pyIter_list->Zu,wpAny_mono->Zv,isSubtype_type->ZE,wpAny_setField_rec->ZM,wpAny_pyIter_tuple->ZN,wpAny_passesOwn->ZP,sizeLine_eq->ZQ,wpAny_rule->ZU
open PySem.Heap renaming get?_push_of_some->Xq,get?_push_size->Xw,lt_size->XF,size_push->X8,get?_update_self->Yc,SameBut->Zb,size_update->Zx,get?_update_other->Zz,ExtBut->ZJ
open List renaming length_map->Xr,size_toArray->Xv,getElem?_eq_getElem->Xx,mem_cons_self->XA,mem_cons_of_mem->XB,map_cons->XD,length_cons->XG,length_append->XI,getElem?_map->XJ,append_nil->XO,not_mem_nil->XR,map_append->XU,getD_eq_getElem?_getD->XW,append_assoc->Yb,mem_cons->Yh,getElem?_append_right->Ym,mem_of_getElem?->Yn,getElem?_append_left->Yo,map_map->Yv,replicate->Yw,lookup_cons->Yy,range->YD,zip_cons_cons->YM,map_nil->YN,mem_append_left->YV,reverse_cons->Y1,any_cons->Y2,length_filterMap_le->Y5,cons_append->Y6,length_range->Zc,of_mem_zip->Zf,length_zip->Zg,concat_eq_append->Zm,find?_cons->Zr,length_reverse->Zs,filterMap_cons->Zt,nodup_cons->ZF,mem_append->ZG,length_singleton->ZH,eq_nil_or_concat->ZI,drop_eq_getElem_cons->ZT,replicate_succ->ZW,length->ZX
open Nat renaming le_refl->Xu,le_trans->Xz,lt_of_le_of_lt->XC,ne_of_lt->XH,lt_of_lt_of_le->XM,zero_le->XS,le_add_right->XX,lt_trans->Yp,le_max_right->YC,ne_of_gt->YF,lt_succ_of_lt->YK,add_mul->YL,lt_irrefl->YQ,le_max_left->YU,mul_le_mul_right->YW,lt_succ_self->YY,le_succ->Y',le_of_succ_le_succ->Zi,succ_le_succ->Zl,mul_add->Zw,le_mul_of_pos_left->ZA,le_of_eq->ZL
open Bool renaming and_eq_true->Xy,false_ne_true->Yl,eq_iff_iff->YT,false_eq_true->ZD
open PySem.AutoSeq1 renaming wpAny_loadPart'->XN
open Array renaming length_toList->XT,getElem?_eq_getElem->Ys,getElem?_toList->Y4,getD_eq_getD_getElem?->Ze
open PySem.Heap.SameBut renaming update->XZ
open PySem.Around renaming under_plainId->X9
open PySem.Obj renaming mapSeq->Yd,mapFields->Za
open PySem.Value renaming ref->Ye,none->YB,type->ZK
open Option.some renaming inj->Yg
open PySem.Builtin.SmallTypes renaming nextOf->Yj,ownedTupleIsFree->Y3
open Option renaming some_ne_none->Yk,some->YI
open PySem.Builtin.Tuple renaming tupleExact->Yz
open PyProof.Rows renaming callWith_type1->YE,slot_tuple_getitem->YH
open Int renaming le_refl->YG,toNat_natCast->Zd
open PySem.Builtin.Slice renaming slicePlaces->YJ,sliceApplied->Zy
open Sum renaming inr->YO
open PySem.Calls renaming spliced_cons->YS,spliced_nil->Zq
open PySem.Str renaming ofString->YX
open Ne renaming symm->YZ
open PySem.Builtin.List renaming listTooLong->Y0
open PySem.NameKind renaming free->Zj
open ForInStep renaming yield->Zn
open True renaming intro->ZO
open Sum.inr renaming inj->ZR
open Nat.succ renaming inj->ZS
open PySem.MeetsSeq3 renaming plain_eq_loop->ZV
section
namespace Hq
open PySem PySem.W
def vS (s:PySem.Str) (n:Tok):Value:=.str s n
def vI (i:Int) (n:Tok):Value:=.int i n
def vR (a:Addr):Value:=.ref a
def vN:Value:=.none
def sO (s:String):PySem.Str:=PySem.Str.ofString s
def eN (P:Params) (k:PySem.Str) (n:Tok) (v:Value):DictEntry:=⟨PyData.keyHash P k,.str k n,v⟩
def VX (s:Stmt):Arguments:=match s with
 |.FunctionDef _ a _ _ _ _ _ _ _ _=>a
 |_=>{ posonlyargs:=[],args:=[],vararg:=none,kwonlyargs:=[],kw_defaults:=[],kwarg:=none,defaults:=[] }
def dB (s:Stmt):List Stmt:=match s with
 |.FunctionDef _ _ b _ _ _ _ _ _ _=>b
 |_=>[]
def VY (s:Stmt):Scope:=match s with
 |.FunctionDef _ _ _ _ _ _ sc _ _ _=>sc
 |_=>{ kind:=.function,names:=[],isGenerator:=false,isCoroutine:=false }
def UI (s:Stmt):List Stmt:=match s with
 |.ClassDef _ _ _ b _ _ _ _ _ _ _=>b
 |_=>[]
def fO (nm qual:PySem.Str) (st:Stmt) (m cd:Value):Obj:={ cls:=.type "function",data:=.func (PySem.W.fnOf nm qual (VX st) (dB st) (VY st) .none .none .none m none cd .none) }
def kF (p q:Program) (loose:List PySem.Str) (Xt:Shared->Bool) {α:Type} (Yf:Shared->α) (Ya:World->α) (N:Nat) (row:String) (b:Bool):Prop:=
 ∀w:World,(fencedOpening treeTable p w N).map (λs₀=>(topFrom treeTable p (w.withFollow row b) N s₀).map λs=>(openSeen q loose (importedModules p.main.body) Xt true s,Yf s))=some (some (openGood q loose,Ya (w.withFollow row b)))
theorem left_two {p q:Program}{loose:List PySem.Str}{Xt:Shared->Bool} {α:Type} {Yf:Shared->α}{Ya:World->α}{N:Nat} (row:String) (h0:kF p q loose Xt Yf Ya N row false) (h1:kF p q loose Xt Yf Ya N row true):LeftO p q loose Xt Yf Ya N:=λw=>by
 obtain⟨s₀,a,b1⟩:=Option.map_eq_some_iff.mp (h0 w);obtain⟨s₁,Ug,b2⟩:=Option.map_eq_some_iff.mp (h1 w);rw[a]at Ug;cases Ug;have e:=World.withFollow_self w row;unfold openEnds;rw[a];cases hb:w.params.followText row <;> rw[hb]at e
 ·rw[e]at b1;exact b1
 ·rw[e]at b2;exact b2
end Hq
end
section
set_option maxHeartbeats 0
namespace K32
open PySem Hq
def zT (i:Nat):Stmt:=PySem.Challenge.pw_keptnest_k32_whole_degree_falls.main.body.getD i (.Pass ⟨0,0,0,0⟩)
def zM (i j:Nat):Stmt:=(UI (zT i)).getD j (.Pass ⟨0,0,0,0⟩)
def zC (a b:PySem.Str) (t:Nat) (l n:Int) (c r:Addr) (x y z:Value) (s:Addr) (e:Nat):Obj:={ cls:=PySem.Value.type "code",data:=PySem.Data.fields #[vS a t,vS b (t+1),vS "/claim/cut.py" (t+2),vI l 0,vI n 0,vI 0 0,vI 0 0,vI 3 0,vR c,PySem.Value.bool Bool.true,vI 181 0,vR r,x,y,z,vR s,vI e 0,vI l 0,vS "/claim/cut.py" (e+1)] }
def zK (P:Params):PySem.W.Frag:=(nat_lit 3,{ cls:=PySem.Value.type "dict",data:=PySem.Data.dict #[eN P "__name__" 165 (vS "law_keptnest_k32_whole_degree_falls" 740),eN P "__doc__" 166 (vN),eN P "__package__" 167 (vN),eN P "__loader__" 168 (PySem.Value.builtin "__main__.__loader__#opaque"),eN P "__spec__" 169 (vN),eN P "__annotations__" 170 (vR 6),eN P "__builtins__" 171 (vR 4),eN P "__file__" 173 (vS "/claim/cut.py" 172),eN P "__cached__" 174 (vN),eN P "NestError" 206 (vR 24),eN P "NoDifference" 222 (vR 37),eN P "NoKind" 247 (vR 56),eN P "HAVE_MORE" 259 (vR 59),eN P "under" 265 (vR 64),eN P "with_under" 271 (vR 69),eN P "knots" 281 (vR 76),eN P "tables" 287 (vR 81),eN P "Walk" 352 (vR 124),eN P "folded" 361 (vR 135),eN P "unfold" 371 (vR 142),eN P "fold" 380 (vR 149),eN P "bound" 390 (vR 156),eN P "fields_of" 398 (vR 161),eN P "alike" 406 (vR 168),eN P "fits" 412 (vR 173),eN P "NUMBER" 416 (vR 174),eN P "WORD" 418 (vR 175),eN P "TRUTH" 420 (vR 176),eN P "kind_of" 430 (vR 183),eN P "begin" 444 (vR 308),eN P "begin_kinds" 445 (vR 190),eN P "found_kind" 454 (vR 197),eN P "bind" 467 (vR 204),eN P "finish" 479 (vR 211),eN P "plain_kind" 487 (vR 218),eN P "row_kind" 493 (vR 223),eN P "part_kind" 501 (vR 230),eN P "number_kind" 509 (vR 237),eN P "none_kind" 517 (vR 244),eN P "one_kind" 525 (vR 251),eN P "both_kind" 533 (vR 258),eN P "last_bag_kind" 541 (vR 265),eN P "same_kind" 549 (vR 272),eN P "under_kind" 557 (vR 279),eN P "truth_kind" 565 (vR 286),eN P "FINISHED" 600 (vR 287),eN P "difference" 615 (vR 294),eN P "kind_of_rows" 626 (vR 301),eN P "begin_differences" 637 (vR 308),eN P "names_some" 643 (vR 313),eN P "is_none" 650 (vR 320),eN P "total" 656 (vR 325),eN P "both_differences" 665 (vR 332),eN P "for_differences" 679 (vR 339),eN P "made_for" 688 (vR 346),eN P "SUMS" 693 (vR 347),eN P "wrap" 703 (vR 354),eN P "behind_less_ahead" 711 (vR 361),eN P "behind" 721 (vR 368),eN P "is_even" 729 (vR 373),eN P "degree" 739 (vR 380),eN P "_law_cell_at" 749 (vR 387),eN P "_law_seed" 757 (vR 394),eN P "_law_draw" 767 (vR 401),eN P "_law_key" 773 (vR 406),eN P "_law_bag" 779 (vR 411),eN P "_law_add" 790 (vR 418),eN P "_law_truth" 802 (vR 425),eN P "_law_bound" 816 (vR 432),eN P "_law_answer" 822 (vR 437),eN P "_law_value" 828 (vR 442),eN P "_law_kinds" 836 (vR 449),eN P "_law_store" 846 (vR 456),eN P "_law_seen" 856 (vR 463),eN P "_law_held" 862 (vR 468),eN P "_law_small" 868 (vR 473),eN P "_law_claim" 881 (vR 480),eN P "_law_over" 887 (vR 485),eN P "_law_taken" 893 (vR 490),eN P "_law_asked" 899 (vR 495),eN P "_law_change" 911 (vR 502),eN P "_law_with" 922 (vR 509),eN P "_law_under" 933 (vR 516),eN P "_law_stock" 943 (vR 523),eN P "_law_names" 953 (vR 530),eN P "_law_question" 962 (vR 537),eN P "_law_falls" 977 (vR 544),eN P "law" 990 (vR 551)] 88 }) ::
 (nat_lit 4,{ cls:=PySem.Value.type "module",data:=PySem.Data.plain,dict:=some 0 }) ::
 (nat_lit 23,{ cls:=PySem.Value.type "dict",data:=PySem.Data.dict #[eN P "__module__" 196 (vS "keptnest.errors" 187),eN P "__firstlineno__" 200 (vI 2 199),eN P "__static_attributes__" 201 (vR 22),eN P "__weakref__" 203 (vR 25),eN P "__doc__" 204 (vN)] 3 }) ::
 (nat_lit 24,{ cls:=PySem.Value.type "type",data:=PySem.Data.cls { name:=sO "NestError",bases:=[PySem.Value.type "ValueError"],mro:=[vR 24,PySem.Value.type "ValueError",PySem.Value.type "Exception",PySem.Value.type "BaseException",PySem.Value.type "object"],ns:=23,qualname:=sO "NestError",subclasses:=[vR 37,vR 56] },slots:=#[YI (vR 15),Option.none,YI (vS "NestError" 189),YI (vS "NestError" 197),YI (PySem.Value.builtin "ValueError.__new__"),YI (PySem.Value.bool Bool.true)] }) ::
 (nat_lit 36,{ cls:=PySem.Value.type "dict",data:=PySem.Data.dict #[eN P "__module__" 214 (vS "keptnest.errors" 187),eN P "__firstlineno__" 218 (vI 4 217),eN P "__static_attributes__" 219 (vR 35),eN P "__doc__" 220 (vN)] 2 }) ::
 (nat_lit 37,{ cls:=PySem.Value.type "type",data:=PySem.Data.cls { name:=sO "NoDifference",bases:=[vR 24],mro:=[vR 37,vR 24,PySem.Value.type "ValueError",PySem.Value.type "Exception",PySem.Value.type "BaseException",PySem.Value.type "object"],ns:=36,qualname:=sO "NoDifference" },slots:=#[YI (vR 28),Option.none,YI (vS "NoDifference" 207),YI (vS "NoDifference" 215),YI (PySem.Value.builtin "ValueError.__new__"),YI (PySem.Value.bool Bool.true)] }) ::
 (nat_lit 52,zC "__init__" "NoKind.__init__" 235 8 2 47 48 vN (vR 49) (vR 50) 51 240) ::
 (nat_lit 53,fO "__init__" "NoKind.__init__" (zM 3 0) (vS "keptnest.errors" 187) (vR 52)) ::
 (nat_lit 55,{ cls:=PySem.Value.type "dict",data:=PySem.Data.dict #[eN P "__module__" 230 (vS "keptnest.errors" 187),eN P "__firstlineno__" 234 (vI 6 233),eN P "__init__" 242 (vR 53),eN P "__static_attributes__" 244 (vR 54),eN P "__doc__" 245 (vN)] 2 }) ::
 (nat_lit 56,{ cls:=PySem.Value.type "type",data:=PySem.Data.cls { name:=sO "NoKind",bases:=[vR 24],mro:=[vR 56,vR 24,PySem.Value.type "ValueError",PySem.Value.type "Exception",PySem.Value.type "BaseException",PySem.Value.type "object"],ns:=55,qualname:=sO "NoKind" },slots:=#[YI (vR 40),Option.none,YI (vS "NoKind" 223),YI (vS "NoKind" 231),YI (PySem.Value.builtin "ValueError.__new__"),YI (PySem.Value.bool Bool.true)] }) ::
 (nat_lit 59,{ cls:=PySem.Value.type "tuple",data:=PySem.Data.seq #[vS "num" 250,vS "word" 251,vS "var" 252,vS "table" 253,vS "none" 254,vS "at" 255,vS "times" 256,vS "for" 257,vS "let" 258] }) ::
 (nat_lit 63,zC "under" "under" 260 13 1 60 61 vN vN vN 62 263) ::
 (nat_lit 64,fO "under" "under" (zT 6) (vS "keptnest.asks.questions" 248) (vR 63)) ::
 (nat_lit 68,zC "with_under" "with_under" 266 17 2 65 66 vN vN vN 67 269) ::
 (nat_lit 69,fO "with_under" "with_under" (zT 7) (vS "keptnest.asks.questions" 248) (vR 68)) ::
 (nat_lit 75,zC "knots" "knots" 272 23 1 70 71 vN (vR 72) (vR 73) 74 279) ::
 (nat_lit 76,fO "knots" "knots" (zT 8) (vS "keptnest.asks.questions" 248) (vR 75)) ::
 (nat_lit 80,zC "tables" "tables" 282 31 1 77 78 vN vN vN 79 285) ::
 (nat_lit 81,fO "tables" "tables" (zT 9) (vS "keptnest.asks.questions" 248) (vR 80)) ::
 (nat_lit 94,zC "__init__" "Walk.__init__" 302 36 1 89 90 vN (vR 91) (vR 92) 93 306) ::
 (nat_lit 95,fO "__init__" "Walk.__init__" (zM 11 0) (vS "keptnest.asks.walks" 288) (vR 94)) ::
 (nat_lit 101,zC "later" "Walk.later" 309 40 4 96 97 vN (vR 98) (vR 99) 100 316) ::
 (nat_lit 102,fO "later" "Walk.later" (zM 11 1) (vS "keptnest.asks.walks" 288) (vR 101)) ::
 (nat_lit 108,zC "tell" "Walk.tell" 319 43 2 103 104 vN (vR 105) (vR 106) 107 324) ::
 (nat_lit 109,fO "tell" "Walk.tell" (zM 11 2) (vS "keptnest.asks.walks" 288) (vR 108)) ::
 (nat_lit 113,zC "take" "Walk.take" 327 46 2 110 111 vN vN vN 112 330) ::
 (nat_lit 114,fO "take" "Walk.take" (zM 11 3) (vS "keptnest.asks.walks" 288) (vR 113)) ::
 (nat_lit 120,zC "run" "Walk.run" 333 50 1 115 116 vN (vR 117) (vR 118) 119 340) ::
 (nat_lit 121,fO "run" "Walk.run" (zM 11 4) (vS "keptnest.asks.walks" 288) (vR 120)) ::
 (nat_lit 123,{ cls:=PySem.Value.type "dict",data:=PySem.Data.dict #[eN P "__module__" 297 (vS "keptnest.asks.walks" 288),eN P "__firstlineno__" 301 (vI 34 300),eN P "__init__" 308 (vR 95),eN P "later" 318 (vR 102),eN P "tell" 326 (vR 109),eN P "take" 332 (vR 114),eN P "run" 342 (vR 121),eN P "__static_attributes__" 345 (vR 122),eN P "__dict__" 347 (vR 125),eN P "__weakref__" 349 (vR 126),eN P "__doc__" 350 (vN)] 4 }) ::
 (nat_lit 124,{ cls:=PySem.Value.type "type",data:=PySem.Data.cls { name:=sO "Walk",bases:=[PySem.Value.type "object"],mro:=[vR 124,PySem.Value.type "object"],ns:=123,qualname:=sO "Walk" },slots:=#[Option.none,Option.none,YI (vS "Walk" 290),YI (vS "Walk" 298),YI (PySem.Value.builtin "object.__new__"),YI (PySem.Value.bool Bool.true)] }) ::
 (nat_lit 134,zC "folded" "folded" 353 55 2 129 130 vN (vR 131) (vR 132) 133 359) ::
 (nat_lit 135,fO "folded" "folded" (zT 12) (vS "keptnest.asks.walks" 288) (vR 134)) ::
 (nat_lit 141,zC "unfold" "unfold" 362 59 3 136 137 vN (vR 138) (vR 139) 140 369) ::
 (nat_lit 142,fO "unfold" "unfold" (zT 13) (vS "keptnest.asks.walks" 288) (vR 141)) ::
 (nat_lit 148,zC "fold" "fold" 372 63 3 143 144 vN (vR 145) (vR 146) 147 378) ::
 (nat_lit 149,fO "fold" "fold" (zT 14) (vS "keptnest.asks.walks" 288) (vR 148)) ::
 (nat_lit 155,zC "bound" "bound" 381 65 3 150 151 vN (vR 152) (vR 153) 154 388) ::
 (nat_lit 156,fO "bound" "bound" (zT 15) (vS "keptnest.asks.walks" 288) (vR 155)) ::
 (nat_lit 160,zC "fields_of" "fields_of" 393 70 1 157 158 vN vN vN 159 396) ::
 (nat_lit 161,fO "fields_of" "fields_of" (zT 17) (vS "keptnest.data.kinds" 391) (vR 160)) ::
 (nat_lit 167,zC "alike" "alike" 399 72 2 162 163 vN (vR 164) (vR 165) 166 404) ::
 (nat_lit 168,fO "alike" "alike" (zT 18) (vS "keptnest.data.kinds" 391) (vR 167)) ::
 (nat_lit 172,zC "fits" "fits" 407 74 3 169 170 vN vN vN 171 410) ::
 (nat_lit 173,fO "fits" "fits" (zT 19) (vS "keptnest.data.kinds" 391) (vR 172)) ::
 (nat_lit 174,{ cls:=PySem.Value.type "tuple",data:=PySem.Data.seq #[vS "num" 415] }) ::
 (nat_lit 175,{ cls:=PySem.Value.type "tuple",data:=PySem.Data.seq #[vS "word" 417] }) ::
 (nat_lit 176,{ cls:=PySem.Value.type "tuple",data:=PySem.Data.seq #[vS "truth" 419] }) ::
 (nat_lit 182,zC "kind_of" "kind_of" 421 91 3 177 178 vN (vR 179) (vR 180) 181 428) ::
 (nat_lit 183,fO "kind_of" "kind_of" (zT 24) (vS "keptnest.asks.kinds" 413) (vR 182)) ::
 (nat_lit 189,zC "begin" "begin" 431 95 3 184 185 vN (vR 186) (vR 187) 188 442) ::
 (nat_lit 190,fO "begin" "begin" (zT 25) (vS "keptnest.asks.kinds" 413) (vR 189)) ::
 (nat_lit 196,zC "found_kind" "found_kind" 446 109 3 191 192 vN (vR 193) (vR 194) 195 452) ::
 (nat_lit 197,fO "found_kind" "found_kind" (zT 27) (vS "keptnest.asks.kinds" 413) (vR 196)) ::
 (nat_lit 203,zC "bind" "bind" 455 113 3 198 199 vN (vR 200) (vR 201) 202 465) ::
 (nat_lit 204,fO "bind" "bind" (zT 28) (vS "keptnest.asks.kinds" 413) (vR 203)) ::
 (nat_lit 210,zC "finish" "finish" 468 122 3 205 206 vN (vR 207) (vR 208) 209 477) ::
 (nat_lit 211,fO "finish" "finish" (zT 29) (vS "keptnest.asks.kinds" 413) (vR 210)) ::
 (nat_lit 217,zC "plain_kind" "plain_kind" 480 129 2 212 213 vN (vR 214) (vR 215) 216 485) ::
 (nat_lit 218,fO "plain_kind" "plain_kind" (zT 30) (vS "keptnest.asks.kinds" 413) (vR 217)) ::
 (nat_lit 222,zC "row_kind" "row_kind" 488 131 2 219 220 vN vN vN 221 491) ::
 (nat_lit 223,fO "row_kind" "row_kind" (zT 31) (vS "keptnest.asks.kinds" 413) (vR 222)) ::
 (nat_lit 229,zC "part_kind" "part_kind" 494 133 2 224 225 vN (vR 226) (vR 227) 228 499) ::
 (nat_lit 230,fO "part_kind" "part_kind" (zT 32) (vS "keptnest.asks.kinds" 413) (vR 229)) ::
 (nat_lit 236,zC "number_kind" "number_kind" 502 137 2 231 232 vN (vR 233) (vR 234) 235 507) ::
 (nat_lit 237,fO "number_kind" "number_kind" (zT 33) (vS "keptnest.asks.kinds" 413) (vR 236)) ::
 (nat_lit 243,zC "none_kind" "none_kind" 510 139 2 238 239 vN (vR 240) (vR 241) 242 515) ::
 (nat_lit 244,fO "none_kind" "none_kind" (zT 34) (vS "keptnest.asks.kinds" 413) (vR 243)) ::
 (nat_lit 250,zC "one_kind" "one_kind" 518 141 2 245 246 vN (vR 247) (vR 248) 249 523) ::
 (nat_lit 251,fO "one_kind" "one_kind" (zT 35) (vS "keptnest.asks.kinds" 413) (vR 250)) ::
 (nat_lit 257,zC "both_kind" "both_kind" 526 143 2 252 253 vN (vR 254) (vR 255) 256 531) ::
 (nat_lit 258,fO "both_kind" "both_kind" (zT 36) (vS "keptnest.asks.kinds" 413) (vR 257)) ::
 (nat_lit 264,zC "last_bag_kind" "last_bag_kind" 534 145 2 259 260 vN (vR 261) (vR 262) 263 539) ::
 (nat_lit 265,fO "last_bag_kind" "last_bag_kind" (zT 37) (vS "keptnest.asks.kinds" 413) (vR 264)) ::
 (nat_lit 271,zC "same_kind" "same_kind" 542 147 2 266 267 vN (vR 268) (vR 269) 270 547) ::
 (nat_lit 272,fO "same_kind" "same_kind" (zT 38) (vS "keptnest.asks.kinds" 413) (vR 271)) ::
 (nat_lit 278,zC "under_kind" "under_kind" 550 149 2 273 274 vN (vR 275) (vR 276) 277 555) ::
 (nat_lit 279,fO "under_kind" "under_kind" (zT 39) (vS "keptnest.asks.kinds" 413) (vR 278)) ::
 (nat_lit 285,zC "truth_kind" "truth_kind" 558 151 2 280 281 vN (vR 282) (vR 283) 284 563) ::
 (nat_lit 286,fO "truth_kind" "truth_kind" (zT 40) (vS "keptnest.asks.kinds" 413) (vR 285)) ::
 (nat_lit 287,{ cls:=PySem.Value.type "dict",data:=PySem.Data.dict #[eN P "num" 566 (vR 218),eN P "word" 568 (vR 218),eN P "row" 570 (vR 223),eN P "at" 572 (vR 230),eN P "add" 574 (vR 237),eN P "mul" 576 (vR 237),eN P "none" 578 (vR 244),eN P "one" 580 (vR 251),eN P "both" 582 (vR 258),eN P "times" 584 (vR 265),eN P "for" 586 (vR 265),eN P "when" 588 (vR 265),eN P "same" 590 (vR 272),eN P "under" 592 (vR 279),eN P "and" 594 (vR 286),eN P "or" 596 (vR 286),eN P "not" 598 (vR 286)] 17 }) ::
 (nat_lit 293,zC "difference" "difference" 603 155 4 288 289 vN (vR 290) (vR 291) 292 613) ::
 (nat_lit 294,fO "difference" "difference" (zT 43) (vS "keptnest.changes.differences" 601) (vR 293)) ::
 (nat_lit 300,zC "kind_of_rows" "kind_of_rows" 616 161 3 295 296 vN (vR 297) (vR 298) 299 624) ::
 (nat_lit 301,fO "kind_of_rows" "kind_of_rows" (zT 44) (vS "keptnest.changes.differences" 601) (vR 300)) ::
 (nat_lit 307,zC "begin" "begin" 627 169 3 302 303 vN (vR 304) (vR 305) 306 634) ::
 (nat_lit 308,fO "begin" "begin" (zT 45) (vS "keptnest.changes.differences" 601) (vR 307)) ::
 (nat_lit 312,zC "names_some" "names_some" 638 185 2 309 310 vN vN vN 311 641) ::
 (nat_lit 313,fO "names_some" "names_some" (zT 47) (vS "keptnest.changes.differences" 601) (vR 312)) ::
 (nat_lit 319,zC "is_none" "is_none" 644 187 1 314 315 vN (vR 316) (vR 317) 318 648) ::
 (nat_lit 320,fO "is_none" "is_none" (zT 48) (vS "keptnest.changes.differences" 601) (vR 319)) ::
 (nat_lit 324,zC "total" "total" 651 189 1 321 322 vN vN vN 323 654) ::
 (nat_lit 325,fO "total" "total" (zT 49) (vS "keptnest.changes.differences" 601) (vR 324)) ::
 (nat_lit 331,zC "both_differences" "both_differences" 657 194 3 326 327 vN (vR 328) (vR 329) 330 663) ::
 (nat_lit 332,fO "both_differences" "both_differences" (zT 50) (vS "keptnest.changes.differences" 601) (vR 331)) ::
 (nat_lit 338,zC "for_differences" "for_differences" 666 196 3 333 334 vN (vR 335) (vR 336) 337 677) ::
 (nat_lit 339,fO "for_differences" "for_differences" (zT 51) (vS "keptnest.changes.differences" 601) (vR 338)) ::
 (nat_lit 345,zC "made_for" "made_for" 680 200 3 340 341 vN (vR 342) (vR 343) 344 686) ::
 (nat_lit 346,fO "made_for" "made_for" (zT 52) (vS "keptnest.changes.differences" 601) (vR 345)) ::
 (nat_lit 347,{ cls:=PySem.Value.type "dict",data:=PySem.Data.dict #[eN P "both" 689 (vR 332),eN P "for" 690 (vR 339)] 2 }) ::
 (nat_lit 353,zC "wrap" "wrap" 694 203 3 348 349 vN (vR 350) (vR 351) 352 701) ::
 (nat_lit 354,fO "wrap" "wrap" (zT 54) (vS "keptnest.changes.differences" 601) (vR 353)) ::
 (nat_lit 360,zC "behind_less_ahead" "behind_less_ahead" 704 206 2 355 356 vN (vR 357) (vR 358) 359 709) ::
 (nat_lit 361,fO "behind_less_ahead" "behind_less_ahead" (zT 55) (vS "keptnest.changes.differences" 601) (vR 360)) ::
 (nat_lit 367,zC "behind" "behind" 712 208 2 362 363 vN (vR 364) (vR 365) 366 719) ::
 (nat_lit 368,fO "behind" "behind" (zT 56) (vS "keptnest.changes.differences" 601) (vR 367)) ::
 (nat_lit 372,zC "is_even" "is_even" 724 216 1 369 370 vN vN vN 371 727) ::
 (nat_lit 373,fO "is_even" "is_even" (zT 58) (vS "keptnest.changes.degrees" 722) (vR 372)) ::
 (nat_lit 379,zC "degree" "degree" 730 219 2 374 375 vN (vR 376) (vR 377) 378 737) ::
 (nat_lit 380,fO "degree" "degree" (zT 59) (vS "keptnest.changes.degrees" 722) (vR 379)) ::
 (nat_lit 393,zC "_law_seed" "_law_seed" 750 238 1 388 389 vN (vR 390) (vR 391) 392 755) ::
 (nat_lit 394,fO "_law_seed" "_law_seed" (zT 62) (vS "law_keptnest_k32_whole_degree_falls" 740) (vR 393)) ::
 (nat_lit 400,zC "_law_draw" "_law_draw" 758 241 2 395 396 vN (vR 397) (vR 398) 399 765) ::
 (nat_lit 401,fO "_law_draw" "_law_draw" (zT 63) (vS "law_keptnest_k32_whole_degree_falls" 740) (vR 400)) ::
 (nat_lit 405,zC "_law_key" "_law_key" 768 250 1 402 403 vN vN vN 404 771) ::
 (nat_lit 406,fO "_law_key" "_law_key" (zT 64) (vS "law_keptnest_k32_whole_degree_falls" 740) (vR 405)) ::
 (nat_lit 410,zC "_law_bag" "_law_bag" 774 256 1 407 408 vN vN vN 409 777) ::
 (nat_lit 411,fO "_law_bag" "_law_bag" (zT 65) (vS "law_keptnest_k32_whole_degree_falls" 740) (vR 410)) ::
 (nat_lit 441,zC "_law_value" "_law_value" 823 319 3 438 439 vN vN vN 440 826) ::
 (nat_lit 442,fO "_law_value" "_law_value" (zT 70) (vS "law_keptnest_k32_whole_degree_falls" 740) (vR 441)) ::
 (nat_lit 448,zC "_law_kinds" "_law_kinds" 829 332 0 443 444 vN (vR 445) (vR 446) 447 834) ::
 (nat_lit 449,fO "_law_kinds" "_law_kinds" (zT 71) (vS "law_keptnest_k32_whole_degree_falls" 740) (vR 448)) ::
 (nat_lit 462,zC "_law_seen" "_law_seen" 847 342 1 457 458 vN (vR 459) (vR 460) 461 854) ::
 (nat_lit 463,fO "_law_seen" "_law_seen" (zT 73) (vS "law_keptnest_k32_whole_degree_falls" 740) (vR 462)) ::
 (nat_lit 467,zC "_law_held" "_law_held" 857 348 2 464 465 vN vN vN 466 860) ::
 (nat_lit 468,fO "_law_held" "_law_held" (zT 74) (vS "law_keptnest_k32_whole_degree_falls" 740) (vR 467)) ::
 (nat_lit 472,zC "_law_small" "_law_small" 863 356 4 469 470 vN vN vN 471 866) ::
 (nat_lit 473,fO "_law_small" "_law_small" (zT 75) (vS "law_keptnest_k32_whole_degree_falls" 740) (vR 472)) ::
 (nat_lit 479,zC "_law_claim" "_law_claim" 869 368 3 474 475 vN (vR 476) (vR 477) 478 879) ::
 (nat_lit 480,fO "_law_claim" "_law_claim" (zT 76) (vS "law_keptnest_k32_whole_degree_falls" 740) (vR 479)) ::
 (nat_lit 484,zC "_law_over" "_law_over" 882 381 3 481 482 vN vN vN 483 885) ::
 (nat_lit 485,fO "_law_over" "_law_over" (zT 77) (vS "law_keptnest_k32_whole_degree_falls" 740) (vR 484)) ::
 (nat_lit 489,zC "_law_taken" "_law_taken" 888 394 4 486 487 vN vN vN 488 891) ::
 (nat_lit 490,fO "_law_taken" "_law_taken" (zT 78) (vS "law_keptnest_k32_whole_degree_falls" 740) (vR 489)) ::
 (nat_lit 494,zC "_law_asked" "_law_asked" 894 400 4 491 492 vN vN vN 493 897) ::
 (nat_lit 495,fO "_law_asked" "_law_asked" (zT 79) (vS "law_keptnest_k32_whole_degree_falls" 740) (vR 494)) ::
 (nat_lit 522,zC "_law_stock" "_law_stock" 934 453 1 517 518 vN (vR 519) (vR 520) 521 941) ::
 (nat_lit 523,fO "_law_stock" "_law_stock" (zT 83) (vS "law_keptnest_k32_whole_degree_falls" 740) (vR 522)) ::
 (nat_lit 529,zC "_law_names" "_law_names" 944 459 2 524 525 vN (vR 526) (vR 527) 528 951) ::
 (nat_lit 530,fO "_law_names" "_law_names" (zT 84) (vS "law_keptnest_k32_whole_degree_falls" 740) (vR 529)) ::
 (nat_lit 543,zC "_law_falls" "_law_falls" 963 469 3 538 539 vN (vR 540) (vR 541) 542 975) ::
 (nat_lit 544,fO "_law_falls" "_law_falls" (zT 86) (vS "law_keptnest_k32_whole_degree_falls" 740) (vR 543)) ::
 (nat_lit 550,zC "law" "law" 978 487 1 545 546 vN (vR 547) (vR 548) 549 988) ::
 (nat_lit 551,fO "law" "law" (zT 87) (vS "law_keptnest_k32_whole_degree_falls" 740) (vR 550))::[]
def zA:List Addr:=[3,4,23,24,36,37,52,53,55,56,59,63,64,68,69,75,76,80,81,94,95,101,102,108,109,113,114,120,121,123,124,134,135,141,142,148,149,155,156,160,161,167,168,172,173,174,175,176,182,183,189,190,196,197,203,204,210,211,217,218,222,223,229,230,236,237,243,244,250,251,257,258,264,265,271,272,278,279,285,286,287,293,294,300,301,307,308,312,313,319,320,324,325,331,332,338,339,345,346,347,353,354,360,361,367,368,372,373,379,380,393,394,400,401,405,406,410,411,441,442,448,449,462,463,467,468,472,473,479,480,484,485,489,490,494,495,522,523,529,530,543,544,550,551]
def zV:Program:={ PySem.Challenge.pw_keptnest_k32_whole_degree_falls with main:={ PySem.Challenge.pw_keptnest_k32_whole_degree_falls.main with body:=[1,2,3,5,6,7,8,9,11,12,13,14,15,17,18,19,21,22,23,24,26,27,28,29,30,31,32,33,34,35,36,37,38,39,40,41,43,44,45,46,47,48,49,50,51,52,53,54,55,56,58,59,61,62,63,64,65,66,67,68,69,70,71,72,73,74,75,76,77,78,79,80,81,82,83,84,85,86,87].filterMap λi=>PySem.Challenge.pw_keptnest_k32_whole_degree_falls.main.body[i]? } }
theorem zE:∀P,zA=(zK P).map (·.1):=λ_=>rfl
def zTs:List Addr:=[163,363,375]
def zL:List PySem.Str:=["begin_kinds","FINISHED","begin_differences","SUMS"]
end K32
end
section
namespace Hq
open PySem PySem.W
def mW (st:SharedT->Thread->Option (SharedT×Thread)) (ok:Thread->Bool):Nat->SharedT->Thread->Option SharedT
 | 0,_,_=>none
 |n+1,s,t=>match through t with
  |true=>some s
  |false=>match ok t with
   |false=>none
   |true=>match st s t with
    |some (s',t')=>mW st ok n s' t'
    |none=>none
theorem vk {tb:String->Option Builtin}{p:Program}{w:World}{n₀:Nat}{pc:Option Value}:∀{n:Nat}{s s':SharedT}{t:Thread},mW (stepT (denote tb) p w) (stepOk n₀ pc) n s t=some s'->topRun tb p w n₀ pc n s.abs t=some s'.abs
 | 0,_,_,_,h=>by cases h
 |n+1,s,s',t,h=>by
  unfold mW at h;unfold topRun;cases he:through t with
  |true=>rw[he]at h;cases h;rfl
  |false=>
   rw[he]at h;cases hk:stepOk n₀ pc t with
   |false=>rw[hk]at h;cases h
   |true=>
    rw[hk]at h;cases hs:stepT (denote tb) p w s t with
    |none=>rw[hs]at h;cases h
    |some r=>obtain⟨s₂,t₂⟩:=r;rw[hs]at h;rw[stepT_spec hs];exact vk h
def mX:List Obj->BT->Nat->Option (BT×Nat)
 |[],t,n=>some (t,n)
 |o::l,t,n=>match ((t.ins n o).get n).isSome with
  |true=>mX l (t.ins n o) (n+1)
  |false=>none
theorem vm {life:Life}:∀{l:List Obj}{t t':BT}{n n':Nat},mX l t n=some (t',n')->absHeap t' n' life=⟨(absHeap t n life).objs++l.toArray,life⟩
 |[],t,t',n,n',h=>by cases h;simp;rfl
 |o::l,t,t',n,n',h=>by
  unfold mX at h;cases e:((t.ins n o).get n).isSome with
  |false=>rw[e]at h;cases h
  |true=>
   rw[e]at h;rw[vm h,absHeap_ins e];unfold Heap.push;simp
def vn (s:Shared):Option SharedT:=(mX s.heap.objs.toList .nil 0).map λx=>⟨x.1,x.2,s.heap.life,s.gens,s.drawn,s.toks,s.os⟩
theorem Dc {s:Shared}{T:SharedT} (h:vn s=some T):T.abs=s:=by
 obtain⟨x,a,b⟩:=Option.map_eq_some_iff.mp h;obtain⟨t,n⟩:=x;cases b;have:=vm (life:=s.heap.life) a;unfold SharedT.abs;obtain⟨⟨objs,life⟩,gens,drawn,toks,os⟩:=s;simp only at this ⊢;rw[this];simp [absHeap,BT.list]
def pY (st:SharedT->Thread->Option (SharedT×Thread)) (sk:Nat->Option Value->Thread->Bool) (p:Program) (N:Nat) {β:Type} (F:Shared->β) (s₀:Shared):Option β:=
 match s₀.heap.isNs mainGlobals && s₀.gens.size == 0 with
 | true=>(vn s₀).bind λT₀=>(mW st (sk s₀.heap.objs.size (s₀.heap.nsMap mainGlobals "__annotations__")) N T₀ (topStub p)).bind λT₁=>match staticsOk (importedModules p.main.body) s₀.heap T₁.abs.heap && namesBound p T₁.abs.heap && gensDone T₁.abs && laidKept s₀.heap T₁.abs.heap with
   |true=>some (F T₁.abs)
   |false=>none
 |false=>none
theorem Dd {tb:String->Option Builtin}{p:Program}{w:World}{N:Nat} {β:Type} {F:Shared->β}{s₀:Shared}{y:β} (h:pY (stepT (denote tb) p w) stepOk p N F s₀=some y):(topFrom tb p w N s₀).map F=some y:=by
 unfold pY at h;unfold topFrom;cases e:(s₀.heap.isNs mainGlobals && s₀.gens.size == 0) with
 |false=>rw[e]at h;cases h
 |true=>
  rw[e]at h;obtain⟨T₀,a,h⟩:=Option.bind_eq_some_iff.mp h;obtain⟨T₁,b,h⟩:=Option.bind_eq_some_iff.mp h;have b':=vk b;rw[Dc a]at b';dsimp only;rw[b'];dsimp only[Option.bind_some];cases q:(staticsOk (importedModules p.main.body) s₀.heap T₁.abs.heap && namesBound p T₁.abs.heap && gensDone T₁.abs && laidKept s₀.heap T₁.abs.heap) with
  |false=>rw[q]at h;cases h
  |true=>rw[q]at h;exact h
def mY (VZ:Program->World->Nat->Shared->Thread->Option Shared) (sr:Program->Shared×Thread) (V0:Program->Shared->Option Shared) (st:Program->World->SharedT->Thread->Option (SharedT×Thread)) (sk:Nat->Option Value->Thread->Bool) (p:Program) {β:Type} (F:Shared->β) (y:World->β) (N:Nat) (row:String) (b:Bool):Prop:=
 ∀w:World,((VZ (opening p) w N (sr (opening p)).1 (sr (opening p)).2).bind (V0 p)).bind (pY (st p (w.withFollow row b)) sk p N F)=some (y (w.withFollow row b))
theorem mY.to {p:Program} {β:Type} {F:Shared->β}{y:World->β}{N:Nat}{row:String}{b:Bool} (h:mY (importEnds treeTable) start fenceModules? (stepT (denote treeTable)) stepOk p F y N row b) (w:World):(fencedOpening treeTable p w N).map (λs₀=>(topFrom treeTable p (w.withFollow row b) N s₀).map F)=some (some (y (w.withFollow row b))):=by
 obtain⟨s₀,a,e⟩:=Option.bind_eq_some_iff.mp (h w);unfold fencedOpening;rw[a,Option.map_some,Dd e]
open Fast in
abbrev fM {β:Type} (p:Program) (F:Shared->β) (y:World->β) (N:Nat) (row:String) (b:Bool):Prop:=mY (tw10274390034422433532 tw14364793385576792824) tw1435165496053646825 tw14289696077712309145 (tw10156331382660048174 (tw11892475500146522536 tw14364793385576792824)) tw6613529449190102663 p F y N row b
open Fast in
theorem fM.to {p:Program} {β:Type} {F:Shared->β}{y:World->β}{N:Nat}{row:String}{b:Bool} (h:fM p F y N row b):mY (importEnds treeTable) start fenceModules? (stepT (denote treeTable)) stepOk p F y N row b:=by
 rw[te10274390034422433532,te14364793385576792824,te1435165496053646825,te14289696077712309145,te10156331382660048174,te11892475500146522536,te6613529449190102663];exact h
open Fast in
theorem fM.eu {p q:Program}{loose:List PySem.Str}{Xt:Shared->Bool} {α:Type} {Yf:Shared->α}{Ya:World->α}{N:Nat}{row:String}{b:Bool} (h:fM p (openSeen q loose (importedModules p.main.body) Xt true) (λ_=>openGood q loose) N row b) (h':fM p Yf Ya N row b):kF p q loose Xt Yf Ya N row b:=λw=>by
 have a:=h.to.to w;have b':=h'.to.to w;obtain⟨s₀,e,a⟩:=Option.map_eq_some_iff.mp a;rw[e,Option.map_some]at b' ⊢;obtain⟨s₁,e',a⟩:=Option.map_eq_some_iff.mp a;rw[e',Option.map_some]at b' ⊢;rw[a,Yg (Yg b')]
end Hq
end
section
set_option maxHeartbeats 0
namespace K32
open PySem Hq
theorem De:fM PySem.Challenge.pw_keptnest_k32_whole_degree_falls (PySem.W.openSeen zV zL (importedModules PySem.Challenge.pw_keptnest_k32_whole_degree_falls.main.body) (λs=>PySem.W.xlAt zV [] s && PySem.W.recOk (PySem.W.RowW.records (PySem.W.OpenRow.toRowW PySem.Challenge.rw_keptnest_k32_whole_degree_falls.row)) s) true) (λ_=>PySem.W.openGood zV zL) 7188 "special-get-raises" false:=by
 intro w
 kernel_rfl
theorem Df:fM PySem.Challenge.pw_keptnest_k32_whole_degree_falls (PySem.W.Hook.obs (PySem.W.kmHook zK zA zE zTs)) (PySem.W.Hook.val (PySem.W.kmHook zK zA zE zTs)) 7188 "special-get-raises" false:=by
 intro w
 kernel_rfl
theorem zR_false:kF PySem.Challenge.pw_keptnest_k32_whole_degree_falls zV zL (λs=>PySem.W.xlAt zV [] s && PySem.W.recOk (PySem.W.RowW.records (PySem.W.OpenRow.toRowW PySem.Challenge.rw_keptnest_k32_whole_degree_falls.row)) s) (PySem.W.Hook.obs (PySem.W.kmHook zK zA zE zTs)) (PySem.W.Hook.val (PySem.W.kmHook zK zA zE zTs)) 7188 "special-get-raises" false:=De.eu Df
theorem Dg:fM PySem.Challenge.pw_keptnest_k32_whole_degree_falls (PySem.W.openSeen zV zL (importedModules PySem.Challenge.pw_keptnest_k32_whole_degree_falls.main.body) (λs=>PySem.W.xlAt zV [] s && PySem.W.recOk (PySem.W.RowW.records (PySem.W.OpenRow.toRowW PySem.Challenge.rw_keptnest_k32_whole_degree_falls.row)) s) true) (λ_=>PySem.W.openGood zV zL) 7188 "special-get-raises" true:=by
 intro w
 kernel_rfl
theorem Dh:fM PySem.Challenge.pw_keptnest_k32_whole_degree_falls (PySem.W.Hook.obs (PySem.W.kmHook zK zA zE zTs)) (PySem.W.Hook.val (PySem.W.kmHook zK zA zE zTs)) 7188 "special-get-raises" true:=by
 intro w
 kernel_rfl
theorem zR_true:kF PySem.Challenge.pw_keptnest_k32_whole_degree_falls zV zL (λs=>PySem.W.xlAt zV [] s && PySem.W.recOk (PySem.W.RowW.records (PySem.W.OpenRow.toRowW PySem.Challenge.rw_keptnest_k32_whole_degree_falls.row)) s) (PySem.W.Hook.obs (PySem.W.kmHook zK zA zE zTs)) (PySem.W.Hook.val (PySem.W.kmHook zK zA zE zTs)) 7188 "special-get-raises" true:=Dg.eu Dh
theorem zS:PySem.Challenge.rw_keptnest_k32_whole_degree_falls.wellSaid=true:=by kernel_rfl
end K32
end
section
namespace L2
open PySem PySem.Spec PyProof.Rows
abbrev Key:=Sum Int Str
noncomputable def e8:Key->Value->Bool
 |.inl k,v=>Value.isInt k v
 |.inr x,v=>Value.isStrOf x v
noncomputable def Di (w:World):Key->Int
 |.inl k=>hashInt k
 |.inr x=>hashStr w x
theorem dZ:∀{k:Key}{v:Value},e8 k v=true->(∃i t,k=Sum.inl i/\v=Value.int i t)\/(∃x t,k=YO x/\v=Value.str x t)
 |.inl i,v,h=>by
  obtain⟨t,e⟩:=Value.isInt_shape (k:=i) (v:=v) h;exact .inl ⟨i,t,rfl,e⟩
 |.inr x,v,h=>by
  obtain⟨t,e⟩:=Value.isStrOf_shape (x:=x) (v:=v) h;exact .inr ⟨x,t,rfl,e⟩
theorem Dj (i:Int) (t:Tok):e8 (.inl i) (.int i t)=true:=by simp [e8,Value.isInt]
theorem pZ (x:Str) (t:Tok):e8 (.inr x) (.str x t)=true:=by simp [e8,Value.isStrOf]
theorem Dk (a b:Int):decide ((Sum.inl a:Key)=Sum.inl b)=(a == b):=by
 by_cases e:a=b
 ·subst e;simp
 ·have h:¬(Sum.inl a:Key)=Sum.inl b:=λq=>e (Sum.inl.inj q);rw[decide_eq_false h];exact (beq_eq_false_iff_ne.mpr e).symm
theorem Dl (a b:Str):decide ((YO a:Key)=YO b)=decide (a=b):=by
 by_cases e:a=b
 ·subst e;simp
 ·have h:¬(YO a:Key)=YO b:=λq=>e (ZR q);rw[decide_eq_false h,decide_eq_false e]
theorem Dm (a:Int) (b:Str):decide ((Sum.inl a:Key)=YO b)=false:=decide_eq_false (λq=>nomatch q)
theorem Dn (a:Str) (b:Int):decide ((YO a:Key)=Sum.inl b)=false:=decide_eq_false (λq=>nomatch q)
noncomputable def bo (prog:Program) (w:World):PySem.KeyKind prog w Key where
 is:=e8
 hash:=Di w
 inj:=λv a b ha hb=>by
  rcases dZ ha with ⟨i,t,rfl,rfl⟩ |⟨x,t,rfl,rfl⟩
  ·rcases dZ hb with ⟨j,u,rfl,e⟩ |⟨y,u,rfl,e⟩
   ·injection e with e1 _;rw[e1]
   ·exact nomatch e
  ·rcases dZ hb with ⟨j,u,rfl,e⟩ |⟨y,u,rfl,e⟩
   ·exact nomatch e
   ·injection e with e1 _;rw[e1]
 byValue:=λk v h=>by
  rcases dZ h with ⟨i,t,rfl,rfl⟩ |⟨x,t,rfl,rfl⟩ <;> rfl
 pyHash:=λhv h=>by
  rcases dZ hv with ⟨i,t,rfl,rfl⟩ |⟨x,t,rfl,rfl⟩
  ·exact wpAny_pyHash_int h
  ·exact wpAny_pyHash_str h
 eqBool:=λhu hv h=>by
  rcases dZ hu with ⟨i,t,rfl,rfl⟩ |⟨x,t,rfl,rfl⟩
  ·rcases dZ hv with ⟨j,u,rfl,rfl⟩ |⟨y,u,rfl,rfl⟩
   ·rw[Dk]at h;exact wpAny_eqBool_int h
   ·rw[Dm]at h;exact SeqAt.EqAt.int_str i t y u _ _ _ _ h
  ·rcases dZ hv with ⟨j,u,rfl,rfl⟩ |⟨y,u,rfl,rfl⟩
   ·rw[Dn]at h;exact SeqAt.EqAt.str_int x t j u _ _ _ _ h
   ·rw[Dl]at h;exact wpAny_eqBool_str h
 «strs»:=λk x t v h=>by
  rcases dZ h with ⟨i,u,rfl,e⟩ |⟨y,u,rfl,e⟩
  ·exact nomatch e
  ·injection e with e1 _;subst e1;cases v <;> rfl
end L2
namespace L2
open PySem PySem.Spec PyProof.Rows
def jq (sc:Scope) (x:Str):Prop:=sc.names.lookup x=some .local\/sc.names.lookup x=some .cell\/sc.names.lookup x=some .free
def ik (sc:Scope) (x:Str):Prop:=sc.names.lookup x=some .local\/sc.names.lookup x=some .cell
def jr (env:Env) (h:Heap) (m:Str->Option Value) (x:Str) (u:Value):Prop:=
 (env.kindOf x=some .local/\m x=some u)\/((env.kindOf x=some .cell\/env.kindOf x=some .free)/\∃c,env.cells.lookup x=some c/\h.IsCell c (some u))
section
variable {X:Cx}{aR:List (Addr×Obj)} {σ:List (Option V)} {H WW:Hp}{s:Shared}{h':Heap}
theorem Dp {N:List Str} (hN:N.Nodup) {i j:Nat}{x:Str} (a:N[i]?=some x) (b:N[j]?=some x):i=j:=by
 obtain⟨h1,e1⟩:=List.getElem?_eq_some_iff.mp a;obtain⟨h2,e2⟩:=List.getElem?_eq_some_iff.mp b;exact (List.getElem_inj hN).mp (e1.trans e2.symm)
end
end L2
namespace L2
open PySem PySem.Spec PyProof.Rows
theorem mZ {M:Model}{A:Around}{E:Value->Shared->Prop}{s:Shared}{tg:Expr}{it:Addr}{u:Value}{o:Obj}{n:String}{vs:Array Value}{Q:Unit->Shared->Prop} (ho:s.heap.get? it=some o) (hc:o.cls=.type n) (hd:o.data=.fields vs)
    (hn:["enumerate","zip","dict_itemiterator","dict_reverseitemiterator","odict_iterator","itertools.zip_longest","itertools.pairwise"].contains n=false) (hQ:Q () s):wpAny M A (letOwnedTupleGo tg (.ref it) u) Q E s:=by
  unfold letOwnedTupleGo;cases tg <;> first
    |exact Xs hQ
    | (cases u <;> first
        |exact Xs hQ
        | (refine Xp (wpAny_load ho ?_)
           rw[hc,hd];show wpAny M A (if (["enumerate","zip","dict_itemiterator","dict_reverseitemiterator","odict_iterator","itertools.zip_longest","itertools.pairwise"].contains n && vs[0]? == some (rawInt _))=true then _ else _) Q E s
           rw[if_neg (by intro h;rw[hn,Bool.false_and]at h;cases h)];exact Xs hQ))
end L2
namespace L2
open PySem PySem.Spec PyProof.Rows
end L2
namespace L2
open PySem PySem.Spec PyProof.Rows
section
variable {prog:Program}{w:World}{A:Around}{E:Value->Shared->Prop}{s:Shared}
theorem p0 {J t:Addr}{i:Nat}{its:Array Value}{x:Value}{Q:Value->Shared->Prop} (hJ:s.heap.IsTupleIter J t i) (ht:s.heap.IsTuple t its) (hx:its[i]?=some x)
  (q:∀h',h'.IsTupleIter J t (i+1)->Zb J s.heap h'->Q x { s with heap:=h' }):wpAny (model prog w) A (Yj (.ref J)) Q E s:=by
 obtain⟨ob,h1,h2,h3⟩:=id hJ;obtain⟨V1,g1,_,nt,g2⟩:=ht;unfold Yj;refine Xp (XY (name:=YX "__next__") hJ.typeIs F.slot_tuple_iterator_next (X5 F.slot_tuple_iterator_next hJ.typeIs F.entry_tuple_iterator_next ?_ (F.args_tuple_iterator_next_1 _)));show wpAny _ _ (field (.ref J) 0 >>= _) _ _ s;refine Xp (Yr h1 h3 (x:=.ref t) rfl ?_);show wpAny _ _ (if (Ye t == YB)=true then _ else _) _ _ s
 rw[if_neg (show ¬((Ye t == YB)=true) from λz=>Yl z)];show wpAny _ _ (field (.ref J) 1 >>= _) _ _ s;refine Xp (Yr h1 h3 (x:=.int i 0) rfl ?_);show wpAny _ _ (seqItems? (.ref t) >>= _) _ _ s;refine Xp (Zh g1 g2 ?_);simp only[Zd,hx];refine Xp (wpAny_setField h1 h3 (by simp) (Xs ⟨x,rfl,Xs (q _ ?a (XZ ..))⟩));exact⟨_,Yc _ h1 (Obj.isFreed_of_fields (Obj.data_mapFields h3 _)),Eq.trans (Obj.cls_mapFields ..) h2,by rw[Obj.data_mapFields h3] <;> simp [rawInt]⟩
theorem m6 {J t:Addr}{i:Nat}{its:Array Value}{Q:Value->Shared->Prop} (hh:A.handled=none) (hJ:s.heap.IsTupleIter J t i) (ht:s.heap.IsTuple t its) (hx:its[i]?=none)
  (q:∀h' e,ZJ J s.heap h'->(∃o,h'.get? e=some o/\o.cls=.type "StopIteration")->E (.ref e) { s with heap:=h' }):wpAny (model prog w) A (Yj (.ref J)) Q E s:=by
 obtain⟨ob,h1,h2,h3⟩:=id hJ;obtain⟨V1,g1,_,nt,g2⟩:=ht;unfold Yj;refine Xp (XY (name:=YX "__next__") hJ.typeIs F.slot_tuple_iterator_next (X5 F.slot_tuple_iterator_next hJ.typeIs F.entry_tuple_iterator_next ?_ (F.args_tuple_iterator_next_1 _)));show wpAny _ _ (field (.ref J) 0 >>= _) _ _ s;refine Xp (Yr h1 h3 (x:=.ref t) rfl ?_);show wpAny _ _ (if (Ye t == YB)=true then _ else _) _ _ s
 rw[if_neg (show ¬((Ye t == YB)=true) from λz=>Yl z)];show wpAny _ _ (field (.ref J) 1 >>= _) _ _ s;refine Xp (Yr h1 h3 (x:=.int i 0) rfl ?_);show wpAny _ _ (seqItems? (.ref t) >>= _) _ _ s;refine Xp (Zh g1 g2 ?_);simp only[Zd,hx];refine Xp (ZU (Xp (wpAny_setField h1 h3 (by simp) ?_)));show wpAny _ _ (newExc (.type "StopIteration") [] >>= _) _ _ _;refine Xp ?_;simp only[newExc,newTuple];refine Xp (Yi ?_ (by size_fits));refine Xp (m:=firstArgMember _ _) (wpAny_of_eq (a:=YB) (by first |rfl |(simp only[firstArgMember] <;> rfl)) ?_)
 refine Yi ?_ (by size_fits);simp only[raiseNew];refine Xp (wpAny_handled ?_)
 first |rw[show A.in1.handled=none from hh] |rw[hh]
 refine Xp (Xs (wpAny_throw (q _ _ ?_ ⟨_,Xw _ rfl,rfl⟩)));exact ((XZ ..).extBut.push _).push _
def cu (q:Bool) (h:Heap) (a:Addr) (xs:Array Value):Prop:=match q with
 |true=>h.IsTuple a xs
 |false=>h.IsList a xs
noncomputable abbrev fN (q:Bool):String:=match q with
 |true=>"tuple_iterator"
 |false=>"list_iterator"
def dK (q:Bool) (h:Heap) (J t:Addr) (i:Nat):Prop:=∃o,h.get? J=some o/\o.cls=.type (fN q)/\o.data=.fields #[.ref t,.int i 0]
theorem dK.extBut {q:Bool}{h h':Heap}{J t c:Addr}{i:Nat} (x:dK q h J t i) (e:ZJ c h h') (n:J≠c):dK q h' J t i:=
 let ⟨o,a,b⟩:=x;⟨o,e _ _ n a,b⟩
theorem cu.extBut {q:Bool}{h h':Heap}{t c:Addr}{xs:Array Value} (x:cu q h t xs) (e:ZJ c h h') (n:t≠c):cu q h' t xs:=by
 cases q
 ·exact Heap.IsList.extBut x e n
 ·exact Heap.IsTuple.extBut x e n
theorem p5 {q:Bool}{J t:Addr}{i:Nat}{its:Array Value}{x:Value}{Q:Value->Shared->Prop} (hJ:dK q s.heap J t i) (ht:cu q s.heap t its) (hx:its[i]?=some x)
  (h:∀h',dK q h' J t (i+1)->Zb J s.heap h'->Q x { s with heap:=h' }):wpAny (model prog w) A (Yj (.ref J)) Q E s:=by
 cases q
 ·exact wpAny_nextOf_list_item hJ ht hx h
 ·exact p0 hJ ht hx h
theorem vo {q:Bool}{J t:Addr}{i:Nat}{its:Array Value}{Q:Value->Shared->Prop} (hh:A.handled=none) (hJ:dK q s.heap J t i) (ht:cu q s.heap t its) (hx:its[i]?=none)
  (h:∀h' e,ZJ J s.heap h'->(∃o,h'.get? e=some o/\o.cls=.type "StopIteration")->E (.ref e) { s with heap:=h' }):wpAny (model prog w) A (Yj (.ref J)) Q E s:=by
 cases q
 ·exact wpAny_nextOf_list_end hh hJ ht hx h
 ·exact m6 hh hJ ht hx h
theorem cu.lt {q:Bool}{h:Heap}{t:Addr}{xs:Array Value} (x:cu q h t xs):t<h.objs.size:=by
 cases q <;> (obtain⟨_,e,_⟩:=x;exact XF e)
end
end L2
namespace L2
open PySem PySem.Spec PyProof.Rows
theorem _root_.PySem.Draws.tuple {prog:Program}{w:World}{A:Around} (hh:A.handled=none) (it l:Addr) (cP:l≠it) (items:Array Value) :
  Draws prog w A it [it,l] items.size (λi v=>items[i]?=some v) (λi h=>h.IsTupleIter it l i/\h.IsTuple l items) where
 live:=λ_ _ st=>let ⟨o,ho,_⟩:=st.1;⟨o,ho⟩
 frame:=λ_ _ _ st hk=>⟨st.1.at λo e=>hk it (by simp) o e,st.2.at λo e=>hk l (by simp) o e⟩
 item:=λi s Q E hi st hQ=>by
  refine p0 st.1 st.2 (x:=items[i]) (by simp [hi]) λh' pi e9=>?_;exact hQ _ h' s.toks (by simp [hi]) ⟨pi,st.2.extBut e9.extBut cP⟩ e9
 done:=λs Q E st V2=>m6 hh st.1 st.2 (by simp) V2
section
open AutoSeq1 (wpAny_loadPart')
theorem Dq (l:Addr) (items:Array Value) (n:Nat) (ak:Option Addr) (sl:Array (Option Value)) :
  Meets (Builtin.«enumerate.__new__» ⟨[.type "enumerate",.ref l],[]⟩) (λ_ R s=>s.heap.get? l=some { cls:=.type "tuple",dict:=ak,data:=.seq items n,slots:=sl } /\
   R (.ok (.ret (.ref (s.heap.push { cls:=.type "tuple_iterator",data:=.fields #[.ref l,.int 0 0] }).objs.size)))
    { s with heap:=(s.heap.push { cls:=.type "tuple_iterator",data:=.fields #[.ref l,.int 0 0] }).push { cls:=.type "enumerate",data:=.fields #[.none,.bool false,.ref s.heap.objs.size,rawInt 0,.none,.none] } }):=
 .of_wp λprog w A R s h=>by
  obtain⟨hp,g,d,tk,os⟩:=s;obtain⟨hl,h⟩:=h;have hsub:=sub_enumerate;have hL:Heap.IsTuple (Shared.heap ⟨hp,g,d,tk,os⟩) l items:=⟨_,hl,rfl,n,rfl⟩
  wp_walk using XN hl
  refine wpAny_stack_any λst=>Xs ?_;split
  ·rename_i c _ _ _ _ _;cases (c == ZK "enumerate")
   ·wp_walk using XN hl,ZN hL
    exact⟨_,rfl,h⟩
   ·wp_walk using XN hl,ZN hL
    exact⟨_,rfl,h⟩
  ·wp_walk using XN hl,ZN hL
   exact⟨_,rfl,h⟩
end
section
variable {prog:Program}{w:World}{A:Around}{E:Value->Shared->Prop}{s:Shared}
theorem Dr {l:Addr}{items:Array Value}{Q:Value->Shared->Prop} (hL:IsTup s.heap l items)
  (h:∀h',IsEnum h' (s.heap.objs.size+1) s.heap.objs.size 0 .none->h'.IsTupleIter s.heap.objs.size l 0->h'.objs.size=s.heap.objs.size+2 ->
   (∀b o,s.heap.get? b=some o->h'.get? b=some o)->Q (.ref (s.heap.objs.size+1)) { s with heap:=h' }) :
  wpAny (model prog w) A (call (.type "enumerate") [.ref l]) Q E s:=by
 obtain⟨⟨c,ak,T9,sl⟩,hl,hc,n,hd⟩:=hL;replace hc:c=.type "tuple":=hc;replace hd:T9=.seq items n:=hd;subst hc hd;refine callType_new F.called_enumerate (by decide) (F.typeCall_enumerate_1 _) (F.newCall_enumerate_1 _) (λobj=>F.args_object_init_2 obj _) F.entry_enumerate_new
  (Dq l items n ak sl) ⟨hl,?_⟩
 have hz:(s.heap.push { cls:=.type "tuple_iterator",data:=.fields #[.ref l,.int 0 0] }).objs.size=s.heap.objs.size+1:=X8 ..;show _/\_;rw[hz];have he:IsEnum ((s.heap.push { cls:=.type "tuple_iterator",data:=.fields #[.ref l,.int 0 0] }).push
   { cls:=.type "enumerate",data:=.fields #[.none,.bool false,.ref s.heap.objs.size,rawInt 0,.none,.none] }) (s.heap.objs.size+1) s.heap.objs.size 0 .none:=by
  have:=Xw (s.heap.push { cls:=.type "tuple_iterator",data:=.fields #[.ref l,.int 0 0] })
   (o:={ cls:=.type "enumerate",data:=.fields #[.none,.bool false,.ref s.heap.objs.size,rawInt 0,.none,.none] }) rfl
  rw[hz]at this;exact this
 refine⟨⟨_,he,rfl⟩,h _ he ⟨_,Xq _ (Xw _ rfl),rfl,rfl⟩ (by rw[X8,hz]) λb o x=>Xq _ (Xq _ x)⟩
theorem Dt {e it l:Addr}{i:Nat}{items:Array Value}{c0:Value}{Q:Option Value->Shared->Prop} (hh:A.handled=none)
  (he:IsEnum s.heap e it i c0) (hit:s.heap.IsTupleIter it l i) (hl:s.heap.IsTuple l items) (hx:items[i]?=none)
  (hQ:∀h',ZJ it s.heap h'->Q none { s with heap:=h' }):wpAny (model prog w) A (pyNext (.ref e)) Q E s:=by
 have hT:s.TypeIs (.ref e) "enumerate":=⟨_,he,rfl⟩;unfold pyNext;refine Xp (Zp (XY (name:=YX "__next__") hT F.slot_enumerate_next
  (X5 F.slot_enumerate_next hT F.entry_enumerate_next ?_ (F.args_enumerate_next_1 _))))
 show wpAny _ _ (field (.ref e) 2 >>= _) _ _ _;refine Xp (Yr he rfl (x:=.ref it) rfl ?_);refine Xp (m6 hh hit hl hx λh' x ii cQ=>?_);obtain⟨o,ho,hc⟩:=cQ;refine Xp (Zo (T:="StopIteration") (b:=true) ⟨o,ho,hc⟩ isSubtype_stop ?_);exact Xs (hQ _ ii)
end
end L2
namespace L2
open PySem PySem.Spec PyProof.Rows PySem.W
theorem vp:Manifest.owners.lookup (String.ofList ['d','e','s','r','e','v','e','r'].reverse)=some Manifest.sig_reversed:=by kernel_rfl
theorem kG:Slot "reversed" "__next__" "reversed.__next__":=
 .of (owner:="reversed") (n:="__next__") (by rw[Y8,Yx];kernel_rfl) (by decide +kernel) (by decide +kernel) (by decide +kernel)
  (by first |exact .inl (by decide +kernel) |exact .inr (by decide +kernel)) (by rw[ZE];kernel_rfl)
theorem vq:entryFor table "reversed.__next__"=some Builtin.«reversed.__next__»:=entryFor_of_tree (by kernel_rfl)
theorem vr (a:Value):argsOk "reversed.__next__" ⟨[a],[]⟩:=by
 unfold argsOk;rw[signature?_of (id:="reversed.__next__") (n:=['_','_','t','x','e','n','_','_']) (o:=['d','e','s','r','e','v','e','r']) (by kernel_rfl) vp];kernel_rfl
theorem vt:Slot "reversed" "__iter__" "reversed.__iter__":=
 .of (owner:="reversed") (n:="__iter__") (by rw[Y8,Yx];kernel_rfl) (by decide +kernel) (by decide +kernel) (by decide +kernel)
  (by first |exact .inl (by decide +kernel) |exact .inr (by decide +kernel)) (by rw[ZE];kernel_rfl)
theorem Du (a:Value):argsOk "reversed.__iter__" ⟨[a],[]⟩:=by
 unfold argsOk;rw[signature?_of (id:="reversed.__iter__") (n:=['_','_','r','e','t','i','_','_']) (o:=['d','e','s','r','e','v','e','r']) (by kernel_rfl) vp];kernel_rfl
theorem Dv:entryFor table "reversed.__iter__"=some Builtin.«dict_keyiterator.__iter__»:=
 entryFor_alias (id':="dict_keyiterator.__iter__") (by kernel_rfl) (by first |rfl |decide +kernel |(unfold String.splitOn;simp +decide [String.splitOnAux])) (by decide +kernel) (by kernel_rfl)
theorem Dw:Slot "reversed" "__init__" "object.__init__":=
 .of (owner:="object") (n:="__init__") (by rw[Y8,Yx];kernel_rfl) (by decide +kernel) (by decide +kernel) (by decide +kernel)
  (by first |exact .inl (by decide +kernel) |exact .inr (by decide +kernel)) (by rw[ZE];kernel_rfl)
theorem Dx:TypeCalled "reversed" "reversed.__new__" "object.__init__":=
 ⟨by decide +kernel,by decide +kernel,⟨_,_,F.mro_reversed⟩,F.made_reversed,by decide +kernel,by rw[ZE];kernel_rfl,Dw⟩
theorem Dy:typeLookup (.type "tuple") "__reversed__"=pure none:=by rw[Y8,Yx];kernel_rfl
theorem Dz:isSubtype (.type "tuple") (.type "dict")=pure false:=by rw[ZE];kernel_rfl
section
open AutoSeq1 (wpAny_loadPart')
theorem DB (l:Addr) (items:Array Value) (n:Nat) (ak:Option Addr) (sl:Array (Option Value)) (hz:items.size<=sizeLine) :
  Meets (Builtin.«reversed.__new__» ⟨[.type "reversed",.ref l],[]⟩) (λ_ R s=>s.heap.get? l=some { cls:=.type "tuple",dict:=ak,data:=.seq items n,slots:=sl } /\
   ∀tk,R (.ok (.ret (.ref s.heap.objs.size))) { s with heap:=s.heap.push { cls:=.type "reversed",data:=.fields #[.ref l,rawInt ((items.size:Int)-1)] },toks:=tk }):=
 .of_wp λprog w A R s h=>by
  obtain⟨hp,g,d,tk,os⟩:=s;obtain⟨hl,h⟩:=h;have hsub:=F.sub_reversed_self;have hL:Heap.IsTuple (Shared.heap ⟨hp,g,d,tk,os⟩) l items:=⟨_,hl,rfl,n,rfl⟩;have f1:=Dy;have f2:=Dz;have f3:=F.slot_tuple_getitem.lookup;have po:(items.size:Int)<2 ^ 63:=by have:items.size<=16777216:=hz;lia
  unfold Builtin.«reversed.__new__»;refine Xp (wpAny_of_eq (newClass_reversed _) ?_);refine Xp (wpAny_of_eq (a:=()) (by kernel_rfl) (Xp (wpAny_of_eq (a:=()) (by kernel_rfl) ?_)));dsimp only;refine Xp (wpAny_specialOf hL.typeIs f1 ?_);dsimp only;refine Xp (Zv (Q:=λb s'=>b=true/\s'=(⟨hp,g,d,tk,os⟩:Shared)) ?slot (λb s' hb=>?rest) λ_ _ x=>x)
  case slot=>
   wp_walk using XN hl
   exact⟨rfl,rfl⟩
  obtain⟨rfl,rfl⟩:=hb;rw[if_neg (by decide)];refine Xp (PyProof.Rows.len_tuple hL po ?_)
  wp_walk using XN hl
  exact⟨_,rfl,h _⟩
end
section
variable {prog:Program}{w:World}{A:Around}{E:Value->Shared->Prop}{s:Shared}
def d0 (h:Heap) (a l:Addr) (i:Int):Prop:=∃o,h.get? a=some o/\o.cls=.type "reversed"/\o.data=.fields #[.ref l,rawInt i]
theorem d0.typeIs {a l:Addr}{i:Int} (x:d0 s.heap a l i):s.TypeIs (.ref a) "reversed":=let ⟨o,ho,hc,_⟩:=x;⟨o,ho,hc⟩
theorem d0.at {h h':Heap}{a l:Addr}{i:Int} (x:d0 h a l i) (e:∀o,h.get? a=some o->h'.get? a=some o):d0 h' a l i:=let ⟨o,ho,r⟩:=x;⟨o,e _ ho,r⟩
theorem DC {l:Addr}{items:Array Value}{Q:Value->Shared->Prop} (hL:IsTup s.heap l items) (hz:items.size<=sizeLine)
  (h:∀h' tk,d0 h' s.heap.objs.size l ((items.size:Int)-1)->h'.objs.size=s.heap.objs.size+1->(∀b o,s.heap.get? b=some o->h'.get? b=some o)->Q (.ref s.heap.objs.size) { s with heap:=h',toks:=tk }) :
  wpAny (model prog w) A (call (.type "reversed") [.ref l]) Q E s:=by
 obtain⟨⟨c,ak,T9,sl⟩,hl,hc,n,hd⟩:=hL;replace hc:c=.type "tuple":=hc;replace hd:T9=.seq items n:=hd;subst hc hd;refine callType_new Dx (by decide) (F.typeCall_reversed_1 _) (F.newCall_reversed_1 _) (λobj=>F.args_object_init_2 obj _) F.entry_reversed_new
  (DB l items n ak sl hz) ⟨hl,λtk=>?_⟩
 have he:(s.heap.push { cls:=.type "reversed",data:=.fields #[.ref l,rawInt ((items.size:Int)-1)] }).get? s.heap.objs.size=some { cls:=.type "reversed",data:=.fields #[.ref l,rawInt ((items.size:Int)-1)] }:=Xw _ rfl;exact⟨⟨_,he,rfl⟩,h _ tk ⟨_,he,rfl,rfl⟩ (X8 ..) λb o x=>Xq _ x⟩
theorem DD {it l:Addr}{i:Nat}{items:Array Value}{x:Value}{Q:Option Value->Shared->Prop} (hit:d0 s.heap it l (i:Int)) (hl:IsTup s.heap l items) (hz:items.size<=sizeLine) (hx:items[i]?=some x)
  (q:∀h' tk,d0 h' it l ((i:Int)-1)->Zb it s.heap h'->Q (some x) { s with heap:=h',toks:=tk }):wpAny (model prog w) A (pyNext (.ref it)) Q E s:=by
 have ty:=hit.typeIs;have hi:i<items.size:=(Array.getElem?_eq_some_iff.mp hx).1;have hz':items.size<=16777216:=hz;obtain⟨ob,h1,h2,h3⟩:=hit;have V3:seqIndex? (i:Int) items.size=some i:=by
  unfold seqIndex?;rw[if_neg (show ¬(i:Int)<0 by lia),if_pos (by rw[Xy];exact⟨decide_eq_true (by lia),decide_eq_true (by lia)⟩)];rfl
 unfold pyNext;refine Xp (Zp (XY (name:=YX "__next__") ty kG (X5 kG ty vq ?_ (vr _))));unfold Builtin.«reversed.__next__»;refine Xp (wpAny_of_eq (a:=(Ye it,[])) rfl (Xp (Yr h1 h3 (x:=.ref l) rfl (Xp (Yr h1 h3 (x:=rawInt (i:Int)) rfl ?_)))));refine (show wpAny _ _ (if (i:Int)<0 then _ else specialOf (.ref l) "__getitem__" >>= _) _ _ s from ?_)
 rw[if_neg (by lia)];refine Xp (wpAny_specialOf hl.typeIs F.slot_tuple_getitem.lookup (show wpAny _ _ (mkInt (i:Int) >>= _) _ _ s from Xp (wpAny_mkInt (Xp (Zp (getItem_tuple (j:=i) (x:=x) (show IsTup s.heap l items from hl) (by lia) (by lia) V3 hx ?_))))));refine (show wpAny _ _ (field (.ref it) 1 >>= _) _ _ _ from Xp (Yr (show s.heap.get? it=some ob from h1) h3 (x:=rawInt (i:Int)) rfl (show wpAny _ _ (setField (.ref it) 1 (rawInt ((i:Int)-1)) >>= _) _ _ _ from Xp (wpAny_setField (show s.heap.get? it=some ob from h1) h3 (by simp) (Xs ⟨x,rfl,Xs (q _ _ ?_ (XZ ..))⟩)))));refine⟨_,Yc _ h1 (Obj.isFreed_of_fields (Obj.data_mapFields h3 _)),Eq.trans (Obj.cls_mapFields ..) h2,?_⟩;rw[Obj.data_mapFields h3] <;> simp
theorem DH {it l:Addr}{Q:Option Value->Shared->Prop} (hh:A.handled=none) (hit:d0 s.heap it l (-1))
  (q:∀h' tk,ZJ it s.heap h'->Q none { s with heap:=h',toks:=tk }):wpAny (model prog w) A (pyNext (.ref it)) Q E s:=by
 have ty:=hit.typeIs;obtain⟨⟨c,dd,data,sl⟩,h1,h2,h3⟩:=hit;simp only at h2 h3;subst h2 h3;unfold pyNext;refine Xp (Zp (XY (name:=YX "__next__") ty kG (X5 kG ty vq ?_ (vr _))));obtain⟨hp,g,d,tk,os⟩:=s
 wp_walk using XN h1
 unfold raiseNew;refine Xp (wpAny_handled ?_);rw[show A.in1.handled=none from hh];refine Xp (Xs (wpAny_throw ?_));refine Xp (Zo (T:="StopIteration") (b:=true) ⟨_,Xw _ rfl,rfl⟩ isSubtype_stop (Xs (q _ _ ?_)));exact λb u nb e=>Xq _ (Xq _ ((XZ ..).extBut b u nb ((XZ ..).extBut b u nb e)))
theorem vv {it l:Addr}{i:Int}{Q:Value->Shared->Prop} (hit:d0 s.heap it l i) (h:Q (.ref it) s):wpAny (model prog w) A (pyIter (.ref it)) Q E s:=by
 refine wpAny_pyIter_slot hit.typeIs vt (X5 vt hit.typeIs Dv ?_ (Du _));show wpAny _ _ (ret (.ref it)) _ _ s;exact Xs ⟨_,rfl,"reversed",_,hit.typeIs,kG.lookup,h⟩
end
end L2
end
section
namespace N
open PySem PySem.Spec PyProof.Rows L2
inductive D where
 |ai |bl (b:Bool) |int (i:Int) |str (x:Str) |ref (a:Addr) |ty (n:String)
 |tup (ds:List D) |lst (ds:List D) |ak (ks:List Key) (ds:List D)
inductive Fo where
 |dat (o:Obj) |pin (o:Obj) |js (o:Obj) |tab (p:Pos) (q:Str)
abbrev Fz:=Addr->Option Fo
structure Gx where
 P:Program
 w:World
 K:PySem.W.Frag
 mg:Str->Option Value
 base:Heap
 ex:Fz
def Le (F F':Fz):Prop:=∀a f,F a=some f->F' a=some f
theorem Le.rfl {F:Fz}:Le F F:=λ_ _ h=>h
theorem Le.tr {F F1 F2:Fz} (a:Le F F1) (b:Le F1 F2):Le F F2:=λc f h=>b c f (a c f h)
structure Bs (G:Gx) (F:Fz):Prop where
 b:∀b o,G.base.get? b=some o->F b=some (.dat o)
 x:Le G.ex F
theorem Bs.up {G:Gx}{F F':Fz} (h:Bs G F) (l:Le F F'):Bs G F':=⟨λb o e=>l b _ (h.b b o e),h.x.tr l⟩
def b8 (F F':Fz):Prop:=∀a o,F a=some (.dat o)->F' a=some (.dat o)
theorem Le.d {F F':Fz} (l:Le F F'):b8 F F':=λa o=>l a (.dat o)
section
variable {α:Type}
noncomputable def up (F:Addr->Option α) (a:Addr) (o:α):Addr->Option α:=λb=>if b=a then some o else F b
theorem aw {F:Addr->Option α}{a:Addr}{o:α}:up F a o a=some o:=if_pos rfl
theorem az {F:Addr->Option α}{a b:Addr}{o:α} (h:b≠a):up F a o b=F b:=if_neg h
noncomputable def rm (F:Addr->Option α) (a:Addr):Addr->Option α:=λb=>if b=a then none else F b
theorem m7 {F:Addr->Option α}{a:Addr}:rm F a a=none:=if_pos rfl
theorem p6 {F:Addr->Option α}{a b:Addr} (h:b≠a):rm F a b=F b:=if_neg h
theorem c5 {F:Addr->Option α}{a b:Addr}{o:α} (h:F a=some o) (h':F b=none):a≠b:=λe=>by rw[e,h']at h;cases h
end
theorem Le.new {F:Fz}{a:Addr}{f:Fo} (h:F a=none):Le F (up F a f):=λb g e=>by rw[az (c5 e h)];exact e
structure kH (o:Obj) (us:List Value):Prop where
 cls:o.cls=.type "tuple"
 dict:o.dict=none
 data:∃n,o.data=.seq us.toArray n
 len:us.length<=sizeLine
noncomputable def bK (us:List Value) (n:Nat):Obj:={ cls:=.type "list",data:=.seq us.toArray n }
structure kI (G:Gx) (o:Obj) (ks:List Key) (us:List Value):Prop where
 ex:o.ExactDict
 bL:∃es ep,o.data=.dict es ep/\KeysOf (bo G.P G.w) es/\Pairs (bo G.P G.w) es.toList (ks.zip us)
 nd:ks.Nodup
 len:us.length=ks.length
 sz:ks.length<=sizeLine
mutual
def ab (G:Gx) (F:Fz):D->Value->Prop
 |.ai,u=>u=.none
 |.bl b,u=>u=.bool b
 |.int i,u=>∃t,u=.int i t
 |.str x,u=>∃t,u=.str x t
 |.ref a,u=>u=.ref a
 |.ty n,u=>u=.type n
 |.tup ds,u=>∃a o us,u=.ref a/\F a=some (.dat o)/\kH o us/\af G F ds us
 |.lst ds,u=>∃a n us,u=.ref a/\F a=some (.dat (bK us n))/\us.length<=sizeLine/\af G F ds us
 |.ak ks ds,u=>∃a o us,u=.ref a/\F a=some (.dat o)/\kI G o ks us/\(a == sysModules)=false/\af G F ds us
def af (G:Gx) (F:Fz):List D->List Value->Prop
 |[],us=>us=[]
 |d::ds,us=>∃u r,us=u::r/\ab G F d u/\af G F ds r
end
section
variable {G:Gx}{F F':Fz}
theorem af.nil:af G F [] []:=by rw[af]
theorem af.cons {d:D}{ds:List D}{u:Value}{us:List Value} (h:ab G F d u) (t:af G F ds us):af G F (d::ds) (u::us):=by rw[af];exact⟨u,us,rfl,h,t⟩
theorem af.p:∀{ds:List D}{us:List Value},af G F ds us->Paired (ab G F) ds us
 |[],us,h=>by rw[af]at h;subst h;exact .nil
 |d::ds,us,h=>by rw[af]at h;obtain⟨y,ys,rfl,h1,h2⟩:=h;exact .cons h1 h2.p
theorem af.len {ds:List D}{us:List Value} (h:af G F ds us):ds.length=us.length:=h.p.length
mutual
theorem ab.up (l:b8 F F'):∀{d:D}{u:Value},ab G F d u->ab G F' d u
 |.ai,u,h=>by rw[ab]at h ⊢;exact h
 |.bl _,u,h=>by rw[ab]at h ⊢;exact h
 |.int _,u,h=>by rw[ab]at h ⊢;exact h
 |.str _,u,h=>by rw[ab]at h ⊢;exact h
 |.ref _,u,h=>by rw[ab]at h ⊢;exact h
 |.ty _,u,h=>by rw[ab]at h ⊢;exact h
 |.tup ds,u,h=>by rw[ab]at h ⊢;obtain⟨a,o,us,e,h1,h2,h3⟩:=h;exact⟨a,o,us,e,l a o h1,h2,h3.up l⟩
 |.lst ds,u,h=>by rw[ab]at h ⊢;obtain⟨a,o,us,e,h1,h2,h3⟩:=h;exact⟨a,o,us,e,l a _ h1,h2,h3.up l⟩
 |.ak ks ds,u,h=>by rw[ab]at h ⊢;obtain⟨a,o,us,e,h1,h2,h4,h3⟩:=h;exact⟨a,o,us,e,l a o h1,h2,h4,h3.up l⟩
theorem af.up (l:b8 F F'):∀{ds:List D}{us:List Value},af G F ds us->af G F' ds us
 |[],us,h=>by rw[af]at h ⊢;exact h
 |d::ds,us,h=>by rw[af]at h ⊢;obtain⟨u,r,e,h1,h2⟩:=h;exact⟨u,r,e,h1.up l,h2.up l⟩
end
end
def fP (G:Gx) (F:Fz):Option D->Option Value->Prop
 |some d,some u=>ab G F d u
 |none,none=>True
 |_,_=>False
theorem fP.up {G:Gx}{F F':Fz} (l:b8 F F') {d:Option D}{u:Option Value} (h:fP G F d u):fP G F' d u:=by
 cases d with
 |none=>cases u with
  |none=>trivial
  |some u=>exact h
 |some d=>cases u with
  |none=>exact h
  |some u=>exact ab.up l h
def KV {κ:Type} (G:Gx) (F:Fz):List (κ×D)->List (κ×Value)->Prop:=Paired λp q=>p.1=q.1/\ab G F p.2 q.2
theorem Paired.im {α β:Type} {P Q:α->β->Prop} (f:∀a b,P a b->Q a b):∀{l:List α}{m:List β},Paired P l m->Paired Q l m
 |_,_,.nil=>.nil
 |_,_,.cons r t=>.cons (f _ _ r) (Paired.im f t)
theorem KV.up {κ:Type} {G:Gx}{F F':Fz} (l:b8 F F') {a:List (κ×D)}{b:List (κ×Value)} (h:KV G F a b):KV G F' a b:=Paired.im (λ_ _ r=>⟨r.1,r.2.up l⟩) h
inductive MO where
 |lst (ds:List D) |ak (kvs:List (Key×D)) |ins (C dx:Addr) (fs:List (Str×D)) |own (x:Addr) |kJ (ps:Array Value)
abbrev Mp:=Addr->Option MO
def d3 (G:Gx) (F:Fz) (M:Mp) (h:Heap) (a:Addr):MO->Prop
 |.lst ds=>ds.length<=sizeLine/\∃us n,af G F ds us/\h.get? a=some (bK us n)
 |.ak kvs=>kvs.length<=sizeLine/\(a == sysModules)=false/\∃vs,KV G F kvs vs/\h.DictOf (bo G.P G.w) a vs
 |.ins C dx fs=>M dx=some (.own a)/\fs.length<=1000/\dx≠a/\h.get? a=some (PySem.W.instObj C dx)/\∃mA,h.Ns1 dx mA/\(∀f,fP G F (fs.lookup f) (mA f))/\PySem.Within mA (fs.map (·.1))
 |.own _=>∃o,h.get? a=some o
 |.kJ ps=>h.get? a=some { cls:=.none,data:=.fields ps }
def Fo.At (h:Heap) (a:Addr):Fo->Prop
 |.dat o=>h.get? a=some o
 |.pin o=>h.get? a=some o
 |.js o=>∃sl,h.get? a=some { o with slots:=sl }
 |.tab _ _=>∃ps,h.get? a=some { cls:=.none,data:=.fields ps }
def ew (o:Obj) (q:Str):Prop:=∃vs t,o.data=.fields vs/\vs[1]?=some (.str q t)
def DJ (F:Fz) (h:Heap) (T:Addr) (p:Pos) (q:Str):Prop:=h.get? T=some { cls:=.none,data:=.fields #[] }\/∃c o,h.get? T=some { cls:=.none,data:=.fields #[rawInt p.line,rawInt p.col,.ref c] }/\F c=some (.dat o)/\ew o q
def m8 (F:Fz) (h:Heap):Prop:=∀T p q,F T=some (.tab p q)->DJ F h T p q
structure aE (G:Gx) (F:Fz) (M:Mp) (h:Heap):Prop where
 fz:∀a f,F a=some f->f.At h a
 ob:∀a o,M a=some o->F a=none/\d3 G F M h a o
 tb:m8 F h
section
variable {G:Gx}{F F':Fz}{M M':Mp}{h h':Heap}{a:Addr}{o:MO}{f:Fo}
theorem d3.lt (x:d3 G F M h a o):a<h.objs.size:=by
 cases o with
 |lst xs=>obtain⟨_,_,_,_,e⟩:=x;exact XF e
 |ak kvs=>obtain⟨_,_,_,_,o,_,_,e,_⟩:=x;exact XF e
 |ins C dx fs=>obtain⟨_,_,_,e,_⟩:=x;exact XF e
 |own y=>obtain⟨_,e⟩:=x;exact XF e
 |kJ ps=>exact XF (show h.get? a=some _ from x)
theorem Fo.At.lt (x:f.At h a):a<h.objs.size:=by
 cases f with
 |dat o=>exact XF (show h.get? a=some o from x)
 |pin o=>exact XF (show h.get? a=some o from x)
 |js o=>obtain⟨_,e⟩:=x;exact XF e
 |tab p q=>obtain⟨_,e⟩:=x;exact XF e
def bg (h h':Heap) (b:Addr):Prop:=∀o,h.get? b=some o->h'.get? b=some o
theorem Fo.At.go (x:f.At h a) (k:bg h h' a):f.At h' a:=by
 cases f with
 |dat o=>exact k _ x
 |pin o=>exact k _ x
 |js o=>obtain⟨sl,e⟩:=x;exact⟨sl,k _ e⟩
 |tab p q=>obtain⟨sl,e⟩:=x;exact⟨sl,k _ e⟩
theorem m8.go (x:m8 F h) (b:∀T p q,F' T=some (.tab p q)->F T=some (.tab p q)) (l:b8 F F') (k:∀T p q,F' T=some (.tab p q)->bg h h' T):m8 F' h':=λT p q e=>by
 rcases x T p q (b T p q e) with y |⟨c,o,h1,h2,h3⟩
 ·exact .inl (k T p q e _ y)
 ·exact .inr ⟨c,o,k T p q e _ h1,l c o h2,h3⟩
theorem d3.go (x:d3 G F M h a o) (l:b8 F F') (k:∀b,b=a\/M b=some (.own a)->bg h h' b) (ho:∀b,M b=some (.own a)->M' b=some (.own a)):d3 G F' M' h' a o:=by
 cases o with
 |lst xs=>obtain⟨z,us,n,r,e⟩:=x;exact⟨z,us,n,r.up l,k a (.inl rfl) _ e⟩
 |ak kvs=>obtain⟨z,y,vs,r,ob,es,ep,e,c⟩:=x;exact⟨z,y,vs,r.up l,ob,es,ep,k a (.inl rfl) _ e,c⟩
 |ins C dx fs=>
  obtain⟨d,z,ne,e,mA,⟨od,es,ep,e2,c⟩,r1,r2⟩:=x;exact⟨ho _ d,z,ne,k a (.inl rfl) _ e,mA,⟨od,es,ep,k dx (.inr d) _ e2,c⟩,λf=>(r1 f).up l,r2⟩
 |own y=>obtain⟨ob,e⟩:=x;exact⟨ob,k a (.inl rfl) _ e⟩
 |kJ ps=>exact k a (.inl rfl) _ x
theorem aE.cz (x:aE G F M h) (e:h.objs.size<=a):F a=none:=by
 cases q:F a with
 |none=>rfl
 |some u=>exact absurd (XM (x.fz a u q).lt e) (YQ _)
theorem aE.c6 (x:aE G F M h) (e:h.objs.size<=a):M a=none:=by
 cases q:M a with
 |none=>rfl
 |some u=>exact absurd (XM (x.ob a u q).2.lt e) (YQ _)
theorem aE.keep (x:aE G F M h) (k:∀b,F b≠none\/M b≠none->bg h h' b):aE G F M h':=
 ⟨λb f e=>(x.fz b f e).go (k b (.inl (by rw[e];exact Yk f))),λb o e=>⟨(x.ob b o e).1,(x.ob b o e).2.go Le.rfl.d (λc hc=>k c (.inr (by
  rcases hc with rfl |hc
  ·rw[e];exact Yk o
  ·rw[hc];exact Yk _))) λ_ q=>q⟩,x.tb.go (λ_ _ _ e=>e) Le.rfl.d λT p q e=>k T (.inl (by rw[e];exact Yk _))⟩
theorem aE.kK (x:aE G F M h) (k:∀b,bg h h' b) (hp:h.objs.size<=a) (new:d3 G F (up M a o) h' a o):aE G F (up M a o) h':=
 ⟨λb f e=>(x.fz b f e).go (k b),λb u e=>by
  by_cases hb:b=a
  ·subst hb;rw[aw]at e;cases e;exact⟨x.cz hp,new⟩
  ·rw[az hb]at e;exact⟨(x.ob b u e).1,(x.ob b u e).2.go Le.rfl.d (λc _=>k c) λc q=>by rw[az (c5 q (x.c6 hp))];exact q⟩,x.tb.go (λ_ _ _ e=>e) Le.rfl.d λT _ _ _=>k T⟩
theorem aE.kL (x:aE G F M h) (hF:F a=none) (hM:M a=none) (e:f.At h a) (nt:∀p q,f≠.tab p q:=by intro _ _ h;cases h):aE G (up F a f) M h:=by
 refine⟨λb g q=>?_,λb u q=>⟨by rw[az (c5 q hM)];exact (x.ob b u q).1,(x.ob b u q).2.go (Le.new hF).d (λ_ _ _ e=>e) λ_ e=>e⟩,x.tb.go (λT p q e=>?_) (Le.new hF).d λ_ _ _ _ _ e=>e⟩
 case refine_2=>
  by_cases hb:T=a
  ·subst hb;rw[aw]at e;cases e;exact absurd rfl (nt p q)
  ·rw[az hb]at e;exact e
 by_cases hb:b=a
 ·subst hb;rw[aw]at q;cases q;exact e
 ·rw[az hb]at q;exact x.fz b g q
theorem aE.jt (x:aE G F M h) (k:∀b,bg h h' b) (hp:h.objs.size<=a) (new:f.At h' a) (nt:∀p q,f≠.tab p q:=by intro _ _ h;cases h):aE G (up F a f) M h':=(x.keep λb _=>k b).kL (x.cz hp) (x.c6 hp) new nt
noncomputable def MO.mut:MO->Bool
 |.own _=>false
 |.kJ _=>false
 |_=>true
theorem aE.put {x e:Addr}{o':MO} (ok:aE G F M h) (hx:M x=some o) (U5:o.mut=true) (he:e=x\/M e=some (.own x)) (k:∀b,b≠e->bg h h' b) (p7:∃u,h'.get? e=some u) (new:d3 G F (up M x o') h' x o'):aE G F (up M x o') h':=by
 have vw:∀c y,M c=some (.own y)->c≠x:=λc y r z=>by rw[z,hx]at r;cases r;cases U5
 have hF:F e=none:=by
  rcases he with rfl |he
  ·exact (ok.ob _ _ hx).1
  ·exact (ok.ob _ _ he).1
 refine⟨λb f q=>(ok.fz b f q).go (k b (c5 q hF)),λb u q=>?_,ok.tb.go (λ_ _ _ e=>e) Le.rfl.d λT _ _ q=>k T (c5 q hF)⟩;by_cases hb:b=x
 ·subst hb;rw[aw]at q;cases q;exact⟨(ok.ob _ _ hx).1,new⟩
 ·rw[az hb]at q;refine⟨(ok.ob b u q).1,?_⟩;by_cases m9:b=e
  ·have q':M b=some (.own x):=he.elim (λz=>absurd (m9.trans z) hb) λz=>(by rw[m9];exact z);rw[q]at q';cases q';obtain⟨v,hv⟩:=p7;exact⟨v,by rw[m9];exact hv⟩
  ·refine (ok.ob b u q).2.go Le.rfl.d (λc hc=>k c ?_) λc r=>(by rw[az (vw c b r)];exact r);rcases hc with rfl |hc
   ·exact m9
   ·rintro rfl;rcases he with z |z
    ·exact vw c b hc z
    ·rw[hc]at z;cases z;exact hb rfl
end
noncomputable def aS (F P:Fz):Fz:=λb=>match P b with
 |some f=>some f
 |none=>F b
noncomputable def aM (F P:Fz):Fz:=λb=>match P b with
 |some _=>none
 |none=>F b
section
variable {G:Gx}{F F' P:Fz}{M:Mp}{h h':Heap}{b:Addr}{f:Fo}
theorem dm (e:P b=some f):aS F P b=some f:=by unfold aS;rw[e]
theorem fb (e:P b=none):aS F P b=F b:=by unfold aS;rw[e]
theorem fc (e:P b=some f):aM F P b=none:=by unfold aM;rw[e]
theorem fe (e:P b=none):aM F P b=F b:=by unfold aM;rw[e]
theorem Le.pin (d:∀b,P b≠none->F b=none):Le F (aS F P):=λb f e=>by
 cases q:P b with
 |none=>rw[fb q];exact e
 |some g=>rw[d b (by rw[q];exact Yk g)]at e;cases e
theorem Le.aM (d:∀b,P b≠none->F b=none) (l:Le (aS F P) F'):Le F (aM F' P):=λb f e=>by
 cases q:P b with
 |none=>rw[fe q];exact l b f (by rw[fb q];exact e)
 |some g=>rw[d b (by rw[q];exact Yk g)]at e;cases e
def nc (P:Fz):Prop:=∀b o,P b≠some (.dat o)
theorem b8.aM (n:nc P) (l:Le (aS F P) F'):b8 F' (aM F' P):=λb o e=>by
 cases q:P b with
 |none=>rw[fe q];exact e
 |some g=>
  have:=l b g (dm q);rw[e]at this;cases this;exact absurd q (n b o)
theorem aE.pin (x:aE G F M h) (p:∀b f,P b=some f->f.At h b/\M b=none) (d:∀b,P b≠none->F b=none) (nt:∀b p q,P b≠some (.tab p q)):aE G (aS F P) M h:=by
 refine⟨λb f e=>?_,λb o e=>⟨?_,(x.ob b o e).2.go (Le.pin d).d (λ_ _ _ q=>q) λ_ q=>q⟩,x.tb.go (λT a b e=>?_) (Le.pin d).d λ_ _ _ _ _ e=>e⟩
 case refine_3=>
  cases q:P T with
  |none=>rw[fb q]at e;exact e
  |some g=>rw[dm q]at e;cases e;exact absurd q (nt _ _ _)
 ·cases q:P b with
  |none=>rw[fb q]at e;exact x.fz b f e
  |some g=>rw[dm q]at e;cases e;exact (p b _ q).1
 ·rw[fb];exact (x.ob b o e).1;cases q:P b with
  |none=>rfl
  |some g=>have:=(p b _ q).2;rw[e]at this;cases this
theorem aE.aM (x:aE G F' M h) (n:nc P) (l:Le (aS F P) F'):aE G (aM F' P) M h:=by
 refine⟨λb f e=>?_,λb o e=>⟨?_,(x.ob b o e).2.go (b8.aM n l) (λ_ _ _ q=>q) λ_ q=>q⟩,x.tb.go (λT a b e=>?_) (b8.aM n l) λ_ _ _ _ _ e=>e⟩
 case refine_3=>
  cases q:P T with
  |none=>rw[fe q]at e;exact e
  |some g=>rw[fc q]at e;cases e
 ·cases q:P b with
  |none=>rw[fe q]at e;exact x.fz b f e
  |some g=>rw[fc q]at e;cases e
 ·cases q:P b with
  |none=>rw[fe q];exact (x.ob b o e).1
  |some g=>exact fc q
end
abbrev St:=List (Option D)
structure Z where
 F:Fz
 M:Mp
 s:Shared
structure p8 where
 C:Value
 fs:List (Str×D)
structure Mod (G:Gx):Prop where
 fg:G.K.In G.base
 dp:G.base.Ns mainGlobals G.mg
 kM:∃b,G.base.Ns builtinsNs b/\∀x:Str,x≠"__name__"->b x=bootBuiltins x
 ju:G.base.NoLimit
structure Cx where
 G:Gx
 A:Around
 N:List Str
 os:OsState
 env:Env
 outer:List Env
 stk:List Env
 fn:Str->Bool
 calm:Bool
 x:p8->St->Mp->Prop
structure Cx.Ok (X:Cx):Prop where
 bp:Mod X.G
 kind:X.env.scope.kind=.function
 dp:X.env.globals=mainGlobals
 kM:X.env.builtins=builtinsNs
 inj:∀x y c,X.env.cells.lookup x=some c->X.env.cells.lookup y=some c->x=y
 has:∀x,(X.env.kindOf x=some .cell\/X.env.kindOf x=some .free)->∃c,X.env.cells.lookup x=some c
 hd:X.calm=true->X.A.handled=none
 frames:X.A.frames=some X.stk
 stk:X.stk=X.outer\/(X.stk=X.env::X.outer/\X.env.frame=some X.env.locals)
def jv (G:Gx) (F:Fz) (env:Env):Prop:=env.scope.kind≠.module/\∃L o,env.frame=some L/\F L=some (.js o)/\G.base.get? L=none/\∀vs,o.data≠.fields vs
structure ae (X:Cx) (τ:St) (z:Z):Prop where
 ok:X.Ok
 bs:Bs X.G z.F
 os:z.s.os=X.os
 bare:AllBare z.s.gens
 b9:∀env∈X.outer,jv X.G z.F env
 loc:∃m,z.s.heap.Ns X.env.locals m/\∀(i:Nat) (x:Str) (d:D),X.N[i]?=some x->τ[i]?=some (some d)->jq X.env.scope x->∃u,ab X.G z.F d u/\jr X.env z.s.heap m x u
 cell:∀x c,X.env.cells.lookup x=some c->(∃v,z.s.heap.IsCell c v)/\z.M c=none/\((X.fn x=true/\z.F c=none)\/(X.fn x=false/\∃o,z.F c=some (.pin o)))
 free:z.F X.env.locals=none/\z.M X.env.locals=none
 hok:aE X.G z.F z.M z.s.heap
 len:τ.length=X.N.length
def vx (G:Gx) (z:Z) (x:p8) (e:Value):Prop:=False
def XE (X:Cx) (e:Value) (s:Shared):Prop:=∃x τ z,z.s=s/\ae X τ z/\vx X.G z x e/\X.x x τ z.M
theorem XE.no {X:Cx}{e:Value}{s:Shared} (h:XE X e s):False:=by obtain⟨_,_,_,_,_,h,_⟩:=h;exact h
def cF (X:Cx) (b:Addr):Prop:=b=X.env.locals\/∃x,X.env.cells.lookup x=some b
def vy (h h':Heap) (b:Addr):Prop:=∀o,h.get? b=some o->∃sl,h'.get? b=some { o with slots:=sl }
theorem bg.s {h h':Heap}{b:Addr} (k:bg h h' b):vy h h' b:=λo e=>⟨o.slots,k o e⟩
section
variable {X:Cx} {τ:St} {z z':Z}{h':Heap}{a b:Addr}
theorem ae.bk (I:ae X τ z):∀b o,X.G.base.get? b=some o->z.s.heap.get? b=some o:=λb o e=>I.hok.fz b _ (I.bs.b b o e)
theorem ae.bQ (I:ae X τ z):X.G.K.In z.s.heap:=I.ok.bp.fg.keeps I.bk
theorem ae.c7 (I:ae X τ z) (h:cF X b):z.M b=none:=by
 rcases h with rfl |⟨x,h⟩
 ·exact I.free.2
 ·exact (I.cell x b h).2.1
theorem ae.vz (I:ae X τ z) (h:cF X b):∃o,z.s.heap.get? b=some o:=by
 rcases h with rfl |⟨x,h⟩
 ·obtain⟨m,⟨o,_,_,e,_⟩,_⟩:=I.loc;exact⟨o,e⟩
 ·obtain⟨⟨v,o,e,_⟩,_⟩:=I.cell x b h;exact⟨o,e⟩
theorem ae.fQ (I:ae X τ z) (h:cF X b):b<z.s.heap.objs.size:=let ⟨_,e⟩:=I.vz h;XF e
theorem ae.jw (I:ae X τ z) {x:Str}{c:Addr} (e:X.env.cells.lookup x=some c):c≠X.env.locals:=λq=>by
 obtain⟨⟨v,o,ho,hd⟩,_⟩:=I.cell x c e;obtain⟨m,⟨o',es,ep,Db,kO,_⟩,_⟩:=I.loc;rw[q,Db]at ho;cases ho;rw[kO]at hd;cases hd
theorem jv.go {G:Gx}{F F':Fz}{env:Env} (l:Le F F') (h:jv G F env):jv G F' env:=by
 obtain⟨h1,L,o,h2,h3,h4⟩:=h;exact⟨h1,L,o,h2,l L _ h3,h4⟩
theorem ae.go (I:ae X τ z) (l:Le z.F z'.F) (ok:aE X.G z'.F z'.M z'.s.heap) (own:∀b,cF X b->vy z.s.heap z'.s.heap b/\z'.M b=none/\z'.F b=z.F b) (os:z'.s.os=z.s.os) (bare:AllBare z'.s.gens):ae X τ z':=by
 have hL:=own X.env.locals (.inl rfl);have vA:∀x c v,X.env.cells.lookup x=some c->z.s.heap.IsCell c v->z'.s.heap.IsCell c v:=λx c v e h=>by
  obtain⟨o,ho,hd⟩:=h;obtain⟨sl,q⟩:=(own c (.inr ⟨x,e⟩)).1 o ho;exact⟨_,q,hd⟩
 refine⟨I.ok,I.bs.up l,os.trans I.os,bare,λenv he=>(I.b9 env he).go l,?_,λx c e=>?_,⟨hL.2.2.trans I.free.1,hL.2.1⟩,ok,I.len⟩
 ·obtain⟨m,⟨o,es,ep,ho,r⟩,hl⟩:=I.loc;obtain⟨sl,q⟩:=hL.1 o ho;refine⟨m,⟨_,es,ep,q,r⟩,λi x d e1 e2 e3=>?_⟩;obtain⟨u,r,k⟩:=hl i x d e1 e2 e3;refine⟨u,r.up l.d,?_⟩;rcases k with k |⟨k,c,e,y⟩
  ·exact .inl k
  ·exact .inr ⟨k,c,e,vA x c _ e y⟩
 ·obtain⟨⟨v,h1⟩,_,h3⟩:=I.cell x c e;have h:=own c (.inr ⟨x,e⟩);exact⟨⟨v,vA x c v e h1⟩,h.2.1,by rw[h.2.2];exact h3⟩
theorem ae.bN (I:ae X τ z) {t:Nat} (k:∀b,bg z.s.heap h' b):ae X τ ⟨z.F,z.M,{ z.s with heap:=h',toks:=t }⟩:=
 I.go Le.rfl (I.hok.keep λb _=>k b) (λb hb=>⟨(k b).s,I.c7 hb,rfl⟩) rfl I.bare
theorem ae.ng (I:ae X τ z) (t:Nat):ae X τ ⟨z.F,z.M,{ z.s with toks:=t }⟩:=I.bN (h':=z.s.heap) λ_ _ e=>e
theorem ae.kK (I:ae X τ z) {o:MO}{t:Nat} (k:∀b,bg z.s.heap h' b) (hp:z.s.heap.objs.size<=a) (new:d3 X.G z.F (up z.M a o) h' a o):ae X τ ⟨z.F,up z.M a o,{ z.s with heap:=h',toks:=t }⟩:=
 I.go Le.rfl (I.hok.kK k hp new) (λb hb=>⟨(k b).s,(az (XH (XM (I.fQ hb) hp))).trans (I.c7 hb),rfl⟩) rfl I.bare
theorem ae.jt (I:ae X τ z) {f:Fo}{t:Nat} (k:∀b,bg z.s.heap h' b) (hp:z.s.heap.objs.size<=a) (new:f.At h' a) (nt:∀p q,f≠.tab p q:=by intro _ _ h;cases h):ae X τ ⟨up z.F a f,z.M,{ z.s with heap:=h',toks:=t }⟩:=
 I.go (Le.new (I.hok.cz hp)) (I.hok.jt k hp new nt) (λb hb=>⟨(k b).s,I.c7 hb,az (XH (XM (I.fQ hb) hp))⟩) rfl I.bare
theorem ae.put (I:ae X τ z) {x e:Addr}{o o':MO}{t:Nat} (hx:z.M x=some o) (U5:o.mut=true) (he:e=x\/z.M e=some (.own x)) (k:∀ b,b≠e->bg z.s.heap h' b) (p7:∃ u,h'.get? e=some u) (new:d3 X.G z.F (up z.M x o') h' x o') :
  ae X τ ⟨z.F,up z.M x o',{ z.s with heap:=h',toks:=t }⟩:=by
 have ne:∀b,cF X b->b≠x:=λb hb q=>by have:=I.c7 hb;rw[q,hx]at this;cases this
 have DL:∀b,cF X b->b≠e:=λb hb q=>by
  rcases he with r |r
  ·exact ne b hb (q.trans r)
  ·have:=I.c7 hb;rw[q,r]at this;cases this
 exact I.go Le.rfl (I.hok.put hx U5 he k p7 new) (λb hb=>⟨(k b (DL b hb)).s,(az (ne b hb)).trans (I.c7 hb),rfl⟩) rfl I.bare
theorem ae.b0 (I:ae X τ z) {t:Nat} (k:∀b,b≠a->bg z.s.heap h' b) (hF:z.F a=none) (hM:z.M a=none) (V4:¬cF X a):ae X τ ⟨z.F,z.M,{ z.s with heap:=h',toks:=t }⟩:=
 I.go Le.rfl (I.hok.keep λb hb=>k b (by rintro rfl;rcases hb with h |h;exact h hF;exact h hM)) (λb hb=>⟨(k b (by rintro rfl;exact V4 hb)).s,I.c7 hb,rfl⟩) rfl I.bare
theorem ae.DM {τ':St} (I:ae X τ z) (hl:τ'.length=τ.length) (w:∀(i:Nat) d,τ'[i]?=some (some d)->τ[i]?=some (some d)):ae X τ' z:=
 ⟨I.ok,I.bs,I.os,I.bare,I.b9,let ⟨m,hn,DN⟩:=I.loc;⟨m,hn,λi x v e1 e2 e3=>DN i x v e1 (w i v e2) e3⟩,I.cell,I.free,I.hok,hl.trans I.len⟩
theorem af.get {G:Gx}{F:Fz}:∀{ds:List D}{us:List Value}{i:Nat}{d:D},af G F ds us->ds[i]?=some d->∃u,us[i]?=some u/\ab G F d u
 |[],us,i,d,h,e=>by simp at e
 |d'::ds,us,0,d,h,e=>by rw[af]at h;obtain⟨u,r,rfl,h1,_⟩:=h;cases e;exact⟨u,rfl,h1⟩
 |d'::ds,us,i+1,d,h,e=>by rw[af]at h;obtain⟨u,r,rfl,_,h2⟩:=h;exact af.get (i:=i) h2 e
end
open Classical in
noncomputable def Cx.aR (X:Cx) (h:Heap):Fz:=λb=>if b=X.env.locals then (h.get? b).map Fo.js else if ∃x,X.fn x=true/\X.env.cells.lookup x=some b then (h.get? b).map Fo.pin else none
structure dM (G:Gx) (A:Around) (outer:List Env) (z:Z):Prop where
 frames:A.frames=some outer
 bp:Mod G
 bs:Bs G z.F
 b9:∀env∈outer,jv G z.F env
 hok:aE G z.F z.M z.s.heap
 bare:AllBare z.s.gens
section
variable {X:Cx} {τ:St} {z z':Z}{b:Addr}{f:Fo}
theorem Cx.p9 {h:Heap}:nc (X.aR h):=λb o e=>by
 unfold Cx.aR at e;split at e
 ·cases q:h.get? b <;> rw[q]at e <;> cases e
 ·split at e
  ·cases q:h.get? b <;> rw[q]at e <;> cases e
  ·cases e
theorem Cx.DP {h:Heap} (b:Addr) (p:Pos) (q:Str):X.aR h b≠some (.tab p q):=λe=>by
 unfold Cx.aR at e;split at e
 ·cases q:h.get? b <;> rw[q]at e <;> cases e
 ·split at e
  ·cases q:h.get? b <;> rw[q]at e <;> cases e
  ·cases e
theorem ae.fR (I:ae X τ z) {h:Heap} (e:X.aR h b≠none):cF X b/\z.F b=none:=by
 unfold Cx.aR at e;split at e
 ·rename_i q;exact⟨.inl q,q ▸ I.free.1⟩
 ·split at e
  ·rename_i q;obtain⟨x,h1,h2⟩:=q;refine⟨.inr ⟨x,h2⟩,?_⟩;rcases (I.cell x b h2).2.2 with r |r
   ·exact r.2
   ·rw[h1]at r;cases r.1
  ·exact absurd rfl e
theorem vB {h:Heap} (e:X.aR h b=some f):f.At h b:=by
 unfold Cx.aR at e;split at e
 ·cases q:h.get? b with
  |none=>rw[q]at e;cases e
  |some o=>rw[q]at e;cases e;exact⟨o.slots,q⟩
 ·split at e
  ·cases q:h.get? b with
   |none=>rw[q]at e;cases e
   |some o=>rw[q]at e;cases e;exact q
  ·cases e
theorem ae.nh (I:ae X τ z):aE X.G (aS z.F (X.aR z.s.heap)) z.M z.s.heap:=
 I.hok.pin (λb f e=>⟨vB e,I.c7 (I.fR (h:=z.s.heap) (by rw[e];exact Yk f)).1⟩) (λb e=>(I.fR e).2) X.DP
theorem ae.cA (I:ae X τ z):Le z.F (aS z.F (X.aR z.s.heap)):=Le.pin λb e=>(I.fR e).2
theorem ae.vC (I:ae X τ z):∃o es ep,z.s.heap.get? X.env.locals=some o/\o.data=.dict es ep/\X.aR z.s.heap X.env.locals=some (.js o):=by
 obtain⟨m,⟨o,es,ep,ho,hd,_⟩,_⟩:=I.loc;refine⟨o,es,ep,ho,hd,?_⟩;unfold Cx.aR;rw[if_pos rfl,ho];rfl
theorem ae.qc (I:ae X τ z):dM X.G X.A X.stk ⟨aS z.F (X.aR z.s.heap),z.M,z.s⟩:=by
 refine⟨I.ok.frames,I.ok.bp,I.bs.up I.cA,λenv he=>?_,I.nh,I.bare⟩;rcases I.ok.stk with e |⟨e,hf⟩
 ·rw[e]at he;exact (I.b9 env he).go I.cA
 ·rw[e]at he;rcases List.mem_cons.mp he with rfl |he
  ·obtain⟨o,es,ep,ho,hd,hp⟩:=I.vC;refine⟨by rw[I.ok.kind];decide,_,o,hf,dm hp,?_,λvs q=>by rw[hd]at q;cases q⟩;cases q:X.G.base.get? X.env.locals with
   |none=>rfl
   |some ob=>have:=I.bs.b _ _ q;rw[I.free.1]at this;cases this
  ·exact (I.b9 env he).go I.cA
theorem ae.after (I:ae X τ z) (l:Le (aS z.F (X.aR z.s.heap)) z'.F) (ok:aE X.G z'.F z'.M z'.s.heap) (os:z'.s.os=z.s.os) (bare:AllBare z'.s.gens):ae X τ ⟨aM z'.F (X.aR z.s.heap),z'.M,z'.s⟩:=by
 refine I.go (Le.aM (λb e=>(I.fR e).2) l) (ok.aM X.p9 l) (λb hb=>?_) os bare;cases q:X.aR z.s.heap b with
 |some g=>
  have h1:=l b g (dm q);refine⟨λo e=>?_,?_,?_⟩
  ·have h2:=ok.fz b g h1;have h3:=vB q;unfold Cx.aR at q;rw[e]at q;split at q
   ·cases q;exact h2
   ·split at q
    ·cases q;exact⟨o.slots,h2⟩
    ·cases q
  ·cases r:z'.M b with
   |none=>rfl
   |some o=>have:=(ok.ob b o r).1;rw[h1]at this;cases this
  ·show aM z'.F _ b=_;rw[fc q,(I.fR (h:=z.s.heap) (by rw[q];exact Yk g)).2]
 |none=>
  -- a cell of kP SW SX
  rcases hb with rfl |⟨x,hx⟩
  ·obtain⟨o,_,_,_,_,hp⟩:=I.vC;rw[q]at hp;cases hp
  ·rcases (I.cell x b hx).2.2 with ⟨r,_⟩ |⟨r,o,hF⟩
   ·exfalso;obtain⟨o,ho⟩:=I.vz (.inr ⟨x,hx⟩:cF X b);unfold Cx.aR at q;rw[if_neg (I.jw hx),if_pos ⟨x,r,hx⟩,ho]at q;cases q
   ·have h1:=l b _ (by rw[fb q];exact hF);refine⟨λo' e=>?_,?_,?_⟩
    ·have h2:z'.s.heap.get? b=some o:=ok.fz b _ h1;have h3:z.s.heap.get? b=some o:=I.hok.fz b _ hF;rw[e]at h3;cases h3;exact⟨_,h2⟩
    ·cases r':z'.M b with
     |none=>rfl
     |some o'=>have:=(ok.ob b o' r').1;rw[h1]at this;cases this
    ·show aM z'.F _ b=_;rw[fe q,h1,hF]
end
abbrev W (X:Cx) {α:Type} (t:Sem α) (R:α->Shared->Prop) (s:Shared):Prop:=wpAny (model X.G.P X.G.w) X.A t R (XE X) s
abbrev QK:=D->Mp->Prop
abbrev DE:=St->Mp->QK->Prop
abbrev DT:=St->Mp->(Bool->Mp->Prop)->Prop
abbrev DA:=St->Mp->(List D->Mp->Prop)->Prop
abbrev Q1:=D->Mp->QK->Prop
abbrev Q2:=D->D->Mp->QK->Prop
abbrev QN:=List D->Mp->QK->Prop
structure En where
 nx:St->Mp->Prop
 rt:QK
 bk:St->Mp->Prop:=λ_ _=>False
 ct:St->Mp->Prop:=λ_ _=>False
abbrev DS:=En->St->Mp->Prop
abbrev KE (X:Cx) (τ:St) (F:Fz) (Q:QK) (R:Value->Shared->Prop):Prop:=∀d z u,Le F z.F->ae X τ z->ab X.G z.F d u->Q d z.M->R u z.s
abbrev KT (X:Cx) (τ:St) (F:Fz) (Q:Bool->Mp->Prop) (R:Bool->Shared->Prop):Prop:=∀b z,Le F z.F->ae X τ z->Q b z.M->R b z.s
abbrev KA (X:Cx) (τ:St) (F:Fz) (Q:List D->Mp->Prop) (R:List Value->Shared->Prop):Prop:=∀ds z us,Le F z.F->ae X τ z->af X.G z.F ds us->Q ds z.M->R us z.s
structure KS (X:Cx) (F:Fz) (e:En) (R:Flow->Shared->Prop):Prop where
 nx:∀ τ z,Le F z.F->ae X τ z->e.nx τ z.M->R .next z.s
 rt:∀d τ z u,Le F z.F->ae X τ z->ab X.G z.F d u->e.rt d z.M->R (.ret u) z.s
 bk:∀ τ z,Le F z.F->ae X τ z->e.bk τ z.M->R .brk z.s
 ct:∀ τ z,Le F z.F->ae X τ z->e.ct τ z.M->R .cont z.s
theorem KS.up {X:Cx}{F F':Fz}{e:En}{R:Flow->Shared->Prop} (k:KS X F e R) (l:Le F F'):KS X F' e R:=
 ⟨fun τ z l1=>k.nx τ z (l.tr l1),λd τ z u l1=>k.rt d τ z u (l.tr l1),fun τ z l1=>k.bk τ z (l.tr l1),fun τ z l1=>k.ct τ z (l.tr l1)⟩
def PE (X:Cx) (e:Expr) (t:DE):Prop:=∀ τ z Q R,ae X τ z->t τ z.M Q->KE X τ z.F Q R->W X (eval e X.env) R z.s
def PT (X:Cx) (e:Expr) (t:DT):Prop:=∀ τ z Q R,ae X τ z->t τ z.M Q->KT X τ z.F Q R->W X (isTrue e X.env (eval e X.env)) R z.s
def PW (X:Cx) (e:Expr) (t:DT):Prop:=∀(il:Sem Value) τ z Q R,ae X τ z->t τ z.M Q->KT X τ z.F Q R->W X (isTrue e X.env il) R z.s
def PA (X:Cx) (es:List Expr) (t:DA):Prop:=∀(pos:Pos) τ z Q R,ae X τ z->t τ z.M Q->KA X τ z.F Q R->W X (spliced (backTo pos (starEach es X.env))) R z.s
def PS (X:Cx) (st:Stmt) (t:DS):Prop:=∀ τ z e R,ae X τ z->t e τ z.M->KS X z.F e R->W X (exec st X.env) R z.s
def d4 (X:Cx) (st:List Stmt) (t:DS):Prop:=∀ τ z e R,ae X τ z->t e τ z.M->KS X z.F e R->W X (execs st X.env) R z.s
def O1 (X:Cx) (f:Value->Sem Value) (r:Q1):Prop:=∀ τ z Q R d v,ae X τ z->ab X.G z.F d v->r d z.M Q->KE X τ z.F Q R->W X (f v) R z.s
def O2 (X:Cx) (f:Value->Value->Sem Value) (r:Q2):Prop:=∀ τ z Q R d e v u,ae X τ z->ab X.G z.F d v->ab X.G z.F e u->r d e z.M Q->KE X τ z.F Q R->W X (f v u) R z.s
def ON (X:Cx) (f:List Value->Sem Value) (r:QN):Prop:=∀ τ z Q R ds us,ae X τ z->af X.G z.F ds us->r ds z.M Q->KE X τ z.F Q R->W X (f us) R z.s
def ey (i:Nat):DE:=fun τ M q=>match τ[i]? with
 |some (some d)=>q d M
 |_=>False
def kQ (d:D) (k:Bool->Prop):Prop:=match d with
 |.bl b=>k b
 |_=>False
def b3 (d:D) (k:Int->Prop):Prop:=match d with
 |.int i=>k i
 |_=>False
def ni (r:Q2) (ta tb:DE):DE:=fun τ M q=>ta τ M λx M1=>tb τ M1 λy M2=>r x y M2 q
def jx (r:Q1) (ta:DE):DE:=fun τ M q=>ta τ M λx M1=>r x M1 q
def ez:DA:=λ_ M q=>q [] M
def fh (ta:DE) (tr:DA):DA:=fun τ M q=>ta τ M λx M1=>tr τ M1 λxs M2=>q (x::xs) M2
def vD (t:DA):DE:=fun τ M q=>t τ M λds M1=>ds.length<=sizeLine/\q (.tup ds) M1
def bR (ds:List D) (M:Mp) (q:QK):Prop:=q (.lst ds) M\/∀p,M p=none->q (.ref p) (up M p (.lst ds))
def vE (t:DA):DE:=fun τ M q=>t τ M λds M1=>ds.length<=sizeLine/\bR ds M1 q
def vF (ta tb:DE):DE:=fun τ M q=>ta τ M λx M1=>kQ x λc=>if c=true then tb τ M1 q else q (.bl false) M1
def vG (ta tb:DE):DE:=fun τ M q=>ta τ M λx M1=>kQ x λc=>if c=true then q (.bl true) M1 else tb τ M1 q
def vH (ta:DE):DE:=fun τ M q=>ta τ M λx M1=>kQ x λc=>q (.bl (!c)) M1
def vJ (t u:DT):DT:=fun τ M q=>t τ M λc M1=>if c=true then u τ M1 q else q false M1
def vK (t u:DT):DT:=fun τ M q=>t τ M λc M1=>if c=true then q true M1 else u τ M1 q
def vL (t:DT):DT:=fun τ M q=>t τ M λc M1=>q (!c) M1
def vM (t:DT) (ta tb:DE):DE:=fun τ M q=>t τ M λc M1=>if c=true then ta τ M1 q else tb τ M1 q
def qe (t u:DS):DS:=λe τ M=>t { e with nx:=u e } τ M
def nj (te:DE):DS:=λe τ M=>te τ M λ_ M1=>e.nx τ M1
def vO (te:DE):DS:=λe τ M=>te τ M e.rt
def vP (t:DT) (a b:DS):DS:=λe τ M=>t τ M λc M1=>if c=true then a e τ M1 else b e τ M1
section
variable {X:Cx} {τ:St} {z:Z}
theorem ae.vQ {τ':St} {m:Str->Option Value}{e:Addr}{h':Heap}{t:Nat} (I:ae X τ z) (he:e=X.env.locals\/∃ x,X.env.cells.lookup x=some e/\z.F e=none) (hs:Zb e z.s.heap h') (hn:h'.Ns X.env.locals m)
  (hl:∀(i:Nat) (x:Str) (d:D),X.N[i]?=some x->τ'[i]?=some (some d)->jq X.env.scope x->∃u,ab X.G z.F d u/\jr X.env h' m x u) (hc:∀x,X.env.cells.lookup x=some e->∃v,h'.IsCell e v) (len:τ'.length=τ.length) :
  ae X τ' ⟨z.F,z.M,{ z.s with heap:=h',toks:=t }⟩:=by
 have hF:z.F e=none/\z.M e=none:=by
  rcases he with rfl |⟨x,h1,h2⟩
  ·exact I.free
  ·exact⟨h2,(I.cell x e h1).2.1⟩
 refine⟨I.ok,I.bs,I.os,I.bare,I.b9,⟨m,hn,hl⟩,λx c q=>⟨?_,(I.cell x c q).2⟩,I.free,I.hok.keep λb hb o q=>(hs.2 b ?_).trans q,len.trans I.len⟩
 ·by_cases h:c=e
  ·rw[h];exact hc x (h ▸ q)
  ·obtain⟨⟨v,k⟩,_⟩:=I.cell x c q;exact⟨v,k.sameBut hs h⟩
 ·rintro rfl;rcases hb with h |h;exact h hF.1;exact h hF.2
theorem nk {M:Model}{A:Around}{E:Value->Shared->Prop}{i:Nat}{x:Str}{d:D}{u:Value}{Q:Unit->Shared->Prop} (I:ae X τ z) (hN:X.N.Nodup) (hi:X.N[i]?=some x) (hx:ik X.env.scope x) (hf:X.fn x=true\/X.env.scope.names.lookup x=some .local) (r:ab X.G z.F d u)
  (h:∀s',ae X (τ.set i (some d)) ⟨z.F,z.M,s'⟩->Q () s'):wpAny M A (storeName X.env x u) Q E z.s:=by
 obtain⟨m,hn,hl⟩:=id I.loc;have DQ:(X.env.scope.kind == .class ||(X.env.scope.kind == .module && X.env.locals != X.env.globals))=false:=by rw[I.ok.kind];rfl
 have hiσ:i < τ.length:=by rw[I.len];exact (List.getElem?_eq_some_iff.mp hi).1
 have loc:∀ {h':Heap}{m':Str->Option Value}{e:Addr},Zb e z.s.heap h'->jr X.env h' m' x u->(∀ y w,y≠x->jr X.env z.s.heap m y w->jr X.env h' m' y w) ->
   ∀(j:Nat) (y:Str) (d':D),X.N[j]?=some y->(τ.set i (some d))[j]?=some (some d')->jq X.env.scope y->∃u,ab X.G z.F d' u/\jr X.env h' m' y u:=λhs h1 h2 j y d' e1 e2 e3=>by
  by_cases hj:j=i
  ·subst hj;rw[hi]at e1;cases e1;rw[List.getElem?_set_self hiσ]at e2;cases e2;exact⟨u,r,h1⟩
  ·rw[List.getElem?_set_ne (YZ hj)]at e2;obtain⟨w,r',q⟩:=hl j y d' e1 e2 e3;exact⟨w,r',h2 y w (λe=>hj (Dp hN e1 (e ▸ hi))) q⟩
 rcases hx with hk |hk
 ·refine wpAny_storeName_local hk hn (λh' qf hs=>h _ (I.vQ (.inl rfl) hs qf (loc hs (.inl ⟨hk,if_pos rfl⟩) λy w ne q=>?_) (λy hy=>absurd rfl (I.jw hy)) (List.length_set ..))) DQ;rcases q with ⟨k,e⟩ |⟨k,c,e,q⟩
  ·exact .inl ⟨k,(if_neg ne).trans e⟩
  ·exact .inr ⟨k,c,e,q.sameBut hs (I.jw e)⟩
 ·have qg:X.fn x=true:=hf.elim id λe=>by rw[e]at hk;cases hk
  obtain⟨c,hc⟩:=I.ok.has x (.inl hk);obtain⟨⟨WX,q⟩,_,hF⟩:=I.cell x c hc;refine wpAny_storeName_cell I.ok.kind hk hc q λh' fS hs=>h _ (I.vQ (.inr ⟨x,hc,hF.elim (·.2) λq=>by rw[qg]at q;cases q.1⟩) hs (hn.sameBut hs (YZ (I.jw hc))) (loc hs (.inr ⟨.inl hk,c,hc,fS⟩) λy w ne q=>?_) (λ_ _=>⟨_,fS⟩) (List.length_set ..));rcases q with q |⟨k,c',e,q⟩
  ·exact .inl q
  ·exact .inr ⟨k,c',e,q.sameBut hs λe'=>ne (I.ok.inj _ _ _ (e' ▸ e) hc)⟩
end
section
variable {X:Cx}{a b c:Expr}{ta tb:DE}{tA tB:DT}{pos:Pos}{rest:List Expr}
theorem DR {i:Nat}{x:Str} (hN:X.N[i]?=some x) (hv:jq X.env.scope x) (hd:(x == ("__debug__" : Str))=false) (dr:(x == ("__classdict__" : Str))=false):PE X (.Name x pos) (ey i):=by
 intro τ z Q R I h k;unfold ey at h;split at h
 ·rename_i d e;obtain⟨m,hn,hl⟩:=I.loc;obtain⟨u,r,l⟩:=hl i x d hN e hv;have fin:=k d z u Le.rfl I r h;rcases l with ⟨hk,hm⟩ |⟨hk,c,hc,nn⟩
  ·exact wpAny_Name (wpAny_loadName_local I.ok.kind hk hn hm fin) hd
  ·rcases hk with hk |hk
   ·exact wpAny_Name (wpAny_loadName_cell I.ok.kind hk hc nn fin) hd
   ·exact wpAny_Name (wpAny_loadName_free I.ok.kind hk hc nn fin dr) hd
 ·exact h.elim
def T6 (d:D):DE:=λ_ M q=>q d M
theorem kR {G:Gx}{F:Fz}{b:Bool}:ab G F (.bl b) (.bool b):=by rw[ab]
theorem b5 {G:Gx}{F:Fz}{i:Int}{t:Tok}:ab G F (.int i) (.int i t):=by rw[ab];exact⟨t,rfl⟩
theorem gD {G:Gx}{F:Fz}{x:Str}{t:Tok}:ab G F (.str x) (.str x t):=by rw[ab];exact⟨t,rfl⟩
theorem qh {G:Gx}{F:Fz}{a:Addr}:ab G F (.ref a) (.ref a):=by rw[ab]
theorem DU {G:Gx}{F:Fz}:ab G F .ai .none:=by rw[ab]
theorem ae.fin {τ:St} {z:Z}{F:Fz}{Q:QK}{R:Value->Shared->Prop}{d:D}{u:Value} (I:ae X τ z) (k:KE X τ F Q R) (l:Le F z.F) (r:ab X.G z.F d u) (q:Q d z.M) (t:Nat):R u { z.s with toks:=t }:=k d ⟨z.F,z.M,{ z.s with toks:=t }⟩ u l (I.ng t) r q
theorem vT {i j}:PE X (.Constant (.int i) j pos) (T6 (.int i)):=fun τ z Q R I h k=>wpAny_Constant_int (I.fin k Le.rfl b5 h _)
theorem DV {b j}:PE X (.Constant (.bool b) j pos) (T6 (.bl b)):=fun τ z Q R I h k=>Constant_bool (k (.bl b) z _ Le.rfl I kR h)
theorem DW {j}:PE X (.Constant .none j pos) (T6 .ai):=fun τ z Q R I h k=>Constant_none (k .ai z _ Le.rfl I DU h)
theorem DX {x j}:PE X (.Constant (.str x) j pos) (T6 (.str x)):=fun τ z Q R I h k=>Calls.Constant_str (I.fin k Le.rfl gD h _)
def Gl (X:Cx) (x:Str):Prop:=X.env.kindOf x=some .globalImplicit
theorem ip {E:Value->Shared->Prop} {τ:St} {z:Z}{x:Str}{u:Value}{Q:Value->Shared->Prop} (I:ae X τ z) (hg:Gl X x) (hm:X.G.mg x=some u) (hd:(x == ("__debug__" : Str))=false) (h:Q u z.s):wpAny (model X.G.P X.G.w) X.A (eval (.Name x pos) X.env) Q E z.s:=
 Calls.Name_function_global I.ok.kind hg (Calls.loadGlobal_global (by rw[I.ok.dp];exact I.ok.bp.dp.keeps I.bk) hm h) hd
theorem eA {E:Value->Shared->Prop} {τ:St} {z:Z}{x:Str}{u:Value}{Q:Value->Shared->Prop} (I:ae X τ z) (hg:Gl X x) (hm:X.G.mg x=none) (hv:bootBuiltins x=some u) (hn:x≠"__name__") (hd:(x == ("__debug__" : Str))=false) (h:Q u z.s):wpAny (model X.G.P X.G.w) X.A (eval (.Name x pos) X.env) Q E z.s:=by
 obtain⟨mb,h1,h2⟩:=I.ok.bp.kM;exact Calls.Name_function_global I.ok.kind hg (Calls.loadGlobal_builtin (by rw[I.ok.dp];exact I.ok.bp.dp.keeps I.bk) hm (by rw[I.ok.kM];exact h1.keeps I.bk) ((h2 x hn).trans hv) h) hd
theorem DY {x:Str}{d:D}{u:Value} (hg:Gl X x) (hm:X.G.mg x=some u) (hd:(x == ("__debug__" : Str))=false) (r:∀ τ z,ae X τ z->ab X.G z.F d u):PE X (.Name x pos) (T6 d):=
 fun τ z Q R I h k=>ip I hg hm hd (k d z u Le.rfl I (r τ z I) h)
theorem DZ {o:Operator}{r:Q2} (ho:O2 X (binaryOp o) r) (ha:PE X a ta) (hb:PE X b tb):PE X (.BinOp a o b pos) (ni r ta tb):=fun τ z Q R I h k=>
 wpAny_BinOp (ha τ z _ _ I h λx z1 v l1 I1 r1 q1=>hb τ z1 _ _ I1 q1 λy z2 u l2 I2 r2 q2=>ho τ z2 Q _ x y v u I2 (r1.up l2.d) r2 q2 λd z3 w l3=>k d z3 w (l1.tr (l2.tr l3)))
theorem D0 (ha:PT X a tA):PW X (.BoolOp .And [a] pos) tA:=λwh τ z Q R I h k=>isTrue_and (ha τ z _ _ I h λb z1 l1 I1 q1=>by
 cases b with
 |true=>exact isTrue_and_nil (k true z1 l1 I1 q1)
 |false=>exact k false z1 l1 I1 q1)
theorem D1 (ha:PT X a tA):PW X (.BoolOp .Or [a] pos) tA:=λwh τ z Q R I h k=>isTrue_or (ha τ z _ _ I h λb z1 l1 I1 q1=>by
 cases b with
 |true=>exact k true z1 l1 I1 q1
 |false=>exact isTrue_or_nil (k false z1 l1 I1 q1))
theorem D2 (ha:PT X a tA) (hb:PW X (.BoolOp .And (b::rest) pos) tB):PW X (.BoolOp .And (a::b::rest) pos) (vJ tA tB):=λwh τ z Q R I h k=>isTrue_and (ha τ z _ _ I h λb z1 l1 I1 q1=>by
 cases b with
 |true=>exact hb wh τ z1 Q R I1 q1 λb z2 l2=>k b z2 (l1.tr l2)
 |false=>exact k false z1 l1 I1 q1)
theorem D3 (ha:PT X a tA) (hb:PW X (.BoolOp .Or (b::rest) pos) tB):PW X (.BoolOp .Or (a::b::rest) pos) (vK tA tB):=λwh τ z Q R I h k=>isTrue_or (ha τ z _ _ I h λb z1 l1 I1 q1=>by
 cases b with
 |true=>exact k true z1 l1 I1 q1
 |false=>exact hb wh τ z1 Q R I1 q1 λb z2 l2=>k b z2 (l1.tr l2))
theorem D4 (ha:PT X a tA):PT X (.UnaryOp .Not a pos) (vL tA):=fun τ z Q R I h k=>isTrue_not (ha τ z _ _ I h λb z1 l1 I1 q1=>k (!b) z1 l1 I1 q1)
theorem vU {op} (h:PE X a ta):PE X (.BoolOp op [a] pos) ta:=fun τ z Q R I q k=>BoolOp_one (h τ z Q R I q k)
theorem qi {d:D}{k:Bool->Prop}{G:Gx}{F:Fz}{u:Value} (h:kQ d k) (r:ab G F d u):∃b,u=.bool b/\k b:=by
 unfold kQ at h;split at h
 ·rw[ab]at r;exact⟨_,r,h⟩
 ·exact h.elim
theorem D5 (ha:PE X a ta) (hb:PE X (.BoolOp .And (b::rest) pos) tb):PE X (.BoolOp .And (a::b::rest) pos) (vF ta tb):=fun τ z Q R I h k=>BoolOp_and (ha τ z _ _ I h λx z1 v l1 I1 r1 q1=>by
 obtain⟨c,rfl,q1⟩:=qi q1 r1;refine Zk ?_;cases c with
 |true=>exact hb τ z1 Q R I1 q1 λd z2 u l2=>k d z2 u (l1.tr l2)
 |false=>exact k (.bl false) z1 _ l1 I1 kR q1)
theorem D6 (ha:PE X a ta) (hb:PE X (.BoolOp .Or (b::rest) pos) tb):PE X (.BoolOp .Or (a::b::rest) pos) (vG ta tb):=fun τ z Q R I h k=>BoolOp_or (ha τ z _ _ I h λx z1 v l1 I1 r1 q1=>by
 obtain⟨c,rfl,q1⟩:=qi q1 r1;refine Zk ?_;cases c with
 |false=>exact hb τ z1 Q R I1 q1 λd z2 u l2=>k d z2 u (l1.tr l2)
 |true=>exact k (.bl true) z1 _ l1 I1 kR q1)
theorem D7 (ha:PE X a ta):PE X (.UnaryOp .Not a pos) (vH ta):=fun τ z Q R I h k=>UnaryOp_ (ha τ z _ _ I h λx z1 v l1 I1 r1 q1=>by
 obtain⟨c,rfl,q1⟩:=qi q1 r1;exact not_of (Zk (k (.bl (!c)) z1 _ l1 I1 kR q1)))
theorem D8 (hc:PT X c tA) (ha:PE X a ta) (hb:PE X b tb):PE X (.IfExp c a b pos) (vM tA ta tb):=fun τ z Q R I h k=>wpAny_IfExp (hc τ z _ _ I h λd z1 l1 I1 q1=>by
 cases d with
 |true=>exact ha τ z1 Q R I1 q1 λd z2 u l2=>k d z2 u (l1.tr l2)
 |false=>exact hb τ z1 Q R I1 q1 λd z2 u l2=>k d z2 u (l1.tr l2))
theorem qj:PA X [] ez:=λ_ τ z Q R I h k=>Zq (k [] z [] Le.rfl I .nil h)
theorem qk {es:List Expr}{t:DA} (ha:PE X a ta) (hr:PA X es t) (hs:starEach (a::es) X.env=(false,eval a X.env)::starEach es X.env):PA X (a::es) (fh ta t):=by
 intro pos τ z Q R I h k;rw[hs];show W X (spliced ((false,eval a X.env)::backTo pos (starEach es X.env))) R z.s;exact YS (ha τ z _ _ I h λx z1 v l1 I1 r1 q1=>hr pos τ z1 _ _ I1 q1 λxs z2 us l2 I2 r2 q2=>k (x::xs) z2 (v::us) (l1.tr l2) I2 (.cons (r1.up l2.d) r2) q2)
theorem nu {G:Gx}{F:Fz}{ds:List D}{us:List Value}{a:Addr}{o:Obj} (h:F a=some (.dat o)) (t:kH o us) (r:af G F ds us):ab G F (.tup ds) (.ref a):=by rw[ab];exact⟨a,o,us,rfl,h,t,r⟩
theorem ny {G:Gx}{F:Fz}{ds:List D}{us:List Value}{a:Addr}{n:Nat} (h:F a=some (.dat (bK us n))) (t:us.length<=sizeLine) (r:af G F ds us):ab G F (.lst ds) (.ref a):=by rw[ab];exact⟨a,n,us,rfl,h,t,r⟩
theorem ae.tup {τ:St} {z:Z}{ds:List D}{us:List Value}{h':Heap}{a:Addr}{o:Obj}{t:Nat}{Q:QK}{R:Value->Shared->Prop}{F:Fz} (I:ae X τ z) (k:KE X τ F Q R) (l:Le F z.F) (r:af X.G z.F ds us) (kp:∀b,bg z.s.heap h' b) (hp:z.s.heap.objs.size<=a) (ho:h'.get? a=some o) (to:kH o us) (q:Q (.tup ds) z.M):R (.ref a) { z.s with heap:=h',toks:=t }:=
 have l1:Le z.F (up z.F a (.dat o)):=Le.new (I.hok.cz hp)
 k (.tup ds) _ _ (l.tr l1) (I.jt (t:=t) (f:=.dat o) kp hp ho) (nu aw to (r.up l1.d)) q
theorem ae.lst {τ:St} {z:Z}{ds:List D}{us:List Value}{h':Heap}{a:Addr}{n t:Nat}{Q:QK}{R:Value->Shared->Prop}{F:Fz} (I:ae X τ z) (k:KE X τ F Q R) (l:Le F z.F) (r:af X.G z.F ds us) (kp:∀b,bg z.s.heap h' b) (hp:z.s.heap.objs.size<=a) (ho:h'.get? a=some (bK us n)) (hz:us.length<=sizeLine) (q:bR ds z.M Q):R (.ref a) { z.s with heap:=h',toks:=t }:=by
 rcases q with q |q
 ·have l1:Le z.F (up z.F a (.dat (bK us n))):=Le.new (I.hok.cz hp);exact k (.lst ds) _ _ (l.tr l1) (I.jt (t:=t) (f:=.dat (bK us n)) kp hp ho) (ny aw hz (r.up l1.d)) q
 ·exact k (.ref a) ⟨z.F,_,_⟩ _ l (I.kK (t:=t) (o:=.lst ds) kp hp ⟨by rw[r.len];exact hz,us,n,r,ho⟩) qh (q a (I.hok.c6 hp))
theorem D9 {es:List Expr}{t:DA} {x1} (h:PA X es t):PE X (.Tuple es x1 pos) (vD t):=fun τ z Q R I hq k=>wpAny_Tuple_spliced (h pos τ z _ _ I hq λds z1 us l1 I1 r1 q1=>by
 have hz:us.length<=sizeLine:=by rw[<- r1.len];exact q1.1
 exact⟨hz,I1.tup (t:=z1.s.toks) k l1 r1 (λb o e=>Xq _ e) (Xu _) (Xw _ rfl) ⟨rfl,rfl,⟨_,rfl⟩,hz⟩ q1.2⟩)
theorem Ea {es:List Expr}{t:DA} (h:PA X es t):PE X (.List es pos) (vE t):=fun τ z Q R I hq k=>wpAny_List_spliced (h pos τ z _ _ I hq λds z1 us l1 I1 r1 q1=>by
 have hz:us.length<=sizeLine:=by rw[<- r1.len];exact q1.1
 exact⟨hz,I1.lst (t:=z1.s.toks) (n:=0) k l1 r1 (λb o e=>Xq _ e) (Xu _) (Xw _ rfl) hz q1.2⟩)
variable {st:Stmt}{vV:List Stmt}{t u:DS}
theorem Eb:d4 X [] (λe τ M=>e.nx τ M):=fun τ z e R I h k=>wpAny_execs_nil (k.nx τ z Le.rfl I h)
theorem Ec (h1:PS X st t) (h2:d4 X vV u):d4 X (st::vV) (qe t u):=fun τ z e R I h k=>wpAny_execs_cons (h1 τ z { e with nx:=u e } _ I h
 ⟨fun τ1 z1 l1 I1 q=>h2 τ1 z1 e R I1 q (k.up l1),k.rt,k.bk,k.ct⟩)
theorem vW (h1:PS X st t):d4 X [st] t:=fun τ z e R I h k=>wpAny_execs_cons (h1 τ z e _ I h ⟨fun τ1 z1 l1 I1 q=>wpAny_execs_nil (k.nx τ1 z1 l1 I1 q),k.rt,k.bk,k.ct⟩)
theorem Ed:PS X (.Pass pos) (λe τ M=>e.nx τ M):=fun τ z e R I h k=>wpAny_Pass (k.nx τ z Le.rfl I h)
theorem Ee:PS X (.Break pos) (λe τ M=>e.bk τ M):=fun τ z e R I h k=>wpAny_Break (k.bk τ z Le.rfl I h)
theorem Ef:PS X (.Continue pos) (λe τ M=>e.ct τ M):=fun τ z e R I h k=>wpAny_Continue (k.ct τ z Le.rfl I h)
theorem ae.Eg {τ:St} {z:Z} (I:ae X τ z):interactive X.env=false:=by simp [interactive,I.ok.kind]
theorem Eh (he:PE X a ta) (hs:swapsWith a none pos.line X.env=pure false):PS X (.Expr a pos) (nj ta):=fun τ z e R I h k=>wpAny_Expr_any (he τ z _ _ I h λd z1 u l1 I1 r1 q1=>k.nx τ z1 l1 I1 q1) I.Eg hs
theorem Ei (he:PE X a ta):PS X (.Return (some a) pos) (vO ta):=fun τ z e R I h k=>wpAny_Return_some (he τ z _ _ I h λd z1 u l1 I1 r1 q1=>k.rt d τ z1 u l1 I1 r1 q1)
theorem Ej {xs ys:List Stmt} (hc:PT X c tA) (ha:d4 X xs t) (hb:d4 X ys u):PS X (.If c xs ys pos) (vP tA t u):=fun τ z e R I h k=>wpAny_If (hc τ z _ _ I h λd z1 l1 I1 q1=>by
 cases d with
 |true=>exact ha τ z1 e R I1 q1 (k.up l1)
 |false=>exact hb τ z1 e R I1 q1 (k.up l1))
theorem dN:PS X st (λ_ _ _=>False):=λ_ _ _ _ _ h _=>h.elim
theorem kT:PE X a (λ_ _ _=>False):=λ_ _ _ _ _ h _=>h.elim
theorem ql:PT X a (λ_ _ _=>False):=λ_ _ _ _ _ h _=>h.elim
theorem vX:PW X a (λ_ _ _=>False):=λ_ _ _ _ _ _ h _=>h.elim
end
end N
end
section
set_option maxHeartbeats 1000000
namespace N
open PySem PySem.Spec PyProof.Rows L2
def aV (d:D) (M:Mp) (k:List D->Prop):Prop:=match d with
 |.lst ds=>k ds
 |.ref a=>∃ds,M a=some (.lst ds)/\k ds
 |_=>False
def dt (d:D) (M:Mp) (k:List D->Prop):Prop:=match d with
 |.tup ds=>k ds
 |d=>aV d M k
structure eB (G:Gx) (F:Fz) (h:Heap) (a:Addr) (ds:List D) (us:List Value) (n:Nat):Prop where
 e:h.get? a=some (bK us n)
 r:af G F ds us
 z:us.length<=sizeLine
structure qm (G:Gx) (F:Fz) (h:Heap) (a:Addr) (ds:List D) (us:List Value) (o:Obj):Prop where
 e:h.get? a=some o
 t:kH o us
 r:af G F ds us
section
variable {X:Cx} {τ:St} {z:Z}{d:D}{u:Value}{a:Addr}
theorem eB.p {G:Gx}{F:Fz}{h:Heap}{ds:List D}{us:List Value}{n:Nat} (l:eB G F h a ds us n):PlainL h a us.toArray:=⟨_,n,l.e,rfl,rfl,rfl⟩
theorem qm.p {G:Gx}{F:Fz}{h:Heap}{ds:List D}{us:List Value}{o:Obj} (l:qm G F h a ds us o):IsTup h a us.toArray:=⟨o,l.e,l.t.cls,l.t.data⟩
theorem ae.eC (I:ae X τ z) {ds:List D} (h:z.M a=some (.lst ds)):∃us n,eB X.G z.F z.s.heap a ds us n:=by
 obtain⟨_,h1,us,n,r,e⟩:=I.hok.ob a _ h;exact⟨us,n,e,r,by rw[<- r.len];exact h1⟩
theorem ae.fi (I:ae X τ z) {ds:List D} (r:ab X.G z.F (.lst ds) u):∃a us n,u=.ref a/\eB X.G z.F z.s.heap a ds us n:=by
 rw[ab]at r;obtain⟨a,n,us,e,h1,h2,h3⟩:=r;exact⟨a,us,n,e,I.hok.fz a _ h1,h3,h2⟩
theorem ae.cR (I:ae X τ z) {ds:List D} (r:ab X.G z.F (.tup ds) u):∃a us o,u=.ref a/\qm X.G z.F z.s.heap a ds us o:=by
 rw[ab]at r;obtain⟨a,o,us,e,h1,h2,h3⟩:=r;exact⟨a,us,o,e,I.hok.fz a _ h1,h2,h3⟩
theorem ae.aV {k:List D->Prop} (I:ae X τ z) (r:ab X.G z.F d u) (h:aV d z.M k):∃a ds us n,u=.ref a/\eB X.G z.F z.s.heap a ds us n/\k ds:=by
 unfold N.aV at h;split at h
 ·obtain⟨a,us,n,e,l⟩:=I.fi r;exact⟨a,_,us,n,e,l,h⟩
 ·rw[ab]at r;obtain⟨ds,h1,h2⟩:=h;obtain⟨us,n,l⟩:=I.eC h1;exact⟨_,ds,us,n,r,l,h2⟩
 ·exact h.elim
end
abbrev DG:=D->St->Mp->(St->Mp->Prop)->Prop
def PG (X:Cx) (tg:Expr) (t:DG):Prop:=∀ τ z d u Q R,ae X τ z->ab X.G z.F d u->t d τ z.M Q->(∀ τ' z',Le z.F z'.F->ae X τ' z'->Q τ' z'.M->R () z'.s)->W X (assign tg X.env u) R z.s
inductive G where
 |one (i:Nat)
 |many (is:List Nat)
noncomputable def fj:List Nat->List D->St->St
 |i::is,d::ds,τ=>fj is ds (τ.set i (some d))
 |_,_,τ=>τ
def cb:G->DG
 |.one i=>λd τ M k=>k (τ.set i (some d)) M
 |.many is=>λd τ M k=>dt d M λds=>ds.length=is.length/\k (fj is ds τ) M
structure iq (X:Cx) (is:List Nat) (xs:List Str):Prop where
 nd:X.N.Nodup
 ok:∀i x,(i,x)∈is.zip xs->X.N[i]?=some x/\ik X.env.scope x/\(X.fn x=true\/X.env.scope.names.lookup x=some .local)
section
variable {X:Cx}{pos:Pos}
theorem vY {i:Nat}{x:Str} (h:iq X [i] [x]):PG X (.Name x pos) (cb (.one i)):=fun τ z d u Q R I r q k=>
 have o:=h.ok i x (List.mem_singleton.mpr rfl)
 wpAny_assign_Name (nk I h.nd o.1 o.2.1 o.2.2 r λs' I'=>k _ ⟨z.F,z.M,s'⟩ Le.rfl I' q)
theorem Ek {env:Env}{x:Str}{p:Pos}{es:List Expr}:(assignEach (.Name x p::es) env).map (·.2)=assign (.Name x p) env::(assignEach es env).map (·.2):=rfl
theorem El:∀ (is:List Nat) (es:List (Str×Pos)) (ds:List D) {τ:St} {z:Z}{us:List Value}{R:Unit->Shared->Prop},iq X is (es.map (·.1))->is.length=es.length->ds.length=is.length->ae X τ z->af X.G z.F ds us->(∀ s',ae X (fj is ds τ) ⟨z.F,z.M,s'⟩->R () s') ->
  W X (assignInOrder ((assignEach (es.map λp=>.Name p.1 p.2) X.env).map (·.2)) us) R z.s:=by
 intro is
 induction is with
 |nil=>
  intro es ds τ z us R h hl hd I r k;cases es with
  |cons _ _=>cases hl
  |nil=>cases ds with
   |cons _ _=>cases hd
   |nil=>rw[af]at r;subst r;exact assignInOrder_nil (k z.s I)
 |cons i is ih=>
  intro es ds τ z us R h hl hd I r k;cases es with
  |nil=>cases hl
  |cons p es=>cases ds with
   |nil=>cases hd
   |cons d ds=>
    rw[af]at r;obtain⟨u,us,rfl,r1,r2⟩:=r;have o:=h.ok i p.1 XA;rw[XD,Ek];exact assignInOrder_cons (wpAny_assign_Name (nk I h.nd o.1 o.2.1 o.2.2 r1 λs' I'=>ih es ds (z:=⟨z.F,z.M,s'⟩) ⟨h.nd,λj y hj=>h.ok j y (XB _ hj)⟩ (ZS hl) (ZS hd) I' r2 k))
theorem vZ {env:Env}:∀(es:List (Str×Pos)),(assignEach (es.map λp=>Expr.Name p.1 p.2) env).length=es.length/\(assignEach (es.map λp=>Expr.Name p.1 p.2) env).findIdx? (·.1)=none
 |[]=>⟨rfl,rfl⟩
 |p::es=>by
  obtain⟨h1,h2⟩:=vZ (env:=env) es;refine⟨congrArg (·+1) h1,?_⟩;show List.findIdx? _ ((false,_)::assignEach (es.map λp=>Expr.Name p.1 p.2) env)=none;rw[List.findIdx?_cons,h2];rfl
theorem Em {is:List Nat}{es:List (Str×Pos)}{k:Nat} (hc:X.calm=true) (h:iq X is (es.map (·.1))) (hl:is.length=es.length):PG X (.Tuple (es.map λp=>.Name p.1 p.2) k pos) (cb (.many is)):=by
 intro τ z d u Q R I r q kk;obtain⟨e1,e2⟩:=vZ (env:=X.env) es;have fin:∀ (ds:List D) (us:List Value),af X.G z.F ds us->ds.length=is.length->Q (fj is ds τ) z.M->∀ h',(∀ b o,b≠z.s.heap.objs.size->z.s.heap.get? b=some o->h'.get? b=some o) ->
   W X (assignInOrder ((assignEach (es.map λp=>.Name p.1 p.2) X.env).map (·.2)) us) R { z.s with heap:=h' }:=λds us r hd q h' ext=>
  El is es ds (z:=⟨z.F,z.M,{ z.s with heap:=h',toks:=z.s.toks }⟩) h hl hd (I.bN λb o e=>ext b o (XH (XF e)) e) r λs' I'=>kk _ ⟨z.F,z.M,s'⟩ Le.rfl I' q
 have lst:∀{d:D}{p:List D->Prop},ab X.G z.F d u->aV d z.M p->(∀ds,p ds->ds.length=is.length/\Q (fj is ds τ) z.M)->W X (assign (.Tuple (es.map λp=>.Name p.1 p.2) k pos) X.env u) R z.s:=λr q hk=>by
  obtain⟨a,ds,us,n,rfl,l,q⟩:=I.aV r q;obtain⟨hd,q⟩:=hk ds q;have len:us.toArray.size=es.length:=by rw[Xv,<- l.r.len,hd,hl]
  rw[assign_Tuple];refine Xp (wpAny_standAt ?_);unfold unpack;rw[e1,e2,<- len];exact Xp (Yq (PySem.W.kun_itemsOf (I.ok.hd hc) l.p.isList λh' ext=>fin ds us l.r hd q h' ext))
 unfold cb dt at q;cases d with
 |tup ds=>
  obtain⟨a,us,o,rfl,l⟩:=I.cR r;exact assign_Tuple_tuple (I.ok.hd hc) l.p (by rw[e1,Xv,<- l.r.len,q.1,hl]) e2 λh' hx=>fin ds us l.r q.1 q.2 h' hx
 |lst ds=>exact lst r q λ_ h=>h
 |ref a=>exact lst r q λ_ h=>h
 |_=>exact q.elim
abbrev QS:=D->D->D->Mp->(Mp->Prop)->Prop
def OS (X:Cx) (r:QS):Prop:=∀ τ z o i d ov iv u Q R,ae X τ z->ab X.G z.F o ov->ab X.G z.F i iv->ab X.G z.F d u->r o i d z.M Q->(∀z',Le z.F z'.F->ae X τ z'->Q z'.M->R () z'.s)->W X (setItem ov iv u) R z.s
def qn (r:QS) (to ti:DE):DG:=λd τ M Q=>to τ M λo M1=>ti τ M1 λi M2=>r o i d M2 λM3=>Q τ M3
theorem Eo {o i : Expr} {to ti : DE} {r : QS} (ho : PE X o to) (hi : PE X i ti) (hs : OS X r) (ha : ∀ v, assign (.Subscript o i pos) X.env v = (do
      let ov <- holding [v] (eval o X.env)
      let iv <- holding [v,ov] (eval i X.env)
      standAt pos
      holding [v,ov,iv] (setItem ov iv v)
      release [v,ov,iv] [])):PG X (.Subscript o i pos) (qn r to ti):=by
  intro τ z d u Q R I rd q k;rw[ha];exact Xp (Yq (ho τ z _ _ I q λx z1 v l1 I1 r1 q1=>Xp (Yq (hi τ z1 _ _ I1 q1 λy z2 w l2 I2 r2 q2=>Xp (wpAny_standAt (Xp (Yq
    (hs τ z2 x y d v w u _ _ I2 (r1.up l2.d) r2 (rd.up (l1.tr l2).d) q2 λz3 l3 I3 q3=>wpAny_release (k τ z3 (l1.tr (l2.tr l3)) I3 q3)))))))))
def kU (te:DE) (g:DG):DS:=λe τ M=>te τ M λd M1=>g d τ M1 e.nx
theorem v9 {tg e:Expr}{te:DE}{g:DG} (he:PE X e te) (hg:PG X tg g) (hs:swapsWithSole [tg] e pos.line X.env=pure false) (hw:swappedStores [tg] e X.env=pure none) (h1:(assignEach [tg] X.env).map (·.2)=[assign tg X.env]):PS X (.Assign [tg] e pos) (kU te g):=fun τ z e R I h k=>
 wpAny_Assign_stores (he τ z _ _ I h λd z1 u l1 I1 r1 q1=>by
  rw[h1];exact hg τ z1 d u _ _ I1 r1 q1 fun τ' z' l2 I2 q2=>k.nx τ' z' (l1.tr l2) I2 q2) hs hw
theorem wb {i:Nat}{x:Str}{e:Expr}{te:DE}{p:Pos} (h:iq X [i] [x]) (he:PE X e te) (hs:swapsWith e (some (.Name x p)) pos.line X.env=pure false):PS X (.Assign [.Name x p] e pos) (kU te (cb (.one i))):=fun τ z e R I q k=>
 have o:=h.ok i x (List.mem_singleton.mpr rfl)
 wpAny_Assign_Name (he τ z _ _ I q λd z1 u l1 I1 r1 q1=>nk I1 h.nd o.1 o.2.1 o.2.2 r1 λs' I'=>k.nx _ ⟨z1.F,z1.M,s'⟩ l1 I' q1) hs
def ir (t:DT) (tb:DS) (e:En):Nat->St->Mp->Prop
 | 0,_,_=>False
 |n+1,τ,M=>t τ M λc M1=>if c=true then tb { e with nx:=ir t tb e n,ct:=ir t tb e n,bk:=e.nx } τ M1 else e.nx τ M1
def we (t:DT) (tb:DS):DS:=λe τ M=>∃n,ir t tb e n τ M
theorem iu:PassesOwn (model X.G.P X.G.w) X.A X.env (XE X):=by
 have:XE X=λ_ _=>False:=funext λe=>funext λs=>propext ⟨XE.no,False.elim⟩;rw[this];exact PassesOwn.never
theorem Ep {c:Expr}{body:List Stmt}{tc:DT}{tb:DS} (hc:PT X c tc) (hb:d4 X body tb):PS X (.While c body [] pos) (we tc tb):=by
 intro τ z e R I h k;obtain⟨n,h⟩:=h;refine wpAny_While (codeAny_whileLoop (λn s'=>∃ τ' z',Le z.F z'.F/\ae X τ' z'/\ir tc tb e n τ' z'.M/\z'.s=s') ?_ n ⟨τ,z,Le.rfl,I,h,rfl⟩);rintro n s1 ⟨τ1,z1,l1,I1,w1,rfl⟩;cases n with
 |zero=>exact w1.elim
 |succ n=>
  refine ZP iu (hc τ1 z1 _ _ I1 w1 λb z2 l2 I2 q2=>?_);cases b with
  |true=>
   rw[if_pos rfl];exact ZP iu (hb τ1 z2 _ _ I2 q2 ⟨fun τ3 z3 l3 I3 q3=>⟨n,YY n,τ3,z3,l1.tr (l2.tr l3),I3,q3,rfl⟩,λd τ3 z3 u l3=>k.rt d τ3 z3 u (l1.tr (l2.tr l3)),fun τ3 z3 l3=>k.nx τ3 z3 (l1.tr (l2.tr l3)),fun τ3 z3 l3 I3 q3=>⟨n,YY n,τ3,z3,l1.tr (l2.tr l3),I3,q3,rfl⟩⟩)
  |false=>
   rw[if_neg Yl];exact wpAny_execs_nil (k.nx τ1 z2 (l1.tr l2) I2 q2)
end
end N
end
section
set_option maxHeartbeats 1000000
namespace N
open PySem PySem.Spec PyProof.Rows L2
structure Fp (X:Cx) (z:Z) (b:Addr):Prop where
 f:z.F b=none
 m:z.M b=none
 o:¬cF X b
inductive nz (X:Cx) (τ:St) (z:Z) (d:D) (u:Value) (fp:List Addr) (tn:Nat->Heap->Prop) (i:Nat) (s:Shared):Prop
 |mk {F:Fz} (l:Le z.F F) (I:ae X τ ⟨F,z.M,s⟩) (r:ab X.G F d u) (t:tn i s.heap) (n:∀b∈fp,F b=none)
structure fT (G:Gx) (tg:Expr) (xs:List D) (ok:Mp->Prop) (F0:Fz) (fp:List Addr) (it:Addr) (tn:Nat->Heap->Prop):Prop where
 obj:∀i h,tn i h->∀b∈fp,∃o,h.get? b=some o
 keep:∀i h h',tn i h->(∀b∈fp,bg h h' b)->tn i h'
 item:∀(X:Cx),X.G=G->X.calm=true->∀i τ z d E,ae X τ z->Le F0 z.F->(∀b∈fp,Fp X z b)->tn i z.s.heap->ok z.M->xs[i]?=some d ->
  wpAny (model G.P G.w) X.A (pyNext (.ref it)) (λr s1=>∃u,r=some u/\wpAny (model G.P G.w) X.A (letOwnedTupleGo tg (.ref it) u) (λ_ s2=>nz X τ z d u fp tn (i+1) s2) E s1) E z.s
 done:∀(X:Cx),X.G=G->X.calm=true->∀i τ z E,ae X τ z->Le F0 z.F->(∀b∈fp,Fp X z b)->tn i z.s.heap->ok z.M->xs.length<=i->wpAny (model G.P G.w) X.A (pyNext (.ref it)) (λr s1=>r=none/\ae X τ ⟨z.F,z.M,s1⟩) E z.s
 self:∀(A:Around) i (s:Shared) (Q E:Value->Shared->Prop),tn i s.heap->Q (.ref it) s->wpAny (model G.P G.w) A (pyIter (.ref it)) Q E s
inductive qo (X:Cx) (tg:Expr) (xs:List D) (ok:Mp->Prop) (z:Z) (it:Addr):Prop
 |mk {fp:List Addr}{tn:Nat->Heap->Prop} (T:fT X.G tg xs ok z.F fp it tn) (t:tn 0 z.s.heap) (f:∀b∈fp,Fp X z b)
abbrev DI:=St->Mp->(List D->(Mp->Prop)->Mp->Prop)->Prop
abbrev KI (X:Cx) (τ:St) (tg:Expr) (F:Fz) (k:List D->(Mp->Prop)->Mp->Prop) (R:Value->Shared->Prop):Prop:=∀xs ok z it,Le F z.F->ae X τ z->qo X tg xs ok z it->k xs ok z.M->R (.ref it) z.s
def PI (X:Cx) (tg iter:Expr) (t:DI):Prop:=∀ τ z k R,ae X τ z->t τ z.M k->KI X τ tg z.F k R->W X (eval iter X.env) (λv s1=>W X (pyIter v) R s1) z.s
open Classical in
noncomputable def aP (fp:List Addr) (h:Heap):Fz:=λb=>if b∈fp then (h.get? b).map Fo.pin else none
section
variable {X:Cx} {τ τ':St} {z z':Z}{fp:List Addr}{h h':Heap}{b a:Addr}
theorem jy:nc (aP fp h):=λb o e=>by
 unfold aP at e;split at e
 ·cases q:h.get? b <;> rw[q]at e <;> cases e
 ·cases e
theorem nA {f:Fo} (e:aP fp h b=some f):b∈fp/\∃o,h.get? b=some o/\f=.pin o:=by
 unfold aP at e;split at e
 ·rename_i hb;cases q:h.get? b with
  |none=>rw[q]at e;cases e
  |some o=>rw[q]at e;cases e;exact⟨hb,o,rfl,rfl⟩
 ·cases e
theorem gE {o:Obj} (hb:b∈fp) (e:h.get? b=some o):aP fp h b=some (.pin o):=by unfold aP;rw[if_pos hb,e];rfl
theorem kW (hb:b ∉ fp):aP fp h b=none:=if_neg hb
theorem ae.kX (I:ae X τ z) (hf:∀b∈fp,Fp X z b):Le z.F (aS z.F (aP fp z.s.heap))/\ae X τ ⟨aS z.F (aP fp z.s.heap),z.M,z.s⟩:=by
 have Uc:∀b,aP fp z.s.heap b≠none->z.F b=none:=λb e=>by
  cases q:aP fp z.s.heap b with
  |none=>exact absurd q e
  |some f=>exact (hf b (nA q).1).f
 refine⟨Le.pin Uc,I.go (Le.pin Uc) (I.hok.pin (λb f e=>?_) Uc λb p q e=>by obtain⟨_,_,_,z⟩:=nA e;cases z) (λb hb=>⟨bg.s λ_ e=>e,I.c7 hb,fb (kW λm=>(hf b m).o hb)⟩) rfl I.bare⟩;obtain⟨hb,o,h1,rfl⟩:=nA e;exact⟨h1,(hf b hb).m⟩
theorem ae.jz (I:ae X τ' z') {F:Fz} (hf:∀ b∈fp,F b=none/\¬cF X b) (l:Le (aS F (aP fp h)) z'.F) (bs:Bs X.G F) (of:∀ env∈X.outer,jv X.G F env) :
  Le F (aM z'.F (aP fp h))/\ae X τ' ⟨aM z'.F (aP fp h),z'.M,z'.s⟩:=by
 have Uc:∀b,aP fp h b≠none->F b=none:=λb e=>by
  cases q:aP fp h b with
  |none=>exact absurd q e
  |some f=>exact (hf b (nA q).1).1
 have U6:=Le.aM Uc l;have ld:=b8.aM (jy (fp:=fp) (h:=h)) l;have own:∀b,cF X b->aM z'.F (aP fp h) b=z'.F b:=λb hb=>fe (kW λm=>(hf b m).2 hb);refine⟨U6,⟨I.ok,bs.up U6,I.os,I.bare,λenv he=>(of env he).go U6,?_,λx c e=>?_,⟨(own _ (.inl rfl)).trans I.free.1,I.free.2⟩,I.hok.aM jy l,I.len⟩⟩
 ·obtain⟨m,h1,h2⟩:=I.loc;exact⟨m,h1,λi x d e1 e2 e3=>let ⟨u,r,k⟩:=h2 i x d e1 e2 e3;⟨u,r.up ld,k⟩⟩
 ·obtain⟨h1,h2,h3⟩:=I.cell x c e;exact⟨h1,h2,by show (_/\aM _ _ c=none)\/_/\∃o,aM _ _ c=_;rw[own c (.inr ⟨x,e⟩)];exact h3⟩
theorem ae.jA (I:ae X τ z) (hb:z.s.heap.objs.size<=b) {s':Shared}:Fp X ⟨z.F,z.M,s'⟩ b:=⟨I.hok.cz hb,I.hok.c6 hb,λo=>absurd (XM (I.fQ o) hb) (YQ _)⟩
def fU (ok:Mp->Prop) (g:DG) (tb:DS) (e:En):List D->St->Mp->Prop
 |[],τ,M=>ok M/\e.nx τ M
 |x::xs,τ,M=>ok M/\g x τ M fun τ1 M1=>tb { e with nx:=fU ok g tb e xs,ct:=fU ok g tb e xs,bk:=e.nx } τ1 M1
def qp (ti:DI) (g:DG) (tb:DS):DS:=λe τ M=>ti τ M λxs ok M1=>fU ok g tb e xs τ M1
theorem Er {tg iter:Expr}{body:List Stmt}{ti:DI}{g:DG}{tb:DS}{pos:Pos} (hc:X.calm=true) (hi:PI X tg iter ti) (hg:PG X tg g) (hb:d4 X body tb) (hs:∀x,foldedSetIterable iter X.env x=pure x):PS X (.For tg iter body [] pos) (qp ti g tb):=by
 intro τ z e R I h k;refine wpAny_For (hi τ z _ _ I h λxs ok z1 it l1 I1 hit h1=>?_) hs;obtain⟨T,t0,f0⟩:=hit;rename_i fp tn;refine codeAny_forLoop_any (λn s'=>∃i τ' z',Le z1.F z'.F/\ae X τ' z'/\tn i z'.s.heap/\(∀b∈fp,Fp X z' b)/\fU ok g tb e (xs.drop i) τ' z'.M/\n+i=xs.length/\z'.s=s') ?_ xs.length ⟨0,τ,z1,Le.rfl,I1,t0,f0,h1,rfl,rfl⟩;rintro n s3 ⟨i,τ3,z3,l3,I3,t3,f3,w3,hn,rfl⟩;cases hx:xs[i]? with
 |none=>
  have hl:xs.length<=i:=List.getElem?_eq_none_iff.mp hx;rw[List.drop_of_length_le hl]at w3;refine ZP iu (Zv (T.done X rfl hc i τ3 z3 (XE X) I3 l3 f3 t3 w3.1 hl) (λr s4 h4=>?_) λ_ _ q=>q);obtain⟨rfl,I4⟩:=h4;exact wpAny_execs_nil (k.nx τ3 ⟨z3.F,z3.M,s4⟩ (l1.tr l3) I4 w3.2)
 |some d=>
  obtain⟨a1,hd⟩:=List.getElem?_eq_some_iff.mp hx;rw[ZT a1,hd]at w3;refine ZP iu (Zv (T.item X rfl hc i τ3 z3 d (XE X) I3 l3 f3 t3 w3.1 hx) (λr s4 h4=>?_) λ_ _ q=>q);obtain⟨u,rfl,h4⟩:=h4;refine ZP iu (Zv h4 (λ_ s5 h5=>?_) λ_ _ q=>q);obtain⟨l5,I5,r5,t5,n5⟩:=h5;rename_i F5;have f5:∀b∈fp,Fp X ⟨F5,z3.M,s5⟩ b:=λb hb=>⟨n5 b hb,(f3 b hb).m,(f3 b hb).o⟩;obtain⟨lp,Ip⟩:=I5.kX f5;refine ZP iu (hg τ3 _ d u _ _ Ip (r5.up lp.d) w3.2 fun τ6 z6 l6 I6 q6=>ZP iu (hb τ6 z6 _ _ I6 q6 ?_));have io:∀{τ7:St} {z7:Z},Le z6.F z7.F->ae X τ7 z7->Le z.F (aM z7.F (aP fp s5.heap))/\ae X τ7 ⟨aM z7.F (aP fp s5.heap),z7.M,z7.s⟩/\(Le z1.F (aM z7.F (aP fp s5.heap))/\tn (i+1) z7.s.heap/\∀b∈fp,Fp X ⟨aM z7.F (aP fp s5.heap),z7.M,z7.s⟩ b):=λ{τ7 z7} l7 I7=>by
   have l8:=l6.tr l7;obtain⟨u1,u2⟩:=I7.jz (fp:=fp) (h:=s5.heap) (F:=F5) (λb hb=>⟨n5 b hb,(f3 b hb).o⟩) l8 I5.bs I5.b9;have bL:∀b∈fp,∃o,s5.heap.get? b=some o/\z7.F b=some (.pin o):=λb hb=>by
    obtain⟨o,ho⟩:=T.obj _ _ t5 b hb;exact⟨o,ho,l8 b _ (dm (gE hb ho))⟩
   refine⟨l1.tr (l3.tr (l5.tr u1)),u2,l3.tr (l5.tr u1),T.keep _ _ _ t5 λb hb o ho=>?_,λb hb=>?_⟩
   ·obtain⟨o',h1,h2⟩:=bL b hb;rw[ho]at h1;cases h1;exact I7.hok.fz b _ h2
   ·obtain⟨o',h1,h2⟩:=bL b hb;refine⟨fc (gE hb h1),?_,(f3 b hb).o⟩;cases q:z7.M b with
    |none=>rfl
    |some m=>have:=(I7.hok.ob b m q).1;rw[h2]at this;cases this
  have again:∀ τ7 z7,Le z6.F z7.F->ae X τ7 z7->fU ok g tb e (xs.drop (i+1)) τ7 z7.M->∃m,m<n/\∃i τ' z',Le z1.F z'.F/\ae X τ' z'/\tn i z'.s.heap/\(∀b∈fp,Fp X z' b)/\fU ok g tb e (xs.drop i) τ' z'.M/\m+i=xs.length/\z'.s=z7.s:=fun τ7 z7 l7 I7 q7=>by
   obtain⟨_,u2,u3,u4,u5⟩:=io l7 I7;exact⟨n-1,by lia,i+1,τ7,_,u3,u2,u4,u5,q7,by lia,rfl⟩
  exact⟨again,λV5 τ7 z7 u7 l7 I7 r7 q7=>by
    obtain⟨u1,u2,_⟩:=io l7 I7;exact k.rt V5 τ7 ⟨aM z7.F (aP fp s5.heap),z7.M,z7.s⟩ u7 u1 u2 (r7.up (b8.aM (F:=F5) jy (l6.tr l7))) q7,
   fun τ7 z7 l7 I7 q7=>by
    obtain⟨u1,u2,_⟩:=io l7 I7;exact k.nx τ7 ⟨aM z7.F (aP fp s5.heap),z7.M,z7.s⟩ u1 u2 q7,again⟩
end
end N
end
section
set_option maxHeartbeats 1000000
namespace N
open PySem PySem.Spec PyProof.Rows L2
section
variable {X:Cx} {τ:St} {z:Z}{fp:List Addr}{h':Heap}{a:Addr}{t:Nat}
theorem ae.du (I:ae X τ z) (hf:∀b∈fp,Fp X z b) (k:∀b,b ∉ fp->bg z.s.heap h' b):ae X τ ⟨z.F,z.M,{ z.s with heap:=h',toks:=t }⟩:=
 I.go Le.rfl (I.hok.keep λb hb=>k b λm=>hb.elim (λh=>h (hf b m).f) λh=>h (hf b m).m) (λb hb=>⟨(k b λm=>(hf b m).o hb).s,I.c7 hb,rfl⟩) rfl I.bare
theorem ae.kL (I:ae X τ z) {f:Fo} (hf:Fp X z a) (e:f.At z.s.heap a) (nt:∀p q,f≠.tab p q:=by intro _ _ h;cases h):Le z.F (up z.F a f)/\ae X τ ⟨up z.F a f,z.M,z.s⟩:=
 have l:Le z.F (up z.F a f):=Le.new hf.f
 ⟨l,I.go l (I.hok.kL hf.f hf.m e nt) (λb hb=>⟨bg.s λ_ e=>e,I.c7 hb,az λq=>hf.o (q ▸ hb)⟩) rfl I.bare⟩
end
def kY (G:Gx) (F0:Fz) (q:Bool) (a:Addr) (xs:List D) (ok:Mp->Prop):Prop:=∀(X:Cx) τ z,X.G=G->ae X τ z->Le F0 z.F->ok z.M->∃us,af G z.F xs us/\us.length<=sizeLine/\cu q z.s.heap a us.toArray
def iw (d:D) (M:Mp) (k:List D->(Mp->Prop)->Prop):Prop:=match d with
 |.tup ds=>k ds λ_=>True
 |.lst ds=>k ds λ_=>True
 |.ref a=>∃ds,M a=some (.lst ds)/\k ds λM'=>M' a=some (.lst ds)
 |_=>False
theorem ae.iy {X:Cx} {τ:St} {z:Z}{d:D}{u:Value}{k:List D->(Mp->Prop)->Prop} (I:ae X τ z) (r:ab X.G z.F d u) (h:iw d z.M k):∃q a xs ok,u=.ref a/\kY X.G z.F q a xs ok/\ok z.M/\k xs ok:=by
 unfold iw at h;split at h
 ·rw[ab]at r;obtain⟨a,o,us,e,h1,h2,h3⟩:=r;exact⟨true,a,_,_,e,λX' τ' z' g I' l _=>⟨us,g ▸ h3.up l.d,h2.len,o,I'.hok.fz a _ (l a _ h1),h2.cls,h2.data⟩,trivial,h⟩
 ·rw[ab]at r;obtain⟨a,n,us,e,h1,h2,h3⟩:=r;exact⟨false,a,_,_,e,λX' τ' z' g I' l _=>⟨us,g ▸ h3.up l.d,h2,_,I'.hok.fz a _ (l a _ h1),rfl,n,rfl⟩,trivial,h⟩
 ·rw[ab]at r;obtain⟨ds,h1,h2⟩:=h;refine⟨false,_,ds,_,r,λX' τ' z' g I' l q=>?_,h1,h2⟩;obtain⟨us,n,e1,e2,e3⟩:=I'.eC q;exact⟨us,g ▸ e2,e3,_,e1,rfl,n,rfl⟩
 ·exact h.elim
section
variable {X:Cx}{tg:Expr}{G:Gx}{F0:Fz}{xs:List D}{ok:Mp->Prop}{a:Addr}
theorem d5 {G:Gx}{F:Fz}{ds:List D}{us:List Value}{i:Nat}{d:D} (r:af G F ds us) (h:ds[i]?=some d):∃u,us.toArray[i]?=some u/\ab G F d u:=by
 obtain⟨u,h1,h2⟩:=r.get h;exact⟨u,by simpa using h1,h2⟩
theorem nC {G:Gx}{F:Fz}{ds:List D}{us:List Value}{i:Nat} (r:af G F ds us) (h:ds.length<=i):us.toArray[i]?=none:=by
 rw[r.len]at h;simpa using h
theorem kZ {it b:Addr} (hb:b∈[it]):b=it:=by simpa using hb
theorem Es {q:Bool}{it:Addr} (S:kY G F0 q a xs ok):fT G tg xs ok F0 [it] it (λi h=>dK q h it a i) where
 obj:=λi h st b hb=>by obtain⟨o,e,_⟩:=st;exact⟨o,by rw[kZ hb];exact e⟩
 keep:=λi h h' st k=>by obtain⟨o,e,c⟩:=st;exact⟨o,k it (List.mem_singleton.mpr rfl) _ e,c⟩
 item:=by
  intro X hG hc i τ z d E I l hf st hok hd;subst hG;obtain⟨us,r,hz,hq⟩:=S X τ z rfl I l hok;obtain⟨u,hu,ru⟩:=d5 r hd;have fin:∀h',dK q h' it a (i+1)->Zb it z.s.heap h'->∃u',(some u:Option Value)=some u'/\wpAny (model X.G.P X.G.w) X.A (letOwnedTupleGo tg (.ref it) u') (λ_ s2=>nz X τ z d u' [it] (λi h=>dK q h it a i) (i+1) s2) E { z.s with heap:=h' }:=λh' bd sb=>by
   obtain⟨o,e,c,T9⟩:=id bd;refine⟨u,rfl,mZ (s:={ z.s with heap:=h' }) e c T9 (by cases q <;> decide) ⟨Le.rfl,I.du (t:=z.s.toks) hf (λb hb o' e'=>(sb.2 b λq=>hb (List.mem_singleton.mpr q)).trans e'),ru,bd,λb hb=>(hf b hb).f⟩⟩
  cases q with
  |true=>exact wpAny_pyNext_tuple_item st hq hu fin
  |false=>exact wpAny_pyNext_list_item st hq hu fin
 done:=by
  intro X hG hc i τ z E I l hf st hok hd;subst hG;obtain⟨us,r,hz,hq⟩:=S X τ z rfl I l hok;have fin:∀h',ZJ it z.s.heap h'->(none:Option Value)=none/\ae X τ ⟨z.F,z.M,{ z.s with heap:=h' }⟩:=λh' eb=>⟨rfl,I.du (t:=z.s.toks) hf λb hb o e=>eb b o (λq=>hb (List.mem_singleton.mpr q)) e⟩;cases q with
  |true=>exact wpAny_pyNext_tuple_end (I.ok.hd hc) st hq (nC r hd) fin
  |false=>exact wpAny_pyNext_list_end (I.ok.hd hc) st hq (nC r hd) fin
 self:=λ_ _ _ _ _ st h=>by
  cases q with
  |true=>exact wpAny_pyIter_tupleiter st h
  |false=>exact wpAny_pyIter_listiter st h
noncomputable def nD (x:Str):List D:=x.cps.toList.map λc=>.str ⟨#[c]⟩
theorem Et {it:Addr}{x:Str}{t:Tok}:fT G tg (nD x) ok F0 [it] it (λi h=>h.IsStrIter it "str_ascii_iterator" x t i) where
 obj:=λi h st b hb=>by obtain⟨o,e,_⟩:=st;exact⟨o,by rw[kZ hb];exact e⟩
 keep:=λi h h' st k=>by obtain⟨o,e,c⟩:=st;exact⟨o,k it (List.mem_singleton.mpr rfl) _ e,c⟩
 item:=by
  intro X hG hc i τ z d E I l hf st hok hd;subst hG;unfold nD at hd;rw[XJ]at hd;obtain⟨c,hx,rfl⟩:=Option.map_eq_some_iff.mp hd;refine wpAny_pyNext_ascii_item st (by simpa using hx) λh' bd sb=>?_;obtain⟨o,e,c',T9⟩:=id bd;exact⟨_,rfl,mZ (s:={ z.s with heap:=h',toks:=z.s.toks+1 }) e c' T9 (by decide) ⟨Le.rfl,I.du hf (λb hb o' e'=>(sb.2 b λq=>hb (List.mem_singleton.mpr q)).trans e'),gD,bd,λb hb=>(hf b hb).f⟩⟩
 done:=by
  intro X hG hc i τ z E I l hf st hok hd;subst hG;unfold nD at hd;rw[Xr]at hd;exact wpAny_pyNext_ascii_end (I.ok.hd hc) st (by simpa using hd) λh' eb=>⟨rfl,I.du (t:=z.s.toks) hf λb hb o e=>eb b o (λq=>hb (List.mem_singleton.mpr q)) e⟩
 self:=λ_ _ _ _ _ st h=>wpAny_pyIter_striter_ascii st h
noncomputable def fk (lo:Int) (n:Nat):List D:=(YD n).map λi:Nat=>.int (lo+(i:Int))
theorem Eu {it:Addr}{lo:Int}{n:Nat}:fT G tg (fk lo n) ok F0 [it] it (λi h=>IsRangeIter h it (lo+(i:Nat) * 1) ((n:Int)-(i:Nat)) 1) where
 obj:=λi h st b hb=>by rw[kZ hb];exact⟨_,st⟩
 keep:=λi h h' st k=>k it (List.mem_singleton.mpr rfl) _ st
 item:=by
  intro X hG hc i τ z d E I l hf st hok hd;subst hG;unfold fk at hd;rw[XJ]at hd;obtain⟨j,hj,rfl⟩:=Option.map_eq_some_iff.mp hd;obtain⟨hi,e⟩:=List.getElem?_eq_some_iff.mp hj;rw[Zc]at hi;rw[List.getElem_range]at e;subst e;refine (Walks.range (prog:=X.G.P) (w:=X.G.w) (I.ok.hd hc) it lo 1 n).item i z.s _ _ hi st λv h' tk hv bd kk=>?_;obtain⟨t,rfl⟩:=hv;refine⟨_,rfl,mZ (s:={ z.s with heap:=h',toks:=tk }) (n:="range_iterator") bd rfl rfl (by decide) ⟨Le.rfl,I.du hf λb hb o e=>kk b o hb e,?_,bd,λb hb=>(hf b hb).f⟩⟩;rw[Int.mul_one];exact b5
 done:=by
  intro X hG hc i τ z E I l hf st hok hd;subst hG;unfold fk at hd;rw[Xr,Zc]at hd;exact wpAny_pyNext_range_end (I.ok.hd hc) st (by lia) λh' eb=>⟨rfl,I.du (t:=z.s.toks) hf λb hb o e=>eb b o (λq=>hb (List.mem_singleton.mpr q)) e⟩
 self:=λ_ _ _ _ _ st h=>wpAny_pyIter_rangeiter st h
variable {e:Expr}{te:DE}
theorem jB {τ:St} {z:Z}{s':Shared}{it:Addr}{tn:Nat->Heap->Prop} (I:ae X τ z) (h:z.s.heap.objs.size<=it) (T:fT X.G tg xs ok z.F [it] it tn) (t:tn 0 s'.heap):qo X tg xs ok ⟨z.F,z.M,s'⟩ it:=.mk T t λb hb=>by rw[kZ hb];exact I.jA h
def wg (t:DE):DI:=fun τ M k=>t τ M λd M1=>b3 d λn=>-(2 ^ 62)<=n/\n<2 ^ 62/\k (fk 0 n.toNat) (λ_=>True) M1
theorem cS {d:D}{k:Int->Prop}{G:Gx}{F:Fz}{u:Value} (h:b3 d k) (r:ab G F d u):∃i t,u=.int i t/\k i:=by
 unfold b3 at h;split at h
 ·rw[ab]at r;obtain⟨t,e⟩:=r;exact⟨_,t,e,h⟩
 ·exact h.elim
theorem Ew {τ:St} {z:Z}{F:Fz}{R:Value->Shared->Prop}{k:List D->(Mp->Prop)->Mp->Prop}{lo hi:Int}{t u v:Tok}{tk:Nat} (I:ae X τ z) (K:KI X τ tg F k R) (l:Le F z.F) (h:-(2 ^ 62)<=lo/\lo<2 ^ 62/\-(2 ^ 62)<=hi/\hi<2 ^ 62) (q:k (fk lo (hi-lo).toNat) (λ_=>True) z.M) :
  W X (pyIter (.ref z.s.heap.objs.size)) R { z.s with heap:=z.s.heap.push { cls:=.type "range",data:=.fields #[.int lo t,.int hi u,.int 1 v] },toks:=tk }:=by
 refine wpAny_pyIter_range (IsRange.new ..) (small_one h.1 h.2.1 h.2.2.1 h.2.2.2) ?_;have I1:ae X τ ⟨z.F,z.M,{ z.s with heap:=z.s.heap.push { cls:=.type "range",data:=.fields #[.int lo t,.int hi u,.int 1 v] },toks:=tk }⟩:=I.bN λb o e=>Xq _ e;refine K _ _ ⟨z.F,z.M,_⟩ _ l (I1.bN (t:=tk) λb o e=>Xq _ e) (jB I (by rw[X8];exact Y' _) (Eu (n:=(hi-lo).toNat) (lo:=lo)) ?_) q;have e1:lo+((0:Nat):Int) * 1=lo:=by simp
 have e2:(((hi-lo).toNat:Nat):Int)-((0:Nat):Int)=Builtin.Range.rangeSize lo hi 1:=by rw[rangeSize_one];split <;> lia
 show IsRangeIter _ _ (lo+((0:Nat):Int) * 1) ((((hi-lo).toNat:Nat):Int)-((0:Nat):Int)) 1;rw[e1,e2];exact Xw _ rfl
variable {a b:Expr}{ta tb:DE}{p pos:Pos}
theorem wj (ha:PE X a ta) (hs:starEach [a] X.env=[(false,eval a X.env)]) (pos:Pos) {τ:St} {z:Z}{Q:QK}{R:List Value->Shared->Prop} (I:ae X τ z) (h:ta τ z.M Q) (k:∀d z' u,Le z.F z'.F->ae X τ z'->ab X.G z'.F d u->Q d z'.M->R [u] z'.s):W X (spliced (backTo pos (starEach [a] X.env))) R z.s:=by
 rw[hs];exact YS (ha τ z _ _ I h λd z1 u l1 I1 r1 q1=>Zq (k d z1 u l1 I1 r1 q1))
theorem Ex (ha:PE X a ta) (hb:PE X b tb) (hs:starEach [a,b] X.env=[(false,eval a X.env),(false,eval b X.env)]) (pos:Pos) {τ:St} {z:Z}{Q:D->D->Mp->Prop}{R:List Value->Shared->Prop} (I:ae X τ z) (h:ta τ z.M λx M=>tb τ M λy M=>Q x y M) (k:∀d e z' u v,Le z.F z'.F->ae X τ z'->ab X.G z'.F d u->ab X.G z'.F e v->Q d e z'.M->R [u,v] z'.s):W X (spliced (backTo pos (starEach [a,b] X.env))) R z.s:=by
 rw[hs];exact YS (ha τ z _ _ I h λd z1 u l1 I1 r1 q1=>YS (hb τ z1 _ _ I1 q1 λe z2 v l2 I2 r2 q2=>Zq (k d e z2 u v (l1.tr l2) I2 (r1.up l2.d) r2 q2)))
theorem fV {G:Gx}{F:Fz}{d:D}{us:List Value} (h:af G F [d] us):∃u,us=[u]/\ab G F d u:=by
 rw[af]at h;obtain⟨u,r,rfl,h1,h2⟩:=h;rw[af]at h2;subst h2;exact⟨u,rfl,h1⟩
theorem gF {G:Gx}{F:Fz}{d e:D}{us:List Value} (h:af G F [d,e] us):∃u v,us=[u,v]/\ab G F d u/\ab G F e v:=by
 rw[af]at h;obtain⟨u,r,rfl,h1,h2⟩:=h;obtain⟨v,rfl,h3⟩:=fV h2;exact⟨u,v,rfl,h1,h3⟩
theorem Ey (hg:Gl X "range") (hm:X.G.mg "range"=none) (ha:PE X a ta) (hs:starEach [a] X.env=[(false,eval a X.env)]):PI X tg (.Call (.Name "range" p) [a] [] pos) (wg ta):=fun τ z k R I h K=>
 Call_ (eA I hg hm boot_range (by decide) (by decide) (YE (wj ha hs pos I h λd z1 u l1 I1 r1 q1=>by
  obtain⟨i,t,rfl,h1,h2,q⟩:=cS q1 r1;exact call_range_1 (Ew I1 K l1 ⟨by decide,by decide,h1,h2⟩ (by simpa using q))) hs rfl))
theorem wo {τ:St} {z:Z}{s':Shared}{x y:D}{u v:Value}{T:Addr}{o:Obj}{fp:List Addr}{tn:Nat->Heap->Prop}{i:Nat} (I:ae X τ ⟨z.F,z.M,s'⟩) (hT:Fp X ⟨z.F,z.M,s'⟩ T) (ho:s'.heap.get? T=some o) (to:kH o [u,v]) (r1:ab X.G z.F x u) (r2:ab X.G z.F y v) (t:tn i s'.heap) (n:∀ b∈fp,z.F b=none/\b≠T) :
  nz X τ z (.tup [x,y]) (.ref T) fp tn i s':=
 have h:=I.kL (f:=.dat o) hT ho
 ⟨h.1,h.2,nu aw to (.cons (r1.up h.1.d) (.cons (r2.up h.1.d) .nil)),t,λb hb=>(az (n b hb).2).trans (n b hb).1⟩
end
section
variable {prog:Program}{w:World}{A:Around}{E:Value->Shared->Prop}{s:Shared}
structure k6 (p q:Bool) (h:Heap) (z TI TO i1 i2 t1 t2:Addr) (k:Nat) (f:Value):Prop where
 z:IsZip h z TI TO f
 ti:IsPair h TI (.ref i1) (.ref i2)
 to:∃a b,IsPair h TO a b
 j1:dK p h i1 t1 k
 j2:dK q h i2 t2 k
structure qq (z TI TO i1 i2 t1 t2:Addr):Prop where
 TY:TI≠z
 TV:TO≠z
 TZ:i1≠z
 T1:i2≠z
 Uh:TI≠TO
 UJ:TI≠i1
 U7:TI≠i2
 UK:TO≠i1
 UL:TO≠i2
 b1:i1≠i2
 c1:t1≠z/\t1≠TO/\t1≠i1/\t1≠i2
 c2:t2≠z/\t2≠TO/\t2≠i1/\t2≠i2
theorem Ez {p q:Bool}{z TI TO i1 i2 t1 t2:Addr}{k:Nat}{xs ys:Array Value}{x y:Value}{Q:Option Value->Shared->Prop} (D:qq z TI TO i1 i2 t1 t2) (Z:k6 p q s.heap z TI TO i1 i2 t1 t2 k .none)
  (nw:cu p s.heap t1 xs) (qr:cu q s.heap t2 ys) (hx:xs[k]?=some x) (hy:ys[k]?=some y)
  (hQ:∀h',k6 p q h' z TI TO i1 i2 t1 t2 (k+1) (rawInt s.heap.objs.size)->IsPair h' s.heap.objs.size x y->h'.objs.size=s.heap.objs.size+1 ->
   (∀c o,c≠z->c≠TO->c≠i1->c≠i2->s.heap.get? c=some o->h'.get? c=some o)->Q (some (.ref s.heap.objs.size)) { s with heap:=h' }) :
  wpAny (model prog w) A (pyNext (.ref z)) Q E s:=by
 have hT:s.TypeIs (.ref z) "zip":=⟨_,Z.z,rfl⟩;obtain⟨u0,v0,qt⟩:=Z.to;unfold pyNext;refine Xp (Zp (XY (name:=YX "__next__") hT F.slot_zip_next (X5 F.slot_zip_next hT F.entry_zip_next ?_ (F.args_zip_next_1 _))));show wpAny _ _ (field (.ref z) 2 >>= _) _ _ _;refine Xp (Yr Z.z rfl (x:=.bool false) rfl ?_);show wpAny _ _ (field (.ref z) 3 >>= _) _ _ _;refine Xp (Yr Z.z rfl (x:=.ref TI) rfl ?_);refine Xp (Zh Z.ti rfl ?_);show wpAny _ _ (Y3 (.ref z) >>= _) _ _ _;refine Xp ?_;unfold Y3;refine Xp (Yr Z.z rfl (x:=.none) rfl (Xs ?_));simp only[if_true];refine Xp (ZU (Xp (Yr Z.z rfl (x:=.ref TO) rfl ?_)));refine Xp (ZM Z.z (by simp) λg1 z1 s1=>?_);have z1:IsZip g1 z TI TO .ellipsis:=z1;refine Xp ?_;simp only[List.zipIdx_cons,List.zipIdx_nil,List.forIn_cons,List.forIn_nil];refine Xp (Xp (wpAny_onRaise ?_));show wpAny _ _ (Yj (.ref i1) >>= _) _ _ _;refine Xp (p5 (Z.j1.extBut s1.extBut D.TZ) (nw.extBut s1.extBut D.c1.1) hx λg2 wn s2=>Xs ?_);have o2:IsPair g2 TO u0 v0:=s2.extBut _ _ D.UK (s1.extBut _ _ D.TV qt);refine Xp (Zh o2 rfl ?_);refine Xp (wpAny_updateSeq_pair o2 λg3 o3 s3=>?_);have o3:IsPair g3 TO x v0:=o3;refine Xp (wpAny_letGo (Xs ?_));refine Xp (Xp (wpAny_onRaise ?_));show wpAny _ _ (Yj (.ref i2) >>= _) _ _ _;refine Xp (p5 (((Z.j2.extBut s1.extBut D.T1).extBut s2.extBut D.b1.symm).extBut s3.extBut D.UL.symm) (((qr.extBut s1.extBut D.c2.1).extBut s2.extBut D.c2.2.2.1).extBut s3.extBut D.c2.2.1) hy λg4 EA s4=>Xs ?_);have o4:IsPair g4 TO x v0:=s4.extBut _ _ D.UL o3;refine Xp (Zh o4 rfl ?_);refine Xp (wpAny_updateSeq_pair o4 λg5 o5 s5=>?_);have o5:IsPair g5 TO x y:=o5;refine Xp (wpAny_letGo (Xs (Xs ?_)));refine Xp (Zh o5 rfl ?_);refine Xp (wpAny_newTuple ?_);have sz:g5.objs.size=s.heap.objs.size:=by rw[s5.1,s4.1,s3.1,s2.1,s1.1]
 have z5:IsZip g5 z TI TO .ellipsis:=s5.extBut _ _ D.TV.symm (s4.extBut _ _ D.T1.symm (s3.extBut _ _ D.TV.symm (s2.extBut _ _ D.TZ.symm z1)));have k5:∀c o,c≠z->c≠TO->c≠i1->c≠i2->s.heap.get? c=some o->g5.get? c=some o:=λc o e1 e2 e3 e4 q=>s5.extBut _ _ e2 (s4.extBut _ _ e4 (s3.extBut _ _ e2 (s2.extBut _ _ e3 (s1.extBut _ _ e1 q))));have EB:dK p g5 i1 t1 (k+1):=((wn.extBut s3.extBut D.UK.symm).extBut s4.extBut D.b1).extBut s5.extBut D.UK.symm;have EC:dK q g5 i2 t2 (k+1):=EA.extBut s5.extBut D.UL.symm;have wt:z<g5.objs.size:=XF z5;show wpAny _ _ (Builtin.SmallTypes.ownedTupleHandOut (.ref z) (.ref g5.objs.size) >>= _) _ _ _;refine Xp ?_;unfold Builtin.SmallTypes.ownedTupleHandOut;have z6:IsZip (g5.push { cls:=.type "tuple",data:=.seq #[x,y] }) z TI TO .ellipsis:=Xq _ z5;refine Xp (ZM z6 (by simp) λV6 z7 s7=>?_);have z7:IsZip V6 z TI TO (rawInt g5.objs.size):=z7;refine ZM z7 (by simp) λUt z8 s8=>?_;have z8:IsZip Ut z TI TO (rawInt g5.objs.size):=z8;have up:∀c o,c≠z->g5.get? c=some o->Ut.get? c=some o:=λc o e q=>s8.extBut _ _ e (s7.extBut _ _ e (Xq _ q));have T8:IsPair Ut g5.objs.size x y:=s8.extBut _ _ (YF wt) (s7.extBut _ _ (YF wt) (Xw _ rfl));have Vs:Ut.objs.size=g5.objs.size+1:=by rw[s8.1,s7.1,X8]
 rw[sz]at z8 T8 Vs;refine Xs ⟨_,rfl,Xs ?_⟩;show Q (some (.ref g5.objs.size)) _;rw[sz];refine hQ Ut ⟨z8,up _ _ D.TY (k5 _ _ D.TY D.Uh D.UJ D.U7 Z.ti),⟨_,_,up _ _ D.TV o5⟩,?_,?_⟩ T8 Vs λc o e1 e2 e3 e4 q=>up c o e1 (k5 c o e1 e2 e3 e4 q)
 ·obtain⟨ob,q1,q2⟩:=EB;exact⟨ob,up _ _ D.TZ q1,q2⟩
 ·obtain⟨ob,q1,q2⟩:=EC;exact⟨ob,up _ _ D.T1 q1,q2⟩
theorem ED {p q:Bool}{z TI TO i1 i2 t1 t2:Addr}{k:Nat}{xs ys:Array Value}{Q:Option Value->Shared->Prop} (hh:A.handled=none) (D:qq z TI TO i1 i2 t1 t2) (Z:k6 p q s.heap z TI TO i1 i2 t1 t2 k .none)
  (nw:cu p s.heap t1 xs) (qr:cu q s.heap t2 ys) (EE:xs[k]?=none\/ys[k]?=none)
  (hQ:∀h',(∀c o,c≠z->c≠TO->c≠i1->c≠i2->s.heap.get? c=some o->h'.get? c=some o)->Q none { s with heap:=h' }) :
  wpAny (model prog w) A (pyNext (.ref z)) Q E s:=by
 have hT:s.TypeIs (.ref z) "zip":=⟨_,Z.z,rfl⟩;obtain⟨u0,v0,qt⟩:=Z.to;unfold pyNext;refine Xp (Zp (XY (name:=YX "__next__") hT F.slot_zip_next (X5 F.slot_zip_next hT F.entry_zip_next ?_ (F.args_zip_next_1 _))));show wpAny _ _ (field (.ref z) 2 >>= _) _ _ _;refine Xp (Yr Z.z rfl (x:=.bool false) rfl ?_);show wpAny _ _ (field (.ref z) 3 >>= _) _ _ _;refine Xp (Yr Z.z rfl (x:=.ref TI) rfl ?_);refine Xp (Zh Z.ti rfl ?_);show wpAny _ _ (Y3 (.ref z) >>= _) _ _ _;refine Xp ?_;unfold Y3;refine Xp (Yr Z.z rfl (x:=.none) rfl (Xs ?_));simp only[if_true];refine Xp (ZU (Xp (Yr Z.z rfl (x:=.ref TO) rfl ?_)));refine Xp (ZM Z.z (by simp) λg1 z1 s1=>?_);have z1:IsZip g1 z TI TO .ellipsis:=z1;refine Xp ?_;simp only[List.zipIdx_cons,List.zipIdx_nil,List.forIn_cons,List.forIn_nil];refine Xp (Xp (wpAny_onRaise ?_));show wpAny _ _ (Yj (.ref i1) >>= _) _ _ _;cases hx:xs[k]? with
 |none=>
  refine Xp (vo hh (Z.j1.extBut s1.extBut D.TZ) (nw.extBut s1.extBut D.c1.1) hx λg2 e s2 he=>?_);obtain⟨U8,q1,q2⟩:=he;have z2:IsZip g2 z TI TO .ellipsis:=s2 _ _ D.TZ.symm z1;have ne:e≠z:=λx=>by subst x;rw[z2]at q1;cases q1;simp at q2
  exact ZM z2 (by simp) λg3 _ s3=>Xp (Zo (T:="StopIteration") (b:=true) ⟨U8,s3.extBut _ _ ne q1,q2⟩ isSubtype_stop (Xs (hQ _ λc o c1 _ c3 _ x=>s3.extBut _ _ c1 (s2 _ _ c3 (s1.extBut _ _ c1 x)))))
 |some x=>
  have hy:ys[k]?=none:=by
   rcases EE with q |q
   ·rw[hx]at q;cases q
   ·exact q
  refine Xp (p5 (Z.j1.extBut s1.extBut D.TZ) (nw.extBut s1.extBut D.c1.1) hx λg2 wn s2=>Xs ?_);have o2:IsPair g2 TO u0 v0:=s2.extBut _ _ D.UK (s1.extBut _ _ D.TV qt);refine Xp (Zh o2 rfl ?_);refine Xp (wpAny_updateSeq_pair o2 λg3 o3 s3=>?_);refine Xp (wpAny_letGo (Xs ?_));refine Xp (Xp (wpAny_onRaise ?_));show wpAny _ _ (Yj (.ref i2) >>= _) _ _ _;refine Xp (vo hh (((Z.j2.extBut s1.extBut D.T1).extBut s2.extBut D.b1.symm).extBut s3.extBut D.UL.symm) (((qr.extBut s1.extBut D.c2.1).extBut s2.extBut D.c2.2.2.1).extBut s3.extBut D.c2.2.1) hy λg4 e s4 he=>?_);obtain⟨U8,q1,q2⟩:=he;have z4:IsZip g4 z TI TO .ellipsis:=s4 _ _ D.T1.symm (s3.extBut _ _ D.TV.symm (s2.extBut _ _ D.TZ.symm z1));have ne:e≠z:=λx=>by subst x;rw[z4]at q1;cases q1;simp at q2
  exact ZM z4 (by simp) λg5 _ s5=>Xp (Zo (T:="StopIteration") (b:=true) ⟨U8,s5.extBut _ _ ne q1,q2⟩ isSubtype_stop (Xs (hQ _ λc o c1 c2 c3 c4 x=>s5.extBut _ _ c1 (s4 _ _ c4 (s3.extBut _ _ c2 (s2.extBut _ _ c3 (s1.extBut _ _ c1 x)))))))
noncomputable abbrev nE (p:Bool) (h:Heap) (a:Addr):Heap:=h.push { cls:=.type (fN p),data:=.fields #[.ref a,.int 0 0] }
noncomputable abbrev nF (p q:Bool) (h:Heap) (a b:Addr):Heap:=(nE p h a).push { cls:=.type (fN q),data:=.fields #[.ref b,.int 0 0] }
noncomputable abbrev nG (p q:Bool) (h:Heap) (a b:Addr):Heap:=(nF p q h a b).push { cls:=.type "tuple",data:=.seq #[.ref h.objs.size,.ref (nE p h a).objs.size] }
noncomputable abbrev nH (p q:Bool) (h:Heap) (a b:Addr):Heap:=(nG p q h a b).push { cls:=.type "tuple",data:=.seq #[.none,.none] }
noncomputable abbrev iz (p q:Bool) (h:Heap) (a b:Addr):Heap:=(nH p q h a b).push { cls:=.type "zip",data:=.fields #[.none,.bool false,.bool false,.ref (nF p q h a b).objs.size,.ref (nG p q h a b).objs.size] }
end
theorem wu {prog:Program}{w:World}{A:Around}{E:Value->Shared->Prop}{s:Shared}{q:Bool}{a:Addr}{xs:Array Value}{Q:Value->Shared->Prop} (h:cu q s.heap a xs) (k:Q (.ref s.heap.objs.size) { s with heap:=s.heap.push { cls:=.type (fN q),data:=.fields #[.ref a,.int 0 0] } }):wpAny (model prog w) A (pyIter (.ref a)) Q E s:=by
 cases q with
 |true=>exact ZN h k
 |false=>exact Zu h k
theorem EF (p q:Bool) (a b:Addr) (xs ys:Array Value) :
  Meets (Builtin.«zip.__new__» ⟨[.type "zip",.ref a,.ref b],[]⟩) (λ_ R s=>cu p s.heap a xs/\cu q s.heap b ys/\R (.ok (.ret (.ref (nH p q s.heap a b).objs.size))) { s with heap:=iz p q s.heap a b }):=
 .of_wp λprog w A R s h=>by
  obtain⟨hp,g,d,tk,os⟩:=s;obtain⟨q1,q2,h⟩:=h;have sub:=sub_zip;have e1:cu p (Shared.heap ⟨hp,g,d,tk,os⟩) a xs:=q1;have e2:cu q (Shared.heap ⟨hp.push { cls:=.type (fN p),data:=.fields #[.ref a,.int 0 0] },g,d,tk,os⟩) b ys:=by
   cases q
   ·exact Heap.IsList.push q2 _
   ·exact Heap.IsTuple.push q2 _
  wp_walk using wu e1,wu e2
  exact⟨_,rfl,h⟩
section
variable {prog:Program}{w:World}{A:Around}{E:Value->Shared->Prop}{s:Shared}
theorem EG {p q:Bool}{a b:Addr}{xs ys:Array Value}{Q:Value->Shared->Prop} (h1:cu p s.heap a xs) (h2:cu q s.heap b ys)
  (h:∀h',k6 p q h' (s.heap.objs.size+4) (s.heap.objs.size+2) (s.heap.objs.size+3) s.heap.objs.size (s.heap.objs.size+1) a b 0 .none->h'.objs.size=s.heap.objs.size+5 ->
   (∀c o,s.heap.get? c=some o->h'.get? c=some o)->Q (.ref (s.heap.objs.size+4)) { s with heap:=h' }):wpAny (model prog w) A (call (.type "zip") [.ref a,.ref b]) Q E s:=by
 refine callType_new F.called_zip (by decide) (F.typeCall_zip_2 _ _) (F.newCall_zip_2 _ _) (λobj=>F.args_object_init_3 obj _ _) F.entry_zip_new (EF p q a b xs ys) ⟨h1,h2,?_⟩;have n1:(nE p s.heap a).objs.size=s.heap.objs.size+1:=X8 ..;have n2:(nF p q s.heap a b).objs.size=s.heap.objs.size+2:=by rw[X8,n1]
 have n3:(nG p q s.heap a b).objs.size=s.heap.objs.size+3:=by rw[X8,n2]
 have U9:(nH p q s.heap a b).objs.size=s.heap.objs.size+4:=by rw[X8,n3]
 have n5:(iz p q s.heap a b).objs.size=s.heap.objs.size+5:=by rw[X8,U9]
 have U':(iz p q s.heap a b).get? (nH p q s.heap a b).objs.size=some _:=Xw _ rfl;have p4:(iz p q s.heap a b).get? (nG p q s.heap a b).objs.size=some _:=Xq _ (Xw _ rfl);have p3:(iz p q s.heap a b).get? (nF p q s.heap a b).objs.size=some _:=Xq _ (Xq _ (Xw _ rfl));have p2:(iz p q s.heap a b).get? (nE p s.heap a).objs.size=some _:=Xq _ (Xq _ (Xq _ (Xw _ rfl)));have p1:(iz p q s.heap a b).get? s.heap.objs.size=some _:=Xq _ (Xq _ (Xq _ (Xq _ (Xw _ rfl))));show _/\_;rw[n2,n3,U9]at U';rw[n1,n2]at p3;rw[n3]at p4;rw[n1]at p2;rw[U9];exact⟨⟨_,U',rfl⟩,h _ ⟨U',p3,⟨_,_,p4⟩,⟨_,p1,rfl,rfl⟩,⟨_,p2,rfl,rfl⟩⟩ n5 λc o x=>
  Xq _ (Xq _ (Xq _ (Xq _ (Xq _ x))))⟩
end
end N
end
section
set_option maxHeartbeats 1000000
namespace N
open PySem PySem.Spec PyProof.Rows L2
section
variable {X:Cx}{G:Gx}{F0:Fz}{xs ys:List D}{ok k7:Mp->Prop}{a b:Addr}{p q:Bool}{jp:List Expr}{kk:Nat}{tp:Pos}
theorem EH {z TI TO i1 i2:Addr} (D':qq z TI TO i1 i2 a b) (S:kY G F0 p a xs ok) (S':kY G F0 q b ys k7) :
  fT G (.Tuple jp kk tp) (List.zipWith (λx y=>.tup [x,y]) xs ys) (λM=>ok M/\k7 M) F0 [z,TI,TO,i1,i2] z (λi h=>k6 p q h z TI TO i1 i2 a b i .none) where
 obj:=λi h st c hc=>by
  obtain⟨q1,q2,⟨u,v,q3⟩,⟨o4,q4,_⟩,⟨o5,q5,_⟩⟩:=st;simp only[Yh,XR,or_false]at hc;rcases hc with rfl |rfl |rfl |rfl |rfl
  ·exact⟨_,q1⟩
  ·exact⟨_,q2⟩
  ·exact⟨_,q3⟩
  ·exact⟨_,q4⟩
  ·exact⟨_,q5⟩
 keep:=λi h h' st k=>by
  obtain⟨q1,q2,⟨u,v,q3⟩,⟨o4,q4,r4⟩,⟨o5,q5,r5⟩⟩:=st;exact⟨k z (by simp) _ q1,k TI (by simp) _ q2,⟨u,v,k TO (by simp) _ q3⟩,⟨o4,k i1 (by simp) _ q4,r4⟩,⟨o5,k i2 (by simp) _ q5,r5⟩⟩
 item:=by
  intro X hG hc i τ z' d E I l hf st hok hd;subst hG;rw[List.getElem?_zipWith]at hd;obtain⟨us,r1,_,h1⟩:=S X τ z' rfl I l hok.1;obtain⟨vs,r2,_,h2⟩:=S' X τ z' rfl I l hok.2;cases hx:xs[i]? with
  |none=>rw[hx]at hd;cases hd
  |some x=>cases hy:ys[i]? with
   |none=>rw[hx,hy]at hd;cases hd
   |some y=>
    rw[hx,hy]at hd;cases hd;obtain⟨u,hu,ru⟩:=d5 r1 hx;obtain⟨v,hv,rv⟩:=d5 r2 hy;refine Ez D' st h1 h2 hu hv λh' Z' T' n' keep=>⟨_,rfl,wpAny_letOwnedTupleGo_zip Z'.z λfW qu sb=>?_⟩;have EI:z<z'.s.heap.objs.size:=XF st.z;have I':ae X τ ⟨z'.F,z'.M,{ z'.s with heap:=fW,toks:=z'.s.toks }⟩:=I.du hf λc hc o e=>by
     simp only[Yh,XR,or_false,not_or]at hc;exact sb.extBut _ _ hc.1 (keep c o hc.1 hc.2.2.1 hc.2.2.2.1 hc.2.2.2.2 e)
    refine wo I' (I.jA (Xu _)) (sb.extBut _ _ (YF EI) T') ⟨rfl,rfl,⟨0,rfl⟩,by show 2<=sizeLine;decide⟩ ru rv ?_ λc hc=>⟨(hf c hc).f,?_⟩
    ·obtain⟨_,q2,⟨e1,e2,q3⟩,⟨o4,q4,r4⟩,⟨o5,q5,r5⟩⟩:=Z';exact⟨qu,sb.extBut _ _ D'.TY q2,⟨e1,e2,sb.extBut _ _ D'.TV q3⟩,⟨o4,sb.extBut _ _ D'.TZ q4,r4⟩,⟨o5,sb.extBut _ _ D'.T1 q5,r5⟩⟩
    ·obtain⟨q1,q2,⟨e1,e2,q3⟩,⟨o4,q4,r4⟩,⟨o5,q5,r5⟩⟩:=st;simp only[Yh,XR,or_false]at hc;rcases hc with rfl |rfl |rfl |rfl |rfl
     ·exact XH (XF q1)
     ·exact XH (XF q2)
     ·exact XH (XF q3)
     ·exact XH (XF q4)
     ·exact XH (XF q5)
 done:=by
  intro X hG hc i τ z' E I l hf st hok hd;subst hG;obtain⟨us,r1,_,h1⟩:=S X τ z' rfl I l hok.1;obtain⟨vs,r2,_,h2⟩:=S' X τ z' rfl I l hok.2;rw[List.length_zipWith]at hd;refine ED (I.ok.hd hc) D' st h1 h2 (by
   by_cases h:xs.length<=i
   ·exact .inl (nC r1 h)
   ·exact .inr (nC r2 (by lia))) λh' keep=>⟨rfl,I.du (t:=z'.s.toks) hf λc hc o e=>?_⟩
  simp only[Yh,XR,or_false,not_or]at hc;exact keep c o hc.1 hc.2.2.1 hc.2.2.2.1 hc.2.2.2.2 e
 self:=λ_ _ _ _ _ st h=>wpAny_pyIter_zip st.z h
variable {ea eb:Expr}{ta tb:DE}{pn pos:Pos}{tg:Expr}
def wx (t u:DE):DI:=fun τ M k=>t τ M λd M1=>u τ M1 λe M2=>iw d M2 λxs ok=>iw e M2 λys k7=>k (List.zipWith (λx y=>.tup [x,y]) xs ys) (λM=>ok M/\k7 M) M2
theorem EJ (hg:Gl X "zip") (hm:X.G.mg "zip"=none) (ha:PE X ea ta) (hb:PE X eb tb) (hs:starEach [ea,eb] X.env=[(false,eval ea X.env),(false,eval eb X.env)]) (hs2:starEach [eb] X.env=[(false,eval eb X.env)]):PI X (.Tuple jp kk tp) (.Call (.Name "zip" pn) [ea,eb] [] pos) (wx ta tb):=fun τ z k R I h K=>
 Call_ (eA I hg hm boot_zip (by decide) (by decide) (YE (Ex ha hb hs pos I h λd e z1 u v l1 I1 r1 r2 q1=>by
  obtain⟨p,x,xs,ok,rfl,S,hok,q1⟩:=I1.iy r1 q1;obtain⟨q,y,ys,k7,rfl,S',EK,q1⟩:=I1.iy r2 q1;obtain⟨us,_,_,h1⟩:=S X τ z1 rfl I1 Le.rfl hok;obtain⟨vs,_,_,h2⟩:=S' X τ z1 rfl I1 Le.rfl EK;have f:∀c:Addr,c<z1.s.heap.objs.size->∀k:Nat,c≠z1.s.heap.objs.size+k:=λc hc k=>XH (XM hc (XX _ _));have n:∀{i j:Nat},i≠j->z1.s.heap.objs.size+i≠z1.s.heap.objs.size+j:=λh e=>h (Nat.add_left_cancel e);refine EG h1 h2 λh' Z n5 keep=>wpAny_pyIter_zip Z.z (K _ _ ⟨z1.F,z1.M,_⟩ _ l1 (I1.bN (t:=z1.s.toks) λb o e=>keep b o e) (.mk (EH ⟨n (by decide),n (by decide),n (i:=0) (by decide),n (by decide),n (by decide),n (j:=0) (by decide),n (by decide),n (j:=0) (by decide),n (by decide),n (i:=0) (by decide),⟨f _ h1.lt 4,f _ h1.lt 3,XH h1.lt,f _ h1.lt 1⟩,⟨f _ h2.lt 4,f _ h2.lt 3,XH h2.lt,f _ h2.lt 1⟩⟩ S S') Z λc hc=>I1.jA ?_) q1);simp only[Yh,XR,or_false]at hc;rcases hc with rfl |rfl |rfl |rfl |rfl
  ·exact XX _ _
  ·exact XX _ _
  ·exact XX _ _
  ·exact Xu _
  ·exact XX _ _) (by rw[hs,hs2]) (by rw[hs2];rfl)))
noncomputable def gG (ds:List D):List D:=ds.mapIdx λi d=>.tup [.int i,d]
def fX (q:Bool) (h:Heap) (it a:Addr) (i:Int):Prop:=match q with
 |true=>d0 h it a i
 |false=>h.IsRevIter it a i
theorem fX.o {h:Heap}{it:Addr}{i:Int} (x:fX q h it a i):∃o n vs,h.get? it=some o/\o.cls=.type n/\o.data=.fields vs/\["enumerate","zip","dict_itemiterator","dict_reverseitemiterator","odict_iterator","itertools.zip_longest","itertools.pairwise"].contains n=false:=by
 cases q with
 |true=>obtain⟨o,e,c,d⟩:=x;exact⟨o,_,_,e,c,d,by decide⟩
 |false=>obtain⟨o,e,c,d⟩:=x;exact⟨o,_,_,e,c,d,by decide⟩
theorem fX.at {h h':Heap}{it:Addr}{i:Int} (x:fX q h it a i) (k:bg h h' it):fX q h' it a i:=by
 cases q with
 |true=>exact d0.at x k
 |false=>exact Heap.IsRevIter.at x k
theorem EL {it:Addr}{n:Nat} (hn:n=xs.length) (S:kY G F0 q a xs ok):fT G tg xs.reverse ok F0 [it] it (λi h=>i<=n/\fX q h it a ((n:Int)-1-(i:Int))) where
 obj:=λi h st b hb=>by rw[kZ hb];obtain⟨o,_,_,e,_⟩:=st.2.o;exact⟨o,e⟩
 keep:=λi h h' st k=>⟨st.1,st.2.at (k it (List.mem_singleton.mpr rfl))⟩
 item:=by
  intro X hG hc i τ z d E I l hf st hok hd;subst hG;have hi:i<n:=by have:=(List.getElem?_eq_some_iff.mp hd).1;rw[Zs]at this;lia
  rw[List.getElem?_reverse (by lia),<- hn]at hd;obtain⟨us,r1,hz,h1⟩:=S X τ z rfl I l hok;obtain⟨u,hu,ru⟩:=d5 r1 hd;have st2:=st.2;rw[show (n:Int)-1-(i:Int)=((n-1-i:Nat):Int) by lia]at st2;have fin:∀h' tk,fX q h' it a (((n-1-i:Nat):Int)-1)->Zb it z.s.heap h'->∃u',(some u:Option Value)=some u'/\wpAny (model X.G.P X.G.w) X.A (letOwnedTupleGo tg (.ref it) u') (λ_ s2=>nz X τ z d u' [it] (λi h=>i<=n/\fX q h it a ((n:Int)-1-(i:Int))) (i+1) s2) E { z.s with heap:=h',toks:=tk }:=λh' tk bd sb=>by
   obtain⟨o,_,_,e,c,T9,qf⟩:=bd.o;refine⟨u,rfl,mZ (s:={ z.s with heap:=h',toks:=tk }) e c T9 qf ⟨Le.rfl,I.du (t:=tk) hf (λb hb o' e'=>(sb.2 b λq=>hb (List.mem_singleton.mpr q)).trans e'),ru,⟨hi,?_⟩,λb hb=>(hf b hb).f⟩⟩;rw[show (n:Int)-1-((i+1:Nat):Int)=((n-1-i:Nat):Int)-1 by lia];exact bd
  cases q with
  |true=>exact DD st2 h1 (by rw[Xv];exact hz) hu fin
  |false=>exact wpAny_pyNext_rev_item st2 h1 hu λh'=>fin h' z.s.toks
 done:=by
  intro X hG hc i τ z E I l hf st hok hd;subst hG;rw[Zs]at hd;have st2:=st.2;rw[show (n:Int)-1-(i:Int)=-1 by have:=st.1;lia]at st2
  have fin:∀h' tk,ZJ it z.s.heap h'->(none:Option Value)=none/\ae X τ ⟨z.F,z.M,{ z.s with heap:=h',toks:=tk }⟩:=λh' tk eb=>⟨rfl,I.du hf λb hb o e=>eb b o (λq=>hb (List.mem_singleton.mpr q)) e⟩;cases q with
  |true=>exact DH (I.ok.hd hc) st2 fin
  |false=>exact wpAny_pyNext_rev_end (I.ok.hd hc) st2 λh'=>fin h' z.s.toks
 self:=λ_ _ _ _ _ st h=>by
  cases q with
  |true=>exact vv st.2 h
  |false=>exact wpAny_pyIter_revIter st.2 h
def wy (t:DE):DI:=fun τ M k=>t τ M λd M1=>iw d M1 λxs ok=>k xs.reverse ok M1
theorem EM (hg:Gl X "reversed") (hm:X.G.mg "reversed"=none) (ha:PE X ea ta) (hs:starEach [ea] X.env=[(false,eval ea X.env)]):PI X tg (.Call (.Name "reversed" pn) [ea] [] pos) (wy ta):=fun τ z k R I h K=>
 Call_ (eA I hg hm boot_reversed (by decide) (by decide) (YE (wj ha hs pos I h λd z1 u l1 I1 r1 q1=>by
  obtain⟨q,x,xs,ok,rfl,S,hok,q1⟩:=I1.iy r1 q1;obtain⟨us,rr,hz,h1⟩:=S X τ z1 rfl I1 Le.rfl hok;have e0:((us.toArray.size:Nat):Int)-1=(xs.length:Int)-1-((0:Nat):Int):=by rw[Xv,<- rr.len];simp
  have fin:∀h' tk,fX q h' z1.s.heap.objs.size x ((us.toArray.size:Int)-1)->(∀b o,z1.s.heap.get? b=some o->h'.get? b=some o)->R (.ref z1.s.heap.objs.size) { z1.s with heap:=h',toks:=tk }:=λh' tk Z keep=>
   K _ _ ⟨z1.F,z1.M,_⟩ _ l1 (I1.bN λb o e=>keep b o e) (jB I1 (Xu _) (EL rfl S) ⟨XS _,by rw[<- e0];exact Z⟩) q1
  cases q with
  |true=>exact DC h1 (by rw[Xv];exact hz) λh' tk Z n2 keep=>vv Z (fin h' tk Z keep)
  |false=>exact call_reversed_list h1 (wpAny_pyIter_revIter (l:=x) (i:=(us.toArray.size:Int)-1) ⟨_,Xw _ rfl,rfl,rfl⟩ (fin _ z1.s.toks ⟨_,Xw _ rfl,rfl,rfl⟩ λb o e=>Xq _ e))) hs rfl))
end
end N
end
section
set_option maxHeartbeats 1000000
namespace N
open PySem PySem.Spec PyProof.Rows L2
noncomputable def qv:D->Option (List D)
 |.tup ds=>some ds
 |_=>none
noncomputable def qw:D->Option (List D)
 |.lst ds=>some ds
 |_=>none
noncomputable def oI:D->Option Int
 |.int i=>some i
 |.bl b=>some (if b then 1 else 0)
 |_=>none
noncomputable def k8:D->Option Str
 |.str x=>some x
 |_=>none
noncomputable def nI:D->Bool
 |.ai=>true
 |_=>false
mutual
noncomputable def aC:D->D->Bool
 |.ai=>nI
 |.bl a=>λe=>oI e == some (if a then 1 else 0)
 |.int a=>λe=>oI e == some a
 |.str a=>λe=>k8 e == some a
 |.tup a=>λe=>(qv e).any (bD a)
 |.lst a=>λe=>(qw e).any (bD a)
 |.ref _=>λ_=>false
 |.ty _=>λ_=>false
 |.ak _ _=>λ_=>false
noncomputable def bD:List D->List D->Bool
 |[]=>List.isEmpty
 |d::ds=>λes=>match es with
  |e::es=>aC d e && bD ds es
  |[]=>false
end
mutual
noncomputable def aG:D->Bool
 |.ai=>true
 |.bl _=>true
 |.int _=>true
 |.str _=>true
 |.tup ds=>aO ds
 |.lst ds=>aO ds
 |.ref _=>false
 |.ty _=>false
 |.ak _ _=>false
noncomputable def aO:List D->Bool
 |[]=>true
 |d::ds=>aG d && aO ds
end
mutual
noncomputable def a8:D->Nat
 |.tup ds=>aT ds+1
 |.lst ds=>aT ds+1
 |.ai=>0
 |.bl _=>0
 |.int _=>0
 |.str _=>0
 |.ref _=>0
 |.ty _=>0
 |.ak _ _=>0
noncomputable def aT:List D->Nat
 |[]=>0
 |d::ds=>max (a8 d) (aT ds)
end
inductive Sh (G:Gx) (F:Fz) (s:Shared):D->Value->Prop
 |ai:Sh G F s .ai .none
 |bl {b}:Sh G F s (.bl b) (.bool b)
 |int {i t}:Sh G F s (.int i) (.int i t)
 |str {x t}:Sh G F s (.str x) (.str x t)
 |tup {ds us a} (h:s.heap.IsTuple a us.toArray) (r:af G F ds us) (k:aO ds=true):Sh G F s (.tup ds) (.ref a)
 |lst {ds us a} (h:s.heap.IsList a us.toArray) (r:af G F ds us) (k:aO ds=true):Sh G F s (.lst ds) (.ref a)
section
variable {G:Gx}{F:Fz}{M:Mp}{s:Shared}{A:Around}
theorem eD (ok:aE G F M s.heap) {d:D}{u:Value} (r:ab G F d u) (h:aG d=true):Sh G F s d u:=by
 cases d with
 |ai=>rw[ab]at r;subst r;exact .ai
 |bl b=>rw[ab]at r;subst r;exact .bl
 |int i=>rw[ab]at r;obtain⟨t,rfl⟩:=r;exact .int
 |str i=>rw[ab]at r;obtain⟨t,rfl⟩:=r;exact .str
 |tup ds=>rw[ab]at r;obtain⟨a,o,us,rfl,h1,h2,h3⟩:=r;rw[aG]at h;exact .tup ⟨o,ok.fz a _ h1,h2.cls,h2.data⟩ h3 h
 |lst ds=>rw[ab]at r;obtain⟨a,n,us,rfl,h1,h2,h3⟩:=r;rw[aG]at h;exact .lst ⟨_,ok.fz a _ h1,rfl,n,rfl⟩ h3 h
 |ref a=>rw[aG]at h;cases h
 |ty n=>rw[aG]at h;cases h
 |ak ks ds=>rw[aG]at h;cases h
theorem jC:∀{ds:List D}{i:Nat}{d:D},aO ds=true->ds[i]?=some d->aG d=true/\a8 d<=aT ds
 |[],i,d,_,h=>by simp at h
 |c::ds,0,d,k,h=>by rw[aO,Xy]at k;cases h;exact⟨k.1,by rw[aT];exact YU _ _⟩
 |c::ds,i+1,d,k,h=>by
  rw[aO,Xy]at k;obtain⟨h1,h2⟩:=jC (i:=i) (d:=d) k.2 h;exact⟨h1,by rw[aT];exact Xz h2 (YC _ _)⟩
theorem iA:∀(ds es:List D),bD ds es=((YD (min ds.length es.length)).all (λj=>((ds[j]?).bind λd=>(es[j]?).map (aC d)).getD false) && (ds.length == es.length))
 |[],[]=>rfl
 |[],e::es=>by rw[bD];rfl
 |d::ds,[]=>by rw[bD];rfl
 |d::ds,e::es=>by
  rw[bD];show (aC d e && bD ds es)=_;rw[iA ds es,XG,XG,Nat.succ_min_succ,List.range_succ_eq_map,List.all_cons,List.all_map];simp only[List.getElem?_cons_zero,Option.bind_some,Option.map_some,Option.getD_some,Bool.and_assoc]
  congr 1
  congr 1
  rw[YT];simp
mutual
theorem wz:∀(d:D) {e:D}{u:Value},ab G F d u->ab G F e u->aG d=true->aG e=true->d=e
 |.ai,e,u,r,r',k,k'=>by
  rw[ab]at r;subst r;cases e <;> first |rfl |(rw[ab]at r';first |(obtain⟨_,_,_,q,_⟩:=r';cases q;done) |(obtain⟨_,q⟩:=r';cases q;done) |(cases r';done))
 |.bl b,e,u,r,r',k,k'=>by
  rw[ab]at r;subst r;cases e <;> (rw[ab]at r';first |(obtain⟨_,_,_,q,_⟩:=r';cases q;done) |(obtain⟨_,q⟩:=r';cases q;done) |(cases r';done) |(cases r';rfl))
 |.int b,e,u,r,r',k,k'=>by
  rw[ab]at r;obtain⟨t,rfl⟩:=r;cases e <;> (rw[ab]at r';first |(obtain⟨_,_,_,q,_⟩:=r';cases q;done) |(obtain⟨_,q⟩:=r';cases q;done) |(cases r';done) |(obtain⟨_,q⟩:=r';cases q;rfl))
 |.str b,e,u,r,r',k,k'=>by
  rw[ab]at r;obtain⟨t,rfl⟩:=r;cases e <;> (rw[ab]at r';first |(obtain⟨_,_,_,q,_⟩:=r';cases q;done) |(obtain⟨_,q⟩:=r';cases q;done) |(cases r';done) |(obtain⟨_,q⟩:=r';cases q;rfl))
 |.tup ds,e,u,r,r',k,k'=>by
  rw[ab]at r;obtain⟨a,o,us,rfl,h1,h2,h3⟩:=r;cases e with
  |tup es=>
   rw[ab]at r';obtain⟨b,o',vs,q,g1,g2,g3⟩:=r';cases q;rw[h1]at g1;cases g1;obtain⟨n,e1⟩:=h2.data;obtain⟨n',e2⟩:=g2.data;rw[e1]at e2;injection e2 with e3 _;cases (show us=vs by simpa using congrArg Array.toList e3);rw[aG]at k k';rw[nJ ds h3 g3 k k']
  |lst es=>
   rw[ab]at r';obtain⟨b,o',vs,q,g1,g2,g3⟩:=r';cases q;rw[h1]at g1;cases g1;have:=h2.cls;injection this with this;exact absurd this (by decide)
  |ref b=>rw[aG]at k';cases k'
  |ak _ _=>rw[aG]at k';cases k'
  |ty _=>rw[aG]at k';cases k'
  |ai=>rw[ab]at r';cases r'
  |bl _=>rw[ab]at r';cases r'
  |int _=>rw[ab]at r';obtain⟨_,q⟩:=r';cases q
  |str _=>rw[ab]at r';obtain⟨_,q⟩:=r';cases q
 |.lst ds,e,u,r,r',k,k'=>by
  rw[ab]at r;obtain⟨a,n,us,rfl,h1,h2,h3⟩:=r;cases e with
  |lst es=>
   rw[ab]at r';obtain⟨b,n',vs,q,g1,g2,g3⟩:=r';cases q;rw[h1]at g1;have e3:bK us n=bK vs n':=Fo.dat.inj (Yg g1);unfold bK at e3;injection e3 with _ _ e3 _;injection e3 with e3 _;cases (show us=vs by simpa using congrArg Array.toList e3);rw[aG]at k k';rw[nJ ds h3 g3 k k']
  |tup es=>
   rw[ab]at r';obtain⟨b,o',vs,q,g1,g2,g3⟩:=r';cases q;rw[h1]at g1;cases g1;have:=g2.cls;injection this with this;exact absurd this (by decide)
  |ref b=>rw[aG]at k';cases k'
  |ak _ _=>rw[aG]at k';cases k'
  |ty _=>rw[aG]at k';cases k'
  |ai=>rw[ab]at r';cases r'
  |bl _=>rw[ab]at r';cases r'
  |int _=>rw[ab]at r';obtain⟨_,q⟩:=r';cases q
  |str _=>rw[ab]at r';obtain⟨_,q⟩:=r';cases q
 |.ref _,_,_,_,_,k,_=>by rw[aG]at k;cases k
 |.ty _,_,_,_,_,k,_=>by rw[aG]at k;cases k
 |.ak _ _,_,_,_,_,k,_=>by rw[aG]at k;cases k
theorem nJ:∀(ds:List D) {es:List D}{us:List Value},af G F ds us->af G F es us->aO ds=true->aO es=true->ds=es
 |[],es,us,r,r',_,_=>by
  rw[af]at r;subst r;cases es with
  |nil=>rfl
  |cons e es=>rw[af]at r';obtain⟨_,_,q,_⟩:=r';cases q
 |d::ds,es,us,r,r',k,k'=>by
  rw[af]at r;obtain⟨u,us,rfl,r1,r2⟩:=r;cases es with
  |nil=>rw[af]at r';cases r'
  |cons e es=>
   rw[af]at r';obtain⟨_,_,q,g1,g2⟩:=r';cases q;rw[aO,Xy]at k k';rw[wz d r1 g1 k.1 k'.1,nJ ds r2 g2 k.2 k'.2]
end
mutual
theorem gH:∀(d:D),aG d=true->aC d d=true
 |.ai,_=>by rw[aC];rfl
 |.bl b,_=>by rw[aC];simp [oI]
 |.int b,_=>by rw[aC];simp [oI]
 |.str b,_=>by rw[aC];simp [k8]
 |.tup ds,k=>by rw[aG]at k;rw[aC];exact nK ds k
 |.lst ds,k=>by rw[aG]at k;rw[aC];exact nK ds k
 |.ref _,k=>by rw[aG]at k;cases k
 |.ty _,k=>by rw[aG]at k;cases k
 |.ak _ _,k=>by rw[aG]at k;cases k
theorem nK:∀(ds:List D),aO ds=true->bD ds ds=true
 |[],_=>rfl
 |d::ds,k=>by rw[aO,Xy]at k;rw[bD,Xy];exact⟨gH d k.1,nK ds k.2⟩
end
theorem wA (ds:List D) {es:List D}{us:List Value} (r:af G F ds us) (r':af G F es us) (k:aO ds=true) (k':aO es=true):bD ds es=true:=by
 cases nJ ds r r' k k';exact nK ds k
end
end N
end
section
set_option maxHeartbeats 1000000
namespace N
open PySem PySem.Spec PyProof.Rows L2
noncomputable abbrev k9 (ds es:List D) (j:Nat):Bool:=((ds[j]?).bind λd=>(es[j]?).map (aC d)).getD false
section
variable {G:Gx}{F:Fz}{M:Mp}{s:Shared}{A:Around}
theorem wB.inj {h:Heap}{a:Addr}{us vs:List Value} (x:h.IsList a us.toArray\/h.IsTuple a us.toArray) (y:h.IsList a vs.toArray\/h.IsTuple a vs.toArray):us=vs:=by
 have g:∀{ws:List Value},(h.IsList a ws.toArray\/h.IsTuple a ws.toArray)->∃o n,h.get? a=some o/\o.data=.seq ws.toArray n:=λq=>by
  rcases q with ⟨o,e,_,n,d⟩ |⟨o,e,_,n,d⟩ <;> exact⟨o,n,e,d⟩
 obtain⟨o,n,e,d⟩:=g x;obtain⟨o',n',e',d'⟩:=g y;rw[e]at e';cases e';rw[d]at d';injection d' with d' _;simpa using congrArg Array.toList d'
theorem lg:∀(n:Nat) {A:Around}{d e:D}{u v:Value},aE G F M s.heap->Sh G F s d u->Sh G F s e v->a8 d<=n->A.units+n<cLine->SeqAt.EqAt A s u v (aC d e):=by
 intro n
 induction n with
 |zero=>
  intro A d e u v ok hd he hn hu;have ac:A.units<cLine:=hu;cases hd with
  |tup h r k=>rw[a8]at hn;cases hn
  |lst h r k=>rw[a8]at hn;cases hn
  |ai=>cases he with
   |ai=>exact SeqAt.EqAt.same _
   |bl=>exact SeqAt.EqAt.none_bool _
   |int=>exact SeqAt.EqAt.none_int _ _
   |str=>exact SeqAt.EqAt.none_str _ _
   |tup h r k=>exact SeqAt.EqAt.none_tuple h ac
   |lst h r k=>exact SeqAt.EqAt.none_list h ac
  |@bl a=>cases he with
   |ai=>exact SeqAt.EqAt.bool_none _
   |@bl b=>rw[show aC (.bl a) (.bl b)=(a == b) by rw[aC];cases a <;> cases b <;> rfl];exact SeqAt.EqAt.bool_bool _ _
   |@int b t=>rw[show aC (.bl a) (.int b)=((if a then 1 else 0) == b) by rw[aC,YT];simp [oI];exact eq_comm];exact SeqAt.EqAt.bool_int _ _ _
   |str=>exact SeqAt.EqAt.bool_str _ _ _
   |tup h r k=>exact SeqAt.EqAt.bool_tuple _ h ac
   |lst h r k=>exact SeqAt.EqAt.bool_list _ h ac
  |@int a t=>cases he with
   |ai=>exact SeqAt.EqAt.int_none _ _
   |@bl b=>rw[show aC (.int a) (.bl b)=(a == (if b then 1 else 0)) by rw[aC,YT];simp [oI];exact eq_comm];exact SeqAt.EqAt.int_bool _ _ _
   |@int b t'=>rw[show aC (.int a) (.int b)=(a == b) by rw[aC,YT];simp [oI];exact eq_comm];exact SeqAt.EqAt.int_int _ _ _ _
   |str=>exact SeqAt.EqAt.int_str _ _ _ _
   |tup h r k=>exact SeqAt.EqAt.int_tuple _ _ h ac
   |lst h r k=>exact SeqAt.EqAt.int_list _ _ h ac
  |@str a t=>cases he with
   |ai=>exact SeqAt.EqAt.str_none _ _
   |bl=>exact SeqAt.EqAt.str_bool _ _ _
   |int=>exact SeqAt.EqAt.str_int _ _ _ _
   |@str b t'=>rw[show aC (.str a) (.str b)=(a == b) by rw[aC,YT];simp [k8];exact eq_comm];exact SeqAt.EqAt.str_str _ _ _ _
   |tup h r k=>exact SeqAt.EqAt.str_tuple _ _ h ac
   |lst h r k=>exact SeqAt.EqAt.str_list _ _ h ac
 |succ n ih=>
  intro A d e u v ok hd he hn hu;have iB:a8 d<=n->SeqAt.EqAt A s u v (aC d e):=λh=>ih ok hd he h (Nat.lt_of_succ_lt hu);have ac:A.units<cLine:=XC (XX _ _) hu;have items:∀{ds es:List D}{us vs:List Value},af G F ds us->af G F es vs->aO ds=true->aO es=true->aT ds<=n->∀j (h1:j<us.toArray.size) (h2:j<vs.toArray.size),SeqAt.EqAt A.in1 s us.toArray[j] vs.toArray[j] (k9 ds es j):=λ{ds es us vs} r1 r2 k1 k2 hd j h1 h2=>by
   have g1:j<ds.length:=(by rw[r1.len];simpa using h1);have g2:j<es.length:=(by rw[r2.len];simpa using h2);obtain⟨u,e1,q1⟩:=d5 r1 (Xx g1);obtain⟨v,e2,q2⟩:=d5 r2 (Xx g2);have m1:=jC k1 (Xx g1);have m2:=jC k2 (Xx g2);rw[(Array.getElem?_eq_some_iff.mp e1).2,(Array.getElem?_eq_some_iff.mp e2).2];unfold k9;rw[Xx g1,Xx g2];exact ih ok (eD ok q1 m1.1) (eD ok q2 m2.1) (Xz m1.2 hd) (by show A.units+1+n<cLine;lia)
  cases hd with
  |ai=>exact iB (XS _)
  |bl=>exact iB (XS _)
  |int=>exact iB (XS _)
  |str=>exact iB (XS _)
  |@tup ds us a h r k=>
   rw[a8]at hn;cases he with
   |ai=>exact SeqAt.EqAt.tuple_none h ac
   |bl=>exact SeqAt.EqAt.tuple_bool _ h ac
   |int=>exact SeqAt.EqAt.tuple_int _ _ h ac
   |str=>exact SeqAt.EqAt.tuple_str _ _ h ac
   |lst h' r' k'=>exact SeqAt.EqAt.tuple_list h h' ac
   |@tup es vs b h' r' k'=>
    have e:aC (.tup ds) (.tup es)=bD ds es:=(by rw[aC];rfl);rw[e];by_cases iC:a=b
    ·subst iC;cases wB.inj (.inr h) (.inr h');rw[wA ds r r' k k'];exact SeqAt.EqAt.same _
    ·have q:=SeqAt.RcAt.tuples (A:=A) h h' ac (items r r' k k' (Zi hn));rw[Xv,Xv,<- r.len,<- r'.len,<- iA]at q;exact SeqAt.EqAt.of_refs iC q
  |@lst ds us a h r k=>
   rw[a8]at hn;cases he with
   |ai=>exact SeqAt.EqAt.list_none h ac
   |bl=>exact SeqAt.EqAt.list_bool _ h ac
   |int=>exact SeqAt.EqAt.list_int _ _ h ac
   |str=>exact SeqAt.EqAt.list_str _ _ h ac
   |tup h' r' k'=>exact SeqAt.EqAt.list_tuple h h' ac
   |@lst es vs b h' r' k'=>
    have e:aC (.lst ds) (.lst es)=bD ds es:=(by rw[aC];rfl);rw[e];by_cases iC:a=b
    ·subst iC;cases wB.inj (.inl h) (.inl h');rw[wA ds r r' k k'];exact SeqAt.EqAt.same _
    ·refine SeqAt.EqAt.of_refs iC ?_;have l1:=r.len;have l2:=r'.len;by_cases hl:ds.length=es.length
     ·have q:=SeqAt.RcAt.lists (A:=A) h h' (by rw[Xv,Xv,<- l1,<- l2,hl]) ac (items r r' k k' (Zi hn));rw[Xv,<- l1]at q;rw[iA,<- hl,Nat.min_self,beq_self_eq_true,Bool.and_true];exact q
     ·rw[iA,beq_false_of_ne hl,Bool.and_false];exact SeqAt.RcAt.lists_lengths h h' (by rw[Xv,Xv,<- l1,<- l2];simpa using hl) ac
theorem EN {ds es:List D}{us vs:List Value}{n:Nat} (ok:aE G F M s.heap) (r1:af G F ds us) (r2:af G F es vs) (k1:aO ds=true) (k2:aO es=true) (hd:aT ds<=n) (hu:A.units+n<cLine) (j:Nat) (h1:j<us.toArray.size) (h2:j<vs.toArray.size):SeqAt.EqAt A s us.toArray[j] vs.toArray[j] (k9 ds es j):=by
 have g1:j<ds.length:=by rw[r1.len];simpa using h1
 have g2:j<es.length:=by rw[r2.len];simpa using h2
 obtain⟨u,e1,q1⟩:=d5 r1 (Xx g1);obtain⟨v,e2,q2⟩:=d5 r2 (Xx g2);have m1:=jC k1 (Xx g1);have m2:=jC k2 (Xx g2);rw[(Array.getElem?_eq_some_iff.mp e1).2,(Array.getElem?_eq_some_iff.mp e2).2];unfold k9;rw[Xx g1,Xx g2];exact lg n ok (eD ok q1 m1.1) (eD ok q2 m2.1) (Xz m1.2 hd) hu
theorem EO {n:Nat}{d e:D}{u v:Value} (ok:aE G F M s.heap) (hd:Sh G F s d u) (he:Sh G F s e v) (hn:a8 d<=n+1) (hu:A.units+1+n<cLine):SeqAt.RcAt A s u v (aC d e)/\SeqAt.RcNeAt A s u v (!aC d e):=by
  have ac:A.units<cLine:=by lia
  have items:∀{ds es:List D}{us vs:List Value},af G F ds us->af G F es vs->aO ds=true->aO es=true->aT ds<=n->∀j (h1:j<us.toArray.size) (h2:j<vs.toArray.size),SeqAt.EqAt A.in1 s us.toArray[j] vs.toArray[j] (k9 ds es j):=λr1 r2 k1 k2 hd=>EN ok r1 r2 k1 k2 hd hu;cases hd with
  |ai=>cases he with
   |ai=>exact⟨SeqAt.RcAt.none_none,SeqAt.RcNeAt.none_none⟩
   |bl=>exact⟨SeqAt.RcAt.none_bool _,SeqAt.RcNeAt.none_bool _⟩
   |int=>exact⟨SeqAt.RcAt.none_int _ _,SeqAt.RcNeAt.none_int _ _⟩
   |str=>exact⟨SeqAt.RcAt.none_str _ _,SeqAt.RcNeAt.none_str _ _⟩
   |tup h r k=>exact⟨SeqAt.RcAt.none_tuple h ac,SeqAt.RcNeAt.none_tuple h ac⟩
   |lst h r k=>exact⟨SeqAt.RcAt.none_list h ac,SeqAt.RcNeAt.none_list h ac⟩
  |@bl a=>cases he with
   |ai=>exact⟨SeqAt.RcAt.bool_none _,SeqAt.RcNeAt.bool_none _⟩
   |@bl b=>rw[show aC (.bl a) (.bl b)=(a == b) by rw[aC];cases a <;> cases b <;> rfl];exact⟨SeqAt.RcAt.bool_bool _ _,SeqAt.RcNeAt.bool_bool _ _⟩
   |@int b t'=>rw[show aC (.bl a) (.int b)=((if a then 1 else 0) == b) by rw[aC,YT];simp [oI];exact eq_comm];exact⟨SeqAt.RcAt.bool_int _ _ _,SeqAt.RcNeAt.bool_int _ _ _⟩
   |str=>exact⟨SeqAt.RcAt.bool_str _ _ _,SeqAt.RcNeAt.bool_str _ _ _⟩
   |tup h r k=>exact⟨SeqAt.RcAt.bool_tuple _ h ac,SeqAt.RcNeAt.bool_tuple _ h ac⟩
   |lst h r k=>exact⟨SeqAt.RcAt.bool_list _ h ac,SeqAt.RcNeAt.bool_list _ h ac⟩
  |@int a t=>cases he with
   |ai=>exact⟨SeqAt.RcAt.int_none _ _,SeqAt.RcNeAt.int_none _ _⟩
   |@bl b=>rw[show aC (.int a) (.bl b)=(a == (if b then 1 else 0)) by rw[aC,YT];simp [oI];exact eq_comm];exact⟨SeqAt.RcAt.int_bool _ _ _,SeqAt.RcNeAt.int_bool _ _ _⟩
   |@int b t'=>rw[show aC (.int a) (.int b)=(a == b) by rw[aC,YT];simp [oI];exact eq_comm];exact⟨SeqAt.RcAt.int_int _ _ _ _,SeqAt.RcNeAt.int_int _ _ _ _⟩
   |str=>exact⟨SeqAt.RcAt.int_str _ _ _ _,SeqAt.RcNeAt.int_str _ _ _ _⟩
   |tup h r k=>exact⟨SeqAt.RcAt.int_tuple _ _ h ac,SeqAt.RcNeAt.int_tuple _ _ h ac⟩
   |lst h r k=>exact⟨SeqAt.RcAt.int_list _ _ h ac,SeqAt.RcNeAt.int_list _ _ h ac⟩
  |@str a t=>cases he with
   |ai=>exact⟨SeqAt.RcAt.str_none _ _,SeqAt.RcNeAt.str_none _ _⟩
   |bl=>exact⟨SeqAt.RcAt.str_bool _ _ _,SeqAt.RcNeAt.str_bool _ _ _⟩
   |int=>exact⟨SeqAt.RcAt.str_int _ _ _ _,SeqAt.RcNeAt.str_int _ _ _ _⟩
   |@str b t'=>rw[show aC (.str a) (.str b)=(a == b) by rw[aC,YT];simp [k8];exact eq_comm];exact⟨SeqAt.RcAt.str_str _ _ _ _,SeqAt.RcNeAt.str_str _ _ _ _⟩
   |tup h r k=>exact⟨SeqAt.RcAt.str_tuple _ _ h ac,SeqAt.RcNeAt.str_tuple _ _ h ac⟩
   |lst h r k=>exact⟨SeqAt.RcAt.str_list _ _ h ac,SeqAt.RcNeAt.str_list _ _ h ac⟩
  |@tup ds us a h r k=>
   rw[a8]at hn;cases he with
   |ai=>exact⟨SeqAt.RcAt.tuple_none h ac,SeqAt.RcNeAt.tuple_none h ac⟩
   |bl=>exact⟨SeqAt.RcAt.tuple_bool _ h ac,SeqAt.RcNeAt.tuple_bool _ h ac⟩
   |int=>exact⟨SeqAt.RcAt.tuple_int _ _ h ac,SeqAt.RcNeAt.tuple_int _ _ h ac⟩
   |str=>exact⟨SeqAt.RcAt.tuple_str _ _ h ac,SeqAt.RcNeAt.tuple_str _ _ h ac⟩
   |lst h' r' k'=>exact⟨SeqAt.RcAt.tuple_list h h' ac,SeqAt.RcNeAt.tuple_list h h' ac⟩
   |@tup es vs b h' r' k'=>
    have q1:=SeqAt.RcAt.tuples (A:=A) h h' ac (items r r' k k' (Zi hn));have q2:=SeqAt.RcNeAt.tuples (A:=A) h h' ac (items r r' k k' (Zi hn));rw[Xv,Xv,<- r.len,<- r'.len,<- iA]at q1 q2;rw[show aC (.tup ds) (.tup es)=bD ds es by rw[aC];rfl];exact⟨q1,q2⟩
  |@lst ds us a h r k=>
   rw[a8]at hn;cases he with
   |ai=>exact⟨SeqAt.RcAt.list_none h ac,SeqAt.RcNeAt.list_none h ac⟩
   |bl=>exact⟨SeqAt.RcAt.list_bool _ h ac,SeqAt.RcNeAt.list_bool _ h ac⟩
   |int=>exact⟨SeqAt.RcAt.list_int _ _ h ac,SeqAt.RcNeAt.list_int _ _ h ac⟩
   |str=>exact⟨SeqAt.RcAt.list_str _ _ h ac,SeqAt.RcNeAt.list_str _ _ h ac⟩
   |tup h' r' k'=>exact⟨SeqAt.RcAt.list_tuple h h' ac,SeqAt.RcNeAt.list_tuple h h' ac⟩
   |@lst es vs b h' r' k'=>
    have l1:=r.len;have l2:=r'.len;rw[show aC (.lst ds) (.lst es)=bD ds es by rw[aC];rfl];by_cases hl:ds.length=es.length
    ·have hz:us.toArray.size=vs.toArray.size:=(by rw[Xv,Xv,<- l1,<- l2,hl]);have q1:=SeqAt.RcAt.lists (A:=A) h h' hz ac (items r r' k k' (Zi hn));have q2:=SeqAt.RcNeAt.lists (A:=A) h h' hz ac (items r r' k k' (Zi hn));rw[Xv,<- l1]at q1 q2;rw[iA,<- hl,Nat.min_self,beq_self_eq_true,Bool.and_true];exact⟨q1,q2⟩
    ·have hz:(us.toArray.size != vs.toArray.size)=true:=(by rw[Xv,Xv,<- l1,<- l2];simpa using hl);rw[iA,beq_false_of_ne hl,Bool.and_false];exact⟨SeqAt.RcAt.lists_lengths h h' hz ac,SeqAt.RcNeAt.lists_lengths h h' hz ac⟩
end
end N
end
section
namespace L2
open PySem PySem.Spec PyProof.Rows
theorem wC (prog:Program) (w:World) (i:Int) (t:Tok):(bo prog w).is (.inl i) (.int i t)=true:=Dj i t
theorem wD (prog:Program) (w:World) (x:Str) (t:Tok):(bo prog w).is (.inr x) (.str x t)=true:=pZ x t
end L2
namespace L2
open PySem PySem.Spec PyProof.Rows
section
variable {X:Cx}{a b c:Expr}{ta tb tc:TE}{pos:Pos}
def wF (i j:Int):Prop:=0<=j/\j<=1000000/\i.natAbs<2 ^ 64
def qx (i j:Int):Prop:=(-(2 ^ 64)<i/\i<2 ^ 64)\/(-(2 ^ 64)<j/\j<2 ^ 64)
theorem qx.ok {i j:Int} (h:qx i j):IntMulOk i j:=by
 rcases h with ⟨h1,h2⟩ |⟨h1,h2⟩
 ·exact .of_left (intBits_le_64 h1 h2)
 ·exact .of_right (intBits_le_64 h1 h2)
theorem EP (k:Nat):(0:Int)<=2 ^ k:=by
 rw[two_pow_cast];exact Int.natCast_nonneg _
end
section
variable {X:Cx}{a b c:Expr}{ta tb tc:TE}{pos:Pos}
theorem nL:(sizeLine:Nat)<2 ^ 63:=by rw[ZQ];decide
end
end L2
namespace HT
open PySem PyProof.Rows
section
variable {prog:Program}{w:World}{A:Around}{E:Value->Shared->Prop}{s:Shared}
theorem ER {t b:Addr}{vs ws:List Value}{Q:Value->Shared->Prop} (ht:IsTup s.heap t vs.toArray) (hb:IsTup s.heap b ws.toArray) (hv:vs≠[])
  (h1:ws=[]->Q (.ref t) s) (h2:ws≠[]->Q (.ref s.heap.objs.size) { s with heap:=s.heap.push { cls:=.type "tuple",data:=.seq (vs++ws).toArray } })
  (hsz:vs.length+ws.length<=sizeLine):wpAny (model prog w) A (binaryOp .Add (.ref t) (.ref b)) Q E s:=by
 obtain⟨⟨cls,dd,data,sl⟩,ho,hc,n,hd⟩:=id ht;obtain⟨⟨wv,iE,ww,lh⟩,ho2,fm,n2,gl⟩:=id hb;simp only at hc hd fm gl;subst hc hd fm gl;have e:vs.toArray++ws.toArray=(vs++ws).toArray:=by simp
 by_cases hw:ws=[]
 ·exact concat_meets ⟨_,ho,rfl⟩ ⟨_,ho2,rfl⟩ noFill_tuple_add seq_tuple_add PySem.F.slot_tuple_add PySem.F.entry_tuple_add (PySem.F.args_tuple_add_2 _ _)
   (tuple_addW1 t b vs.toArray ws.toArray n n2 dd iE sl lh (by simpa using hv) (by simp [hw])) ⟨ho,ho2,h1 hw⟩
 ·refine concat_meets ⟨_,ho,rfl⟩ ⟨_,ho2,rfl⟩ noFill_tuple_add seq_tuple_add PySem.F.slot_tuple_add PySem.F.entry_tuple_add (PySem.F.args_tuple_add_2 _ _)
   (tuple_addW2 t b vs.toArray ws.toArray n n2 dd iE sl lh (by simpa using hv) (by simpa using hw) (by rw[Xv,Xv];exact hsz)) ⟨ho,ho2,?_⟩
  rw[e];exact h2 hw
end
end HT
namespace L2
open PySem PySem.Spec PyProof.Rows
noncomputable def fo (n:Nat) (i:Int):Option Nat:=if 0<=i then (if i<n then some i.toNat else none) else if -(n:Int)<=i then some (i+n).toNat else none
noncomputable def cG {α:Type} (xs:List α) (i:Int):Option α:=(fo xs.length i).bind λj=>xs[j]?
theorem wG {n:Nat}{i:Int}{j:Nat} (h:fo n i=some j):seqIndex? i n=some j/\j<n/\-(n:Int)<=i/\i<n:=by
 unfold fo at h;by_cases h0:0<=i
 ·rw[if_pos h0]at h;by_cases h1:i<n
  ·rw[if_pos h1]at h;have e:i.toNat=j:=Yg h;exact⟨by rw[seqIndex_of h0 h1,e],by lia,by lia,h1⟩
  ·rw[if_neg h1]at h;cases h
 ·rw[if_neg h0]at h;by_cases h1:-(n:Int)<=i
  ·rw[if_pos h1]at h;have e:(i+n).toNat=j:=Yg h;exact⟨by rw[seqIndex_neg (by lia) h1,e],by lia,h1,by lia⟩
  ·rw[if_neg h1]at h;cases h
theorem qy {α:Type} {xs:List α}{i:Int}{v:α} (h:cG xs i=some v):∃j,seqIndex? i xs.length=some j/\xs[j]?=some v/\j<xs.length/\-(xs.length:Int)<=i/\i<xs.length:=by
 unfold cG at h;cases e:fo xs.length i with
 |none=>rw[e]at h;cases h
 |some j=>
  rw[e]at h;obtain⟨h1,h2,h3,h4⟩:=wG e;exact⟨j,h1,h,h2,h3,h4⟩
section
variable {X:Cx}{a b:Expr}{ta tb:TE}{pos:Pos}
theorem wH (its:List Value) (n j:Nat) (u:Value):Yd (·.setIfInBounds j u) { cls:=.type "list",data:=.seq its.toArray n }={ cls:=.type "list",data:=.seq (its.set j u).toArray n }:=by
 simp [Yd]
variable {o e:Expr}{es:List Expr}{to:TE}{t:TA}{name:Str}{cr cpos:Pos}{T id:String}{r:V->List V->Hp->VK->Prop}
end
end L2
namespace L2
open PySem PySem.Spec PyProof.Rows
end L2
namespace L2
open PySem PySem.Spec PyProof.Rows
def ES (i j:Int):Prop:=i.natAbs<2 ^ 600/\j.natAbs<2 ^ 600
theorem wI {a:Int} (h:a.natAbs<2 ^ 600):Builtin.Int.intBits a<=2 ^ 20:=by
 unfold Builtin.Int.intBits;split
 ·exact XS _
 ·rename_i z;have hz:a.natAbs≠0:=by first |exact λe=>z (by simpa using e) |(intro e;apply z;lia)
  have:=(Nat.log2_lt hz).mpr h;lia
end L2
namespace L2
open PySem PySem.Spec PyProof.Rows
theorem wJ (its:List Value):∀ (k:Nat) (al:List Value),
  List.foldl (λx1 x2=>x1++x2) al.toArray (Yw k its.toArray)=(al++(Yw k its).flatten).toArray
 | 0,al=>by simp
 |k+1,al=>by
  have e:al.toArray++its.toArray=(al++its).toArray:=by simp
  have e2:(al++its)++(Yw k its).flatten=al++(Yw (k+1) its).flatten:=by
   rw[ZW,List.flatten_cons,Yb]
  rw[<- e2,<- wJ its k (al++its),<- e,ZW,List.foldl_cons]
section
variable {X:Cx}{aR:List (Addr×Obj)} {σ:St} {H:Hp}{s:Shared}{l b:Addr}{xs ys zs:List V}
theorem qz {n:Nat} (h:n<=sizeLine):Y0 n=false:=by
 unfold Y0;exact decide_eq_false (by lia)
end
section
variable {X:Cx}
theorem ET {α:Type} (xs:List α) (k:Nat):(Yw k xs).flatten.length=k * xs.length:=by
 induction k with
 |zero=>simp
 |succ k ih=>rw[ZW,List.flatten_cons,XI,ih,Nat.succ_mul,Nat.add_comm]
end
end L2
namespace L2
open PySem PySem.Spec PyProof.Rows
end L2
namespace HT
open PySem PyProof.Rows
section
variable {prog:Program}{w:World}{A:Around}{E:Value->Shared->Prop}{s:Shared}
noncomputable def aA (n d:Nat):Option Int->Nat
 |none=>d
 |some v=>if v<0 then (v+(n:Int)).toNat else min v.toNat n
theorem EU (n d:Nat):aA n d none=d:=rfl
theorem EV (n d k:Nat):aA n d (some (k:Int))=min k n:=by
 show (if (k:Int)<0 then ((k:Int)+(n:Int)).toNat else min (k:Int).toNat n)=min k n
 rw[if_neg (by lia),Zd]
theorem EW (n d:Nat) (hd:d<=n) (o:Option Int):aA n d o<=n:=by
 cases o with
 |none=>exact hd
 |some v=>
  show (if v<0 then (v+(n:Int)).toNat else min v.toNat n)<=n
  by_cases hv:v<0
  ·rw[if_pos hv];lia
  ·rw[if_neg hv];exact Nat.min_le_right _ _
theorem wK (v:Int) (n d:Nat):(if v<0 then max (v+(n:Int)) 0 else min v (n:Int))=((aA n d (some v):Nat):Int):=by
 show (if v<0 then max (v+(n:Int)) 0 else min v (n:Int))=(((if v<0 then (v+(n:Int)).toNat else min v.toNat n):Nat):Int)
 by_cases hv:v<0
 ·simp only[if_pos hv];lia
 ·simp only[if_neg hv];lia
theorem EX (lo hi:Option Int) (n:Nat):Builtin.Slice.sliceAdjust lo hi 1 (n:Int)=(((aA n 0 lo:Nat):Int),((aA n n hi:Nat):Int)):=by
 have h1:¬((1:Int)<0):=by lia
 unfold Builtin.Slice.sliceAdjust;simp only[h1,if_false];refine Prod.ext ?_ ?_
 ·cases lo with
  |none=>rfl
  |some v=>exact wK v n 0
 ·cases hi with
  |none=>rfl
  |some v=>exact wK v n n
theorem EY (i j:Nat):YJ (i:Int) (j:Int) 1=j-i:=by
 unfold YJ;have h1:(1:Int) > 0:=by lia
 simp only[h1,if_true,Int.ediv_one];split <;> lia
theorem wL {v:Value}{o:Option Int}{Q:Option Int->Shared->Prop} (p:IsPart v o) (h:Q o s):wpAny (model prog w) A (Builtin.Slice.slicePartIndex v) Q E s:=by
 cases p with
 |none=>exact slicePart_none h
 |int i t=>exact slicePart_int h
theorem wM {sl:Addr}{vl vu:Value}{lo hi:Option Int}{n:Nat}{Q:Int×Int×Nat->Shared->Prop} (hs:s.heap.IsSliceOf sl vl vu .none) (pl:IsPart vl lo) (pu:IsPart vu hi)
  (h:Q (((aA n 0 lo:Nat):Int),1,aA n n hi-aA n 0 lo) s):wpAny (model prog w) A (Zy (.ref sl) (pure (n:Int))) Q E s:=by
 obtain⟨os,cT,gI,em⟩:=id hs;unfold Zy Builtin.Slice.sliceFields;refine Xp (Xp (Yr cT em (x:=vl) rfl (Xp (Yr cT em (x:=vu) rfl (Xp (Yr cT em (x:=.none) rfl (Xs ?_)))))));refine Xp (slicePart_none ?_);show wpAny _ _ (if ((1:Int) == 0)=true then _ else _) _ _ s
 rw[if_neg (by decide)];refine Xp (wL pl (Xp (wL pu (Xp (Xs ?_)))));show wpAny _ _ (match Builtin.Slice.sliceAdjust lo hi 1 (n:Int) with |(lo,hi)=>pure (lo,(1:Int),YJ lo hi 1)) _ _ s
 rw[EX lo hi n];show wpAny _ _ (pure (((aA n 0 lo:Nat):Int),(1:Int),YJ ((aA n 0 lo:Nat):Int) ((aA n n hi:Nat):Int) 1)) _ _ s;rw[EY];exact Xs h
theorem EZ (xs:Array Value) (i k:Nat):((YD k).filterMap λ(m:Nat)=>xs[((i:Int)+(m:Int) * 1).toNat]?).toArray=((xs.toList.drop i).take k).toArray:=by
 have e:(λ(m:Nat)=>xs[((i:Int)+(m:Int) * 1).toNat]?)=λm=>xs[i+m]?:=by
  funext m;have:((i:Int)+(m:Int) * 1).toNat=i+m:=by lia
  rw[this]
 rw[e];have:=pick_run xs i k;rw[List.filterMap_map]at this;have e2:((λx=>xs[x]?) ∘ λx=>i+x)=λm=>xs[i+m]?:=rfl;rw[e2]at this;rw[this]
theorem E0 {t sl:Addr}{items:Array Value}{vl vu:Value}{lo hi:Option Int}{Q:Value->Shared->Prop} (ht:IsTup s.heap t items) (hs:s.heap.IsSliceOf sl vl vu .none) (pl:IsPart vl lo) (pu:IsPart vu hi)
  (hw:¬(aA items.size 0 lo=0/\aA items.size items.size hi=items.size))
  (h:Q (.ref s.heap.objs.size) { s with heap:=s.heap.push { cls:=.type "tuple",data:=.seq ((items.toList.drop (aA items.size 0 lo)).take (aA items.size items.size hi-aA items.size 0 lo)).toArray } })
  (hsz:items.size<=sizeLine):wpAny (model prog w) A (getItem (.ref t) (.ref sl)) Q E s:=by
 have fY:sizeOk (.seq ((items.toList.drop (aA items.size 0 lo)).take (aA items.size items.size hi-aA items.size 0 lo)).toArray):=by
  show ((items.toList.drop (aA items.size 0 lo)).take (aA items.size items.size hi-aA items.size 0 lo)).toArray.size<=sizeLine;rw[Xv,List.length_take,List.length_drop,XT];lia
 have hj:aA items.size items.size hi<=items.size:=EW _ _ (Xu _) hi;obtain⟨os,cT,gI,em⟩:=id hs;have lj:s.TypeIs (.ref sl) "slice":=⟨os,cT,gI⟩;unfold getItem
 try with_reducible refine Yq ?_
 first |refine Xp (Xs ?_) |skip
 refine Xp (wpAny_sequenceKey ht.typeIs (by decide) ?_);refine Xp (XY (name:=YX "__getitem__") ht.typeIs YH
  (X5 YH ht.typeIs entry_tuple_getitem ?_ (args_tuple_getitem _ _)))
 show wpAny _ _ (Builtin.Tuple.tupleItemsOf (.ref t) >>= _) _ _ s;refine Xp (tupleItemsOf_ ht ?_);refine Xp (wpAny_typeOf lj ?_);rw[if_pos (by decide)];refine Xp (wM hs pl pu ?_);have EQ:¬((((aA items.size 0 lo:Nat):Int) == 0 && (1:Int) == 1 && (aA items.size items.size hi-aA items.size 0 lo) == items.size)=true):=by
  intro q;rw[Xy,Xy]at q;have q1:((aA items.size 0 lo:Nat):Int)=0:=eq_of_beq q.1.1;have q2:aA items.size items.size hi-aA items.size 0 lo=items.size:=eq_of_beq q.2;exact hw ⟨by lia,by lia⟩
 show wpAny _ _ (if (((aA items.size 0 lo:Nat):Int) == 0 && (1:Int) == 1 && (aA items.size items.size hi-aA items.size 0 lo) == items.size)=true then _ else _) _ _ s
 rw[if_neg EQ,EZ]
 first
  |exact Xp (m:=Yz _) (Yi (Xs ⟨_,rfl,Xs h⟩) fY)
  |exact Xp (m:=Yz _) (Yi (Xp (Xs (Xs ⟨_,rfl,Xs h⟩))) fY)
  |exact Xp (Xp (m:=Yz _) (Yi (Xs (Xs ⟨_,rfl,Xs h⟩)) fY))
  |exact Xp (Xp (m:=Yz _) (Yi (Xs ⟨_,rfl,Xs h⟩) fY))
end
end HT
namespace L2
open PySem PySem.Spec PyProof.Rows
section
variable {X:Cx}{a b:Expr}{ta tb:TE}{pos:Pos}
theorem E1 (lo hi:Option Int) (n:Nat):(sliceBounds lo hi none n).1=((HT.aA n 0 lo:Nat):Int)/\(sliceBounds lo hi none n).2.1=((HT.aA n n hi:Nat):Int)/\(sliceBounds lo hi none n).2.2=1:=by
 refine⟨?_,?_,rfl⟩
 ·cases lo with
  |none=>simp [sliceBounds,HT.aA]
  |some i=>
   simp only[sliceBounds,HT.aA,Option.getD_none,show (1:Int) > 0 by decide,if_true];by_cases h:i<0
   ·simp only[h,if_true] <;> lia
   ·simp only[h,if_false] <;> lia
 ·cases hi with
  |none=>simp [sliceBounds,HT.aA]
  |some i=>
   simp only[sliceBounds,HT.aA,Option.getD_none,show (1:Int) > 0 by decide,if_true];by_cases h:i<0
   ·simp only[h,if_true] <;> lia
   ·simp only[h,if_false] <;> lia
theorem E2 (its:List Value) (lo hi:Option Int):slicePick its.toArray lo hi none=((its.drop (HT.aA its.length 0 lo)).take (HT.aA its.length its.length hi-HT.aA its.length 0 lo)).toArray:=by
 obtain⟨h1,h2,h3⟩:=E1 lo hi its.toArray.size;unfold slicePick;rw[h1,h2,h3];simp only[sliceRange_one,pick_run,Xv] <;> rfl
variable {o e:Expr}{es:List Expr}{to:TE}{t:TA}{name:Str}{cr cpos:Pos}{T id:String}{r:V->List V->Hp->VK->Prop}
end
end L2
namespace L2
open PySem PySem.Spec PyProof.Rows
end L2
namespace L2
open PySem PySem.Spec PyProof.Rows
theorem eE {α:Type} {t:Sem α}{Q Q':α->Shared->Prop}{M:Model}{A:Around}{E:Value->Shared->Prop}{s:Shared} (h:wpAny M A t Q E s) (hQ:∀a s,Q a s->Q' a s):wpAny M A t Q' E s:=Zv h hQ λ_ _ x=>x
end L2
namespace L2
open PySem PySem.Spec PyProof.Rows
end L2
namespace L2
open PySem PySem.Spec PyProof.Rows
section
variable {prog:Program}{w:World}{A:Around}{E:Value->Shared->Prop}{s:Shared}
theorem E3 {t sl:Addr}{items:Array Value}{vl vu:Value}{lo hi:Option Int}{Q:Value->Shared->Prop} (ht:IsTup s.heap t items) (hs:s.heap.IsSliceOf sl vl vu .none) (pl:IsPart vl lo) (pu:IsPart vu hi)
  (hw:HT.aA items.size 0 lo=0/\HT.aA items.size items.size hi=items.size) (h:Q (.ref t) s):wpAny (model prog w) A (getItem (.ref t) (.ref sl)) Q E s:=by
 obtain⟨os,cT,gI,em⟩:=id hs;have lj:s.TypeIs (.ref sl) "slice":=⟨os,cT,gI⟩;unfold getItem
 try with_reducible refine Yq ?_
 first |refine Xp (Xs ?_) |skip
 refine Xp (wpAny_sequenceKey ht.typeIs (by decide) ?_);refine Xp (XY (name:=YX "__getitem__") ht.typeIs YH
  (X5 YH ht.typeIs entry_tuple_getitem ?_ (args_tuple_getitem _ _)))
 show wpAny _ _ (Builtin.Tuple.tupleItemsOf (.ref t) >>= _) _ _ s;refine Xp (tupleItemsOf_ ht ?_);refine Xp (wpAny_typeOf lj ?_);rw[if_pos (by decide)];refine Xp (HT.wM hs pl pu ?_);have E4:(((HT.aA items.size 0 lo:Nat):Int) == 0 && (1:Int) == 1 && (HT.aA items.size items.size hi-HT.aA items.size 0 lo) == items.size)=true:=by
  rw[hw.1,hw.2];simp
 show wpAny _ _ (if (((HT.aA items.size 0 lo:Nat):Int) == 0 && (1:Int) == 1 && (HT.aA items.size items.size hi-HT.aA items.size 0 lo) == items.size)=true then _ else _) _ _ s
 rw[if_pos E4];obtain⟨o,ho,hc,n,hd⟩:=id ht;have ex:wpAny (model prog w) A.in1 (Builtin.Tuple.tupleIsExact (.ref t)) (λb s'=>b=true/\s'=s) E s:=by
  unfold Builtin.Tuple.tupleIsExact
  first
   |exact Xp (wpAny_typeOf ⟨o,ho,hc⟩ (Xs ⟨by rfl,rfl⟩))
   |exact Xp (wpAny_load ho (Xs ⟨by rw[hc];rfl,rfl⟩))
 refine Xp (eE ex λb s' hb=>?_);obtain⟨rfl,rfl⟩:=hb;rw[if_pos rfl];exact Xp (ZU (Xs ⟨_,rfl,Xs h⟩))
end
end L2
namespace L2
open PySem
end L2
namespace L2
open PySem PySem.Spec PyProof.Rows
structure bx (k:Nat) (A:Around):Prop where
 hd:A.handled=none
 T3:A.depth+3 * k+5<recursionLimit
 un:A.units+16 * k+200<cLine
theorem bx.mono {j k:Nat}{A:Around} (r:bx k A) (h:j<=k):bx j A:=⟨r.hd,by have:=r.T3;lia,by have:=r.un;lia⟩
theorem bx.deeper {k:Nat}{A:Around} (r:bx (k+1) A) (env:Env):bx k (A.deeper env):=
 ⟨r.hd,by have:=r.T3;show A.depth+1+3 * k+5<_;lia,by have:=r.un;show A.units+3+16 * k+200<_;lia⟩
theorem E5 {A:Around}{C:Addr}{us:List Value}{kw:List (Str×Value)}:(A.under (.builtin "type.__call__" ⟨.ref C::us,kw⟩)).depth=A.depth+1:=by
 first |rfl |simp [Around.under,Code.weight,Code.isCreation,Code.isGuard,Code.isCaller,Code.frames,Code.isFrame,SY]
theorem E6 {A:Around}{C:Addr}{us:List Value}{kw:List (Str×Value)}:(A.under (.builtin "type.__call__" ⟨.ref C::us,kw⟩)).units=A.units+1:=by
 first |rfl |simp [Around.under,Code.cUnits,Code.frames,Code.isFrame]
theorem bx.qA {k:Nat}{A:Around} (r:bx (k+1) A) (C:Addr) (us:List Value) (kw:List (Str×Value)):bx k (A.under (.builtin "type.__call__" ⟨.ref C::us,kw⟩)):=
 ⟨r.hd,by have:=r.T3;rw[E5];lia,by have:=r.un;rw[E6];lia⟩
theorem bx.depth {k:Nat}{A:Around} (r:bx k A):A.depth<recursionLimit:=by have:=r.T3;lia
def bE (K:PySem.W.Frag) (fd:FuncData) (ps:List Str) (ds:List Value):Prop:=
 ∀(s:Shared) (us:List Value),K.In s.heap->(us++ds).length=ps.length->BindsTo s fd ⟨us,[]⟩ (ps.zip (us++ds))
theorem bE.all {K:PySem.W.Frag}{fd:FuncData}{ps:List Str} (h:∀us:List Value,us.length=ps.length->bindArgs fd ⟨us,[]⟩=pure (ps.zip us)):bE K fd ps []:=λs us _ hl=>by
 rw[XO]at hl ⊢;exact .of_eq (h us hl)
structure aB (N P:List Str) (sc:Scope):Prop where
 kind:sc.kind=.function
 UM:sc.isCoroutine=false
 jD:sc.isGenerator=false
 nd:N.Nodup
 pre:N.take P.length=P
 wN:∀x∈P,sc.names.lookup x=some .local\/sc.names.lookup x=some .cell
 E7:∀y∈sc.names,y.2≠.free
theorem wQ {kindOf:Str->Option NameKind}{x:Str}:∀{iF:List (Str×Value)}{m:Str->Option Value},(∀v,(x,v) ∉ iF)->bindL kindOf iF m x=m x
 |[],_,_=>rfl
 |(n,v)::r,m,h=>by
  unfold bindL;rw[wQ λw hw=>h w (XB _ hw)];split
  ·have:x≠n:=(by rintro rfl;exact h v XA);simp [this]
  ·rfl
theorem wR {kindOf:Str->Option NameKind}{x:Str}:∀{iF:List (Str×Value)}{m:Str->Option Value},(∀v,(x,v) ∉ iF)->bindC kindOf iF m x=m x
 |[],_,_=>rfl
 |(n,v)::r,m,h=>by
  unfold bindC;rw[wR λw hw=>h w (XB _ hw)];split
  ·rfl
  ·have:x≠n:=(by rintro rfl;exact h v XA);simp [this]
theorem wU {kindOf:Str->Option NameKind}{x:Str}{v:Value}:∀ {P:List Str}{vs:List Value}{i:Nat}{m:Str->Option Value},P.Nodup->P[i]?=some x->vs[i]?=some v->kindOf x=some .local ->
  bindL kindOf (P.zip vs) m x=some v
 |[],_,_,_,_,h,_,_=>by simp at h
 |_::_,[],_,_,_,_,h,_=>by simp at h
 |p::P,w::vs,0,m,nd,h1,h2,hk=>by
  simp at h1 h2;subst h1;subst h2;show bindL kindOf ((p,w)::P.zip vs) m p=_;unfold bindL;rw[wQ λv hv=>(List.nodup_cons.mp nd).1 (Zf hv).1,if_pos hk];simp
 |p::P,w::vs,i+1,m,nd,h1,h2,hk=>by
  show bindL kindOf ((p,w)::P.zip vs) m x=_;unfold bindL;exact wU (i:=i) (List.nodup_cons.mp nd).2 (by simpa using h1) (by simpa using h2) hk
theorem wV {kindOf:Str->Option NameKind}{x:Str}{v:Value}:∀ {P:List Str}{vs:List Value}{i:Nat}{m:Str->Option Value},P.Nodup->P[i]?=some x->vs[i]?=some v->kindOf x≠some .local ->
  bindC kindOf (P.zip vs) m x=some v
 |[],_,_,_,_,h,_,_=>by simp at h
 |_::_,[],_,_,_,_,h,_=>by simp at h
 |p::P,w::vs,0,m,nd,h1,h2,hk=>by
  simp at h1 h2;subst h1;subst h2;show bindC kindOf ((p,w)::P.zip vs) m p=_;unfold bindC;rw[wR λv hv=>(List.nodup_cons.mp nd).1 (Zf hv).1,if_neg hk];simp
 |p::P,w::vs,i+1,m,nd,h1,h2,hk=>by
  show bindC kindOf ((p,w)::P.zip vs) m x=_;unfold bindC;exact wV (i:=i) (List.nodup_cons.mp nd).2 (by simpa using h1) (by simpa using h2) hk
theorem wW {sc:Scope}{n:Nat}{x:Str} (h:sc.names.lookup x=some .cell):∃c,(cellsFrom n sc.names []).lookup x=some c:=by
 have q:=PySem.W.cellsFrom_some sc.names n [] (.inl h);exact Option.isSome_iff_exists.mp q
end L2
namespace L2
open PySem PySem.Spec PyProof.Rows
end L2
namespace L2
open PySem PySem.Spec PyProof.Rows
structure iG (h:Heap) (x dx C:Addr) (mA:Str->Option Value):Prop where
 obj:h.get? x=some (PySem.W.instObj C dx)
 ns:h.Ns1 dx mA
 ne:dx≠x
theorem E8 {h:Heap}{dx:Addr}{mA:Str->Option Value} (n:h.Ns1 dx mA):∃od,h.get? dx=some od/\∀name,PySem.W.lookIn name od=some (mA name):=by
 obtain⟨o,es,ep,ho,hd,hk,_,hm⟩:=n;refine⟨o,ho,λname=>?_⟩;have e:=hm name;unfold nsFind findBy at e;rw[<- Array.find?_toList]at e;unfold PySem.W.lookIn;rw[hd];dsimp only;split
 ·rename_i y q;rw[q]at e;exact congrArg some e
 ·rename_i q;rw[q]at e;have a:es.toList.any (·.refKey)=false:=by
   rw[List.any_eq_false];intro y hy;obtain⟨z,t,nM⟩:=hk y (Array.mem_toList_iff.mp hy);simp [DictEntry.refKey,nM]
  have Ug:¬es.toList.any (·.refKey)=true:=by rw[a];exact Yl
  rw[if_neg Ug];exact congrArg some e
theorem iG.qB {h:Heap}{x dx C:Addr}{mA:Str->Option Value} (I:iG h x dx C mA):∃od,PySem.W.InstAt h x (PySem.W.instObj C dx) C (some od)/\∀name,PySem.W.lookIn name od=some (mA name):=
 let ⟨od,ho,hl⟩:=E8 I.ns
 ⟨od,⟨I.obj,rfl,rfl,ho⟩,hl⟩
section
variable {prog:Program}{w:World}{A:Around}{E:Value->Shared->Prop}{s:Shared}{K:PySem.W.Frag}{x dx C f:Addr}{mA:Str->Option Value}{name:Str}{v:Value}
theorem E9 {Fa:Bool}{Q:Value->Shared->Prop} (X:K.In s.heap) (I:iG s.heap x dx C mA) (hg:PySem.W.plainGet K C name=true) (hh:PySem.W.hasDictIn K C=true)
  (ha:PySem.W.findIn K (.ref C) name=some none) (hv:mA name=some v) (iH:PySem.W.handedIn v=true) (h:Q v { s with toks:=s.toks+1 }) :
  wpAny (model prog w) A (getAttr (.ref x) name Fa) Q E s:=by
 obtain⟨od,J,hl⟩:=I.qB;exact PySem.W.get_value X J (PySem.W.plainGet_of hg).1 (PySem.W.findObj_own hh ha rfl (by rw[hl,hv])) iH h
theorem Fb {pl:Sem Bool}{Q:Value×List Value->Shared->Prop} (X:K.In s.heap) (I:iG s.heap x dx C mA) (hg:PySem.W.plainGet K C name=true)
  (hf:PySem.W.findIn K (.ref C) name=some (some (.ref f))) (ht:PySem.W.isFn K (.ref f)=true) (hv:mA name=none) (h:Q (.ref f,[.ref x]) s) :
  wpAny (model prog w) A (getMethod (.ref x) name pl) Q E s:=by
 obtain⟨od,J,hl⟩:=I.qB;exact PySem.W.method_fn X J (PySem.W.plainGet_of hg).1 (PySem.W.plainGet_of hg).2 hf (beq_iff_eq.mp ht) (by show (PySem.W.lookIn name od).map (·.isSome)=some false;rw[hl,hv];rfl) h
theorem Fc {ns:List Str}{Q:Unit->Shared->Prop} (X:K.In s.heap) (I:iG s.heap x dx C mA)
  (hs:PySem.W.findIn K (.ref C) "__setattr__"=some (some (.builtin "object.__setattr__"))) (hp:PySem.W.plainOver K C=true) (ht:PySem.W.takerIn K C name=some none) (hh:PySem.W.hasDictIn K C=true)
  (hw:PySem.Within mA ns) (hsz:ns.length<=sizeLine)
  (h:∀h',iG h' x dx C (λy=>if y=name then some v else mA y)->Zb dx s.heap h'->Q () { s with heap:=h',toks:=s.toks+2 }) :
  wpAny (model prog w) A (setAttr (.ref x) name v) Q E s:=by
 obtain⟨od,J,hl⟩:=I.qB;refine PySem.W.set_plain X J hs (PySem.W.osa_open (s:={ s with toks:=s.toks+1 }) (r:=none) X J hp ht λb=>?_);obtain⟨cd,hc,kO⟩:=PySem.W.any_some hh;have hx:s.heap.get? x=some ⟨.ref C,some dx,.plain,#[]⟩:=I.obj;refine Xp (Xs (Xp (Xp (wpAny_loadPart hx (Xp (PySem.W.Looks.here (s:={ s with toks:=s.toks+1 }) (PySem.W.looks_clsIn X hc) ?_))))));rw[kO];refine Xs (a:=some dx) (Xp (Xs (Xp ?_)));refine wpAny_nsSet1 (s:={ s with toks:=s.toks+1 }) I.ns λh' nN hs2=>?_;obtain⟨oD,S2,S3,Fd,Fe,Ff⟩:=nN.count (PySem.Within.cons name v hw);refine Xp (wpAny_lookBehind Fd (by rw[Fe];exact pastItsLine_dict (Xz Ff (by rw[XG];lia))) ?_);exact Xs (h _ ⟨(hs2.2 _ (YZ I.ne)).trans I.obj,nN,I.ne⟩ hs2)
theorem Fh {R:Result->Shared->Prop}{vs:List Value}{kw:List (Str×Value)} (X:K.In s.heap) (hm:PySem.W.makesIn K C=true)
  (hi:PySem.W.findIn K (.ref C) "__init__"=some (some (.ref f))) (hf:PySem.W.typeIn K (.ref f)=some (.type "function"))
  (h:codeAny (model prog w) (A.under (.builtin "type.__call__" ⟨.ref C::vs,kw⟩)) (.call (.ref f) ⟨.ref (s.heap.objs.size+1)::vs,kw⟩) (PySem.W.InitBack (s.heap.objs.size+1) R)
   { s with heap:=(s.heap.push PySem.W.emptyDict).push (PySem.W.instObj C s.heap.objs.size) }) :
  codeAny (model prog w) A (.call (.ref C) ⟨vs,kw⟩) R s:=by
 obtain⟨hh,g,d,t,os⟩:=s;exact PySem.W.make_core (PySem.W.makes_of X hm) (PySem.W.looks_findIn X hi) (λself=>PySem.W.bind_fn X self hf) (.inl rfl) h
end
structure cU (K:PySem.W.Frag) (C:Addr):Prop where
 V7:PySem.W.plainGet K C Str.empty=true
 hd:PySem.W.hasDictIn K C=true
 V8:PySem.W.plainOver K C=true
 sa:PySem.W.findIn K (.ref C) "__setattr__"=some (some (.builtin "object.__setattr__"))
theorem cU.get {K:PySem.W.Frag}{C:Addr} (c:cU K C) (f:Str):PySem.W.plainGet K C f=true:=c.V7
def d6 (K:PySem.W.Frag) (C:Addr) (f:Str):Prop:=PySem.W.findIn K (.ref C) f=some none
theorem d6.Fi {K:PySem.W.Frag}{C:Addr}{f:Str} (n:d6 K C f):PySem.W.takerIn K C f=some none:=by
 unfold PySem.W.takerIn;rw[show PySem.W.findIn K (.ref C) f=some none from n];rfl
structure jE (K:PySem.W.Frag) (C:Addr) (m:Str) (f:Addr):Prop where
 bL:PySem.W.findIn K (.ref C) m=some (some (.ref f))
 fn:PySem.W.isFn K (.ref f)=true
 kp:PySem.W.keepIn K (.ref f)=true
section
variable {X:Cx}{aR:List (Addr×Obj)} {σ:St} {H:Hp}{s:Shared}{a C dx:Addr}{fs:List (Str×V)}{f:Str}{v:V}{A:Around}{E:Value->Shared->Prop}
theorem Fj {prog:Program}{w:World}{env:Env}{e:Expr}{f:Str}{pos:Pos}{s:Shared}{Q:Value->Shared->Prop} (hb:attributeBase e f env (eval e env)=eval e env)
  (h:wpAny (model prog w) A (eval e env) (λo s₁=>wpAny (model prog w) A (getAttr o f true) Q E s₁) E s):wpAny (model prog w) A (eval (.Attribute e f pos) env) Q E s:=
 Attribute_any_ h (by rw[arm_eval_Attribute,hb])
end
end L2
namespace L2
open PySem PySem.Spec PyProof.Rows
section
variable {X:Cx}{WY:S4}{k:Nat}{f C:Addr}{fd:FuncData}{ps:List Str}{sp:Sp}{bc:List V}{ds:List Value}{E:XK}{x m:Str}{p pos cr:Pos}{e o:Expr}{es:List Expr}{ta:TE}{t:TA}
structure Mk (K:PySem.W.Frag) (C f:Addr):Prop where
 Fm:PySem.W.makesIn K C=true
 init:PySem.W.findIn K (.ref C) "__init__"=some (some (.ref f))
 fn:PySem.W.isFn K (.ref f)=true
 kp:PySem.W.keepIn K (.ref C)=true
end
end L2
namespace L2
open PySem PySem.Spec PyProof.Rows
end L2
namespace L2
open PySem PySem.Spec PyProof.Rows PySem.W
theorem Fs (xs:Array Value):((YD xs.size).filterMap λ(k:Nat)=>xs[(((xs.size:Int)-1)+(k:Int) * (-1)).toNat]?).toArray=xs.toList.reverse.toArray:=by
 congr 1
 have jD:∀(l:List Nat),(∀k∈l,k<xs.size)->l.filterMap (λ(k:Nat)=>xs[(((xs.size:Int)-1)+(k:Int) * (-1)).toNat]?)=l.map λk=>xs.toList.getD (xs.size-1-k) YB:=by
  intro l
  induction l with
  |nil=>intro _;rfl
  |cons k l ih=>
   intro h;have wE:k<xs.size:=h k XA;have e1:(((xs.size:Int)-1)+(k:Int) * (-1)).toNat=xs.size-1-k:=(by lia);have e2:xs[(((xs.size:Int)-1)+(k:Int) * (-1)).toNat]?=some (xs.toList.getD (xs.size-1-k) YB):=by
    rw[e1,XW,<- Y4,Xx (by rw[XT];lia)];rfl
   rw[Zt,e2,XD,ih λz hz=>h z (XB _ hz)]
 rw[jD _ λk hk=>List.mem_range.mp hk];apply List.ext_getElem?;intro i;by_cases hi:i<xs.size
 ·rw[XJ,List.getElem?_range hi,List.getElem?_reverse (by rw[XT];exact hi),XT];show some (xs.toList.getD (xs.size-1-i) YB)=_;rw[XW,Xx (by rw[XT];lia)];rfl
 ·rw[List.getElem?_eq_none (by simpa using hi),List.getElem?_eq_none (by simpa using hi)]
section
variable {prog:Program}{w:World}{A:Around}{E:Value->Shared->Prop}{s:Shared}
theorem Ft {t sl:Addr}{items:Array Value}{tk:Tok}{Q:Value->Shared->Prop} (ht:IsTup s.heap t items) (hs:s.heap.IsSliceOf sl .none .none (.int (-1) tk))
  (h:Q (.ref s.heap.objs.size) { s with heap:=s.heap.push { cls:=.type "tuple",data:=.seq items.toList.reverse.toArray } })
  (hsz:items.size<=sizeLine):wpAny (model prog w) A (getItem (.ref t) (.ref sl)) Q E s:=by
 have fY:sizeOk (.seq items.toList.reverse.toArray):=by
  show items.toList.reverse.toArray.size<=sizeLine;rw[Xv,Zs,XT];exact hsz
 obtain⟨os,cT,gI,em⟩:=id hs;have lj:s.TypeIs (.ref sl) "slice":=⟨os,cT,gI⟩;unfold getItem
 try with_reducible refine Yq ?_
 first |refine Xp (Xs ?_) |skip
 refine Xp (wpAny_sequenceKey ht.typeIs (by decide) ?_);refine Xp (XY (name:=YX "__getitem__") ht.typeIs YH
  (X5 YH ht.typeIs entry_tuple_getitem ?_ (args_tuple_getitem _ _)))
 show wpAny _ _ (Builtin.Tuple.tupleItemsOf (.ref t) >>= _) _ _ s;refine Xp (tupleItemsOf_ ht ?_);refine Xp (wpAny_typeOf lj ?_);rw[if_pos (by decide)];have V9:∀{Q:Int×Int×Nat->Shared->Prop}{E:Value->Shared->Prop}{A:Around},Q ((items.size:Int)-1,-1,items.size) s->wpAny (model prog w) A (Zy (.ref sl) (pure (items.size:Int))) Q E s:=by
  intro Q E A q;unfold Zy Builtin.Slice.sliceFields;refine Xp (Xp (Yr cT em (x:=.none) rfl (Xp (Yr cT em (x:=.none) rfl (Xp (Yr cT em (x:=.int (-1) tk) rfl (Xs ?_)))))));refine Xp (slicePart_int ?_);show wpAny _ _ (if ((-1:Int) == 0)=true then _ else _) _ _ s
  rw[if_neg (by decide)];refine Xp (slicePart_none (Xp (slicePart_none (Xp (Xs ?_)))));refine Xs ?_;have e:YJ ((items.size:Int)-1) (-1) (-1)=items.size:=by
   unfold YJ;rw[if_neg (by decide)];split
   ·have:((items.size:Int)-1 - -1-1) / (- -1)=(items.size:Int)-1:=(by rw[show (- -1:Int)=1 from rfl,Int.ediv_one];lia);lia
   ·lia
  show Q ((items.size:Int)-1,-1,YJ ((items.size:Int)-1) (-1) (-1)) s;rw[e];exact q
 refine Xp (V9 ?_);show wpAny _ _ (if (((items.size:Int)-1 == 0) && (-1:Int) == 1 && (items.size == items.size))=true then _ else _) _ _ s
 rw[if_neg (by simp),Fs]
 first
  |exact Xp (m:=Yz _) (Yi (Xs ⟨_,rfl,Xs h⟩) fY)
  |exact Xp (m:=Yz _) (Yi (Xp (Xs (Xs ⟨_,rfl,Xs h⟩))) fY)
  |exact Xp (Xp (m:=Yz _) (Yi (Xs (Xs ⟨_,rfl,Xs h⟩)) fY))
  |exact Xp (Xp (m:=Yz _) (Yi (Xs ⟨_,rfl,Xs h⟩) fY))
end
end L2
namespace L2
open PySem PySem.Spec PyProof.Rows
theorem Fu {α:Type} (l:List α):l.eraseIdx (l.length-1)=l.dropLast:=by
 induction l with
 |nil=>rfl
 |cons a r ih=>
  cases r with
  |nil=>rfl
  |cons b r=>
   have e:(a::b::r).length-1=((b::r).length-1)+1:=by
    have h1:(a::b::r).length=r.length+2:=rfl;have h2:(b::r).length=r.length+1:=rfl;lia
   rw[e,List.eraseIdx_cons_succ,ih]
   all_goals rfl
end L2
namespace L2
open PySem PySem.Spec PyProof.Rows
end L2
end
section
set_option maxHeartbeats 1000000
namespace N
open PySem PySem.Spec PyProof.Rows L2
def cw (d:D) (M:Mp) (k:List (Key×D)->Prop):Prop:=match d with
 |.ak ks ds=>k (ks.zip ds)
 |.ref a=>∃kvs,M a=some (.ak kvs)/\k kvs
 |_=>False
structure jF (G:Gx) (F:Fz) (h:Heap) (a:Addr) (kvs:List (Key×D)) (vs:List (Key×Value)):Prop where
 r:KV G F kvs vs
 d:h.DictOf (bo G.P G.w) a vs
 z:kvs.length<=sizeLine
 n:(a == sysModules)=false
theorem KV.zip {G:Gx}{F:Fz}:∀{ks:List Key}{ds:List D}{us:List Value},af G F ds us->KV G F (ks.zip ds) (ks.zip us)
 |[],ds,us,_=>by rw[List.zip_nil_left,List.zip_nil_left];exact .nil
 |k::ks,[],us,r=>by rw[af]at r;subst r;exact .nil
 |k::ks,d::ds,us,r=>by rw[af]at r;obtain⟨u,us,rfl,r1,r2⟩:=r;exact .cons ⟨rfl,r1⟩ (KV.zip r2)
section
variable {X:Cx} {τ:St} {z:Z}{d:D}{u:Value}{a:Addr}
theorem ae.iI (I:ae X τ z) {kvs:List (Key×D)} (h:z.M a=some (.ak kvs)):∃vs,jF X.G z.F z.s.heap a kvs vs:=by
 obtain⟨_,h1,h2,vs,r,dd⟩:=I.hok.ob a _ h;exact⟨vs,r,dd,h1,h2⟩
theorem ae.cw {k:List (Key×D)->Prop} (I:ae X τ z) (r:ab X.G z.F d u) (h:cw d z.M k):∃a kvs vs,u=.ref a/\jF X.G z.F z.s.heap a kvs vs/\k kvs:=by
 unfold N.cw at h;split at h
 ·rw[ab]at r;obtain⟨a,o,us,e,h1,h2,h4,h3⟩:=r;obtain⟨es,ep,g1,g2,g3⟩:=h2.bL;refine⟨a,_,_,e,⟨KV.zip h3,⟨o,es,ep,I.hok.fz a _ h1,h2.ex,g1,g2,g3,?_⟩,?_,h4⟩,h⟩
  ·rw[List.map_fst_zip (ZL h2.len.symm)];exact h2.nd
  ·rw[Zg];exact Xz (Nat.min_le_left _ _) h2.sz
 ·rw[ab]at r;obtain⟨kvs,h1,h2⟩:=h;obtain⟨vs,l⟩:=I.iI h1;exact⟨_,kvs,vs,r,l,h2⟩
 ·exact h.elim
end
def dO (d:D) (k:Key->Prop):Prop:=match d with
 |.int i=>k (.inl i)
 |.str x=>k (.inr x)
 |_=>False
noncomputable def aJ (kvs:List (Key×D)) (k:Key):Option D:=(kvs.find? λkv=>decide (kv.1=k)).map (·.2)
noncomputable def aY (kvs:List (Key×D)) (k:Key) (v:D):List (Key×D):=
 if (kvs.any λkv=>decide (kv.1=k))=true then kvs.map (λkv=>if kv.1=k then (kv.1,v) else kv) else kvs++[(k,v)]
theorem qC (kvs:List (Key×D)) (k:Key) (v:D):(aY kvs k v).length<=kvs.length+1:=by
 unfold aY;split
 ·rw[Xr];exact Y' _
 ·rw[XI];exact Xu _
theorem jG {G:Gx}{F:Fz}{P:Program}{w:World}{d:D}{k:Key->Prop}{u:Value} (h:dO d k) (r:ab G F d u):∃x,(bo P w).is x u=true/\k x:=by
 unfold dO at h;split at h
 ·rw[ab]at r;obtain⟨t,rfl⟩:=r;exact⟨_,wC P w _ t,h⟩
 ·rw[ab]at r;obtain⟨t,rfl⟩:=r;exact⟨_,wD P w _ t,h⟩
 ·exact h.elim
theorem KV.val {G:Gx}{F:Fz}{kvs:List (Key×D)}{vs:List (Key×Value)} (r:KV G F kvs vs) (k:Key):fP G F (aJ kvs k) (valueAt vs k):=by
 unfold KV at r
 induction r with
 |nil=>exact ZO
 |@cons p q ps qs h t ih=>
  by_cases e:p.1=k
  ·have e':q.1=k:=h.1.symm.trans e;rw[show valueAt (q::qs) k=some q.2 by simp [valueAt,Zr,e'],show aJ (p::ps) k=some p.2 by simp [aJ,Zr,e]];exact h.2
  ·have e':¬q.1=k:=λz=>e (h.1.trans z);rw[show valueAt (q::qs) k=valueAt qs k by simp [valueAt,Zr,e'],show aJ (p::ps) k=aJ ps k by simp [aJ,Zr,e]];exact ih
theorem fP.so {G:Gx}{F:Fz}{o:Option D}{u:Option Value} (r:fP G F o u):o.isSome=u.isSome:=by
 cases o <;> cases u <;> first |rfl |exact r.elim
theorem KV.put {G:Gx}{F:Fz}{kvs:List (Key×D)}{vs:List (Key×Value)} (r:KV G F kvs vs) (k:Key) {y:D}{u:Value} (Vt:ab G F y u):KV G F (aY kvs k y) (stored vs k u):=by
 have any:(kvs.any λkv=>decide (kv.1=k))=vs.any λkv=>decide (kv.1=k):=by
  unfold KV at r
  induction r with
  |nil=>rfl
  |cons h t ih=>rw[Y2,Y2,h.1,ih]
 unfold aY stored;rw[any];by_cases e:(vs.any λkv=>decide (kv.1=k))=true
 ·rw[if_pos e,if_pos e];clear e any;unfold KV at r ⊢
  induction r with
  |nil=>exact .nil
  |@cons p q ps qs h t ih=>
   refine .cons ?_ ih;dsimp only;by_cases e:p.1=k
   ·rw[if_pos e,if_pos (h.1.symm.trans e)];exact⟨h.1,Vt⟩
   ·rw[if_neg e,if_neg λz=>e (h.1.trans z)];exact h
 ·rw[if_neg e,if_neg e];exact Paired.snoc r ⟨rfl,Vt⟩
def sI (C:Int->Int->Prop) (f:Int->Int->Int):Q2:=λx y M Q=>b3 x λi=>b3 y λj=>C i j/\Q (.int (f i j)) M
def qE (f:Int->Int->Int):Q2:=λx y M Q=>b3 x λi=>b3 y λj=>Q (.int (f i j)) M
def CM (i j:Int):Prop:=qx i j\/ES i j
noncomputable def nP (a:Addr):Option MO->D
 |some (.lst ds)=>.lst ds
 |_=>.ref a
noncomputable def cf (d:D) (M:Mp):D:=match d with
 |.ref a=>nP a (M a)
 |d=>d
def qF:Q2:=λx y M Q=>match x,y with
 |.int i,.int j=>Q (.int (i+j)) M
 |.str a,.str b=>a.length+b.length<=sizeLine/\Q (.str (a++b)) M
 |.tup a,.tup b=>a.length+b.length<=sizeLine/\Q (.tup (a++b)) M
 |x,y=>aV x M λa=>aV y M λb=>a.length+b.length<=sizeLine/\bR (a++b) M Q
def qG:Q2:=λx y M Q=>match x with
 |.int i=>b3 y λj=>CM i j/\Q (.int (i * j)) M
 |x=>aV x M λds=>b3 y λk=>-(2 ^ 63)<=k/\k<2 ^ 63/\ds.length * k.toNat<=sizeLine/\bR (Yw k.toNat ds).flatten M Q
def wX:Operator->Q2
 |.Add=>qF
 |.Sub=>qE λi j=>i-j
 |.Mult=>qG
 |.FloorDiv=>sI (λ_ j=>0<j/\j<2 ^ 200) λi j=>i / j
 |.Mod=>sI (λ_ j=>0<j) λi j=>i % j
 |.Pow=>sI wF λi j=>i ^ j.toNat
 |.LShift=>sI wF λi j=>i * 2 ^ j.toNat
 |.RShift=>sI (λ_ j=>0<=j) λi j=>i / 2 ^ j.toNat
 |.BitAnd=>qE λi j=>Builtin.bitAnd i j
 |_=>λ_ _ _ _=>False
section
variable {X:Cx}
theorem lq {f:Value->Value->Sem Value}{C:Int->Int->Prop}{g:Int->Int->Int} (rule:∀(i j:Int) (t u:Tok) (s:Shared) (Q E:Value->Shared->Prop),C i j->Q (.int (g i j) s.toks) { s with toks:=s.toks+1 }->wpAny (model X.G.P X.G.w) X.A (f (.int i t) (.int j u)) Q E s):O2 X f (sI C g):=fun τ z Q R d e v u I r1 r2 q k=>by
 obtain⟨i,t,rfl,q⟩:=cS q r1;obtain⟨j,t',rfl,hc,q⟩:=cS q r2;exact rule i j t t' z.s _ _ hc (I.fin k Le.rfl b5 q _)
theorem wY {f:Value->Value->Sem Value}{g:Int->Int->Int} (rule:∀(i j:Int) (t u:Tok) (s:Shared) (Q E:Value->Shared->Prop),Q (.int (g i j) s.toks) { s with toks:=s.toks+1 }->wpAny (model X.G.P X.G.w) X.A (f (.int i t) (.int j u)) Q E s):O2 X f (qE g):=fun τ z Q R d e v u I r1 r2 q k=>by
 obtain⟨i,t,rfl,q⟩:=cS q r1;obtain⟨j,t',rfl,q⟩:=cS q r2;exact rule i j t t' z.s _ _ (I.fin k Le.rfl b5 q _)
theorem af.app {G:Gx}{F:Fz}:∀{ds es:List D}{us vs:List Value},af G F ds us->af G F es vs->af G F (ds++es) (us++vs)
 |[],es,us,vs,r,r'=>by rw[af]at r;subst r;exact r'
 |d::ds,es,us,vs,r,r'=>by rw[af]at r;obtain⟨u,us,rfl,r1,r2⟩:=r;exact .cons r1 (af.app r2 r')
theorem af.nl {G:Gx}{F:Fz}{ds:List D}{us:List Value} (r:af G F ds us):us=[] ↔ ds=[]:=by
 rw[<- List.length_eq_zero_iff,<- List.length_eq_zero_iff,r.len]
theorem Fv:O2 X (binaryOp .Add) qF:=fun τ z Q R d e v u I r1 r2 q k=>by
 have lst:∀{d e:D},ab X.G z.F d v->ab X.G z.F e u->(aV d z.M λa=>aV e z.M λb=>a.length+b.length<=sizeLine/\bR (a++b) z.M Q)->W X (binaryOp .Add v u) R z.s:=λr1 r2 q=>by
  obtain⟨a,ds,us,n,rfl,l,q⟩:=I.aV r1 q;obtain⟨b,es,vs,n',rfl,l',hz,q⟩:=I.aV r2 q;have hz':us.length+vs.length<=sizeLine:=by rw[<- l.r.len,<- l'.r.len];exact hz
  refine PySem.P.add_list l.e l'.e ?_ (by rw[Xv,Xv];exact hz');rw[show us.toArray++vs.toArray=(us++vs).toArray by simp];exact I.lst (t:=z.s.toks) (n:=0) k Le.rfl (l.r.app l'.r) (λb o e=>Xq _ e) (Xu _) (Xw _ rfl) (by rw[XI];exact hz') q
 unfold qF at q;split at q
 ·rw[ab]at r1 r2;obtain⟨t,rfl⟩:=r1;obtain⟨t',rfl⟩:=r2;exact add_int (I.fin k Le.rfl b5 q _)
 ·rw[ab]at r1 r2;obtain⟨t,rfl⟩:=r1;obtain⟨t',rfl⟩:=r2;exact add_str (λt' tk=>I.fin k Le.rfl gD q.2 _) q.1
 ·obtain⟨a,us,o,rfl,l⟩:=I.cR r1;obtain⟨b,vs,o',rfl,l'⟩:=I.cR r2;rename_i ds es;have hz:us.length+vs.length<=sizeLine:=by rw[<- l.r.len,<- l'.r.len];exact q.1
  by_cases hx:us=[]
  ·cases l.r.nl.mp hx;subst hx;obtain⟨⟨cls,dd,data,sl⟩,ho,hc,n,hd⟩:=id l.p;obtain⟨⟨wv,iE,ww,lh⟩,ho2,fm,n2,gl⟩:=id l'.p;simp only at hc hd fm gl;subst hc hd fm gl;exact concat_meets ⟨_,ho,rfl⟩ ⟨_,ho2,rfl⟩ noFill_tuple_add seq_tuple_add PySem.F.slot_tuple_add PySem.F.entry_tuple_add (PySem.F.args_tuple_add_2 _ _)
    (tuple_addW0 a b _ vs.toArray n n2 dd iE sl lh (by simp)) ⟨ho,ho2,k (.tup es) z _ Le.rfl I r2 q.2⟩
  ·refine HT.ER l.p l'.p hx (λe=>?_) (λe=>?_) hz
   ·rw[l'.r.nl.mp e,XO]at q;exact k (.tup ds) z _ Le.rfl I r1 q.2
   ·exact I.tup (t:=z.s.toks) k Le.rfl (l.r.app l'.r) (λb o e=>Xq _ e) (Xu _) (Xw _ rfl) ⟨rfl,rfl,⟨_,rfl⟩,by rw[XI];exact hz⟩ q.2
 ·exact lst r1 r2 q
end
end N
end
section
namespace L2
open PySem PySem.Spec PyProof.Rows PySem.W
section
variable {X:Cx}
section
open PySem.AutoSeq1 (wpAny_loadPart')
open PySem.MeetsSeq PySem.MeetsSeq2 PySem.MeetsSeq3 PySem.SeqAt
theorem Fw (l b:Addr) (xs ys:Array Value) (n m:Nat) (dd:Option Addr) (sl:Array (Option Value)) (WZ:¬(!xs.isEmpty && Y0 (xs.size+ys.size))=true) (c1:xs.size<=sizeLine) (c2:xs.size+ys.size<=sizeLine+1) :
  Meets (Builtin.«list.extend» ⟨[.ref l,.ref b],[]⟩) (λ_ R s=>s.heap.get? l=some (seqObj "list" xs n)/\s.heap.get? b=some { cls:=.type "tuple",dict:=dd,data:=.seq ys m,slots:=sl }/\R (.ok (.ret .none)) { s with heap:=s.heap.update l (Yd (·++ys)),toks:=s.toks }):=
 .of_wp λprog w A R s ⟨h1,h2,h3⟩=>by
  obtain⟨hp,g,d,tk,os⟩:=s;have f1:=AutoSeq1.idx_int;have f2:=AutoSeq1.sub_tuple_tuple;have f3:=AutoSeq1.sub_list_list;have f4:=AutoSeq1.sub_tuple_list;have f5:=AutoSeq1.sub_list_tuple;have c3:(xs++ys).size<=sizeLine+1:=by rw[Array.size_append];exact c2
  wp_walk using (wpAny_updateSeq h1 rfl (hz:=c1) (_hz':=c3)),XN h1,XN h2
  exact⟨_,rfl,h3⟩
end
end
end L2
namespace L2
open PySem PySem.Spec PyProof.Rows
theorem qH {env:Env}:∀ (names:List (Str×NameKind)) (al:List (Str×Addr)),(∀ y∈names,y.2=.free->∃ c,env.cells.lookup y.1=some c) ->
  (∀x c,al.lookup x=some c->env.cells.lookup x=some c) ->
  ∃cl,(forIn names al (λy cs=>if (y.2 == Zj)=true then (cellOf env y.1 >>= λc=>pure (Zn ((y.1,c)::cs))) else pure (Zn cs)):Sem (List (Str×Addr)))=pure cl /\
   (∀x c,cl.lookup x=some c->env.cells.lookup x=some c)/\(∀y∈names,y.2=.free->∃c,cl.lookup y.1=some c)/\∀x c,al.lookup x=some c->∃c',cl.lookup x=some c'
 |[],al,_,ha=>⟨al,rfl,ha,λy hy=>(nomatch hy),λx c h=>⟨c,h⟩⟩
 |(n,k)::r,al,h,ha=>by
  by_cases hk:k=.free
  ·subst hk;obtain⟨c,hc⟩:=h (n,.free) XA rfl;have Fk:∀ x c',((n,c)::al).lookup x=some c'->env.cells.lookup x=some c':=λx c' q=>by
    rw[Yy]at q;cases e:x == n with
    |true=>
     rw[e]at q;cases q;rw[eq_of_beq e];exact hc
    |false=>
     rw[e]at q;exact ha x c' q
   obtain⟨cl,e1,e2,e3,e4⟩:=qH r ((n,c)::al) (λy hy=>h y (XB _ hy)) Fk;refine⟨cl,?_,e2,λy hy hf=>?_,λx c' q=>?_⟩
   ·rw[List.forIn_cons];have Ui:cellOf env n=pure c:=(by unfold cellOf;rw[hc]);simp only[beq_self_eq_true,if_true,Ui,pure_bind];exact e1
   ·rcases List.mem_cons.mp hy with rfl |hy
    ·exact e4 n c (by simp)
    ·exact e3 y hy hf
   ·cases e:x == n with
    |true=>exact e4 x c (by rw[Yy,e])
    |false=>exact e4 x c' (by rw[Yy,e];exact q)
  ·obtain⟨cl,e1,e2,e3,e4⟩:=qH r al (λy hy=>h y (XB _ hy)) ha;refine⟨cl,?_,e2,λy hy hf=>?_,e4⟩
   ·rw[List.forIn_cons];have hb:(k == Zj)=false:=(by simpa using hk);simp only[hb,ZD,if_false,pure_bind];exact e1
   ·rcases List.mem_cons.mp hy with rfl |hy
    ·exact absurd hf hk
    ·exact e3 y hy hf
theorem wZ {scope:Scope}{env:Env} (h:∀ y∈scope.names,y.2=.free->∃ c,env.cells.lookup y.1=some c) :
  ∃cl,closureFor scope env=pure cl/\(∀x c,cl.lookup x=some c->env.cells.lookup x=some c)/\∀y∈scope.names,y.2=.free->∃c,cl.lookup y.1=some c:=by
 obtain⟨cl,e1,e2,e3,_⟩:=qH (env:=env) scope.names [] h (λx c q=>by simp at q);refine⟨cl,?_,e2,e3⟩;unfold closureFor
 first
  |exact e1
  |(simp only[bind_pure_comp,map_pure,bind_pure]at e1 ⊢;exact e1)
  |(rw[show (forIn scope.names [] _:Sem (List (Str×Addr)))=pure cl from e1];rfl)
theorem w4 {env:Env}:∀ {names:List (Str×NameKind)}{x:Str},names.lookup x=some .free ->
  let l:=(names.map λ(n,k)=>if (k == Zj && env.scope.kind == .function && env.kindOf n == some .cell) then (n,NameKind.cell) else (n,k)).lookup x
  l=some .cell\/l=some .free
 |[],_,h=>by simp at h
 |(n,k)::r,x,h=>by
  have ih:=@w4 env r x;simp only at ih ⊢;rw[XD];cases hx:x == n with
  |true=>
   rw[Yy,hx]at h;cases h;by_cases hc:(Zj == Zj && env.scope.kind == .function && env.kindOf n == some .cell)=true
   ·left;simp only[hc,if_true,Yy,hx]
   ·right;simp only[if_neg hc,Yy,hx]
  |false=>
   rw[Yy,hx]at h;by_cases hc:(k == Zj && env.scope.kind == .function && env.kindOf n == some .cell)=true
   ·simp only[if_pos hc,Yy,hx];exact ih h
   ·simp only[if_neg hc,Yy,hx];exact ih h
theorem qI {env:Env}:∀ {names:List (Str×NameKind)}{x:Str}{k':NameKind},(∀ y∈names,y.2≠.cell)->(k'=.cell\/k'=.free) ->
  (names.map λ(n,k)=>if (k == Zj && env.scope.kind == .function && env.kindOf n == some .cell) then (n,NameKind.cell) else (n,k)).lookup x=some k'->(x,Zj)∈names
 |[],_,_,_,_,h=>by simp at h
 |(n,k)::r,x,k',hn,hk,h=>by
  rw[XD]at h;cases hx:x == n with
  |true=>
   have e:x=n:=eq_of_beq hx;subst e;by_cases hc:(k == Zj && env.scope.kind == .function && env.kindOf x == some .cell)=true
   ·have hf:k=.free:=by
     simp only[Xy,beq_iff_eq]at hc;exact hc.1.1
    subst hf;exact XA
   ·simp only[if_neg hc,Yy,hx]at h;have e2:k=k':=Yg h;subst e2;rcases hk with rfl |rfl
    ·exact absurd rfl (hn _ XA)
    ·exact XA
  |false=>
   have ih:=@qI env r x k' (λy hy=>hn y (XB _ hy)) hk;by_cases hc:(k == Zj && env.scope.kind == .function && env.kindOf n == some .cell)=true
   ·simp only[if_pos hc,Yy,hx]at h;exact XB _ (ih h)
   ·simp only[if_neg hc,Yy,hx]at h;exact XB _ (ih h)
theorem Fx {prog:Program}{w:World}{A:Around}{s:Shared}{ap tg iter:Expr}{a2:List Expr}{scope:Scope}{pos:Pos}{it al:Value}{env:Env}{P:Shared->Prop}{R:Result->Shared->Prop}
  (hR:∀s',P s'->R (.ok .next) s') (J:Nat->Shared->Prop)
  (b0:∀n s,J n s->wpAny (model prog w) A (pyNext it) (λr s1=>match r with
   |none=>P s1
   | some v=>wpAny (model prog w) A (letOwnedTupleGo tg it v) (λ_ s2=>wpAny (model prog w) A (assign tg env v) (λ_ s3=>
     wpAny (model prog w) A (forIn a2 true λc r=>if r=true then do let ok <- isTrue c env (eval c env);pure (Zn ok) else pure (Zn r)) (λok s4=>
      if ok=true then wpAny (model prog w) A (eval ap env) (λx s5=>
       wpAny (model prog w) A (call (.builtin "list.append") [al,x]) (λ_ Vu=>∃m,m<n/\J m Vu) (λ_ _=>False) s5) (λ_ _=>False) s4
      else ∃m,m<n/\J m s4) (λ_ _=>False) s3) (λ_ _=>False) s2) (λ_ _=>False) s1) (λ_ _=>False) s)
  (n:Nat) (h:J n s):codeAny (model prog w) A (.compLoop (.ListComp ap [⟨tg,iter,a2,0⟩] scope pos) 0 it al env) R s:=by
 refine codeAny_loop rfl J (λn s hJ=>?_) n h;show wpAny _ A ((compTurn (.ListComp ap [⟨tg,iter,a2,0⟩] scope pos) 0 it al env).onRaise (λx=>do noteFrame x env;theTreesLotGoes x)) _ _ s
 refine wpAny_noted (Zv (E:=λ_ _=>False) ?_ (λ_ _ q=>q) λ_ _ q=>q.elim);rw[compTurn_list];refine Xp (wpAny_standAt (Xp (eE (b0 n s hJ) λr s1 h1=>?_)));cases r with
 |none=>exact Xs (hR _ h1)
 |some v=>
  refine Xp (eE h1 λ_ s2 h2=>Xp (eE h2 λ_ s3 h3=>Xp (eE h3 λok s4 h4=>?_)));cases ok with
  |false=>exact Xs ⟨rfl,h4⟩
  |true=>exact Xp (Xp (eE h4 λx s5 h5=>Xp (eE h5 λ_ Vu h6=>Xs (Xs ⟨rfl,h6⟩))))
end L2
namespace L2
open PySem PySem.Spec PyProof.Rows PySem.W
def w5 (t T:String) (b:Bool):Prop:=∀K:PySem.W.Frag,PySem.W.kitOne K (.type t) (.type T)=some b
theorem qJ (t:String):w5 t t true:=λK=>by unfold PySem.W.kitOne;rw[if_pos (by simp)]
theorem Fy:w5 "int" "str" false:=λK=>by kernel_rfl
end L2
namespace L2
open PySem PySem.Spec PyProof.Rows
noncomputable def bS:Expr->Bool
 |.Starred _ _=>false
 |_=>true
noncomputable def a6:List Expr->Bool
 |[]=>true
 |e::es=>bS e && a6 es
theorem bF {env:Env}{e:Expr}{es:List Expr} (h:bS e=true):starEach (e::es) env=(false,eval e env)::starEach es env:=by
 cases e <;> first |rfl |exact absurd h Yl
theorem d7 {env:Env}{pos:Pos}:∀{es:List Expr},a6 es=true->(backTo pos (starEach es env)).any (·.1)=false
 |[],_=>rfl
 |e::es,h=>by
  have h':(bS e && a6 es)=true:=h;rw[Xy]at h';rw[bF h'.1];show (false ||(backTo pos (starEach es env)).any (·.1))=false;rw[d7 h'.2];rfl
end L2
namespace L2
open PySem PySem.Spec PyProof.Rows
section
variable {X:Cx}{pos:Pos}{a b c e o:Expr}{es:List Expr}{ta tb tc te to:TE}{t u:TS}{W0 W2:TT}{tA:TA}{st:Stmt}{rest:List Stmt}
theorem w6 {env:Env}{cpos:Pos}{es:List Expr} (h:a6 es=true) (hl:es.length<29) :
  ((backTo cpos (starEach es env)).all (λx=>!x.1) && (backToKw cpos (keywordEach [] env)).all (λx=>x.1.isSome)
   && decide (es.length+([]:List Keyword).length+(if ([]:List Keyword).isEmpty then 0 else 1)<30))=true:=by
 have h1:(backTo cpos (starEach es env)).all (λx=>!x.1)=true:=by
  have:=d7 (env:=env) (pos:=cpos) h;rw[List.all_eq_not_any_not];simpa using this
 have h2:(backToKw cpos (keywordEach [] env)).all (λx=>x.1.isSome)=true:=rfl;rw[h1,h2];simp;lia
variable {tg iter:Expr}{wi:TI}{g:TG}
variable {a2:List Expr}{scope:Scope}{Nt:List Str}{fr:List (Str×Nat)}{W3:ZC->TG}{W4:ZC->TT}{Ud:ZC->TE}
end
end L2
namespace PL
open PySem L2
noncomputable def fq:Expr->Bool
 |.Call (.Name x _) [] [] _=>x == "super"
 |_=>false
theorem jH {o:Expr}{f:Str}{env:Env}{s:Sem Value} (h:fq o=false):attributeBase o f env s=s:=by
 unfold attributeBase;split
 ·rename_i id _ _;have h:(id == ("super" : Str))=false:=h;have h':(id != ("super" : Str))=true:=by rw[bne,h];rfl
  rw[h',Bool.true_or,Bool.true_or,Bool.true_or];rfl
 ·rfl
end PL
namespace L2
open PySem
noncomputable def nQ (sc:Scope) (N:List Str) (scope:Scope) (fr:List (Str×Nat)):Bool:=
 (scope.kind == .function) && scope.names.all (λy=>decide (y.2≠.cell)) && scope.names.all (λy=>decide (y.2=.local->scope.names.lookup y.1=some .local)) &&
  scope.names.all (λy=>decide (y.2=.free->sc.names.lookup y.1=some .cell)) && fr.all (λp=>decide (N[p.2]?=some p.1) && decide (scope.names.lookup p.1=some .free))
end L2
namespace L2
open PySem PySem.Spec PyProof.Rows
noncomputable def d8 (s:Stmt):Arguments:=match s with
 |.FunctionDef _ a _ _ _ _ _ _ _ _=>a
 |_=>{ posonlyargs:=[],args:=[],vararg:=none,kwonlyargs:=[],kw_defaults:=[],kwarg:=none,defaults:=[] }
noncomputable def ax (s:Stmt):List Stmt:=match s with
 |.FunctionDef _ _ b _ _ _ _ _ _ _=>b
 |_=>[]
noncomputable def ag (s:Stmt):Scope:=match s with
 |.FunctionDef _ _ _ _ _ _ sc _ _ _=>sc
 |_=>{ kind:=.function,names:=[],isGenerator:=false,isCoroutine:=false }
structure c8 (K:PySem.W.Frag) (x qual:Str) (st:Stmt) (f:Addr) (fd:FuncData):Prop where
 ex:∃(oc:Value) (od:Option Addr) (kV doc pm:Value) (TU:Option Addr) (an ct:Value) (ch:Array (Option Value)),
  fd=PySem.W.fnOf x qual (d8 st) (ax st) (ag st) .none kV doc pm TU an ct/\K.lookup f=some ⟨oc,od,.func fd,ch⟩/\PySem.W.codeIn K an qual=true
 kp:PySem.W.keepIn K (.ref f)=true
section
variable {P:Program}{w:World}{K:PySem.W.Frag}{mg:Str->Option Value}{base:Heap}
theorem c8.iF {x qual:Str}{st:Stmt}{f:Addr}{fd:FuncData}{ps:List Str} (F:c8 K x qual st f fd)
  (h:∀(kV doc pm:Value) (TU:Option Addr) (an ct:Value) (us:List Value),us.length=ps.length->bindArgs (PySem.W.fnOf x qual (d8 st) (ax st) (ag st) .none kV doc pm TU an ct) ⟨us,[]⟩=pure (ps.zip us)):bE K fd ps []:=by
 obtain⟨oc,od,kV,doc,pm,TU,an,ct,ch,rfl,lk,dr⟩:=F.ex;exact .all (h kV doc pm TU an ct)
theorem qK {x qual:Str}{st:Stmt}{f:Addr}{oc:Value}{od TU:Option Addr}{ch:Array (Option Value)}{kV doc pm an ct:Value} (l:K.lookup f=some ⟨oc,od,.func (PySem.W.fnOf x qual (d8 st) (ax st) (ag st) .none kV doc pm TU an ct),ch⟩)
  (c:PySem.W.codeIn K an qual=true) (k:PySem.W.keepIn K (.ref f)=true):c8 K x qual st f (PySem.W.fnOf x qual (d8 st) (ax st) (ag st) .none kV doc pm TU an ct):=⟨⟨oc,od,kV,doc,pm,TU,an,ct,ch,rfl,l,c⟩,k⟩
end
end L2
namespace L2
open PySem PySem.Spec PyProof.Rows
def nR (P:Program) (w:World) (A:Around) (s:Shared) (x y:Value):Prop:=∀(E:Value->Shared->Prop) (Q:Bool->Shared->Prop),Q true s->wpAny (model P w) A (eqBool x y) Q E s
section
open PySem.AutoSeq1 (wpAny_loadPart')
open PySem.MeetsSeq PySem.MeetsSeq2 PySem.MeetsSeq3 PySem.SeqAt
variable {P:Program}{w:World}{a b:Addr}{xs ys:Array Value}{ea eb:Nat}{da db:Option Addr}{sa sb:Array (Option Value)}
def w8 (P:Program) (w:World) (a b:Addr) (xs ys:Array Value) (ea eb:Nat) (da db:Option Addr) (sa sb:Array (Option Value)):PySem.Spec:=λA R s=>
 s.heap.get? a=some { cls:=.type "list",dict:=da,data:=.seq xs ea,slots:=sa }/\s.heap.get? b=some { cls:=.type "list",dict:=db,data:=.seq ys eb,slots:=sb }/\(∀j (h1:j<xs.size) (h2:j<ys.size),nR P w A.in1 s xs[j] ys[j])/\R (.ok (.ret (.bool false))) s
theorem FA (hz:xs.size=ys.size):∀(k i:Nat),xs.size-i=k->MeetsIn P w (Builtin.«list.__eq__.loop» ⟨[.ref a,.ref b,rawInt i,rawInt 3],[]⟩) (w8 P w a b xs ys ea eb da db sa sb):=by
 intro k
 induction k with
 |zero=>
  intro i hk A R s ⟨h1,h2,h3,h4⟩;obtain⟨hp,g,d,tk,os⟩:=s
  wp_walk using XN h1,XN h2
  have x1:xs[((i:Nat):Int).toNat]?=none:=by simp;lia
  have x2:ys[((i:Nat):Int).toNat]?=none:=by simp;lia
  rw[x1,x2]
  wp_walk using XN h1,XN h2
  show R (.ok (.ret (.bool (xs.size != ys.size)))) _;rw[hz];simpa using h4
 |succ k ih=>
  intro i hk A R s ⟨h1,h2,h3,h4⟩;obtain⟨hp,g,d,tk,os⟩:=s
  wp_walk using XN h1,XN h2
  have l1:i<xs.size:=by lia
  have l2:i<ys.size:=by lia
  have x1:xs[((i:Nat):Int).toNat]?=some xs[i]:=by simp [l1]
  have x2:ys[((i:Nat):Int).toNat]?=some ys[i]:=by simp [l2]
  have x3:((i:Int)+1)=((i+1:Nat):Int):=by lia
  rw[x1,x2];refine Xp (h3 i l1 l2 _ _ ?_)
  wp_walk
  rw[x3];exact⟨YA ZV _,Yu entry_eq_loop (by
   rw[X9 ZV _];exact ih (i+1) (by lia) A R _ ⟨h1,h2,h3,h4⟩)⟩
theorem FC (hz:xs.size=ys.size):MeetsIn P w (Builtin.«list.__ne__» ⟨[.ref a,.ref b],[]⟩) (w8 P w a b xs ys ea eb da db sa sb):=by
 intro A R s ⟨h1,h2,h3,h4⟩;obtain⟨hp,g,d,tk,os⟩:=s;have f3:=AutoSeq1.sub_list_list;have cP:¬(xs.size != ys.size)=true:=by simp [hz]
 wp_walk using XN h1,XN h2
 exact⟨YA ZV _,Yu entry_eq_loop (by
  rw[X9 ZV _];exact FA hz _ 0 rfl A R _ ⟨h1,h2,h3,h4⟩)⟩
end
end L2
end
section
set_option maxHeartbeats 1000000
namespace N
open PySem PySem.Spec PyProof.Rows L2 PySem.W
def nS:D->Prop
 |.ak _ ds=>aO ds=true/\aT ds<=50
 |_=>False
def qL:D->Prop
 |.lst ds=>∀d∈ds,nS d
 |d=>nS d
section
variable {G:Gx}{F:Fz}{M:Mp}{s:Shared}{A:Around}
theorem w9 (ok:aE G F M s.heap) (hu:A.units+60<cLine) {kvs:List (Key×D)}{vb:List (Key×Value)} (rb:KV G F kvs vb):∀{Va:List (Key×D)}{va:List (Key×Value)},KV G F Va va->(∀p∈Va,aJ kvs p.1=some p.2/\aG p.2=true/\a8 p.2<=50)->KeqHits A s vb va true
 |_,_,.nil,_=>.nil
 |p::Va,q::va,.cons wP t,h=>by
  obtain⟨h1,h2,h3⟩:=h p XA;have hv:=KV.val rb p.1;rw[h1]at hv;cases e:valueAt vb p.1 with
  |none=>rw[e]at hv;exact hv.elim
  |some y=>
   rw[e]at hv;have he:=lg (G:=G) (F:=F) (M:=M) (A:=A) 50 ok (eD ok wP.2 h2) (eD ok hv h2) h3 (by lia);rw[gH _ h2]at he;exact KeqHits.hit (k:=q.1) (by rw[<- wP.1];exact e) he (w9 ok hu rb t λp' nT=>h p' (XB _ nT))
theorem w':∀{kvs:List (Key×D)},(kvs.map (·.1)).Nodup->∀p∈kvs,aJ kvs p.1=some p.2
 |q::r,nd,p,h=>by
  rw[XD,ZF]at nd;unfold aJ;rw[Zr];rcases List.mem_cons.mp h with e |h
  ·subst e;simp
  ·have:¬q.1=p.1:=λe=>nd.1 (e ▸ List.mem_map.mpr ⟨p,h,rfl⟩);simp only[this,decide_false];exact w' nd.2 p h
theorem xc:∀{ds:List D},aO ds=true->∀d∈ds,aG d=true/\a8 d<=aT ds
 |x::r,h,d,hd=>by
  rw[aO,Xy]at h;rw[aT];rcases List.mem_cons.mp hd with e |hd
  ·subst e;exact⟨h.1,YU _ _⟩
  ·obtain⟨h1,h2⟩:=xc h.2 d hd;exact⟨h1,Xz h2 (YC _ _)⟩
theorem xd (ok:aE G F M s.heap) (hu:A.units+62<cLine) {d:D}{u v:Value} (h:nS d) (r1:ab G F d u) (r2:ab G F d v):nR G.P G.w A s u v:=by
 cases d with
 |ak ks ds=>
  obtain⟨k1,k2⟩:=h;rw[ab]at r1 r2;have bL:∀{u:Value},(∃a o us,u=.ref a/\F a=some (.dat o)/\kI G o ks us/\(a == sysModules)=false/\af G F ds us)->∃a vs,u=.ref a/\(a == sysModules)=false/\KV G F (ks.zip ds) vs/\s.heap.DictOf (bo G.P G.w) a vs/\((ks.zip ds).map (·.1)).Nodup:=by
   rintro u ⟨a,o,us,e,h1,h2,h4,h3⟩;obtain⟨es,ep,g1,g2,g3⟩:=h2.bL;refine⟨a,_,e,h4,KV.zip h3,⟨o,es,ep,ok.fz a _ h1,h2.ex,g1,g2,g3,?_⟩,?_⟩
   ·rw[List.map_fst_zip (ZL h2.len.symm)];exact h2.nd
   ·rw[List.map_fst_zip (ZL (by rw[h3.len,h2.len]))];exact h2.nd
  obtain⟨a,va,rfl,n1,Vv,da,nd⟩:=bL r1;obtain⟨b,vb,rfl,n2,rb,db,_⟩:=bL r2;intro E Q q;unfold eqBool;refine Yq ?_;refine Y7 (λ_=>?_) (λ_=>?_)
  ·exact Xs (M:=model G.P G.w) (E:=E) q
  have FD:va.length=vb.length:=by rw[<- Vv.length,<- rb.length]
  refine Xp (keq_eq (knd:=bo G.P G.w) n1 n2 da db (by lia) (r:=true) (λ_=>w9 ok (by show A.units+1+60<cLine;lia) rb Vv λp hp=>⟨w' nd p hp,?_⟩) ?_)
  ·obtain⟨h1,h2⟩:=xc k1 p.2 (Zf hp).2;exact⟨h1,Xz h2 k2⟩
  rw[FD];refine Zk ?_;simpa using q
 |_=>exact h.elim
section
open PySem.AutoSeq1 (wpAny_loadPart')
open PySem.MeetsSeq PySem.MeetsSeq2 PySem.MeetsSeq3 PySem.SeqAt
variable {P:Program}{w:World}{a b:Addr}{xs ys:Array Value}{ea eb:Nat}{da db:Option Addr}{sa sb:Array (Option Value)}
def xf (P:Program) (w:World) (a b:Addr) (xs ys:Array Value) (ea eb:Nat) (da db:Option Addr) (sa sb:Array (Option Value)):PySem.Spec:=λA R s=>
 s.heap.get? a=some { cls:=.type "list",dict:=da,data:=.seq xs ea,slots:=sa }/\s.heap.get? b=some { cls:=.type "list",dict:=db,data:=.seq ys eb,slots:=sb }/\(∀j (h1:j<xs.size) (h2:j<ys.size),nR P w A.in1 s xs[j] ys[j])/\R (.ok (.ret (.bool true))) s
theorem FE (hz:xs.size=ys.size):∀(k i:Nat),xs.size-i=k->MeetsIn P w (Builtin.«list.__eq__.loop» ⟨[.ref a,.ref b,rawInt i,rawInt 2],[]⟩) (xf P w a b xs ys ea eb da db sa sb):=by
 intro k
 induction k with
 |zero=>
  intro i hk A R s ⟨h1,h2,h3,h4⟩;obtain⟨hp,g,d,tk,os⟩:=s
  wp_walk using XN h1,XN h2
  have x1:xs[((i:Nat):Int).toNat]?=none:=by simp;lia
  have x2:ys[((i:Nat):Int).toNat]?=none:=by simp;lia
  rw[x1,x2]
  wp_walk using XN h1,XN h2
  show R (.ok (.ret (.bool (xs.size == ys.size)))) _;rw[hz];simpa using h4
 |succ k ih=>
  intro i hk A R s ⟨h1,h2,h3,h4⟩;obtain⟨hp,g,d,tk,os⟩:=s
  wp_walk using XN h1,XN h2
  have l1:i<xs.size:=by lia
  have l2:i<ys.size:=by lia
  have x1:xs[((i:Nat):Int).toNat]?=some xs[i]:=by simp [l1]
  have x2:ys[((i:Nat):Int).toNat]?=some ys[i]:=by simp [l2]
  have x3:((i:Int)+1)=((i+1:Nat):Int):=by lia
  rw[x1,x2];refine Xp (h3 i l1 l2 _ _ ?_)
  wp_walk
  rw[x3];exact⟨YA ZV _,Yu entry_eq_loop (by
   rw[X9 ZV _];exact ih (i+1) (by lia) A R _ ⟨h1,h2,h3,h4⟩)⟩
theorem FF (hz:xs.size=ys.size):MeetsIn P w (Builtin.«list.__eq__» ⟨[.ref a,.ref b],[]⟩) (xf P w a b xs ys ea eb da db sa sb):=by
 intro A R s ⟨h1,h2,h3,h4⟩;obtain⟨hp,g,d,tk,os⟩:=s;have f3:=AutoSeq1.sub_list_list;have cP:¬(xs.size != ys.size)=true:=by simp [hz]
 wp_walk using XN h1,XN h2
 exact⟨YA ZV _,Yu entry_eq_loop (by
  rw[X9 ZV _];exact FE hz _ 0 rfl A R _ ⟨h1,h2,h3,h4⟩)⟩
end
theorem FH (ok:aE G F M s.heap) (hu:A.units+90<cLine) {d:D}{u v:Value} (h:qL d) (r1:ab G F d u) (r2:ab G F d v):nR G.P G.w A s u v:=by
 cases d with
 |lst ds=>
  rw[ab]at r1 r2;obtain⟨a,n,us,rfl,e1,_,q1⟩:=r1;obtain⟨b,m,vs,rfl,e2,_,q2⟩:=r2;have ho:=ok.fz a _ e1;have ho2:=ok.fz b _ e2;have l1:us.toArray.size=ds.length:=by rw[Xv,q1.len]
  have l2:vs.toArray.size=ds.length:=by rw[Xv,q2.len]
  intro E Q q;unfold eqBool;refine Yq ?_;refine Y7 (λ_=>?_) (λ_=>?_)
  ·exact Xs (M:=model G.P G.w) (E:=E) q
  refine Xp (wpAny_richCompare_same_room (op:=.Eq) ⟨_,ho,rfl⟩ ⟨_,ho2,rfl⟩ PySem.F.slot_list_eq (call_meetsIn PySem.F.slot_list_eq ⟨_,ho,rfl⟩ PySem.F.entry_list_eq (PySem.F.args_list_eq_2 _ _) (FF (P:=G.P) (w:=G.w) (by rw[l1,l2])) ⟨ho,ho2,λj h1 h2=>?_,?_⟩) (by lia))
  ·have g:j<ds.length:=(by rw[<- l1];exact h1);obtain⟨u1,e1,q1⟩:=d5 q1 (Xx g);obtain⟨u2,e2,q2⟩:=d5 q2 (Xx g);rw[(Array.getElem?_eq_some_iff.mp e1).2,(Array.getElem?_eq_some_iff.mp e2).2];exact xd ok (by show A.units+1+62<cLine;lia) (h _ (List.getElem_mem g)) q1 q2
  ·refine⟨λz=>(nomatch z),?_⟩;exact Zk q
 |ak ks ds=>exact xd (d:=.ak ks ds) ok (by lia) (show nS (.ak ks ds) from h) r1 r2
 |_=>exact h.elim
end
theorem FI {X:Cx} (hu:X.A.units+110<cLine) {τ:St} {z:Z}{ds:List D}{v u:Value}{R:Value->Shared->Prop} (I:ae X τ z) (r1:ab X.G z.F (.lst ds) v) (r2:ab X.G z.F (.lst ds) u) (h:∀d∈ds,qL d) (q:R (.bool false) z.s):W X (compareOp .NotEq v u) R z.s:=by
 obtain⟨a,us,n,rfl,l⟩:=I.fi r1;obtain⟨b,vs,m,rfl,l'⟩:=I.fi r2;have l1:us.toArray.size=ds.length:=by rw[Xv,l.r.len]
 have l2:vs.toArray.size=ds.length:=by rw[Xv,l'.r.len]
 obtain⟨⟨cls,dd,data,sl⟩,ho,hc,n,hd⟩:=id l.p.isList;obtain⟨⟨wv,iE,ww,lh⟩,ho2,fm,n2,gl⟩:=id l'.p.isList;simp only at hc hd fm gl;subst hc hd fm gl;refine wpAny_richCompare_same_room (op:=.NotEq) ⟨_,ho,rfl⟩ ⟨_,ho2,rfl⟩ F.slot_list_ne (call_meetsIn F.slot_list_ne ⟨_,ho,rfl⟩ F.entry_list_ne (F.args_list_ne_2 _ _) (FC (P:=X.G.P) (w:=X.G.w) (by rw[l1,l2])) ⟨ho,ho2,λj h1 h2=>?_,?_⟩) (by lia)
 ·have g:j<ds.length:=by rw[<- l1];exact h1
  obtain⟨u1,e1,q1⟩:=d5 l.r (Xx g);obtain⟨u2,e2,q2⟩:=d5 l'.r (Xx g);rw[(Array.getElem?_eq_some_iff.mp e1).2,(Array.getElem?_eq_some_iff.mp e2).2];exact FH I.hok (by show X.A.units+1+90<cLine;lia) (h _ (List.getElem_mem g)) q1 q2
 ·exact⟨λz=>(nomatch z),q⟩
end N
end
section
set_option maxHeartbeats 1000000
namespace N
open PySem PySem.Spec PyProof.Rows L2
section
variable {X:Cx}
theorem af.jI {G:Gx}{F:Fz}{ds:List D}{us:List Value} (r:af G F ds us):∀k:Nat,af G F (Yw k ds).flatten (Yw k us).flatten
 | 0=>.nil
 |k+1=>by rw[ZW,ZW,List.flatten_cons,List.flatten_cons];exact r.app (af.jI r k)
theorem FJ:O2 X (binaryOp .Mult) qG:=fun τ z Q R d e v u I r1 r2 q k=>by
 have lst:∀{d:D},ab X.G z.F d v->(aV d z.M λds=>b3 e λk=>-(2 ^ 63)<=k/\k<2 ^ 63/\ds.length * k.toNat<=sizeLine/\bR (Yw k.toNat ds).flatten z.M Q)->W X (binaryOp .Mult v u) R z.s:=λr1 q=>by
  obtain⟨a,ds,us,n,rfl,l,q⟩:=I.aV r1 q;obtain⟨j,t,rfl,h1,h2,hz,q⟩:=cS q r2;have hlen:us.toArray.size * j.toNat<=sizeLine:=by rw[Xv,<- l.r.len];exact hz
  have FK:¬us.toArray.size * j.toNat > (2 ^ 63-1) / 8:=by
   have:(sizeLine:Nat)<=(2 ^ 63-1) / 8:=(by decide);lia
  have po:¬(!Builtin.List.listFitsIndex j)=true:=by rw[fitsIndex_both h1 h2];exact Yl
  have lm:¬Y0 (us.toArray.size * j.toNat)=true:=by rw[qz hlen];exact Yl
  have FL:List.foldl (λx1 x2=>x1++x2) #[] (Yw (if us.toArray.isEmpty=true then 0 else j.toNat) us.toArray)=(Yw j.toNat us).flatten.toArray:=by
   have f0:∀m:Nat,List.foldl (λx1 x2=>x1++x2) #[] (Yw m us.toArray)=(Yw m us).flatten.toArray:=λm=>by
    have:=wJ us m [];rw[List.nil_append]at this;exact this
   rw[f0];cases us with
   |nil=>simp
   |cons a r'=>rw[if_neg (by simp)]
  refine wpAny_binaryOp_repeat_ref (T:="list") (U:="int") (by decide) ⟨_,l.e,rfl⟩ (λs'=>typeIs_int s' j t) noFill_list_mul F.fills_int_mul F.slot_int_rmul repeat_list F.slot_int_index.lookup
   (call_meets F.slot_int_rmul (typeIs_int z.s j t) F.entry_int_rmul (F.args_int_rmul_2 _ _) (int___rmul___int_list j t a us.toArray n)
    ⟨l.e,rfl,⟨_,l.e,rfl⟩,call_meets F.slot_list_mul ⟨_,l.e,rfl⟩ F.entry_list_mul (F.args_list_mul_2 _ _) (AutoListH.list___mul___list_int_3 a us.toArray n j t po FK lm) ⟨l.e,?_⟩⟩)
  rw[FL];exact I.lst (t:=z.s.toks) (n:=0) k Le.rfl (l.r.jI j.toNat) (λb o e=>Xq _ e) (Xu _) (Xw _ rfl) (by rw[ET,Nat.mul_comm,<- l.r.len];exact hz) q
 unfold qG at q;cases d with
 |int i=>
  rw[ab]at r1;obtain⟨t,rfl⟩:=r1;obtain⟨j,t',rfl,hc,q⟩:=cS q r2;exact mul_int (I.fin k Le.rfl b5 q _) (hc.elim (·.ok) λh=>.of_bits (wI h.1) (wI h.2))
 |lst ds=>exact lst r1 q
 |ref a=>exact lst r1 q
 |_=>exact q.elim
theorem nU {f:Value->Value->Sem Value}:O2 X f λ_ _ _ _=>False:=λ_ _ _ _ _ _ _ _ _ _ _ q _=>q.elim
theorem FN:∀o:Operator,O2 X (binaryOp o) (wX o)
 |.Add=>Fv
 |.Sub=>wY λ_ _ _ _ _ _ _ q=>sub_int q
 |.Mult=>FJ
 |.FloorDiv=>lq λi j _ _ _ _ _ hc q=>by
  have h1:(0:Int)<j:=hc.1;have h2:j<2 ^ 200:=hc.2;have h3:j.natAbs<2 ^ 200:=by lia
  exact floordiv_int (by lia) (by rw[Int.fdiv_eq_ediv_of_nonneg i (by lia)];exact q) (.inl (PyProof.noPylong_of_log2 (XM ((Nat.log2_lt (by lia)).mpr h3) (by decide))))
 |.Mod=>lq λi j _ _ _ _ _ hc q=>mod_int' (by lia) (by rw[Int.fmod_eq_emod_of_nonneg i (by lia)];exact q)
 |.Pow=>lq λ_ _ _ _ _ _ _ hc q=>pow_int_small hc.1 hc.2.1 hc.2.2 q
 |.LShift=>lq λ_ _ _ _ _ _ _ hc q=>lshift_int_small hc.1 hc.2.1 hc.2.2 q
 |.RShift=>lq λi j _ _ _ _ _ hc q=>rshift_int hc (by rw[Int.fdiv_eq_ediv_of_nonneg i (EP _)];exact q)
 |.BitAnd=>wY λ_ _ _ _ _ _ _ q=>and_int q
 |.MatMult=>nU
 |.Div=>nU
 |.BitOr=>nU
 |.BitXor=>nU
noncomputable def xg:D->Bool
 |.lst []=>true
 |_=>false
inductive ft (ne:Bool) (x y:D) (M:Mp) (k:Bool->Prop):Prop
 |mk (h:(aG (cf x M)=true/\aG (cf y M)=true/\a8 (cf x M)<=100)\/((qw (cf x M)).isSome=true/\xg (cf y M)=true)) (q:k (aC (cf x M) (cf y M)))
 |dd (n:ne=true) (ds:List D) (hx:x=.lst ds) (hy:y=.lst ds) (h:∀d∈ds,qL d) (q:k true)
noncomputable def cB (x:D) (ds:List D):Bool:=ds.any λd=>aC d x
def xh (x y:D) (M:Mp) (k:Bool->Prop):Prop:=match y with
 |.ak _ _=>cw y M λkvs=>dO x λc=>k (aJ kvs c).isSome
 |.str b=>match x with
  |.str a=>k (!(Builtin.Str.occurrences b a 0 b.length 1).isEmpty)
  |_=>False
 |.ref a=>(∃kvs,M a=some (.ak kvs)/\dO x λc=>k (aJ kvs c).isSome)\/∃ds,M a=some (.lst ds)/\aG x=true/\aO ds=true/\aT ds<=100/\k (cB x ds)
 |y=>dt y M λds=>aG x=true/\aO ds=true/\aT ds<=100/\k (cB x ds)
structure d9 (x y:D) (M:Mp) (k:Bool->Prop):Prop where
 h:xh x y M k
def nV (x y:D) (k:Bool->Prop):Prop:=match y with
 |.ai=>k (nI x)
 |_=>False
def qM (x y:D) (k:Bool->Prop):Prop:=match x with
 |.int i=>b3 y λj=>k (decide (i<j))
 |.str i=>match y with
  |.str j=>k (decide (i.cps.toList<j.cps.toList))
  |_=>False
 |_=>False
def nW (x y:D) (k:Int->Int->Prop):Prop:=b3 x λi=>b3 y λj=>k i j
def jJ:CmpOp->D->D->Mp->(Bool->Prop)->Prop
 |.Eq=>λx y M k=>ft false x y M k
 |.NotEq=>λx y M k=>ft true x y M λb=>k (!b)
 |.Lt=>λx y M k=>qM x y k
 |.LtE=>λx y M k=>nW x y λi j=>k (decide (i<=j))
 |.Gt=>λx y M k=>nW x y λi j=>k (decide (j<i))
 |.GtE=>λx y M k=>nW x y λi j=>k (decide (j<=i))
 |.In=>λx y M k=>d9 x y M k
 |.NotIn=>λx y M k=>d9 x y M λb=>k (!b)
 |.Is=>λx y _ k=>nV x y k
 |.IsNot=>λx y _ k=>nV x y λb=>k (!b)
end
def OC (X:Cx) (f:Value->Value->Sem Value) (r:D->D->Mp->(Bool->Prop)->Prop):Prop:=∀ τ z (k:Bool->Prop) R d e v u,ae X τ z->ab X.G z.F d v->ab X.G z.F e u->r d e z.M k->(∀b t,k b->R (.bool b) { z.s with toks:=t })->W X (f v u) R z.s
def xi (r:D->D->Mp->(Bool->Prop)->Prop) (ta tb:DE):DE:=fun τ M q=>ta τ M λx M1=>tb τ M1 λy M2=>r x y M2 λb=>q (.bl b) M2
def xj (r:D->D->Mp->(Bool->Prop)->Prop) (ta tb:DE):DT:=fun τ M q=>ta τ M λx M1=>tb τ M1 λy M2=>r x y M2 λb=>q b M2
section
variable {X:Cx}{a b:Expr}{ta tb:DE}{pos:Pos}
theorem FP {o:CmpOp}{r:D->D->Mp->(Bool->Prop)->Prop} (ho:OC X (compareOp o) r) (ha:PE X a ta) (hb:PE X b tb) (hm:behindInMarks o b=false):PE X (.Compare a [o] [b] pos) (xi r ta tb):=fun τ z Q R I h k=>
 wpAny_Compare1 (ha τ z _ _ I h λx z1 v l1 I1 r1 q1=>hb τ z1 _ _ I1 q1 λy z2 u l2 I2 r2 q2=>ho τ z2 _ _ x y v u I2 (r1.up l2.d) r2 q2 λb t q=>I2.fin k (l1.tr l2) kR q t) hm
theorem FQ {o:CmpOp}{r:D->D->Mp->(Bool->Prop)->Prop} (ho:OC X (compareOp o) r) (ha:PE X a ta) (hb:PE X b tb) (hm:behindInMarks o b=false):PT X (.Compare a [o] [b] pos) (xj r ta tb):=fun τ z Q R I h k=>
 wpAny_isTrue_Compare1 (ha τ z _ _ I h λx z1 v l1 I1 r1 q1=>hb τ z1 _ _ I1 q1 λy z2 u l2 I2 r2 q2=>ho τ z2 _ _ x y v u I2 (r1.up l2.d) r2 q2 λb t q=>Zk (k b ⟨z2.F,z2.M,{ z2.s with toks:=t }⟩ (l1.tr l2) (I2.ng t) q)) hm
end
section
variable {X:Cx}
theorem ae.xk {τ:St} {z:Z}{d:D}{u:Value} (I:ae X τ z) (r:ab X.G z.F d u) (h:aG (cf d z.M)=true):Sh X.G z.F z.s (cf d z.M) u:=by
 cases d with
 |ref a=>
  change aG (nP a (z.M a))=true at h;show Sh X.G z.F z.s (nP a (z.M a)) u;rw[ab]at r;subst r;cases e:z.M a with
  |none=>rw[e]at h;cases h
  |some o=>cases o with
   |lst ds=>rw[e]at h;obtain⟨us,n,l⟩:=I.eC e;exact .lst l.p.isList l.r h
   |_=>rw[e]at h;cases h
 |_=>exact eD I.hok r h
theorem ae.xl {τ:St} {z:Z}{d:D}{u:Value}{ds:List D} (I:ae X τ z) (r:ab X.G z.F d u) (h:cf d z.M=.lst ds):∃a us n,u=.ref a/\eB X.G z.F z.s.heap a ds us n:=by
 cases d with
 |ref a=>
  change nP a (z.M a)=.lst ds at h;rw[ab]at r;cases e:z.M a with
  |none=>rw[e]at h;cases h
  |some o=>cases o with
   |lst es=>rw[e]at h;cases h;obtain⟨us,n,l⟩:=I.eC e;exact⟨a,us,n,r,l⟩
   |_=>rw[e]at h;cases h
 |lst es=>cases h;exact I.fi r
 |_=>cases h
theorem xm (hu:X.A.units+110<cLine) {τ:St} {z:Z}{d e:D}{v u:Value}{k:Bool->Prop} (I:ae X τ z) (r1:ab X.G z.F d v) (r2:ab X.G z.F e u) (h:(aG (cf d z.M)=true/\aG (cf e z.M)=true/\a8 (cf d z.M)<=100)\/((qw (cf d z.M)).isSome=true/\xg (cf e z.M)=true)) (q:k (aC (cf d z.M) (cf e z.M))):∃b,SeqAt.RcAt X.A z.s v u b/\SeqAt.RcNeAt X.A z.s v u (!b)/\k b:=by
 rcases h with ⟨h1,h2,h3⟩ |⟨h1,h2⟩
 ·have c:=EO (A:=X.A) (n:=100) I.hok (I.xk r1 h1) (I.xk r2 h2) (Nat.le_succ_of_le h3) (by lia);exact⟨_,c.1,c.2,q⟩
 ·cases e1:cf d z.M with
  |lst ds=>cases e2:cf e z.M with
   |lst es=>cases es with
    |nil=>
     obtain⟨a,us,n,rfl,l⟩:=I.xl r1 e1;obtain⟨b,vs,n',rfl,l'⟩:=I.xl r2 e2;have:=l'.r;rw[af]at this;subst this;rw[e1,e2]at q;cases ds with
     |nil=>
      have:=l.r;rw[af]at this;subst this;exact⟨true,SeqAt.RcAt.lists (e:=λ_=>true) l.p.isList l'.p.isList rfl (by lia) λj h1=>absurd h1 (Nat.not_lt_zero j),SeqAt.RcNeAt.lists (e:=λ_=>true) l.p.isList l'.p.isList rfl (by lia) λj h1=>absurd h1 (Nat.not_lt_zero j),q⟩
     |cons d ds=>
      have:=l.r;rw[af]at this;obtain⟨u,us,rfl,_⟩:=this;exact⟨false,SeqAt.RcAt.lists_lengths l.p.isList l'.p.isList (by simp) (by lia),SeqAt.RcNeAt.lists_lengths l.p.isList l'.p.isList (by simp) (by lia),q⟩
    |cons _ _=>rw[e2]at h2;cases h2
   |_=>rw[e2]at h2;cases h2
  |_=>rw[e1]at h1;cases h1
theorem FR (hu:X.A.units+110<cLine):OC X (compareOp .Eq) (jJ .Eq):=fun τ z k R d e v u I r1 r2 q K=>by
 cases q with
 |mk h q=>
  obtain⟨b,h1,_,q⟩:=xm hu I r1 r2 h q;exact h1 _ _ _ _ (K b z.s.toks q)
 |dd n=>cases n
theorem FT (hu:X.A.units+110<cLine):OC X (compareOp .NotEq) (jJ .NotEq):=fun τ z k R d e v u I r1 r2 q K=>by
 cases q with
 |mk h q=>
  obtain⟨b,_,h1,q⟩:=xm (k:=λb=>k (!b)) hu I r1 r2 h q;exact h1 _ _ _ _ (K (!b) z.s.toks q)
 |dd n ds hx hy h q=>subst hx;subst hy;exact FI hu I r1 r2 h (K false z.s.toks q)
open Classical in
theorem FU {τ:St} {z:Z}{x:D}{v:Value}{ds:List D}{us:List Value} (hu:X.A.units+110<cLine) (I:ae X τ z) (r:ab X.G z.F x v) (rs:af X.G z.F ds us) (h1:aG x=true) (h2:aO ds=true) (h3:aT ds<=100) :
  ∃e:Value->Bool,(∀y,y∈us.toArray->SeqAt.EqAt X.A.in1 z.s y v (e y))/\us.toArray.any e=cB x ds:=by
 have key:∀{d:D}{y:Value},ab X.G z.F d y->aG d=true->decide (∃d',ab X.G z.F d' y/\aG d'=true/\aC d' x=true)=aC d x:=λ{d y} r k=>by
  rw[YT,decide_eq_true_eq];exact⟨λ⟨d',a,b,c⟩=>by rw[wz d r a k b];exact c,λc=>⟨d,r,k,c⟩⟩
 refine⟨λy=>decide (∃d',ab X.G z.F d' y/\aG d'=true/\aC d' x=true),λy hy=>?_,?_⟩
 ·obtain⟨i,hi⟩:=List.getElem?_of_mem (by simpa using hy:y∈us);have hl:i<ds.length:=by rw[rs.len];exact (List.getElem?_eq_some_iff.mp hi).1
  obtain⟨V',e,q⟩:=rs.get (Xx hl);rw[hi]at e;cases e;have m:=jC h2 (Xx hl);show SeqAt.EqAt X.A.in1 z.s y v (decide (∃d',ab X.G z.F d' y/\aG d'=true/\aC d' x=true));rw[key q m.1];exact lg 100 I.hok (eD I.hok q m.1) (eD I.hok r h1) (Xz m.2 h3) (by show X.A.units+1+100<cLine;lia)
 ·rw[show us.toArray.any (λy=>decide (∃d',ab X.G z.F d' y/\aG d'=true/\aC d' x=true))=us.any (λy=>decide (∃d',ab X.G z.F d' y/\aG d'=true/\aC d' x=true)) by simp];clear h3;unfold cB
  induction ds generalizing us with
  |nil=>rw[af]at rs;subst rs;rfl
  |cons d ds ih=>
   rw[af]at rs;obtain⟨u,us,rfl,q1,q2⟩:=rs;rw[aO,Xy]at h2;rw[Y2,Y2,key q1 h2.1,ih q2 h2.2]
theorem xn (hu:X.A.units+110<cLine) {τ:St} {z:Z}{d e:D}{v u:Value}{k:Bool->Prop} (I:ae X τ z) (r1:ab X.G z.F d v) (r2:ab X.G z.F e u) (h:d9 d e z.M k):∃b,k b/\(∀Q E:Value->Shared->Prop,(∀t,Q (.bool b) { z.s with toks:=t })->wpAny (model X.G.P X.G.w) X.A (compareOp .In v u) Q E z.s)/\∀Q E:Value->Shared->Prop,(∀t,Q (.bool (!b)) { z.s with toks:=t })->wpAny (model X.G.P X.G.w) X.A (compareOp .NotIn v u) Q E z.s:=by
 have ak:∀{e:D},ab X.G z.F e u->(cw e z.M λkvs=>dO d λc=>k (aJ kvs c).isSome)->∃b,k b/\(∀Q E:Value->Shared->Prop,(∀t,Q (.bool b) { z.s with toks:=t })->wpAny (model X.G.P X.G.w) X.A (compareOp .In v u) Q E z.s)/\∀Q E:Value->Shared->Prop,(∀t,Q (.bool (!b)) { z.s with toks:=t })->wpAny (model X.G.P X.G.w) X.A (compareOp .NotIn v u) Q E z.s:=λr2 q=>by
  obtain⟨a,kvs,vs,rfl,l,q⟩:=I.cw r2 q;obtain⟨c,hc,q⟩:=jG (P:=X.G.P) (w:=X.G.w) q r1;have e:=(l.r.val c).so;exact⟨_,q,λQ E h=>wpAny_in_of hc l.n l.d.mapOf (by rw[<- e];exact h _),λQ E h=>wpAny_notIn_of hc l.n l.d.mapOf (by rw[<- e];exact h _)⟩
 have seq:∀{ds:List D}{us:List Value}{a:Addr},af X.G z.F ds us->u=.ref a->(z.s.heap.IsList a us.toArray\/z.s.heap.IsTuple a us.toArray)->aG d=true/\aO ds=true/\aT ds<=100/\k (cB d ds)->∃b,k b/\(∀Q E:Value->Shared->Prop,(∀t,Q (.bool b) { z.s with toks:=t })->wpAny (model X.G.P X.G.w) X.A (compareOp .In v u) Q E z.s)/\∀Q E:Value->Shared->Prop,(∀t,Q (.bool (!b)) { z.s with toks:=t })->wpAny (model X.G.P X.G.w) X.A (compareOp .NotIn v u) Q E z.s:=λrs Wa hs q=>by
  subst Wa;obtain⟨f,f1,f2⟩:=FU hu I r1 rs q.1 q.2.1 q.2.2.1;refine⟨_,q.2.2.2,λQ E h=>?_,λQ E h=>?_⟩
  ·rcases hs with hs |hs
   ·exact SeqAt.in_listAt f hs f1 (by rw[f2];exact h z.s.toks)
   ·exact SeqAt.in_tupleAt f hs f1 (by rw[f2];exact h z.s.toks)
  ·rcases hs with hs |hs
   ·exact SeqAt.notIn_listAt f hs f1 (by rw[f2];exact h z.s.toks)
   ·exact SeqAt.notIn_tupleAt f hs f1 (by rw[f2];exact h z.s.toks)
 replace h:=h.h;unfold xh at h;cases e with
 |ak ks ds=>exact ak r2 h
 |str b=>cases d with
  |str a=>
   rw[ab]at r1 r2;obtain⟨t,rfl⟩:=r1;obtain⟨t',rfl⟩:=r2;exact⟨_,h,λQ E q=>in_str (q z.s.toks),λQ E q=>notIn_str (q z.s.toks)⟩
  |_=>exact h.elim
 |ref a=>
  rcases h with h |⟨ds,h1,h⟩
  ·exact ak (e:=.ref a) r2 h
  ·rw[ab]at r2;obtain⟨us,n,l⟩:=I.eC h1;exact seq l.r r2 (.inl l.p.isList) h
 |lst ds=>obtain⟨a,us,n,e,l⟩:=I.fi r2;exact seq l.r e (.inl l.p.isList) h
 |tup ds=>obtain⟨a,us,o,e,l⟩:=I.cR r2;exact seq l.r e (.inr l.p) h
 |_=>exact h.elim
theorem xo {G:Gx}{F:Fz}{d:D}{u:Value} (r:ab G F d u):(u == YB)=nI d:=by
 cases d with
 |ai=>rw[ab]at r;subst r;rfl
 |bl _=>rw[ab]at r;subst r;rfl
 |int _=>rw[ab]at r;obtain⟨t,rfl⟩:=r;rfl
 |str _=>rw[ab]at r;obtain⟨t,rfl⟩:=r;rfl
 |ref _=>rw[ab]at r;subst r;rfl
 |ty _=>rw[ab]at r;subst r;rfl
 |tup _=>rw[ab]at r;obtain⟨_,_,_,rfl,_⟩:=r;rfl
 |lst _=>rw[ab]at r;obtain⟨_,_,_,rfl,_⟩:=r;rfl
 |ak _ _=>rw[ab]at r;obtain⟨_,_,_,rfl,_⟩:=r;rfl
theorem xp {G:Gx}{F:Fz}{x y:D}{k:Bool->Prop}{u:Value} (h:nV x y k) (r:ab G F y u):u=.none/\k (nI x):=by
 unfold nV at h;split at h
 ·rw[ab]at r;exact⟨r,h⟩
 ·exact h.elim
theorem qN {o:CmpOp}{f:Int->Int->Bool} (rule:∀(i j:Int) (t u:Tok) (s:Shared) (Q E:Value->Shared->Prop),Q (.bool (f i j)) s->wpAny (model X.G.P X.G.w) X.A (compareOp o (.int i t) (.int j u)) Q E s):OC X (compareOp o) (λx y _ k=>nW x y λi j=>k (f i j)):=fun τ z k R d e v u I r1 r2 q K=>by
 obtain⟨i,t,rfl,q⟩:=cS q r1;obtain⟨j,t',rfl,q⟩:=cS q r2;exact rule i j t t' z.s _ _ (K _ z.s.toks q)
theorem xq (hu:X.A.units+110<cLine):∀o:CmpOp,OC X (compareOp o) (jJ o)
 |.Eq=>FR hu
 |.NotEq=>FT hu
 |.In=>fun τ z k R d e v u I r1 r2 q K=>by
  obtain⟨b,q,h,_⟩:=xn hu I r1 r2 q;exact h _ _ λt=>K b t q
 |.NotIn=>fun τ z k R d e v u I r1 r2 q K=>by
  obtain⟨b,q,_,h⟩:=xn (k:=λb=>k (!b)) hu I r1 r2 q;exact h _ _ λt=>K (!b) t q
 |.Lt=>fun τ z k R d e v u I r1 r2 q K=>by
  replace q:qM d e k:=q;unfold qM at q;cases d with
  |int i=>
   rw[ab]at r1;obtain⟨t,rfl⟩:=r1;obtain⟨j,t',rfl,q⟩:=cS q r2;exact lt_int (K _ z.s.toks q)
  |str i=>cases e with
   |str j=>
    rw[ab]at r1 r2;obtain⟨t,rfl⟩:=r1;obtain⟨t',rfl⟩:=r2;exact lt_str (K _ z.s.toks q)
   |_=>exact q.elim
  |_=>exact q.elim
 |.LtE=>qN λ_ _ _ _ _ _ _ q=>le_int q
 |.Gt=>qN λ_ _ _ _ _ _ _ q=>gt_int q
 |.GtE=>qN λ_ _ _ _ _ _ _ q=>ge_int q
 |.Is=>fun τ z k R d e v u I r1 r2 q K=>by
  obtain⟨rfl,q⟩:=xp q r2;exact is_none_gen (by rw[xo r1];exact K _ z.s.toks q)
 |.IsNot=>fun τ z k R d e v u I r1 r2 q K=>by
  obtain⟨rfl,q⟩:=xp (k:=λb=>k (!b)) q r2;exact isnot_none_gen (by rw[xo r1];exact K _ z.s.toks q)
end
end N
end
section
set_option maxHeartbeats 1000000
namespace N
open PySem PySem.Spec PyProof.Rows L2
def xr (x:D) (M:Mp) (k:Bool->Prop):Prop:=match x with
 |.ai=>k false
 |.bl b=>k b
 |.int i=>k (i != 0)
 |.str y=>y.length<=sizeLine/\k ((y.length:Int) != 0)
 |.tup ds=>k (!ds.isEmpty)
 |.lst ds=>k (!ds.isEmpty)
 |.ak ks ds=>k (!(ks.zip ds).isEmpty)
 |.ref p=>(∃xs,M p=some (.lst xs)/\k (!xs.isEmpty))\/∃kvs,M p=some (.ak kvs)/\k (!kvs.isEmpty)
 |_=>False
section
variable {X:Cx}{a b:Expr}{ta tb:DE}{pos:Pos}
theorem xt {G:Gx}{F:Fz}{ds:List D}{us:List Value} (r:af G F ds us):(!us.toArray.isEmpty)=!ds.isEmpty:=by
 cases ds with
 |nil=>rw[af]at r;subst r;rfl
 |cons d ds=>rw[af]at r;obtain⟨u,us,rfl,_⟩:=r;rfl
theorem gJ {n:Nat} (h:n<=sizeLine):(n:Int)<2 ^ 63:=by have:=nL;lia
theorem FV {τ:St} {z:Z}{d:D}{v:Value}{k:Bool->Prop}{R:Bool->Shared->Prop} (I:ae X τ z) (r:ab X.G z.F d v) (h:xr d z.M k) (K:∀b t,k b->R b { z.s with toks:=t }):W X (truthy v) R z.s:=by
 have hl:=nL;have lst:∀{ds:List D}{us:List Value}{a:Addr}{n:Nat},eB X.G z.F z.s.heap a ds us n->k (!ds.isEmpty)->W X (truthy (.ref a)) R z.s:=λl q=>wpAny_truthy_list l.p.isList (by rw[Xv];exact gJ l.z) (by rw[xt l.r];exact K _ _ q);have ak:∀{kvs:List (Key×D)}{vs:List (Key×Value)}{a:Addr},jF X.G z.F z.s.heap a kvs vs->k (!kvs.isEmpty)->W X (truthy (.ref a)) R z.s:=λ{kvs vs a} l q=>by
  have e:kvs.isEmpty=vs.isEmpty:=by have:=l.r;unfold KV at this;cases this <;> rfl
  have e2:kvs.length=vs.length:=Paired.length l.r;exact wpAny_truthy_dict l.n l.d (by rw[<- e2];exact gJ l.z) (by rw[<- e];exact K _ _ q)
 cases d with
 |ai=>rw[ab]at r;subst r;exact truthy_none (K _ z.s.toks h)
 |bl b=>rw[ab]at r;subst r;exact Zk (K _ z.s.toks h)
 |int i=>rw[ab]at r;obtain⟨t,rfl⟩:=r;exact PySem.P.truthy_int (K _ z.s.toks h)
 |str y=>rw[ab]at r;obtain⟨t,rfl⟩:=r;exact PySem.P.truthy_str (Int.not_le.mpr (gJ h.1)) (K _ _ h.2)
 |tup ds=>obtain⟨a,us,o,rfl,l⟩:=I.cR r;exact truthy_tuple l.p (by rw[Xv];exact gJ l.t.len) (by rw[xt l.r];exact K _ _ h)
 |lst ds=>obtain⟨a,us,n,rfl,l⟩:=I.fi r;exact lst l h
 |ak ks ds=>obtain⟨a,kvs,vs,rfl,l,h⟩:=I.cw (k:=λkvs=>k (!kvs.isEmpty)) r h;exact ak l h
 |ref a=>
  rw[ab]at r;subst r;rcases h with ⟨xs,h1,h2⟩ |⟨kvs,h1,h2⟩
  ·obtain⟨us,n,l⟩:=I.eC h1;exact lst l h2
  ·obtain⟨vs,l⟩:=I.iI h1;exact ak l h2
 |ty _=>exact h.elim
def xu (ta:DE):DT:=fun τ M q=>ta τ M λx M1=>xr x M1 λb=>q b M1
theorem FW (h:PE X a ta) (he:∀il,isTrue a X.env il=(do let v <- il;standAt a.pos;holding [v] (truthy v))):PT X a (xu ta):=fun τ z Q R I q k=>
 isTrue_plain (h τ z _ _ I q λd z1 u l1 I1 r1 q1=>FV I1 r1 q1 λb t q=>k b ⟨z1.F,z1.M,{ z1.s with toks:=t }⟩ l1 (I1.ng t) q) (he _)
def aA:Q2:=λx y M Q=>match x with
 |.str w=>b3 y λi=>w.length<=sizeLine/\∃c,cG w.cps.toList i=some c/\Q (.str ⟨#[c]⟩) M
 |.tup ds=>b3 y λi=>∃d,cG ds i=some d/\Q d M
 |.lst ds=>b3 y λi=>∃d,cG ds i=some d/\Q d M
 |.ak ks ds=>dO y λc=>∃d,aJ (ks.zip ds) c=some d/\Q d M
 |.ref a=>(∃ds,M a=some (.lst ds)/\b3 y λi=>∃d,cG ds i=some d/\Q d M)\/∃kvs,M a=some (.ak kvs)/\dO y λc=>∃d,aJ kvs c=some d/\Q d M
 |_=>False
theorem FX (ha:PE X a ta) (hb:PE X b tb) (hs:∀o i,subscripted b false o i=operate [o,i] (getItem o i)):PE X (.Subscript a b pos) (ni aA ta tb):=fun τ z Q R I h k=>
 Subscript_ (ha τ z _ _ I h λx z1 v l1 I1 r1 q1=>hb τ z1 _ _ I1 q1 λy z2 u l2 I2 r2 q2=>by
  have hs:=hs v u;have r1:=r1.up l2.d;have l:=l1.tr l2;have hn:=nL;have lst:∀{ds:List D}{us:List Value}{c:Addr}{n:Nat},v=.ref c->eB X.G z2.F z2.s.heap c ds us n->(b3 y λi=>∃d,cG ds i=some d/\Q d z2.M)->W X (subscriptTail a b v u) R z2.s:=λ{ds us c n} e p q=>by
   subst e;obtain⟨i,t,rfl,d,hd,q⟩:=cS q r2;obtain⟨j,h1,h2,h3,h4,h5⟩:=qy hd;obtain⟨w,UN,iJ⟩:=p.r.get h2;have hl:=p.r.len;have hz:=p.z;have fin:=k d z2 w l I2 iJ q;by_cases h0:0<=i
   ·have hj:i.toNat=j:=(by rw[seqIndex_of h0 h5]at h1;exact Yg h1);exact item_listR p.p.isList h0 (by lia) (by rw[hj];simpa using UN) fin hs
   ·have hj:(i+(us.toArray.size:Int)).toNat=j:=by
     rw[seqIndex_neg (by lia) h4]at h1;rw[Xv,<- hl];exact Yg h1
    exact subscriptTail_builtinR (x:=w) p.p.isList.typeIs slot_list_getitem.lookup (wpAny_getItem_list_neg (Q:=λr s'=>r=w/\R r s') p.p.isList (by lia) (by rw[Xv];lia) (by lia) (by rw[hj];simpa using UN) ⟨rfl,fin⟩) hs
  have ak:∀{kvs:List (Key×D)}{vs:List (Key×Value)}{c:Addr},v=.ref c->jF X.G z2.F z2.s.heap c kvs vs->(dO y λc=>∃d,aJ kvs c=some d/\Q d z2.M)->W X (subscriptTail a b v u) R z2.s:=λ{kvs vs c} e p q=>by
   subst e;obtain⟨c',hc,d,hd,q⟩:=jG (P:=X.G.P) (w:=X.G.w) q r2;have hv:=p.r.val c';rw[hd]at hv;cases e:valueAt vs c' with
   |none=>rw[e]at hv;exact hv.elim
   |some w=>
    rw[e]at hv;exact tail_any (ops:=[.ref c,u]) p.d.typeIs PySem.F.slot_dict_getitem.lookup (wpAny_getItem_of hc p.d.mapOf e (I2.fin k l hv q _)) hs
  cases x with
  |str w=>
   rw[ab]at r1;obtain⟨t,rfl⟩:=r1;obtain⟨i,t',rfl,hz,c,he,q⟩:=cS q2 r2;obtain⟨j,h1,h2,h3,h4,h5⟩:=qy he;have hl:w.cps.toList.length=w.length:=(by simp [Str.length]);rw[hl]at h1 h4 h5;exact tail_any (typeIs_str z2.s w t) slot_str_getitem.lookup (getItem_str (c:=c) (by
    have e1:decide (i < -(2 ^ 63:Int))=false:=decide_eq_false (by lia);have e2:decide (i ≥ 2 ^ 63)=false:=decide_eq_false (by lia);rw[e1,e2,Bool.or_false]) (by rw[h1];simpa using h2) (I2.fin k l gD q _)) hs
  |tup ds=>
   obtain⟨c,us,o,rfl,p⟩:=I2.cR r1;obtain⟨i,t,rfl,d,hd,q⟩:=cS q2 r2;obtain⟨j,h1,h2,h3,h4,h5⟩:=qy hd;obtain⟨w,UN,iJ⟩:=p.r.get h2;have hl:=p.r.len;have hz:=p.t.len;exact subscriptTail_builtinR (x:=w) p.p.typeIs slot_tuple_getitem.lookup (getItem_tuple (j:=j) (Q:=λr s'=>r=w/\R r s') p.p (by lia) (by lia) (by rw[Xv,<- hl];exact h1) (by simpa using UN) ⟨rfl,k d z2 w l I2 iJ q⟩) hs
  |lst ds=>obtain⟨c,us,n,e,p⟩:=I2.fi r1;exact lst e p q2
  |ak ks ds=>obtain⟨c,kvs,vs,e,p,q⟩:=I2.cw (k:=λkvs=>dO y λc=>∃d,aJ kvs c=some d/\Q d z2.M) r1 q2;exact ak e p q
  |ref c=>
   rw[ab]at r1;rcases q2 with ⟨ds,h1,h2⟩ |⟨kvs,h1,h2⟩
   ·obtain⟨us,n,p⟩:=I2.eC h1;exact lst r1 p h2
   ·obtain⟨vs,p⟩:=I2.iI h1;exact ak r1 p h2
  |_=>exact q2.elim)
def nX:QS:=λo i d M k=>match o with
 |.ref a=>(∃xs,M a=some (.lst xs)/\b3 i λn=>∃j,fo xs.length n=some j/\k (up M a (.lst (xs.set j d))))\/∃kvs,M a=some (.ak kvs)/\dO i λc=>kvs.length<sizeLine/\k (up M a (.ak (aY kvs c d)))
 |_=>False
theorem af.set {G:Gx}{F:Fz}{d:D}{u:Value} (r:ab G F d u):∀{ds:List D}{us:List Value} (i:Nat),af G F ds us->af G F (ds.set i d) (us.set i u)
 |[],us,i,h=>by rw[af]at h;subst h;exact .nil
 |c::ds,us,0,h=>by rw[af]at h;obtain⟨v,us,rfl,_,h2⟩:=h;exact .cons r h2
 |c::ds,us,i+1,h=>by rw[af]at h;obtain⟨v,us,rfl,h1,h2⟩:=h;exact .cons h1 (af.set r i h2)
theorem ae.xv {τ:St} {z:Z}{p:Addr}{xs ys:List D}{us us':List Value}{n n' t:Nat}{h':Heap} (I:ae X τ z) (h:z.M p=some (.lst xs)) (sb:∀ b,b≠p->bg z.s.heap h' b) (e:h'.get? p=some (bK us' n')) (r:af X.G z.F ys us') (hz:us'.length<=sizeLine) :
  ae X τ ⟨z.F,up z.M p (.lst ys),{ z.s with heap:=h',toks:=t }⟩:=I.put h rfl (.inl rfl) sb ⟨_,e⟩ ⟨by rw[r.len];exact hz,us',n',r,e⟩
theorem FY (hu:X.A.units+1<cLine):OS X nX:=fun τ z o i d ov iv u Q R I ro ri rd q k=>by
 unfold nX at q;cases o with
 |ref p=>
  rw[ab]at ro;subst ro;rcases q with ⟨xs,hp,q⟩ |⟨kvs,hp,q⟩
  ·obtain⟨n,t,rfl,j,hj,q⟩:=cS q ri;obtain⟨us,m,l⟩:=I.eC hp;obtain⟨h1,h2,h3,h4⟩:=wG hj;have hl:=l.r.len;have hn:=nL;have hz:=l.z;have e:(z.s.heap.update p (Yd (·.setIfInBounds j u))).get? p=some (bK (us.set j u) m):=by
    rw[Yc _ l.e (by unfold bK;rw[wH];rfl)];unfold bK;rw[wH]
   have fin:R () { z.s with heap:=z.s.heap.update p (Yd (·.setIfInBounds j u)) }:=
    k ⟨z.F,_,_⟩ Le.rfl (I.xv (us:=us) (n:=m) (t:=z.s.toks) hp (λb hb o q=>(Zz _ _ (YZ hb)).trans q) e (af.set rd j l.r) (by rw[List.length_set];exact hz)) q
   by_cases h0:0<=n
   ·have hk:n.toNat=j:=(by rw[seqIndex_of h0 h4]at h1;exact Yg h1);exact PySem.W.ki_setAt l.e h0 (by lia) (by rw[Xv,<- hl];exact h4) (by rw[hk];exact fin)
   ·have hk:(n+(us.toArray.size:Int)).toNat=j:=by
     rw[seqIndex_neg (by lia) h3]at h1;rw[Xv,<- hl];exact Yg h1
    exact PySem.W.ki_setBack l.e (by lia) (by rw[Xv,<- hl];exact h3) (by lia) (by rw[hk];exact fin)
  ·obtain⟨c,hc,hl,q⟩:=jG (P:=X.G.P) (w:=X.G.w) q ri;obtain⟨vs,l⟩:=I.iI hp;refine wpAny_setItem_pairs (hsz:=by rw[<- Paired.length l.r];exact l.z) hc l.d λh' nY hs=>?_;have he:∃q,h'.get? p=some q:=let ⟨q,_,_,hq,_⟩:=nY;⟨q,hq⟩
   exact k ⟨z.F,_,_⟩ Le.rfl (I.put (o':=.ak (aY kvs c d)) hp rfl (.inl rfl) (λb hb o q=>(hs.2 b hb).trans q) he ⟨Xz (qC _ _ _) hl,l.n,_,l.r.put c rd,nY⟩) q
 |_=>exact q.elim
end
end N
end
section
set_option maxHeartbeats 1000000
namespace N
open PySem PySem.Spec PyProof.Rows L2
abbrev XQ:=p8->Mp->Prop
abbrev Sp:=List D->Mp->QK->XQ->Prop
structure jK (G:Gx) (z z':Z) (s:Shared):Prop where
 s:z'.s=s
 l:Le z.F z'.F
 ok:aE G z'.F z'.M z'.s.heap
 os:z'.s.os=z.s.os
 bare:AllBare z'.s.gens
def CR (G:Gx) (z:Z) (Q:QK) (E:XQ) (r:Result) (s:Shared):Prop:=match r with
 |.ok (.ret u)=>∃d z',jK G z z' s/\ab G z'.F d u/\Q d z'.M
 |.ok _=>False
 |.error e=>∃x z',jK G z z' s/\vx G z' x e/\E x z'.M
structure bf (G:Gx) (k:Nat) (f:Addr) (fd:FuncData) (ps:List Str) (sp:Sp):Prop where
 len:∀ds M Q E,sp ds M Q E->ds.length=ps.length
 eu:∀(A:Around) (outer:List Env) (z:Z) (args:Args) (us:List Value) (ds:List D) (Q:QK) (E:XQ),bx k A->dM G A outer z->BindsTo z.s fd args (ps.zip us)->af G z.F ds us->sp ds z.M Q E ->
  codeAny (model G.P G.w) A (.call (.ref f) args) (CR G z Q E) z.s
section
variable {G:Gx}{F:Fz}{M:Mp}{h:Heap}{A:Around}{outer:List Env}{z z':Z}{s:Shared} (e:Fz)
theorem kI.xe {o:Obj}{ks:List Key}{us:List Value} (h:kI G o ks us):kI { G with ex:=e } o ks us:=⟨h.ex,h.bL,h.nd,h.len,h.sz⟩
mutual
theorem ab.xe:∀{d:D}{u:Value},ab G F d u->ab { G with ex:=e } F d u
 |.ai,u,h=>by rw[ab]at h ⊢;exact h
 |.bl _,u,h=>by rw[ab]at h ⊢;exact h
 |.int _,u,h=>by rw[ab]at h ⊢;exact h
 |.str _,u,h=>by rw[ab]at h ⊢;exact h
 |.ref _,u,h=>by rw[ab]at h ⊢;exact h
 |.ty _,u,h=>by rw[ab]at h ⊢;exact h
 |.tup ds,u,h=>by rw[ab]at h ⊢;obtain⟨a,o,us,q,h1,h2,h3⟩:=h;exact⟨a,o,us,q,h1,h2,h3.xe⟩
 |.lst ds,u,h=>by rw[ab]at h ⊢;obtain⟨a,o,us,q,h1,h2,h3⟩:=h;exact⟨a,o,us,q,h1,h2,h3.xe⟩
 |.ak ks ds,u,h=>by rw[ab]at h ⊢;obtain⟨a,o,us,q,h1,h2,h4,h3⟩:=h;exact⟨a,o,us,q,h1,h2.xe e,h4,h3.xe⟩
theorem af.xe:∀{ds:List D}{us:List Value},af G F ds us->af { G with ex:=e } F ds us
 |[],us,h=>by rw[af]at h ⊢;exact h
 |d::ds,us,h=>by rw[af]at h ⊢;obtain⟨u,r,q,h1,h2⟩:=h;exact⟨u,r,q,h1.xe,h2.xe⟩
end
theorem aE.xe (x:aE G F M h):aE { G with ex:=e } F M h:=⟨x.fz,λa o q=>⟨(x.ob a o q).1,by
 have y:=(x.ob a o q).2;cases o with
 |lst xs=>obtain⟨z,us,n,r,e1⟩:=y;exact⟨z,us,n,r.xe e,e1⟩
 |ak kvs=>obtain⟨z,y,vs,r,c⟩:=y;exact⟨z,y,vs,Paired.im (λ_ _ r=>⟨r.1,r.2.xe e⟩) r,c⟩
 |ins C dx fs=>
  obtain⟨d,z,ne,e1,mA,e2,r1,r2⟩:=y;refine⟨d,z,ne,e1,mA,e2,λf=>?_,r2⟩;have:=r1 f;cases q1:fs.lookup f <;> cases q2:mA f <;> rw[q1,q2]at this
  ·trivial
  ·exact this
  ·exact this
  ·exact ab.xe e this
 |own V'=>exact y
 |kJ ps=>exact y⟩,x.tb⟩
theorem jK.xe (x:jK G z z' s):jK { G with ex:=e } z z' s:=⟨x.s,x.l,x.ok.xe e,x.os,x.bare⟩
theorem dM.xe (x:dM G A outer z) (l:Le e z.F):dM { G with ex:=e } A outer z:=⟨x.frames,⟨x.bp.fg,x.bp.dp,x.bp.kM,x.bp.ju⟩,⟨x.bs.b,l⟩,x.b9,x.hok.xe e,x.bare⟩
theorem CR.xe {Q:QK}{E:XQ}{r:Result} (x:CR G z Q E r s):CR { G with ex:=e } z Q E r s:=by
 cases r with
 |error v=>obtain⟨y,z',h1,h2,h3⟩:=x;exact h2.elim
 |ok fl=>
  cases fl with
  |ret u=>obtain⟨d,z',h1,h2,h3⟩:=x;exact⟨d,z',h1.xe e,h2.xe e,h3⟩
  |next=>exact x
  |brk=>exact x
  |cont=>exact x
end
section
variable {G:Gx}{j k:Nat}{f:Addr}{fd:FuncData}{ps:List Str}{sp lr:Sp}{A:Around}{outer:List Env}{z:Z}
theorem bf.mono (F:bf G j f fd ps sp) (h:j<=k):bf G k f fd ps sp:=⟨F.len,λA outer z args us ds Q E hr=>F.eu A outer z args us ds Q E (hr.mono h)⟩
theorem bf.imp (F:bf G k f fd ps sp) (h:∀ds M Q E,lr ds M Q E->sp ds M Q E):bf G k f fd ps lr:=
 ⟨λds M Q E q=>F.len ds M Q E (h _ _ _ _ q),λA outer z args us ds Q E hr he hb hv hs=>F.eu A outer z args us ds Q E hr he hb hv (h _ _ _ _ hs)⟩
theorem dM.qA (e:dM G A outer z) (C:Addr) (us:List Value) (kw:List (Str×Value)):dM G (A.under (.builtin "type.__call__" ⟨.ref C::us,kw⟩)) outer z:=
 ⟨by first |exact e.frames |(simpa [Around.under,Code.envs,Code.isFrame,S5] using e.frames),e.bp,e.bs,e.b9,e.hok,e.bare⟩
theorem dM.bk (e:dM G A outer z):∀b o,G.base.get? b=some o->z.s.heap.get? b=some o:=λb o q=>e.hok.fz b _ (e.bs.b b o q)
end
def qO (sp:Sp) (bc:List D) (E:XQ) (t:DA):DE:=fun τ M q=>t τ M λds M1=>sp (ds++bc) M1 q E
def dP (X:Cx) (E:XQ):Prop:=∀x τ M,E x M->X.x x τ M
def eF (X:Cx) (ds:List D) (us:List Value):Prop:=∀ τ z,ae X τ z->af X.G z.F ds us
theorem af.append {G:Gx}{F:Fz}{ds es:List D}{us vs:List Value} (a:af G F ds us) (b:af G F es vs):af G F (ds++es) (us++vs):=by
 induction ds generalizing us with
 |nil=>rw[af]at a;subst a;exact b
 |cons d ds ih=>rw[af]at a;obtain⟨u,us,rfl,h1,h2⟩:=a;exact .cons h1 (ih h2)
section
variable {X:Cx}{k:Nat}{f C:Addr}{fd:FuncData}{ps:List Str}{sp:Sp}{bc:List D}{ds:List Value}{E:XQ}{x m:Str}{p pos cr:Pos}{e o:Expr}{es:List Expr}{ta:DE}{t:DA} {τ:St} {z:Z}{Q:QK}{R:Value->Shared->Prop}
theorem ae.FZ {z':Z}{s:Shared} (I:ae X τ z) (h:jK X.G ⟨aS z.F (X.aR z.s.heap),z.M,z.s⟩ z' s):∃z2:Z,z2.s=s/\z2.M=z'.M/\Le z.F z2.F/\ae X τ z2/\b8 z'.F z2.F:=by
 obtain⟨rfl,l,ok,os,bare⟩:=h;exact⟨⟨N.aM z'.F (X.aR z.s.heap),z'.M,z'.s⟩,rfl,rfl,Le.aM (λb e=>(I.fR e).2) l,I.after l ok os bare,b8.aM X.p9 l⟩
theorem xw {Q0:QK}{r:Result}{s':Shared} (hx:dP X E) (I:ae X τ z) (h:CR X.G ⟨aS z.F (X.aR z.s.heap),z.M,z.s⟩ Q E r s') (K:∀ u d (z2:Z),z2.s=s'->Le z.F z2.F->ae X τ z2->ab X.G z2.F d u->Q d z2.M->R u s') :
  (match (generalizing:=false) r with |.ok (.ret u)=>R u s' |.ok _=>False |.error e=>XE X e s'):=by
 cases r with
 |error e=>obtain⟨_,_,_,h,_⟩:=h;exact h.elim
 |ok fl=>
  cases fl with
  |ret u=>
   obtain⟨d,z',h,r,q⟩:=h;obtain⟨z2,e1,e2,l,J,ld⟩:=I.FZ h;exact K u d z2 e1 l J (r.up ld) (by rw[e2];exact q)
  |next=>exact h.elim
  |brk=>exact h.elim
  |cont=>exact h.elim
theorem nZ {K0:PySem.W.Frag}{x:Fz}{us:List Value}{vs:List D} (F:bf { X.G with ex:=x } k f fd ps sp) (hr:bx k X.A) (hb:bE K0 fd ps ds) (hd:eF X bc ds) (hx:dP X E) (I:ae X τ z) (lx:Le x (aS z.F (X.aR z.s.heap))) (hk:K0.In z.s.heap) (r:af X.G z.F vs us) (h:sp (vs++bc) z.M Q E) (K:KE X τ z.F Q R):W X (call (.ref f) us) R z.s:=by
 have r2:af X.G z.F (vs++bc) (us++ds):=r.append (hd τ z I);have hl:(us++ds).length=ps.length:=by rw[<- r2.len];exact F.len _ _ _ _ h
 refine wpAny_call (Y9 (F.eu X.A X.stk ⟨aS z.F (X.aR z.s.heap),z.M,z.s⟩ ⟨us,[]⟩ (us++ds) (vs++bc) Q E hr (I.qc.xe x lx) (hb z.s us hk hl) ((r2.up I.cA.d).xe x) h) λr s' hq=>?_);have:=xw (Q0:=Q) hx I (hq.xe X.G.ex) λu d z2 e l J r q=>e ▸ K d z2 u l J r q;cases r with
 |error e=>exact this
 |ok fl=>cases fl <;> exact this
theorem qP {us:List Value}{vs:List D} (F:bf X.G k f fd ps sp) (hr:bx k X.A) (hb:bE X.G.K fd ps ds) (hd:eF X bc ds) (hx:dP X E) (I:ae X τ z) (r:af X.G z.F vs us) (h:sp (vs++bc) z.M Q E) (K:KE X τ z.F Q R):W X (call (.ref f) us) R z.s:=
 nZ (x:=X.G.ex) F hr hb hd hx I (I.bs.x.tr I.cA) I.bQ r h K
theorem F3 (F:bf X.G k f fd ps sp) (hr:bx k X.A) (hg:Gl X x) (hm:X.G.mg x=some (.ref f)) (hk:PySem.W.keepIn X.G.K (.ref f)=true) (hb:bE X.G.K fd ps ds) (hd:eF X bc ds) (hx:dP X E)
  (ha:PA X (e::es) t) (cH:(x == ("__debug__" : Str))=false) (he:starEach (e::es) X.env=(false,eval e X.env)::starEach es X.env) (cV:(backTo pos (starEach es X.env)).any (·.1)=false) :
  PE X (.Call (.Name x p) (e::es) [] pos) (qO sp bc E t):=fun τ z Q R I h K=>
 Yt (ip I hg hm cH (PySem.W.callWith_K (h₀:=X.G.base) I.ok.bp.fg hk (ha pos τ z _ _ I h λvs z1 us l1 I1 r q=>⟨I1.bQ,qP F hr hb hd hx I1 r q λd z2 u l2=>K d z2 u (l1.tr l2)⟩) he cV))
theorem F4 (F:bf X.G k f fd ps sp) (hr:bx k X.A) (hg:Gl X x) (hm:X.G.mg x=some (.ref f)) (hk:PySem.W.keepIn X.G.K (.ref f)=true) (hb:bE X.G.K fd ps ds) (hd:eF X bc ds) (hx:dP X E)
  (cH:(x == ("__debug__" : Str))=false):PE X (.Call (.Name x p) [] [] pos) (qO sp bc E ez):=fun τ z Q R I h K=>
 Yt (ip I hg hm cH (PySem.W.callWith_K0 I.bQ hk (qP (us:=[]) F hr hb hd hx I .nil h K)))
end
noncomputable def start (N:List Str) (ds:List D):St:=ds.map some++Yw (N.length-ds.length) none
noncomputable def b6 (G:Gx) (N:List Str) (qual:Str) (scope:Scope) (f:Addr) (cd:Value) (A:Around) (outer:List Env) (s:Shared) (E:XQ):Cx where
 G:=G
 A:=A.deeper (envOfC qual scope s.heap.objs.size f cd)
 N:=N
 os:=s.os
 env:=envOfC qual scope s.heap.objs.size f cd
 outer:=outer
 stk:=envOfC qual scope s.heap.objs.size f cd::outer
 fn:=λ_=>true
 calm:=true
 x:=λx _ M=>E x M
theorem F6 {G:Gx}{N ps:List Str}{qual:Str}{scope:Scope}{f:Addr}{cd:Value}{A:Around}{outer:List Env}{z:Z}{s1:Shared}{E:XQ}{us:List Value}{ds:List D}
  (S:aB N ps scope) (hd:A.handled=none) (e0:dM G A outer z) (hl:ds.length=ps.length) (r:af G z.F ds us)
  (x:InCallC z.s z.s.heap.objs.size (bindL (envOfC qual scope z.s.heap.objs.size f cd).kindOf (ps.zip us) λ_=>none) (cellsFrom (z.s.heap.objs.size+1) scope.names []) (bindC (envOfC qual scope z.s.heap.objs.size f cd).kindOf (ps.zip us) λ_=>none) s1) :
  ae (b6 G N qual scope f cd A outer z.s E) (start N ds) ⟨z.F,z.M,s1⟩:=by
 have cV:ps.length<=N.length:=by have:=congrArg ZX S.pre;rw[List.length_take]at this;lia
 obtain⟨h1,tk,rfl,hk⟩:=x.done;refine⟨⟨e0.bp,S.kind,rfl,rfl,λy w c h1 h2=>?_,λy hy=>?_,λ_=>hd,Around.frames_deeper e0.frames,.inr ⟨rfl,rfl⟩⟩,e0.bs,rfl,e0.bare,e0.b9,⟨_,x.toInCall.ns,λi y v h1 h2 h3=>?_⟩,λy c h=>?_,⟨e0.hok.cz (Xu _),e0.hok.c6 (Xu _)⟩,e0.hok.keep λb _ o q=>hk b o q,?_⟩
 ·exact name_of_addr x.apart (PySem.mem_of_lookup h1) (PySem.mem_of_lookup h2)
 ·have hy:scope.names.lookup y=some .cell\/scope.names.lookup y=some .free:=hy;rcases hy with hy |hy
  ·exact wW hy
  ·exact absurd rfl (S.E7 _ (PySem.mem_of_lookup hy))
 ·have hi:i<ds.length:=by
   unfold start at h2;by_cases hi:i<ds.length
   ·exact hi
   ·rw[Ym (by simpa using hi),List.getElem?_replicate]at h2;split at h2 <;> cases h2
  have ha:ds[i]?=some v:=by
   unfold start at h2;rw[Yo (by simpa using hi),XJ]at h2;cases e:ds[i]? with
   |none=>rw[e]at h2;cases h2
   |some a=>rw[e]at h2;cases h2;rfl
  obtain⟨u,hu,rv⟩:=r.get ha;have hp:ps[i]?=some y:=by rw[<- S.pre,List.getElem?_take_of_lt (by lia)];exact h1
  have wS:ps.Nodup:=by rw[<- S.pre];exact S.nd.sublist (List.take_sublist _ _)
  refine⟨u,rv,?_⟩;rcases S.wN y (Yn hp) with k |k
  ·exact .inl ⟨k,wU wS hp hu k⟩
  ·obtain⟨c,e⟩:=wW (n:=z.s.heap.objs.size+1) k;refine .inr ⟨.inl k,c,e,?_⟩;have q:=x.cell y c e;rw[wV wS hp hu (by show scope.names.lookup y≠_;rw[k];decide)]at q;exact q
 ·have:=Nat.le_of_lt (x.above y c (PySem.mem_of_lookup h));exact⟨⟨_,x.cell y c h⟩,e0.hok.c6 this,.inl ⟨rfl,e0.hok.cz this⟩⟩
 ·unfold start;show _=N.length;rw[XI,Xr,List.length_replicate];lia
theorem qQ {G:Gx}{k:Nat}{f:Addr}{name qual:Str}{params:Arguments}{body:List Stmt}{scope:Scope}{UO kV doc pm an ct oc:Value}{TU od:Option Addr}{ch:Array (Option Value)}{N ps:List Str}{sp:Sp}
  (lk:G.K.lookup f=some ⟨oc,od,.func (PySem.W.fnOf name qual params body scope UO kV doc pm TU an ct),ch⟩) (dr:PySem.W.codeIn G.K an qual=true) (S:aB N ps scope) (len:∀ds M Q E,sp ds M Q E->ds.length=ps.length)
  (FM:∀(A:Around) (outer:List Env) (s:Shared) (M:Mp) (ds:List D) (Q:QK) (E:XQ),bx k (A.deeper (envOfC qual scope s.heap.objs.size f an))->sp ds M Q E ->
   ∃t,d4 (b6 G N qual scope f an A outer s E) body t/\t { nx:=λ_ M'=>Q .ai M',rt:=Q } (start N ds) M) :
  bf G (k+1) f (PySem.W.fnOf name qual params body scope UO kV doc pm TU an ct) ps sp:=by
 refine⟨len,λA outer z args us ds Q E hr e0 hb r jL=>?_⟩;have hl:=len _ _ _ _ jL;have KX:G.K.In z.s.heap:=e0.bp.fg.keeps e0.bk;have ju:z.s.heap.NoLimit:=e0.bp.ju.keeps e0.bk;have F7:∀y∈ps.zip us,scope.names.lookup y.1=some .local\/(scope.names.lookup y.1=some .cell/\((cellsFrom (z.s.heap.objs.size+1) scope.names []).lookup y.1).isSome=true):=λ⟨n,v⟩ hy=>by
  rcases S.wN n (Zf hy).1 with q |q
  ·exact .inl q
  ·exact .inr ⟨q,PySem.W.cellsFrom_some _ _ _ (.inl q)⟩
 refine codeAny_call_function hr.depth (KX _ _ lk) rfl S.UM S.jD rfl (PySem.W.codeRec_of KX dr) (hb _ _ _ _ ?_);refine wpAny_newFunctionEnv_cells S.kind F7 λenv he s1 x=>?_;subst he;refine⟨ju.keeps x.toInCall.keep,codeAny_func ?_⟩;obtain⟨t,ht,hq⟩:=FM A outer z.s z.M ds Q E (hr.deeper _) jL;refine Zv (ht (start N ds) ⟨z.F,z.M,s1⟩ _ (λfl s'=>match fl with |.ret u=>CR G z Q E (.ok (.ret u)) s' |.next=>CR G z Q E (.ok (.ret .none)) s' |_=>False) (F6 S hr.hd e0 hl r x) hq
  ⟨fun τ z1 l J q=>⟨.ai,z1,⟨rfl,l,J.hok,J.os,J.bare⟩,by rw[ab],q⟩,λd τ z1 u l J rd q=>⟨d,z1,⟨rfl,l,J.hok,J.os,J.bare⟩,rd,q⟩,λ_ _ _ _ q=>q,λ_ _ _ _ q=>q⟩) (λfl s' hs=>?_) λe s' hs=>hs.no.elim
 cases fl <;> first |exact hs |exact False.elim hs
end N
end
section
set_option maxHeartbeats 1000000
namespace N
open PySem PySem.Spec PyProof.Rows L2
noncomputable def fu (f:Str) (d:D):List (Str×D)->List (Str×D)
 |[]=>[(f,d)]
 |p::r=>if p.1=f then (f,d)::r else p::fu f d r
theorem jM (g:Str) (p:Str×D) (r:List (Str×D)):(p::r).lookup g=if g=p.1 then some p.2 else r.lookup g:=by
 by_cases h:g=p.1
 ·rw[if_pos h,List.lookup,beq_iff_eq.mpr h]
 ·rw[if_neg h,List.lookup,beq_eq_false_iff_ne.mpr h]
theorem qR (f g:Str) (d:D):∀fs:List (Str×D),(fu f d fs).lookup g=if g=f then some d else fs.lookup g
 |[]=>jM g (f,d) []
 |p::r=>by
  unfold fu;by_cases h:p.1=f
  ·rw[if_pos h,jM,jM,h];by_cases q:g=f
   ·rw[if_pos q,if_pos q]
   ·rw[if_neg q,if_neg q,if_neg q]
  ·rw[if_neg h,jM,jM,qR f g d r];by_cases q:g=p.1
   ·rw[if_pos q,if_neg λe=>h (q.symm.trans e)];rw[if_pos q]
   ·rw[if_neg q,if_neg q]
theorem xx (f:Str) (d:D):∀fs:List (Str×D),(fu f d fs).length<=fs.length+1
 |[]=>Xu _
 |p::r=>by
  unfold fu;split
  ·exact Y' _
  ·exact Zl (xx f d r)
theorem xy {g:Str}:∀{fs:List (Str×D)},fs.lookup g≠none->g∈fs.map (·.1)
 |[],h=>absurd rfl h
 |p::r,h=>by
  rw[jM]at h;by_cases q:g=p.1
  ·rw[q];exact XA
  ·rw[if_neg q]at h;exact XB _ (xy h)
theorem F8 {G:Gx}{F:Fz}{d:D}{u:Value} (r:ab G F d u):PySem.W.handedIn u=true:=by
 cases d <;> rw[ab]at r <;> first |(subst r;rfl) |(obtain⟨t,rfl⟩:=r;rfl) |(obtain⟨a,_,_,rfl,_⟩:=r;rfl) |(obtain⟨a,_,rfl,_⟩:=r;rfl)
def cC (d:D) (M:Mp) (k:Addr->Addr->Addr->List (Str×D)->Prop):Prop:=match d with
 |.ref a=>∃C dx fs,M a=some (.ins C dx fs)/\k a C dx fs
 |_=>False
def qS (K:PySem.W.Frag) (f:Str):Q1:=λx M q=>cC x M λa C dx fs=>∃d,(cU K C/\d6 K C f)/\fs.lookup f=some d/\q d M
def qT (K:PySem.W.Frag) (f:Str) (o d:D) (M:Mp) (k:Mp->Prop):Prop:=cC o M λa C dx fs=>(cU K C/\d6 K C f)/\fs.length<1000/\k (up M a (.ins C dx (fu f d fs)))
def lu (C:Addr) (m:Str) (sp:Sp) (bc:List D) (E:XQ) (to:DE) (t:DA):DE:=fun τ M q=>to τ M λo M1=>cC o M1 λ_ C' _ fs=>C'=C/\fs.lookup m=none/\t τ M1 λds M2=>sp (o::(ds++bc)) M2 q E
def qU (C:Addr) (sp:Sp) (bc:List D) (E:XQ) (t:DA):DE:=fun τ M q=>t τ M λds M1=>∀x dx,M1 x=none->M1 dx=none->dx≠x ->
 sp (.ref x::(ds++bc)) (up (up M1 dx (.own x)) x (.ins C dx [])) (λv M2=>v=.ai/\q (.ref x) M2) E
section
variable {X:Cx} {τ:St} {z:Z}{C:Addr}{f m:Str}{o e value:Expr}{es:List Expr}{to tv:DE}{t:DA}{pos cr qV S6 p:Pos}{d:D}{v u:Value}
theorem ae.cC {k:Addr->Addr->Addr->List (Str×D)->Prop} (I:ae X τ z) (r:ab X.G z.F d u) (h:cC d z.M k):∃a C dx fs mA,u=.ref a/\z.M a=some (.ins C dx fs)/\iG z.s.heap a dx C mA/\(∀f,fP X.G z.F (fs.lookup f) (mA f))/\PySem.Within mA (fs.map (·.1))/\z.M dx=some (.own a)/\k a C dx fs:=by
 unfold N.cC at h;split at h
 ·rename_i a;obtain⟨C,dx,fs,e,h⟩:=h;rw[ab]at r;obtain⟨d,_,ne,ob,mA,n,rr,q⟩:=(I.hok.ob a _ e).2;exact⟨a,C,dx,fs,mA,r,e,⟨ob,n,ne⟩,rr,q,d,h⟩
 ·exact h.elim
theorem F9 {b:Bool}:O1 X (λv=>getAttr v f b) (qS X.G.K f):=fun τ z Q R d v I r h k=>by
 obtain⟨a,C,dx,fs,mA,rfl,e,O,rr,_,_,d',⟨c,n⟩,l,q⟩:=I.cC r h;have rf:=rr f;rw[l]at rf;cases e':mA f with
 |none=>rw[e']at rf;exact rf.elim
 |some w=>rw[e']at rf;exact E9 I.bQ O (c.get f) c.hd n e' (F8 rf) (k d' ⟨z.F,z.M,_⟩ w Le.rfl (I.ng _) rf q)
theorem Ga {Q:Mp->Prop}{R:Unit->Shared->Prop}{od:D}{ov:Value} (I:ae X τ z) (ro:ab X.G z.F od ov) (rd:ab X.G z.F d u) (h:qT X.G.K f od d z.M Q) (k:∀z',z'.F=z.F->ae X τ z'->Q z'.M->R () z'.s):W X (setAttr ov f u) R z.s:=by
 obtain⟨a,C,dx,fs,mA,rfl,e,O,rr,wi,ho,⟨c,n⟩,hl,q⟩:=I.cC ro h;have hz:(fs.map (·.1)).length<=sizeLine:=by rw[Xr,ZQ];lia
 refine Fc I.bQ O c.sa c.V8 n.Fi c.hd wi hz λh' O' sb=>k ⟨z.F,_,_⟩ rfl (I.put (o':=.ins C dx (fu f d fs)) e rfl (.inr ho) (λb hb o q=>(sb.2 b hb).trans q) (let ⟨o,_,_,e',_⟩:=O'.ns;⟨o,e'⟩) ?_) q
 refine⟨by rw[az O.ne];exact ho,Xz (xx f d fs) hl,O.ne,O'.obj,_,O'.ns,λg=>?_,λg hg=>xy ?_⟩
 ·show fP _ _ ((fu f d fs).lookup g) (if g=f then some u else mA g)
  rw[qR];by_cases q:g=f
  ·rw[if_pos q,if_pos q];exact rd
  ·rw[if_neg q,if_neg q];exact rr g
 ·rw[qR];by_cases q:g=f
  ·rw[if_pos q];exact Yk d
  ·have hg:(if g=f then some u else mA g)≠none:=hg
   rw[if_neg q]at hg ⊢;have:=rr g;cases e1:fs.lookup g with
   |some _=>exact Yk _
   |none=>rw[e1]at this;cases e2:mA g with
    |none=>exact absurd e2 hg
    |some _=>rw[e2]at this;exact this.elim
variable {k:Nat}{g:Addr}{fd:FuncData}{ps:List Str}{sp:Sp}{bc:List D}{ds:List Value}{E:XQ}{x:Str}
theorem xA {pl:Sem Bool}{args:List Expr} (ho:PE X o to) (c:cU X.G.K C) (hm:jE X.G.K C m g) (F:bf X.G k g fd ps sp) (hr:bx k X.A) (hb:bE X.G.K fd ps ds) (hd:eF X bc ds) (hx:dP X E)
  (ht:eval (.Call (.Attribute o m cr) args [] pos) X.env=(do
   let ov <- eval o X.env
   standAt cr.atName
   let (f,first) <- holding [ov] (getMethod ov m pl)
   callWith pos f first (backTo pos (starEach args X.env)) (backToKw pos (keywordEach [] X.env))))
  (ha:∀ τ z a R Q,ae X τ z->t τ z.M Q->(∀ds z' us,Le z.F z'.F->ae X τ z'->af X.G z'.F ds us->Q ds z'.M->W X (call (.ref g) (.ref a::us)) R z'.s)->W X (callWith pos (.ref g) [.ref a] (backTo pos (starEach args X.env)) (backToKw pos (keywordEach [] X.env))) R z.s) :
  PE X (.Call (.Attribute o m cr) args [] pos) (lu C m sp bc E to t):=fun τ z Q R I h K=>
 PySem.W.methodCall_KW (pl:=pl) (ho τ z _ _ I h λod z1 u l1 I1 r1 q1=>by
  obtain⟨a,C',dx,fs,mA,rfl,e,O,rr,wi,ho,rfl,l,q⟩:=I1.cC r1 q1;have hn:mA m=none:=by have:=rr m;rw[l]at this;cases e2:mA m with
   |none=>rfl
   |some _=>rw[e2]at this;exact this.elim
  exact Fb I1.bQ O (c.get m) hm.bL hm.fn hn (ha τ z1 a R _ I1 q λds z2 us l2 I2 r2 q2=>qP F hr hb hd hx I2 (.cons (r1.up l2.d) r2) q2 λd z3 u l3=>K d z3 u (l1.tr (l2.tr l3)))) ht
theorem Gb {pl:Sem Bool} (ho:PE X o to) (c:cU X.G.K C) (hm:jE X.G.K C m g) (F:bf X.G k g fd ps sp) (hr:bx k X.A) (hb:bE X.G.K fd ps ds) (hd:eF X bc ds) (hx:dP X E) (ha:PA X (e::es) t)
  (c9:starEach (e::es) X.env=(false,eval e X.env)::starEach es X.env) (cV:(backTo pos (starEach es X.env)).any (·.1)=false)
  (ht:eval (.Call (.Attribute o m cr) (e::es) [] pos) X.env=(do
   let ov <- eval o X.env
   standAt cr.atName
   let (f,first) <- holding [ov] (getMethod ov m pl)
   callWith pos f first (backTo pos (starEach (e::es) X.env)) (backToKw pos (keywordEach [] X.env)))):PE X (.Call (.Attribute o m cr) (e::es) [] pos) (lu C m sp bc E to t):=
 xA ho c hm F hr hb hd hx ht fun τ z a R Q I q K=>PySem.W.callWith_K (first:=[.ref a]) (h₀:=X.G.base) I.ok.bp.fg hm.kp (ha pos τ z _ _ I q λds z2 us l2 I2 r2 q2=>⟨I2.bQ,K ds z2 us l2 I2 r2 q2⟩) c9 cV
theorem Ge {pl:Sem Bool} (ho:PE X o to) (c:cU X.G.K C) (hm:jE X.G.K C m g) (F:bf X.G k g fd ps sp) (hr:bx k X.A) (hb:bE X.G.K fd ps ds) (hd:eF X bc ds) (hx:dP X E)
  (ht:eval (.Call (.Attribute o m cr) [] [] pos) X.env=(do
   let ov <- eval o X.env
   standAt cr.atName
   let (f,first) <- holding [ov] (getMethod ov m pl)
   callWith pos f first (backTo pos (starEach [] X.env)) (backToKw pos (keywordEach [] X.env)))):PE X (.Call (.Attribute o m cr) [] [] pos) (lu C m sp bc E to ez):=
 xA ho c hm F hr hb hd hx ht fun τ z a R Q I q K=>PySem.W.callWith_K0 (first:=[.ref a]) I.bQ hm.kp (K [] z [] Le.rfl I .nil q)
theorem ae.made (I:ae X τ z):ae X τ ⟨z.F,up (up z.M z.s.heap.objs.size (.own (z.s.heap.objs.size+1))) (z.s.heap.objs.size+1) (.ins C z.s.heap.objs.size []),{ z.s with heap:=(z.s.heap.push PySem.W.emptyDict).push (PySem.W.instObj C z.s.heap.objs.size) }⟩:=by
 have e1:(z.s.heap.push PySem.W.emptyDict).get? z.s.heap.objs.size=some PySem.W.emptyDict:=Xw z.s.heap rfl;have e2:((z.s.heap.push PySem.W.emptyDict).push (PySem.W.instObj C z.s.heap.objs.size)).get? (z.s.heap.objs.size+1)=some (PySem.W.instObj C z.s.heap.objs.size):=by
  have:=Xw (z.s.heap.push PySem.W.emptyDict) (o:=PySem.W.instObj C z.s.heap.objs.size) rfl
  rwa [X8]at this
 have e3:(z.s.heap.push PySem.W.emptyDict).Ns z.s.heap.objs.size (λ_=>none):=⟨PySem.W.emptyDict,#[],_,e1,rfl,(λe he=>absurd he (by simp)),λ_=>rfl⟩;have ne:z.s.heap.objs.size≠z.s.heap.objs.size+1:=XH (YY _);have I1:=I.kK (a:=z.s.heap.objs.size) (o:=.own (z.s.heap.objs.size+1)) (h':=z.s.heap.push PySem.W.emptyDict) (t:=z.s.toks) (λb u q=>Xq _ q) (Xu _) ⟨_,e1⟩;exact I1.kK (a:=z.s.heap.objs.size+1) (o:=.ins C z.s.heap.objs.size []) (t:=z.s.toks) (λb u q=>Xq _ q) (ZL (X8 _ _))
  ⟨by rw[az ne];exact aw,XS _,ne,e2,λ_=>none,(Heap.Ns1.of_empty e3).at λo q=>Xq _ q,λ_=>ZO,λy hy=>absurd rfl hy⟩
theorem xB {us:List Value}{vs:List D}{Q:QK}{R:Value->Shared->Prop} (M:Mk X.G.K C g) (F:bf X.G k g fd ps sp) (hr:bx (k+1) X.A) (hb:bE X.G.K fd ps ds) (hd:eF X bc ds) (hx:dP X E) (I:ae X τ z) (r:af X.G z.F vs us)
  (h:∀x dx,z.M x=none->z.M dx=none->dx≠x->sp (.ref x::(vs++bc)) (up (up z.M dx (.own x)) x (.ins C dx [])) (λv M2=>v=.ai/\Q (.ref x) M2) E) (K:KE X τ z.F Q R):W X (call (.ref C) us) R z.s:=by
 have hq:=h (z.s.heap.objs.size+1) z.s.heap.objs.size (I.hok.c6 (Y' _)) (I.hok.c6 (Xu _)) (XH (YY _));have I2:=ae.made (C:=C) I;have r2:af X.G z.F (D.ref (z.s.heap.objs.size+1)::(vs++bc)) (Ye (z.s.heap.objs.size+1)::(us++ds)):=.cons (by rw[ab]) (r.append (hd τ z I));have hl:(Ye (z.s.heap.objs.size+1)::us++ds).length=ps.length:=by
  have e:=r2.len;rw[F.len _ _ _ _ hq]at e;exact e.symm
 refine wpAny_call (Fh (f:=g) I.bQ M.Fm M.init (beq_iff_eq.mp M.fn) (Y9 (F.eu _ X.stk _ ⟨Ye (z.s.heap.objs.size+1)::us,[]⟩ (Ye (z.s.heap.objs.size+1)::(us++ds)) _ _ E (hr.qA C us [])
  (I2.qc.qA C us []) (hb _ (Ye (z.s.heap.objs.size+1)::us) I2.bQ hl) (r2.up I2.cA.d) hq) λr s' hq'=>?_))
 have:=xw (Q0:=Q) (R:=λu s'=>u=.none/\R (.ref (z.s.heap.objs.size+1)) s') hx I2 hq' λu d z2 e l J r q=>by
  obtain⟨rfl,q⟩:=q;rw[ab]at r;exact⟨r,e ▸ K _ z2 _ l J (by rw[ab]) q⟩
 cases r with
 |error e=>exact this
 |ok fl=>cases fl <;> exact this
theorem Gf (M:Mk X.G.K C g) (F:bf X.G k g fd ps sp) (hr:bx (k+1) X.A) (hg:Gl X x) (hm:X.G.mg x=some (.ref C)) (hb:bE X.G.K fd ps ds) (hd:eF X bc ds) (hx:dP X E)
  (ha:PA X (e::es) t) (cH:(x == ("__debug__" : Str))=false) (he:starEach (e::es) X.env=(false,eval e X.env)::starEach es X.env) (cV:(backTo pos (starEach es X.env)).any (·.1)=false) :
  PE X (.Call (.Name x p) (e::es) [] pos) (qU C sp bc E t):=fun τ z Q R I h K=>
 Yt (ip I hg hm cH (PySem.W.callWith_K (h₀:=X.G.base) I.ok.bp.fg M.kp (ha pos τ z _ _ I h λvs z1 us l1 I1 r q=>⟨I1.bQ,xB M F hr hb hd hx I1 r q λd z2 u l2=>K d z2 u (l1.tr l2)⟩) he cV))
theorem Gg (M:Mk X.G.K C g) (F:bf X.G k g fd ps sp) (hr:bx (k+1) X.A) (hg:Gl X x) (hm:X.G.mg x=some (.ref C)) (hb:bE X.G.K fd ps ds) (hd:eF X bc ds) (hx:dP X E)
  (cH:(x == ("__debug__" : Str))=false):PE X (.Call (.Name x p) [] [] pos) (qU C sp bc E ez):=fun τ z Q R I h K=>
 Yt (ip I hg hm cH (PySem.W.callWith_K0 I.bQ M.kp (xB (us:=[]) M F hr hb hd hx I .nil h K)))
end
end N
end
section
set_option maxHeartbeats 1000000
namespace N
open PySem PySem.Spec PyProof.Rows L2
def xC:Q1:=λx M q=>b3 x λi=>q (.int (-i)) M
abbrev DO:=St->Mp->(Option Int->Mp->Prop)->Prop
def xD:DO:=λ_ M q=>q none M
def xE (t:DE):DO:=fun τ M q=>t τ M λx M1=>b3 x λi=>q (some i) M1
noncomputable def cI (xs:List D) (lo hi:Option Int):List D:=(xs.drop (HT.aA xs.length 0 lo)).take (HT.aA xs.length xs.length hi-HT.aA xs.length 0 lo)
def qW (x:D) (lo hi:Option Int) (M:Mp) (Q:QK):Prop:=match x with
 |.tup ds=>Q (.tup (cI ds lo hi)) M
 |.str w=>w.length<=sizeLine/\Q (.str (Txt.slice w lo hi)) M
 |x=>aV x M λxs=>bR (cI xs lo hi) M Q
def xF (te:DE) (tl th:DO):DE:=fun τ M q=>te τ M λx M1=>tl τ M1 λl M2=>th τ M2 λh M3=>qW x l h M3 q
def qX:Q1:=λx M q=>match x with
 |.tup ds=>q (.tup ds.reverse) M
 |x=>aV x M λds=>bR ds.reverse M q
section
variable {X:Cx}{e:Expr}{te:DE}{lo hi:Option Expr}{tl th:DO}{pos p2 p3 p4:Pos}
theorem xG {op:UnaryOp}{r:Q1} (ho:O1 X (unaryOp op) r) (h:PE X e te):PE X (.UnaryOp op e pos) (jx r te):=fun τ z Q R I q k=>
 UnaryOp_ (h τ z _ _ I q λd z1 u l1 I1 r1 q1=>ho τ z1 Q R d u I1 r1 q1 λd z2 u l2=>k d z2 u (l1.tr l2))
theorem xH:O1 X (unaryOp .USub) xC:=fun τ z Q R d v I r q k=>by
 obtain⟨i,t,rfl,q⟩:=cS q r;exact neg_int (I.fin k Le.rfl b5 q _)
def PO (X:Cx) (e:Option Expr) (t:DO):Prop:=∀ τ z Q R,ae X τ z->t τ z.M Q->(∀o z' u,Le z.F z'.F->ae X τ z'->IsPart u o->Q o z'.M->R u z'.s)->W X (evalPart e X.env) R z.s
theorem Gh:PO X none xD:=fun τ z Q R I h k=>by rw[evalPart_none];exact Xs (k none z .none Le.rfl I .none h)
theorem Gi (h:PE X e te):PO X (some e) (xE te):=fun τ z Q R I hw k=>by
 rw[evalPart_some];exact h τ z _ _ I hw λd z1 u l1 I1 r1 q1=>by
  obtain⟨i,t,rfl,q⟩:=cS q1 r1;exact k (some i) z1 _ l1 I1 (.int i t) q
theorem xI (xs:List D) (lo hi:Option Int):(cI xs lo hi).length<=xs.length:=by
 unfold cI;rw[List.length_take,List.length_drop];lia
theorem af.qY {G:Gx}{F:Fz}{ds:List D}{us:List Value} (r:af G F ds us) (i j:Nat):af G F ((ds.drop i).take j) ((us.drop i).take j):=by
 have Vb:∀(i:Nat) {ds:List D}{us:List Value},af G F ds us->af G F (ds.drop i) (us.drop i):=λi=>by
  induction i with
  |zero=>exact λr=>r
  |succ i ih=>intro ds us r;cases ds with
   |nil=>rw[af]at r;subst r;exact .nil
   |cons d ds=>rw[af]at r;obtain⟨u,us,rfl,_,r⟩:=r;exact ih r
 have tk:∀(i:Nat) {ds:List D}{us:List Value},af G F ds us->af G F (ds.take i) (us.take i):=λi=>by
  induction i with
  |zero=>exact λr=>by rw[List.take_zero,List.take_zero];exact .nil
  |succ i ih=>intro ds us r;cases ds with
   |nil=>rw[af]at r;subst r;exact .nil
   |cons d ds=>rw[af]at r;obtain⟨u,us,rfl,h,r⟩:=r;exact .cons h (ih r)
 exact tk j (Vb i r)
theorem af.rev {G:Gx}{F:Fz}:∀{ds:List D}{us:List Value},af G F ds us->af G F ds.reverse us.reverse
 |[],us,r=>by rw[af]at r;subst r;exact .nil
 |d::ds,us,r=>by rw[af]at r;obtain⟨u,us,rfl,h,r⟩:=r;rw[Y1,Y1];exact (af.rev r).app (.cons h .nil)
theorem Gj {τ:St} {z:Z}{x:D}{v vl vu:Value}{lo hi:Option Int}{sl:Addr}{Q:QK}{R:Value->Shared->Prop} (I:ae X τ z) (r:ab X.G z.F x v) (hs:z.s.heap.IsSliceOf sl vl vu .none) (pl:IsPart vl lo) (pu:IsPart vu hi) (q:qW x lo hi z.M Q) (K:KE X τ z.F Q R) :
  ∃T id,typeLookup (.type T) "__getitem__"=pure (some (.builtin id))/\z.s.TypeIs v T/\W X (getItem v (.ref sl)) R z.s:=by
 have lst:(aV x z.M λxs=>bR (cI xs lo hi) z.M Q)->∃T id,typeLookup (.type T) "__getitem__"=pure (some (.builtin id))/\z.s.TypeIs v T/\W X (getItem v (.ref sl)) R z.s:=λq=>by
  obtain⟨a,ds,us,n,rfl,l,q⟩:=I.aV r q;have hlen:=l.r.len;have hz:=l.z;have hc:(cI ds lo hi).length<=sizeLine:=Xz (xI ds lo hi) (by rw[hlen];exact hz);refine⟨"list",_,slot_list_getitem.lookup,l.p.isList.typeIs,wpAny_getItem_list_slice l.p.isList hs pl pu .none (by simp) ?_ (by rw[Xv] <;> lia)⟩;have rc:af X.G z.F (cI ds lo hi) _:=l.r.qY (HT.aA ds.length 0 lo) (HT.aA ds.length ds.length hi-HT.aA ds.length 0 lo);rw[E2,<- hlen];exact I.lst (n:=0) (t:=z.s.toks) K Le.rfl rc (λb ob q=>Xq _ q) (Xu _) (Xw _ rfl) (by rw[<- rc.len];exact hc) q
 unfold qW at q;split at q
 ·rename_i ds;obtain⟨a,us,o,rfl,p⟩:=I.cR r;have hl:=p.r.len;have hlen:us.toArray.size=ds.length:=by rw[Xv];exact hl.symm
  refine⟨"tuple",_,PyProof.Rows.slot_tuple_getitem.lookup,p.p.typeIs,?_⟩;by_cases w:HT.aA ds.length 0 lo=0/\HT.aA ds.length ds.length hi=ds.length
  ·have e:cI ds lo hi=ds:=by
    unfold cI;rw[w.1,w.2,List.drop_zero,Nat.sub_zero,List.take_length]
   rw[e]at q;exact E3 p.p hs pl pu (by rw[hlen];exact w) (K _ z _ Le.rfl I r q)
  ·have rc:af X.G z.F (cI ds lo hi) _:=p.r.qY (HT.aA ds.length 0 lo) (HT.aA ds.length ds.length hi-HT.aA ds.length 0 lo);refine HT.E0 p.p hs pl pu (by rw[hlen];exact w) ?_ (by rw[Xv];exact p.t.len);rw[hlen];exact I.tup (t:=z.s.toks) K Le.rfl rc (λb ob q=>Xq _ q) (Xu _) (Xw _ rfl) ⟨rfl,rfl,⟨_,rfl⟩,by rw[<- rc.len];exact Xz (xI ds lo hi) (by rw[hl];exact p.t.len)⟩ q
 ·rename_i w;rw[ab]at r;obtain⟨t,rfl⟩:=r;obtain⟨hz,q⟩:=q;have fin:∀ (t':Tok) (k:Nat),R (.str (Txt.slice w lo hi) t') { z.s with toks:=k }:=λt' k=>I.fin K Le.rfl gD q _;refine⟨"str",_,F.slot_str_getitem.lookup,typeIs_str _ _ _,?_⟩;obtain⟨os,cT,gI,em⟩:=hs;have pt:∀ {v:Value}{o:Option Int},IsPart v o->∃ l:Option (Int×Tok),v=(match l with | some p=>.int p.1 p.2 | none=>.none)/\o=l.map (·.1):=λp=>by
   cases p with
   |none=>exact⟨none,rfl,rfl⟩
   |int i t=>exact⟨some (i,t),rfl,rfl⟩
  obtain⟨l,rfl,rfl⟩:=pt pl;obtain⟨u,rfl,rfl⟩:=pt pu;refine wpAny_getItem_str_slice (l:=l) (u:=u) (st:=none) ⟨os,cT,gI,?_⟩ rfl (post_val_or_str ⟨Xz (Txt.slice_le w _ _) hz,fin⟩);cases l <;> cases u <;> exact em
 ·exact lst q
theorem Gk (he:PE X e te) (hl:PO X lo tl) (hu:PO X hi th) (hs:∀o i,subscripted (.Slice lo hi none p2) false o i=operate [i,o] (getItem o i)):PE X (.Subscript e (.Slice lo hi none p2) pos) (xF te tl th):=fun τ z Q R I h K=>
 Subscript_ (he τ z _ _ I h λx z1 v l1 I1 r1 q1=>wpAny_Slice (hl τ z1 _ _ I1 q1 λl z2 vl l2 I2 pl q2=>hu τ z2 _ _ I2 q2 λu z3 vu l3 I3 pu q3=>by
  rw[evalPart_none];have I4:ae X τ ⟨z3.F,z3.M,{ z3.s with heap:=z3.s.heap.push { cls:=.type "slice",data:=.fields #[vl,vu,.none] } }⟩:=I3.bN (t:=z3.s.toks) λb ob q=>Xq _ q;obtain⟨T,id,hT,ht,hg⟩:=Gj I4 (r1.up (l2.tr l3).d) (Heap.IsSliceOf.new ..) pl pu q3 λd z u l=>K d z u ((l1.tr (l2.tr l3)).tr l);exact Xs (tail_any (ops:=[.ref z3.s.heap.objs.size,v]) ht hT hg (hs _ _))))
theorem Gm {k:Nat} (he:PE X e te) (hs:∀o i,subscripted (.Slice none none (some (.UnaryOp .USub (.Constant (.int 1) k p3) p4)) p2) false o i=operate [o,i] (getItem o i)):PE X (.Subscript e (.Slice none none (some (.UnaryOp .USub (.Constant (.int 1) k p3) p4)) p2) pos) (jx qX te):=fun τ z Q R I h K=>
 Subscript_ (he τ z _ _ I h λx z1 v l1 I1 r1 q1=>wpAny_Slice (by
  rw[evalPart_none];refine Xs (Xs ?_);rw[evalPart_some];refine xG xH (te:=T6 (.int 1)) vT τ z1 (λy M=>y=.int (-1)/\M=z1.M) _ I1 ⟨rfl,rfl⟩ λy z2 u l2 I2 r2 q2=>?_;obtain⟨rfl,q2⟩:=q2;rw[ab]at r2;obtain⟨t,rfl⟩:=r2;have I4:ae X τ ⟨z2.F,z2.M,{ z2.s with heap:=z2.s.heap.push { cls:=.type "slice",data:=.fields #[.none,.none,.int (-1) t] } }⟩:=I2.bN (t:=z2.s.toks) λb ob q=>Xq _ q;have r1:=r1.up l2.d;have K:KE X τ z2.F Q R:=λd z u l=>K d z u ((l1.tr l2).tr l);rw[<- q2]at q1;have lst:(aV x z2.M λds=>bR ds.reverse z2.M Q)->W X (subscriptTail e (.Slice none none (some (.UnaryOp .USub (.Constant (.int 1) k p3) p4)) p2) v (.ref z2.s.heap.objs.size)) R { z2.s with heap:=z2.s.heap.push { cls:=.type "slice",data:=.fields #[.none,.none,.int (-1) t] } }:=λq=>by
   obtain⟨a,ds,us,n,rfl,l,q⟩:=I4.aV r1 q;have hz:=l.z;refine tail_any (ops:=[.ref a,.ref z2.s.heap.objs.size]) (T:="list") l.p.isList.typeIs slot_list_getitem.lookup ?_ (hs _ _);refine wpAny_getItem_list_slice l.p.isList (Heap.IsSliceOf.new ..) .none .none (.int (-1) t) (by simp) ?_ (by rw[Xv] <;> lia);rw[PySem.W.krv_pick];exact I4.lst (n:=0) (t:=z2.s.toks) K Le.rfl l.r.rev (λb ob q=>Xq _ q) (Xu _) (Xw _ rfl) (by rw[Zs];exact hz) q
  unfold qX at q1;split at q1
  ·obtain⟨a,us,o,rfl,p⟩:=I4.cR r1;refine tail_any (ops:=[.ref a,.ref z2.s.heap.objs.size]) (T:="tuple") p.p.typeIs slot_tuple_getitem.lookup (Ft p.p (Heap.IsSliceOf.new ..) ?_ (by rw[Xv];exact p.t.len)) (hs _ _);exact I4.tup (t:=z2.s.toks) K Le.rfl p.r.rev (λb ob q=>Xq _ q) (Xu _) (Xw _ rfl) ⟨rfl,rfl,⟨_,rfl⟩,by rw[Zs];exact p.t.len⟩ q1
  ·exact lst q1))
end
end N
end
section
set_option maxHeartbeats 1000000
namespace N
open PySem PySem.Spec PyProof.Rows L2 PyProof.V
def Gq (x:D) (M:Mp) (k:Nat->Prop):Prop:=match x with
 |.str w=>w.length<=sizeLine/\k w.length
 |.tup ds=>k ds.length
 |.lst ds=>k ds.length
 |.ak ks ds=>k (ks.zip ds).length
 |.ref p=>(∃xs,M p=some (.lst xs)/\k xs.length)\/∃kvs,M p=some (.ak kvs)/\k kvs.length
 |_=>False
def n1 (r:Q1):QN:=λds M q=>match ds with
 |[x]=>r x M q
 |_=>False
def xJ:QN:=n1 λx M q=>Gq x M λn=>q (.int n) M
def qZ:QN:=n1 λx M q=>dt x M λds=>q (.tup ds) M
def xK:QN:=n1 λx M q=>match x with
 |.int i=>q (.int i) M
 |.bl b=>q (.int (if b then 1 else 0)) M
 |_=>False
def q8:QN:=λds M q=>match ds with
 |[.int i,.int j]=>q (.int (if j > i then j else i)) M
 |[x]=>aV x M λds=>∃ns:List Int,ds=ns.map D.int/\0<ns.length/\∀m,m∈ns->(∀a∈ns,a<=m)->q (.int m) M
 |_=>False
def xM:QN:=n1 λx M q=>aV x M λds=>∃ns:List Int,ds=ns.map D.int/\q (.int ns.sum) M
def Gs (f:List Bool->Bool):QN:=n1 λx M q=>aV x M λds=>∃bs:List Bool,ds=bs.map D.bl/\q (.bl (f bs)) M
abbrev CB (X:Cx) (f:Value) (r:QN):Prop:=ON X (λus=>call f us) r
def Ul (r:QN) (t:DA):DE:=fun τ M q=>t τ M λds M1=>r ds M1 q
section
variable {X:Cx}{x:Str}{p pos:Pos}{e:Expr}{es:List Expr}{t:DA}{id T:String}{r:QN}
theorem Gu (hc:CB X (.builtin id) r) (hg:Gl X x) (hm:X.G.mg x=none) (hv:bootBuiltins x=some (.builtin id)) (ha:PA X (e::es) t) (hn:x≠"__name__") (cH:(x == ("__debug__" : Str))=false)
  (he:starEach (e::es) X.env=(false,eval e X.env)::starEach es X.env) (cV:(backTo pos (starEach es X.env)).any (·.1)=false):PE X (.Call (.Name x p) (e::es) [] pos) (Ul r t):=fun τ z Q R I h k=>
 Yt (eA I hg hm hv hn cH (PyProof.Rows.callWith_builtin1 (ha pos τ z _ _ I h λds z1 us l1 I1 r1 q1=>hc τ z1 Q R ds us I1 r1 q1 λd z2 u l2=>k d z2 u (l1.tr l2)) he cV))
theorem Gv (hc:CB X (.type T) r) (hg:Gl X x) (hm:X.G.mg x=none) (hv:bootBuiltins x=some (.type T)) (ha:PA X (e::es) t) (hn:x≠"__name__") (cH:(x == ("__debug__" : Str))=false)
  (he:starEach (e::es) X.env=(false,eval e X.env)::starEach es X.env) (cV:(backTo pos (starEach es X.env)).any (·.1)=false):PE X (.Call (.Name x p) (e::es) [] pos) (Ul r t):=fun τ z Q R I h k=>
 Yt (eA I hg hm hv hn cH (YE (ha pos τ z _ _ I h λds z1 us l1 I1 r1 q1=>hc τ z1 Q R ds us I1 r1 q1 λd z2 u l2=>k d z2 u (l1.tr l2)) he cV))
theorem gK {f:List Value->Sem Value}{r:Q1} (h:O1 X (λv=>f [v]) r):ON X f (n1 r):=fun τ z Q R ds us I rs q k=>by
 unfold n1 at q;split at q
 ·obtain⟨u,rfl,ru⟩:=fV rs;exact h τ z Q R _ u I ru q k
 ·exact q.elim
theorem Gw:CB X (.builtin "len") xJ:=gK fun τ z Q R d v I r q k=>by
 have fin:∀{n m:Nat} (t:Nat),n=m->Q (.int n) z.M->R (.int m z.s.toks) { z.s with toks:=t }:=λt e q=>I.fin k Le.rfl (e ▸ b5) q _;have lst:∀{ds:List D}{us:List Value}{a:Addr}{n:Nat},eB X.G z.F z.s.heap a ds us n->Q (.int ds.length) z.M->W X (call (.builtin "len") [.ref a]) R z.s:=λl q=>Calls.call_len_list l.p.isList (by rw[Xv];exact gJ l.z) (I.fin k Le.rfl (by rw[Xv,<- l.r.len];exact b5) q _);have ak:∀{kvs:List (Key×D)}{vs:List (Key×Value)}{a:Addr},jF X.G z.F z.s.heap a kvs vs->Q (.int kvs.length) z.M->W X (call (.builtin "len") [.ref a]) R z.s:=λl q=>by
  have e:=Paired.length l.r;refine call_len_dict l.n l.d (by rw[<- e];exact gJ l.z) ?_;rw[<- e];exact I.fin k Le.rfl b5 q _
 cases d with
 |str y=>rw[ab]at r;obtain⟨t,rfl⟩:=r;exact len_str (Int.not_le.mpr (gJ q.1)) (I.fin k Le.rfl b5 q.2 _)
 |tup ds=>obtain⟨a,us,o,rfl,l⟩:=I.cR r;exact len_tuple l.p (by rw[Xv];exact gJ l.t.len) (I.fin k Le.rfl (by rw[Xv,<- l.r.len];exact b5) q _)
 |lst ds=>obtain⟨a,us,n,rfl,l⟩:=I.fi r;exact lst l q
 |ak ks ds=>obtain⟨a,kvs,vs,rfl,l,h⟩:=I.cw (k:=λkvs=>Q (.int kvs.length) z.M) r q;exact ak l h
 |ref a=>
  rw[ab]at r;subst r;rcases q with ⟨xs,h1,h2⟩ |⟨kvs,h1,h2⟩
  ·obtain⟨us,n,l⟩:=I.eC h1;exact lst l h2
  ·obtain⟨vs,l⟩:=I.iI h1;exact ak l h2
 |_=>exact q.elim
theorem Gy:CB X (.type "int") xK:=gK fun τ z Q R d v I r q k=>by
 cases d with
 |int i=>rw[ab]at r;obtain⟨t,rfl⟩:=r;exact call_int_int (k _ z _ Le.rfl I b5 q)
 |bl b=>rw[ab]at r;subst r;exact call_int_bool (I.fin k Le.rfl b5 q _)
 |_=>exact q.elim
theorem ae.dt {τ:St} {z:Z}{d:D}{u:Value}{k:List D->Prop} (I:ae X τ z) (r:ab X.G z.F d u) (h:dt d z.M k):∃a ds us,u=.ref a/\k ds/\af X.G z.F ds us/\us.length<=sizeLine/\((∃n,z.s.heap.get? a=some (bK us n))\/(d=.tup ds/\IsTup z.s.heap a us.toArray)):=by
 unfold N.dt at h;split at h
 ·obtain⟨a,us,o,rfl,l⟩:=I.cR r;exact⟨a,_,us,rfl,h,l.r,l.t.len,.inr ⟨rfl,l.p⟩⟩
 ·obtain⟨a,ds,us,n,rfl,l,q⟩:=I.aV r h;exact⟨a,ds,us,rfl,q,l.r,l.z,.inl ⟨n,l.e⟩⟩
theorem Gz:CB X (.type "tuple") qZ:=gK fun τ z Q R d v I ru q k=>by
 obtain⟨a,ds,us,rfl,q,r,hz,h⟩:=I.dt ru q;rcases h with ⟨n,e⟩ |⟨rfl,p⟩
 ·refine call_tuple_list ⟨_,e,rfl,_,rfl⟩ (λh' kp=>?_) (by rw[Xv];exact hz);exact (I.bN (t:=z.s.toks) kp).tup (t:=z.s.toks) k Le.rfl r (λb o e=>Xq _ e) (Xu _) (Xw _ rfl) ⟨rfl,rfl,⟨_,rfl⟩,hz⟩ q
 ·exact call_tuple_same p (k _ z _ Le.rfl I ru q)
theorem ints_of {G:Gx}{F:Fz}:∀{ns:List Int}{us:List Value},af G F (ns.map D.int) us->IntsAre us ns
 |[],us,r=>by rw[YN,af]at r;subst r;exact .nil
 |n::ns,us,r=>by rw[XD,af]at r;obtain⟨u,us,rfl,h,r⟩:=r;rw[ab]at h;obtain⟨t,rfl⟩:=h;exact .cons n t (ints_of r)
theorem GA (hc:X.calm=true):CB X (.builtin "max") q8:=fun τ z Q R ds us I rs q k=>by
 unfold q8 at q;split at q
 ·rename_i i j;obtain⟨u,v,rfl,h1,h2⟩:=gF rs;rw[ab]at h1 h2;obtain⟨t,rfl⟩:=h1;obtain⟨t',rfl⟩:=h2;refine max_two_ints (I.ok.hd hc) λh' tk kp=>k _ ⟨z.F,z.M,_⟩ _ Le.rfl (I.bN (t:=tk) kp) ?_ q;by_cases hj:j > i
  ·rw[if_pos hj,if_pos hj];exact b5
  ·rw[if_neg hj,if_neg hj];exact b5
 ·obtain⟨u,rfl,ru⟩:=fV rs;obtain⟨a,ds,its,n,rfl,l,ns,rfl,h0,q⟩:=I.aV ru q;have hi:IntsAre its ns:=ints_of l.r;have hl:z.s.heap.IsList a its.toArray:=l.p.isList;obtain⟨xs,hx⟩:=hi.allInts.items;have hn:numsOf its.toArray.toList=ns:=by rw[show its.toArray.toList=its from rfl,hi.numsOf]
  rw[hx]at hl hn;rw[nums_intItems]at hn;have hsz:0<xs.size:=by
   have:=congrArg ZX hn;rw[Xr,XT]at this;lia
  refine max_intList (I.ok.hd hc) hl hsz λv h' tk hv hk=>?_;obtain⟨t,rfl⟩:=intItems_at hv;obtain⟨h1,h2⟩:=argBest_gt (numAt xs) (xs.size-1);refine k _ ⟨z.F,z.M,_⟩ _ Le.rfl (I.bN (t:=tk) hk) b5 (q _ ?_ λa ha=>?_)
  ·rw[<- hn,numAt_eq];exact getD_mem (by rw[Xr,XT];lia)
  ·rw[<- hn]at ha;obtain⟨j,hj,rfl⟩:=mem_getD ha;rw[Xr,XT]at hj;rw[<- numAt_eq];exact h2 j (by lia)
 ·exact q.elim
theorem ae.q9 {τ:St} {z:Z}{s':Shared} (I:ae X τ z) (g:s'.gens=z.s.gens) (d:s'.drawn=z.s.drawn) (o:s'.os=z.s.os) (k:∀b ob,z.s.heap.get? b=some ob->s'.heap.get? b=some ob):ae X τ ⟨z.F,z.M,s'⟩:=by
 obtain⟨h',Vc,d',dL,ra⟩:=s';obtain rfl:Vc=z.s.gens:=g;obtain rfl:d'=z.s.drawn:=d;obtain rfl:ra=z.s.os:=o;exact I.bN (t:=dL) k
theorem GB (hc:X.calm=true):CB X (.builtin "sum") xM:=gK fun τ z Q R d v I ru q k=>by
 obtain⟨p,ds,its,n,rfl,l,ns,rfl,q⟩:=I.aV ru q;have hi:IntsAre its ns:=ints_of l.r;have hl:z.s.heap.IsList p its.toArray:=l.p.isList;obtain⟨xs,hx⟩:=hi.allInts.items;have hn:numsOf its.toArray.toList=ns:=by rw[show its.toArray.toList=its from rfl,hi.numsOf]
 rw[hx]at hl hn;rw[nums_intItems]at hn;obtain⟨ob,o1,o2,_,o3⟩:=id hl;have ne:p≠z.s.heap.objs.size:=XH (XF o1);have W:=(Walks.list (prog:=X.G.P) (w:=X.G.w) (A:=X.A.in1) (I.ok.hd hc) z.s.heap.objs.size p ne (intItems xs)).toS;rw[show (intItems xs).size=xs.size by simp [intItems]]at W;refine call_sum_walkAnyS (Zu hl ?_);refine⟨z.s.heap.objs.size,_,_,_,_,_,_,numAt xs,rfl,W,⟨⟨_,Xw _ rfl,rfl,rfl⟩,hl.push _⟩,λb hb=>?_,λi v hP=>intItems_at hP,λs' t' hm=>?_⟩
 ·rcases List.mem_cons.mp hb with z |z
  ·rw[z];exact XF (Xw _ rfl)
  ·rw[List.mem_singleton.mp z];exact XF (Xq _ o1)
 ·have J:=I.q9 hm.gens hm.drawn hm.os λb o e=>hm.heap b o (λhb=>absurd (XF e) ((List.mem_singleton.mp hb) ▸ YQ _)) (Xq _ e);refine k (.int ns.sum) ⟨z.F,z.M,s'⟩ _ Le.rfl J ?_ q;rw[preSum_eq,List.take_of_length_le (by simp),hn];exact b5
theorem xN {G:Gx}{F:Fz}:∀{bs:List Bool}{us:List Value}{i:Nat}{v:Value},af G F (bs.map D.bl) us->us[i]?=some v->v=.bool (bs.getD i false)
 |[],us,i,v,r,e=>by rw[YN,af]at r;subst r;simp at e
 |b::bs,us,0,v,r,e=>by rw[XD,af]at r;obtain⟨u,us,rfl,h,r⟩:=r;rw[ab]at h;subst h;cases e;rfl
 |b::bs,us,i+1,v,r,e=>by rw[XD,af]at r;obtain⟨u,us,rfl,h,r⟩:=r;exact xN (i:=i) r e
theorem rh (f:Bool->Bool):∀bs:List Bool,(YD bs.length).map (λi=>bs.getD i false)=bs
 |[]=>rfl
 |b::bs=>by rw[XG,List.range_succ_eq_map,XD,Yv];exact congrArg (b::·) (rh f bs)
theorem GC (hc:X.calm=true):CB X (.builtin "any") (Gs (·.any _root_.id)):=gK fun τ z Q R d v I ru q k=>by
 obtain⟨p,ds,its,n,rfl,l,bs,rfl,q⟩:=I.aV ru q;have hl:z.s.heap.IsList p its.toArray:=l.p.isList;have ne:p≠z.s.heap.objs.size:=XH (XF l.e);have W:=(Walks.list (prog:=X.G.P) (w:=X.G.w) (A:=X.A.in1) (I.ok.hd hc) z.s.heap.objs.size p ne its.toArray).toS;have lb:its.length=bs.length:=by have:=l.r.len;rw[Xr]at this;exact this.symm
 refine call_any_walkS (Zu hl ?_);refine⟨z.s.heap.objs.size,_,_,_,_,_,_,λi=>bs.getD i false,rfl,W,⟨⟨_,Xw _ rfl,rfl,rfl⟩,hl.push _⟩,?_,λs' hm=>?_⟩
 ·intro i v s' Q' E' hP hq';have e:=xN (i:=i) (v:=v) l.r (by simpa using hP);subst e;exact Zk hq'
 ·have J:=I.q9 hm.gens hm.drawn hm.os λb o e=>hm.heap b o (λhb=>absurd (XF e) ((List.mem_singleton.mp hb) ▸ YQ _)) (Xq _ e);refine k (.bl (bs.any _root_.id)) ⟨z.F,z.M,s'⟩ _ Le.rfl J ?_ q;have e:(YD its.toArray.size).any (λi=>bs.getD i false)=bs.any _root_.id:=by
   rw[Xv,lb];exact (List.any_map (f:=λi=>bs.getD i false) (p:=_root_.id)).symm.trans (by rw[rh _root_.id])
  rw[e,ab]
end
end N
end
section
namespace L2
open PySem PySem.Spec PyProof.Rows
section
variable {prog:Program}{w:World}{A:Around}{R:Result->Shared->Prop}{I:Addr}{fp wr:List Addr}{G:Array GenState->Array GenState->Prop}{n:Nat}{P:Nat->Value->Prop}{St:Nat->Shared->Prop}
theorem GD (W:WalksS prog w A.in1 I fp wr G n P St) (tr:Nat->Bool) (Z:Shared->Prop) (hz:∀ s s',Moved wr G s s'->Z s->Z s')
  (Gc:∀i v (s:Shared) (Q:Bool->Shared->Prop) (E:Value->Shared->Prop),P i v->Z s->Q (tr i) { s with toks:=s.toks+1+1 }->wpAny (model prog w) A.in1 (truthy v) Q E s) :
  ∀(k i:Nat) (s:Shared),n-i=k->i<=n->St i s->Z s ->
  (∀s',Moved wr G s s'->R (.ok (.ret (.bool (((YD n).drop i).any tr)))) s')->codeAny (model prog w) A (.builtin "any.loop" ⟨[.ref I],[]⟩) R s:=by
 intro k
 induction k with
 |zero=>
  intro i s hk hi c9 Uu hR;obtain rfl:i=n:=by lia
  refine Yu F.entry_any_loop ?_;rw[X9 F.plain_any_loop _];show wpAny _ A.in1 (pyNext (.ref I) >>= _) _ _ s;refine Xp (W.done s _ _ c9 λs' hm=>?_);refine Xp (ZU (Xs ?_));have:=hR s' hm;rw[List.drop_of_length_le (by simp)]at this;exact this
 |succ k ih=>
  intro i s hk hi c9 Uu hR;have a1:i<n:=by lia
  have hd:(YD n).drop i=i::(YD n).drop (i+1):=by
   rw[ZT (by simpa using a1)];simp
  refine Yu F.entry_any_loop ?_;rw[X9 F.plain_any_loop _];show wpAny _ A.in1 (pyNext (.ref I) >>= _) _ _ s;refine Xp (W.item i s _ _ a1 c9 λv s' hP re hm=>?_);have iK:Moved wr G s { s' with toks:=s'.toks+1+1 }:=hm.then_heap (by lia) λc o hc e=>e;refine Xp (Yq (Gc i v _ _ _ hP (hz _ _ hm Uu) ?_));refine Xp (wpAny_letGo ?_);cases hb:tr i with
  |false=>
   simp only[ZD,if_false];refine Xs ⟨YA F.plain_any_loop _,ih (i+1) _ (by lia) a1 (W.frame _ s' _ _ re (by lia) λc hc o e=>e) (hz _ _ iK Uu) λGo n4=>?_⟩;have:=hR Go (iK.trans W.gtrans n4);rw[hd,Y2,hb,Bool.false_or]at this;exact this
  |true=>
   simp only[if_true];refine Xp (ZU (Xs ?_));have:=hR _ iK;rw[hd,Y2,hb,Bool.true_or]at this;exact this
end
end L2
end
section
set_option maxHeartbeats 1000000
namespace N
open PySem PySem.Spec PyProof.Rows L2
def xO:QN:=n1 λx M q=>aV x M λds=>(∃bs:List Bool,ds=bs.map D.bl/\q (.bl (bs.any _root_.id)) M)\/∃ls:List (List D),ds=ls.map D.lst/\q (.bl (ls.any λl=>!l.isEmpty)) M
section
variable {X:Cx}
theorem GF {d:D}{M:Mp}{A B:List D->Prop} (h:aV d M λds=>A ds\/B ds):aV d M A\/aV d M B:=by
 unfold aV at h ⊢;split at h
 ·exact h
 ·obtain⟨ds,e,h |h⟩:=h
  ·exact .inl ⟨ds,e,h⟩
  ·exact .inr ⟨ds,e,h⟩
 ·exact h.elim
theorem xP {G:Gx}{F:Fz}:∀{ls:List (List D)}{us:List Value}{i:Nat}{v:Value},af G F (ls.map D.lst) us->us[i]?=some v->∃l,ls[i]?=some l/\ab G F (.lst l) v
 |[],us,i,v,r,e=>by rw[YN,af]at r;subst r;simp at e
 |l::ls,us,0,v,r,e=>by rw[XD,af]at r;obtain⟨u,us,rfl,h,r⟩:=r;cases e;exact⟨l,rfl,h⟩
 |l::ls,us,i+1,v,r,e=>by rw[XD,af]at r;obtain⟨u,us,rfl,h,r⟩:=r;exact xP (i:=i) r e
theorem GG (hc:X.calm=true):CB X (.builtin "any") xO:=gK fun τ z Q R d v I ru q k=>by
 rcases GF q with q |q
 ·exact GC hc τ z Q R [d] [v] I (.cons ru .nil) q k
 obtain⟨p,ds,its,n,rfl,l,ls,rfl,q⟩:=I.aV ru q;have hl:z.s.heap.IsList p its.toArray:=l.p.isList;have ne:p≠z.s.heap.objs.size:=XH (XF l.e);have W:=(Walks.list (prog:=X.G.P) (w:=X.G.w) (A:=X.A.in1) (I.ok.hd hc) z.s.heap.objs.size p ne its.toArray).toS;have lb:its.length=ls.length:=by have:=l.r.len;rw[Xr]at this;exact this.symm
 refine call_function_tree PySem.F.kind_any PySem.F.plain_any PySem.F.entry_any (PySem.F.args_any1 _) ?_;unfold Builtin.«any»;refine Xp (m:=oneArg "any" _) (Xs ?_);refine Xp (Zu hl ?_);refine Xs ⟨YA PySem.F.plain_any_loop _,GD W (λi=>(ls.map λl=>!l.isEmpty).getD i false) (λs'=>∀b o,z.s.heap.get? b=some o->s'.heap.get? b=some o) (λs1 s2 hm hz b o e=>hm.heap b o (λhb=>absurd (XF e) ((List.mem_singleton.mp hb) ▸ YQ _)) (hz b o e)) ?_ its.toArray.size 0 _ rfl (XS _) ⟨⟨_,Xw _ rfl,rfl,rfl⟩,hl.push _⟩ (λb o e=>Xq _ e) λs' hm=>?_⟩
 ·intro i v s' Q' E' hP Uu hq';have e':its[i]?=some v:=by simpa using hP
  obtain⟨es,h1,h2⟩:=xP l.r e';have hi:i<ls.length:=(List.getElem?_eq_some_iff.mp h1).1;obtain⟨b,lA,n2,rfl,l2⟩:=I.fi h2;obtain⟨GH,TY,TV,TZ,T1⟩:=id l2.p.isList;have e1:=l2.r.len;have e2:sizeLine<2 ^ 63:=by decide
  have GI:(lA.toArray.size:Int)<2 ^ 63:=by have:=l2.z;rw[Xv];lia
  refine wpAny_truthy_list (items:=lA.toArray) ⟨GH,Uu _ _ TY,TV,TZ,T1⟩ GI ?_;have UP:(!lA.toArray.isEmpty)=!es.isEmpty:=by
   cases es with
   |nil=>cases lA with
    |nil=>rfl
    |cons _ _=>cases e1
   |cons _ _=>cases lA with
    |nil=>cases e1
    |cons _ _=>rfl
  have:(ls.map λl=>!l.isEmpty).getD i false=!es.isEmpty:=by rw[XW,XJ,h1];rfl
  rw[UP,<- this];exact hq'
 ·have keep:∀ b o,z.s.heap.get? b=some o->s'.heap.get? b=some o:=λb o e=>hm.heap b o (λhb=>absurd (XF e) ((List.mem_singleton.mp hb) ▸ YQ _)) (Xq _ e);have J:=I.q9 hm.gens hm.drawn hm.os keep;refine k (.bl (ls.any λl=>!l.isEmpty)) ⟨z.F,z.M,s'⟩ _ Le.rfl J ?_ q;have e:((YD its.toArray.size).drop 0).any (λi=>(ls.map λl=>!l.isEmpty).getD i false)=ls.any λl=>!l.isEmpty:=by
   rw[Xv,lb,List.drop_zero];have e1:(YD ls.length).any (λi=>(ls.map λl=>!l.isEmpty).getD i false)=((YD (ls.map λl=>!l.isEmpty).length).map (λi=>(ls.map λl=>!l.isEmpty).getD i false)).any _root_.id:=(by rw[List.any_map,Xr];rfl);rw[e1,rh _root_.id,List.any_map];rfl
  rw[e,ab]
end
end N
end
section
set_option maxHeartbeats 1000000
namespace N
open PySem PySem.Spec PyProof.Rows L2
abbrev QM:=D->QN
def OM (X:Cx) (id:String) (r:QM):Prop:=∀ τ z Q R d v ds us,ae X τ z->ab X.G z.F d v->af X.G z.F ds us->r d ds z.M Q->KE X τ z.F Q R->W X (call (.builtin id) (v::us)) R z.s
def xQ (T:String) (x:D) (M:Mp):Prop:=match x with
 |.str _=>T="str"
 |.tup _=>T="tuple"
 |.lst _=>T="list"
 |.ak _ _=>T="dict"
 |.ref a=>(T="list"/\∃xs,M a=some (.lst xs))\/(T="dict"/\∃kvs,M a=some (.ak kvs))
 |_=>False
def lB (T:String) (r:QM) (to:DE) (t:DA):DE:=fun τ M q=>to τ M λx M1=>xQ T x M1/\t τ M1 λds M2=>r x ds M2 q
def fZ (o:D) (M:Mp) (k:Addr->List D->Prop):Prop:=match o with
 |.ref l=>∃xs,M l=some (.lst xs)/\k l xs
 |_=>False
def rj:QM:=λo ds M q=>match ds with
 |[y]=>fZ o M λl xs=>xs.length<sizeLine/\q .ai (up M l (.lst (xs++[y])))
 |_=>False
def rl:QM:=λo ds M q=>match ds with
 |[]=>fZ o M λl xs=>∃y,xs[xs.length-1]?=some y/\q y (up M l (.lst xs.dropLast))
 |_=>False
def rn:QM:=λo ds M q=>match ds with
 |[y]=>fZ o M λl xs=>dt y M λys=>xs.length+ys.length<=sizeLine/\q .ai (up M l (.lst (xs++ys)))
 |_=>False
def rq:QM:=λo ds M q=>match ds with
 |[y]=>cw o M λkvs=>dO y λk=>q ((aJ kvs k).getD .ai) M
 |[y,w]=>cw o M λkvs=>dO y λk=>q ((aJ kvs k).getD w) M
 |_=>False
section
variable {X:Cx}{o e:Expr}{es:List Expr}{to:DE}{t:DA}{name:Str}{cr cpos:Pos}{T id:String}{r:QM} {τ:St} {z:Z}
theorem rx {x:D}{v:Value} (I:ae X τ z) (r:ab X.G z.F x v) (ty:xQ T x z.M):z.s.TypeIs v T/\∀a,v=.ref a->∃ob,z.s.heap.get? a=some ob/\ob.dict=none:=by
 have lst:∀{ds:List D}{us:List Value}{a:Addr}{n:Nat},eB X.G z.F z.s.heap a ds us n->z.s.TypeIs (.ref a) "list"/\∀b,Ye a=.ref b->∃ob,z.s.heap.get? b=some ob/\ob.dict=none:=λl=>⟨l.p.isList.typeIs,λb e=>by cases e;exact⟨_,l.e,rfl⟩⟩;have ak:∀{kvs:List (Key×D)}{vs:List (Key×Value)}{a:Addr},jF X.G z.F z.s.heap a kvs vs->z.s.TypeIs (.ref a) "dict"/\∀b,Ye a=.ref b->∃ob,z.s.heap.get? b=some ob/\ob.dict=none:=λl=>by
  obtain⟨o,_,_,e,ex,_⟩:=l.d;exact⟨⟨o,e,ex.1⟩,λb q=>by cases q;exact⟨o,e,ex.2.1⟩⟩
 cases x with
 |str w=>rw[ab]at r;obtain⟨t,rfl⟩:=r;cases (show T="str" from ty);exact⟨typeIs_str z.s w t,λ_ e=>nomatch e⟩
 |tup ds=>obtain⟨a,us,o,rfl,l⟩:=I.cR r;cases (show T="tuple" from ty);exact⟨l.p.typeIs,λb e=>by cases e;exact⟨_,l.e,l.t.dict⟩⟩
 |lst ds=>obtain⟨a,us,n,rfl,l⟩:=I.fi r;cases (show T="list" from ty);exact lst l
 |ak ks ds=>obtain⟨a,kvs,vs,rfl,l,_⟩:=I.cw (k:=λ_=>True) r trivial;cases (show T="dict" from ty);exact ak l
 |ref a=>
  rw[ab]at r;subst r;rcases ty with ⟨rfl,xs,h⟩ |⟨rfl,kvs,h⟩
  ·obtain⟨us,n,l⟩:=I.eC h;exact lst l
  ·obtain⟨vs,l⟩:=I.iI h;exact ak l
 |_=>exact ty.elim
theorem GJ (pa:PlainAttrs T) (slot:Slot T name id) (ry:typeOf (.builtin id)=pure (.type "method_descriptor")) (hm:OM X id r) (ho:PE X o to)
  (f6:attributeBase o name X.env (eval o X.env)=eval o X.env) (bm:(cr.endLine == cpos.line)=true):PE X (.Call (.Attribute o name cr) [] [] cpos) (lB T r to ez):=fun τ z Q R I h k=>
 wpAny_Call_method0_late f6 bm (ho τ z _ _ I h λx z1 v l1 I1 r1 q1=>by
  obtain⟨h1,h2⟩:=rx I1 r1 q1.1;exact⟨T,id,pa,slot,ry,h1,h2,Calls.callWith_builtin rfl (PySem.evalArgs_none (hm τ z1 Q R x v [] [] I1 r1 .nil q1.2 λd z2 u l2=>k d z2 u (l1.tr l2)))⟩)
theorem GK (pa:PlainAttrs T) (slot:Slot T name id) (ry:typeOf (.builtin id)=pure (.type "method_descriptor")) (hm:OM X id r) (ho:PE X o to) (ha:PA X (e::es) t)
  (f6:attributeBase o name X.env (eval o X.env)=eval o X.env)
  (GL:((backTo cpos (starEach (e::es) X.env)).all (λx=>!x.1) && (backToKw cpos (keywordEach [] X.env)).all (λx=>x.1.isSome)
   && decide ((e::es).length+([]:List Keyword).length+(if ([]:List Keyword).isEmpty then 0 else 1)<30))=true)
  (bm:(cr.endLine == cpos.line)=true) (hs:starEach (e::es) X.env=(false,eval e X.env)::starEach es X.env) (GN:(backTo cpos (starEach es X.env)).any (·.1)=false) :
  PE X (.Call (.Attribute o name cr) (e::es) [] cpos) (lB T r to t):=fun τ z Q R I h k=>
 wpAny_Call_method_late f6 GL bm rfl (ho τ z _ _ I h λx z1 v l1 I1 r1 q1=>by
  obtain⟨h1,h2⟩:=rx I1 r1 q1.1;refine⟨T,id,pa,slot,ry,h1,h2,?_⟩;have hA:=ha cpos τ z1 _ (λus s=>W X (call (.builtin id) (v::us)) R s) I1 q1.2 λds z2 us l2 I2 r2 q2=>hm τ z2 Q R x v ds us I2 (r1.up l2.d) r2 q2 λd z3 u l3=>k d z3 u (l1.tr (l2.tr l3));rw[hs]at hA ⊢;exact Calls.callWith_builtin (by show (false ||(backTo cpos (starEach es X.env)).any (·.1))=false;rw[GN] <;> rfl) (Calls.evalArgs_plain hA))
theorem ae.fZ {d:D}{u:Value}{k:Addr->List D->Prop} (I:ae X τ z) (r:ab X.G z.F d u) (h:fZ d z.M k):∃a ds us n,u=.ref a/\z.M a=some (.lst ds)/\eB X.G z.F z.s.heap a ds us n/\k a ds:=by
 unfold N.fZ at h;split at h
 ·obtain⟨xs,h1,h2⟩:=h;rw[ab]at r;obtain⟨us,n,l⟩:=I.eC h1;exact⟨_,xs,us,n,r,h1,l,h2⟩
 ·exact h.elim
theorem ae.n6 {a:Addr}{xs ys:List D}{us us':List Value}{n t:Nat}{f:Array Value->Array Value} (I:ae X τ z) (h:z.M a=some (.lst xs)) (e:z.s.heap.get? a=some (bK us n)) (hf:f us.toArray=us'.toArray) (r:af X.G z.F ys us') (hz:us'.length<=sizeLine) :
  ae X τ ⟨z.F,up z.M a (.lst ys),{ z.s with heap:=z.s.heap.update a (Yd f),toks:=t }⟩:=by
 have q:=PySem.IsL.update e f;rw[hf]at q;exact I.xv (us:=us) (n:=n) h (λb hb o q=>(Zz _ _ (YZ hb)).trans q) q r hz
theorem GO:OM X "list.append" rj:=fun τ z Q R d v ds us I rv rs h k=>by
 unfold rj at h;split at h
 ·obtain⟨u,rfl,ru⟩:=fV rs;obtain⟨a,xs,its,n,rfl,hM,l,hz,q⟩:=I.fZ rv h;have hl:=l.r.len;refine call_meets F.slot_list_append ⟨_,l.e,rfl⟩ F.entry_list_append (F.args_list_append_2 _ _) (PySem.list_append a its.toArray n u (by rw[Xv];lia)) ⟨l.e,?_⟩;exact k .ai ⟨z.F,_,_⟩ _ Le.rfl (I.n6 (us':=its++[u]) hM l.e (by simp) (l.r.app (.cons ru .nil)) (by rw[XI,ZH];lia)) (by rw[ab]) q
 ·exact h.elim
theorem af.init {G:Gx}{F:Fz}{ds:List D}{us:List Value} (r:af G F ds us):af G F ds.dropLast us.dropLast:=by
 rw[List.dropLast_eq_take,List.dropLast_eq_take,<- r.len];exact r.qY 0 _
theorem GP:OM X "list.pop" rl:=fun τ z Q R d v ds us I rv rs h k=>by
 unfold rl at h;split at h
 ·rw[af]at rs;subst rs;obtain⟨a,xs,its,n,rfl,hM,l,y,hy,q⟩:=I.fZ rv h;have hl:=l.r.len;have hz:=l.z;obtain⟨u,hu,ru⟩:=l.r.get hy;have GR:its.toArray[its.toArray.size-1]?=some u:=by
   show its.toArray[its.length-1]?=some u;rw[<- Y4,<- hl];exact hu
  refine call_meets F.slot_list_pop ⟨_,l.e,rfl⟩ F.entry_list_pop (F.args_list_pop_1 _) (MeetsSeq.list_pop_last a its.toArray n u GR (by rw[Xv];lia)) ⟨l.e,?_⟩;refine k y ⟨z.F,_,_⟩ _ Le.rfl (I.n6 (us':=its.dropLast) hM l.e ?_ l.r.init (by rw[List.length_dropLast];lia)) ru q;show its.toArray.eraseIdxIfInBounds (its.toArray.size-1)=its.dropLast.toArray;rw[Xv,List.eraseIdxIfInBounds_toArray,Fu]
 ·exact h.elim
theorem GS:OM X "dict.get" rq:=fun τ z Q R d v ds us I rv rs h k=>by
 have val:∀{kvs:List (Key×D)}{vs:List (Key×Value)}{c:Key}{w:D}{r:Value},KV X.G z.F kvs vs->ab X.G z.F w r->ab X.G z.F ((aJ kvs c).getD w) ((valueAt vs c).getD r):=λ{kvs vs c w r} rel iJ=>by
  have:=rel.val c;cases e1:aJ kvs c <;> cases e2:valueAt vs c <;> rw[e1,e2]at this <;> first |exact this.elim |exact iJ |exact this
 unfold rq at h;split at h
 ·obtain⟨u,rfl,ru⟩:=fV rs;obtain⟨a,kvs,vs,rfl,l,h⟩:=I.cw rv h;obtain⟨c,hc,q⟩:=jG (P:=X.G.P) (w:=X.G.w) h ru;exact call_meetsIn PySem.F.slot_dict_get l.d.typeIs PySem.F.entry_dict_get (PySem.F.args_dict_get_2 _ _) (meets_dict_get (bo X.G.P X.G.w) a hc l.n) ⟨_,l.d.mapOf,I.fin k Le.rfl (val l.r (by rw[ab])) q _⟩
 ·obtain⟨u,w,rfl,ru,iJ⟩:=gF rs;obtain⟨a,kvs,vs,rfl,l,h⟩:=I.cw rv h;obtain⟨c,hc,q⟩:=jG (P:=X.G.P) (w:=X.G.w) h ru;exact call_meetsIn PySem.F.slot_dict_get l.d.typeIs PySem.F.entry_dict_get (PySem.F.args_dict_get_3 _ _ _) (meets_dict_get_default (bo X.G.P X.G.w) a hc l.n w) ⟨_,l.d.mapOf,I.fin k Le.rfl (val l.r iJ) q _⟩
 ·exact h.elim
end
end N
end
section
namespace L2
open PySem PySem.Spec PyProof.Rows PySem.W
section
variable {prog:Program}{w:World}{A:Around}{E:Value->Shared->Prop}{s:Shared}
theorem GU:typeLookup (.type "tuple") "keys"=pure none:=by rw[Y8,Yx];kernel_rfl
theorem GV:typeLookup (.type "list") "keys"=pure none:=by rw[Y8,Yx];kernel_rfl
theorem GW {a:Addr}{o:Obj}{xs:Array Value}{k:Nat}{Q:Option Value->Shared->Prop} (hx:s.heap.get? a=some o) (hc:o.cls=.type "tuple") (iL:o.data=.seq xs k) (hd:o.dict=none) (hA:A.handled=none)
  (h:∀h' tk,(∀b o,s.heap.get? b=some o->h'.get? b=some o)->Q none { s with heap:=h',toks:=tk }):wpAny (model prog w) A (getAttr? (.ref a) "keys") Q E s:=by
 obtain⟨c,ak,dat,sl⟩:=o;simp only at hc iL hd;subst hc iL hd;obtain⟨hp,g,d,tk,os⟩:=s;have hT:∀dL,(⟨hp,g,d,dL,os⟩:Shared).TypeIs (.ref a) "tuple":=λ_=>⟨_,hx,rfl⟩;have f1:=sub_AttributeError;have f3:=F.slot_tuple_getattribute.lookup;have f4:=F.slot_tuple_getattribute.bind (.ref a);have f5:=am_tuple_getattr_none;have rz:(["__module__","__name__","__qualname__","__doc__","__annotations__"]:List Str).contains "keys"=false:=by decide
 unfold getAttr? getAttrBy? getAttrBy
 repeat (any_goals (first |assumption |exact hT _ |((with_reducible show wpAny _ _ (call (Value.builtin "tuple.__getattribute__") _ _) _ _ _);refine call_meets F.slot_tuple_getattribute (hT _) am_entry_tuple_getattribute (F.args_tuple_getattribute_2 _ _) (meets_getattribute_miss_tuple a xs k sl "keys" _ GU rz) ⟨hx,hA,λh' dL e cQ=>?_⟩) |wp_step))
 obtain⟨t',u',he⟩:=cQ.there;show wpAny _ _ (getattributeRaised _ _ _ _ _ _ _) _ _ _;unfold getattributeRaised
 repeat (any_goals (first |assumption |wp_step))
 exact h _ _ cQ.keeps
theorem GX {a:Addr}{o:Obj}{xs:Array Value}{k:Nat}{Q:Option Value->Shared->Prop} (hx:s.heap.get? a=some o) (hc:o.cls=.type "list") (iL:o.data=.seq xs k) (hd:o.dict=none) (hA:A.handled=none)
  (h:∀h' tk,(∀b o,s.heap.get? b=some o->h'.get? b=some o)->Q none { s with heap:=h',toks:=tk }):wpAny (model prog w) A (getAttr? (.ref a) "keys") Q E s:=by
 obtain⟨c,ak,dat,sl⟩:=o;simp only at hc iL hd;subst hc iL hd;obtain⟨hp,g,d,tk,os⟩:=s;have hT:∀dL,(⟨hp,g,d,dL,os⟩:Shared).TypeIs (.ref a) "list":=λ_=>⟨_,hx,rfl⟩;have f1:=sub_AttributeError;have f3:=F.slot_list_getattribute.lookup;have f4:=F.slot_list_getattribute.bind (.ref a);have f5:=am_list_getattr_none;have rz:(["__module__","__name__","__qualname__","__doc__","__annotations__"]:List Str).contains "keys"=false:=by decide
 unfold getAttr? getAttrBy? getAttrBy
 repeat (any_goals (first |assumption |exact hT _ |((with_reducible show wpAny _ _ (call (Value.builtin "list.__getattribute__") _ _) _ _ _);refine call_meets F.slot_list_getattribute (hT _) am_entry_list_getattribute (F.args_list_getattribute_2 _ _) (meets_getattribute_miss_list a xs k sl "keys" _ GV rz) ⟨hx,hA,λh' dL e cQ=>?_⟩) |wp_step))
 obtain⟨t',u',he⟩:=cQ.there;show wpAny _ _ (getattributeRaised _ _ _ _ _ _ _) _ _ _;unfold getattributeRaised
 repeat (any_goals (first |assumption |wp_step))
 exact h _ _ cQ.keeps
theorem xR:entryFor table "dict.update.loop"=some Builtin.«dict.update.loop»:=entryFor_of_tree (by kernel_rfl)
theorem jN:plainId "dict.update.loop"=true:=by decide +kernel
variable {I:Addr}{fp wr:List Addr}{n:Nat}{P:Nat->Value->Prop}{St:Nat->Heap->Prop}
def xS (prog:Program) (w:World) (A:Around) (d:Addr) (n:Nat) (P:Nat->Value->Prop) (DK:Nat->Heap->Prop):Prop:=
 ∀(i:Nat) (v:Value) (s:Shared),i<n->P i v->DK i s.heap->∃(a:Addr) (o:Obj) (xs:Array Value) (m:Nat) (k x:Value),v=.ref a/\s.heap.get? a=some o/\o.cls=.type "tuple"/\o.data=.seq xs m/\xs.toList=[k,x] /\
  ∀(Q:Unit->Shared->Prop) (E:Value->Shared->Prop),(∀h' tk,DK (i+1) h'->Zb d s.heap h'->Q () { s with heap:=h',toks:=tk })->wpAny (model prog w) A (dictSet d k x) Q E s
theorem GY {R:Result->Shared->Prop}{DK:Nat->Heap->Prop} (W:Walks prog w A.in1 I fp wr n P St) (d:Addr) (jO:d ∉ fp) (hfr:∀ i h h',DK i h->(∀ b o,b ∉ wr->h.get? b=some o->h'.get? b=some o)->DK i h') (put:xS prog w A.in1 d n P DK) (res:Value) :
  ∀(k i:Nat) (t:Tok) (s:Shared),n-i=k->i<=n->St i s.heap->DK i s.heap ->
  (∀h' tk,DK n h'->(∀b o,b ∉ d::wr->s.heap.get? b=some o->h'.get? b=some o)->R (.ok (.ret res)) { s with heap:=h',toks:=tk }) ->
  codeAny (model prog w) A (.builtin "dict.update.loop" ⟨[.ref d,.ref I,.int i t,res],[]⟩) R s:=by
 have S7:d ∉ wr:=λh=>jO (W.sub _ h);intro k
 induction k with
 |zero=>
  intro i t s hk hi c9 hD hR;have GZ:i=n:=by lia
  subst GZ;refine Yu xR ?_;rw[X9 jN _];show wpAny _ A.in1 (pyNext (.ref I) >>= _) _ _ s;refine Xp (W.done s _ _ c9 λh' tk hm=>?_);dsimp only;unfold Builtin.Dict.addKeywords;refine Xp (Xs ?_);exact Xs (hR h' tk (hfr _ _ _ hD hm) λb o hb e=>hm b o (λz=>hb (XB _ z)) e)
 |succ k ih=>
  intro i t s hk hi c9 hD hR;have a1:i<n:=by lia
  refine Yu xR ?_;rw[X9 jN _];show wpAny _ A.in1 (pyNext (.ref I) >>= _) _ _ s;refine Xp (W.item i s _ _ a1 c9 λv h' tk hP re hm=>?_);dsimp only;obtain⟨a,o,xs,m,W5,x,rfl,ho,hc,iL,G0,G1⟩:=put i v { s with heap:=h',toks:=tk } a1 hP (hfr _ _ _ hD hm);refine Xp (Yq (Xp (wpAny_tryCatch ?_)));unfold Builtin.Dict.pairItems;refine Xp (wpAny_typeOf (T:="tuple") ⟨o,ho,hc⟩ ?_);rw[if_pos (by decide)];refine Xp (Zh ho iL (Xs ?_));dsimp only[Option.getD_some];rw[G0];dsimp only;refine Yq (G1 _ _ λfW dL G2 hs=>?_);refine Xs ⟨YA jN _,?_⟩;have:=ih (i+1) 0 { s with heap:=fW,toks:=dL } (by lia) a1 (W.frame _ _ _ re λb hb o e=>(hs.2 b (λz=>jO (z ▸ hb))).trans e) G2 (λh3 G3 G4 G5=>hR h3 G3 G4 λb o hb e=>G5 b o hb ((hs.2 b (λz=>hb (by simp [z]))).trans (hm b o (λz=>hb (XB _ z)) e)));exact this
end
end L2
namespace L2
open PySem PySem.Spec PyProof.Rows PySem.W
structure n7 (prog:Program) (w:World) (T:String) (r:Addr) (n:Nat) (P:Nat->Value->Prop) (OK:Heap->Prop):Prop where
 type:∀s:Shared,OK s.heap->s.TypeIs (.ref r) T
 there:∀h:Heap,OK h->r<h.objs.size
 keep:∀h h':Heap,OK h->(∀o,h.get? r=some o->h'.get? r=some o)->OK h'
 notDict:(ZK T != ZK "dict")=true
 rA:∀(A:Around) (E:Value->Shared->Prop) (s:Shared) (Q:Option Value->Shared->Prop),A.handled=none->OK s.heap->(∀h' tk,(∀b o,s.heap.get? b=some o->h'.get? b=some o)->Q none { s with heap:=h',toks:=tk })->wpAny (model prog w) A (getAttr? (.ref r) "keys") Q E s
 iter:∀(A:Around) (s:Shared),A.handled=none->OK s.heap->∃(oI:Obj) (St:Nat->Heap->Prop),
  (∀(E:Value->Shared->Prop) (Q:Value->Shared->Prop),Q (.ref s.heap.objs.size) { s with heap:=s.heap.push oI }->wpAny (model prog w) A (pyIter (.ref r)) Q E s) /\
  Walks prog w A s.heap.objs.size [s.heap.objs.size,r] [s.heap.objs.size] n P St/\St 0 (s.heap.push oI)
section
variable {prog:Program}{w:World}{A:Around}{E:Value->Shared->Prop}{s:Shared}{T:String}{r:Addr}{n:Nat}{P:Nat->Value->Prop}{OK:Heap->Prop}
theorem G6 {k:Nat}{its:Array Value}:n7 prog w "list" r its.size (λi v=>its[i]?=some v) (λh=>h.get? r=some { cls:=.type "list",data:=.seq its k }) where
 type:=λs h=>⟨_,h,rfl⟩
 there:=λh e=>XF e
 keep:=λh h' e k=>k _ e
 notDict:=by decide
 rA:=λA E s Q hA e q=>GX e rfl rfl rfl hA q
 iter:=λA s hA e=>by
  have hl:s.heap.IsList r its:=⟨_,e,rfl,k,rfl⟩;have ne:r≠s.heap.objs.size:=XH (XF e);exact⟨_,_,λ_ _ q=>Zu hl q,Walks.list hA s.heap.objs.size r ne its,⟨⟨_,Xw _ rfl,rfl,rfl⟩,hl.push _⟩⟩
theorem G7 {its:Array Value}:n7 prog w "tuple" r its.size (λi v=>its[i]?=some v) (λh=>∃o k,h.get? r=some o/\o.cls=.type "tuple"/\o.data=.seq its k/\o.dict=none) where
 type:=λs ⟨o,k,h,c,_⟩=>⟨_,h,c⟩
 there:=λh ⟨o,k,e,_⟩=>XF e
 keep:=λh h' ⟨o,k,e,c⟩ q=>⟨o,k,q _ e,c⟩
 notDict:=by decide
 rA:=λA E s Q hA ⟨o,k,e,c,d,z⟩ q=>GW e c d z hA q
 iter:=λA s hA ⟨o,k,e,c,d,z⟩=>by
  have hl:s.heap.IsTuple r its:=⟨o,e,c,k,d⟩;have ne:r≠s.heap.objs.size:=XH (XF e);exact⟨_,_,λ_ _ q=>ZN hl q,Walks.tuple hA s.heap.objs.size r ne its,⟨⟨_,Xw _ rfl,rfl,rfl⟩,hl.push _⟩⟩
theorem G8 {DK:Nat->Heap->Prop}{Q:Value->Shared->Prop} (K:n7 prog w T r n P OK) (hA:A.handled=none) (hok:OK s.heap) (T7:DK 0 (s.heap.push { cls:=.type "dict",data:=.dict #[] }))
  (hfr:∀i h h' (it:Addr),s.heap.objs.size<it->DK i h->(∀b o,b≠it->h.get? b=some o->h'.get? b=some o)->DK i h') (put:∀A':Around,A'.units<=A.units+5->xS prog w A' s.heap.objs.size n P DK)
  (h:∀h' tk,DK n h'->(∀b o,s.heap.get? b=some o->h'.get? b=some o)->Q (.ref s.heap.objs.size) { s with heap:=h',toks:=tk }):wpAny (model prog w) A (call (.type "dict") [.ref r]) Q E s:=by
 refine callType_codes (Q₁:=λobj s₁=>obj=.ref s.heap.objs.size/\s₁={ s with heap:=s.heap.push { cls:=.type "dict",data:=.dict #[] } }) F.kt_called_dict (F.kt_typeCall_dict_1 _) F.entry_dict_init (kt_code_dict_new _ ⟨rfl,rfl⟩) ?_;rintro obj s₁ ⟨rfl,rfl⟩;have k1:∀ b o,s.heap.get? b=some o->(s.heap.push { cls:=.type "dict",data:=.dict #[] }).get? b=some o:=λb o e=>Xq _ e;have rB:OK (s.heap.push { cls:=.type "dict",data:=.dict #[] }):=K.keep _ _ hok λo e=>k1 _ o e;have wT:(Shared.TypeIs { s with heap:=s.heap.push { cls:=.type "dict",data:=.dict #[] } } (.ref s.heap.objs.size) "dict"):=⟨_,Xw _ rfl,rfl⟩;refine⟨wT,F.args_dict_init_2 _ _,?_⟩;unfold Builtin.«dict.__init__»;refine Xp ?_;unfold Builtin.Dict.selfAndRest;refine Xp (wpAny_notOrdered_dict wT ?_);show wpAny _ _ (pure (s.heap.objs.size,[Ye r])) _ _ _;refine Xs ?_;show wpAny _ _ (Builtin.Dict.updateFrom "dict.__init__" s.heap.objs.size (.ref r) [] .none) _ _ _;unfold Builtin.Dict.updateFrom;refine Xp (wpAny_typeOf (K.type _ rB) ?_);rw[if_pos K.notDict];refine Xp (K.rA A.in1.in1 _ { s with heap:=s.heap.push { cls:=.type "dict",data:=.dict #[] } } _ hA rB λh2 xz k2=>?_);simp only[Option.isNone_none,if_true];refine Xp (ZU ?_);have G9:OK h2:=K.keep _ _ rB λo e=>k2 _ o e;obtain⟨oI,St,hit,W,st⟩:=K.iter A.in1.in1 { s with heap:=h2,toks:=xz } hA G9;have n8:s.heap.objs.size<h2.objs.size:=XF (k2 _ _ (Xw _ rfl));refine Xp (hit _ _ ?_);have hr:r<s.heap.objs.size:=K.there _ hok;have loop:=GY (A:=A.in1) (R:=wants (λr' s₂=>r'=.none/\Q (.ref s.heap.objs.size) s₂) E) (DK:=DK) W s.heap.objs.size (by
   simp only[Yh,XR,or_false,not_or];exact⟨XH n8,YF hr⟩)
  (λi h h' x k=>hfr i h h' h2.objs.size n8 x λb o hb e=>k b o (by simpa using hb) e) (put _ (by show A.units+1+1<=_;lia)) .none n 0 0 { s with heap:=h2.push oI,toks:=xz } rfl (XS _) st
  (hfr 0 _ _ h2.objs.size n8 T7 λb o _ e=>Xq _ (k2 b o e)) (λh' tk hD hk=>⟨rfl,h h' tk hD λb o e=>hk b o (by
   have hb:=XF e;simp only[Yh,XR,or_false,not_or];exact⟨XH hb,XH (Yp hb n8)⟩) (Xq _ (k2 b o (k1 b o e)))⟩)
 first
  |exact Xs ⟨YA jN _,loop⟩
  |exact Xs (Xs ⟨YA jN _,loop⟩)
  |exact Xp (Xs (Xs ⟨YA jN _,loop⟩))
end
end L2
end
section
set_option maxHeartbeats 1000000
namespace N
open PySem PySem.Spec PyProof.Rows L2
def iM (kvs:List (Key×D)) (M:Mp) (q:QK):Prop:=q (.ak (kvs.map (·.1)) (kvs.map (·.2))) M\/∀p,M p=none->q (.ref p) (up M p (.ak kvs))
noncomputable def cD (kvs:List (Key×D)):List (Key×D):=kvs.foldl (λal kv=>aY al kv.1 kv.2) []
def xT:DE:=λ_ M q=>iM [] M q
def rC:List (DE×DE)->St->Mp->(List (Key×D)->Mp->Prop)->Prop
 |[],_,M,q=>q [] M
 |(tk,tv)::r,τ,M,q=>tk τ M λx M1=>dO x λc=>tv τ M1 λy M2=>rC r τ M2 λkvs M3=>q ((c,y)::kvs) M3
def xU (ps:List (DE×DE)):DE:=fun τ M q=>rC ps τ M λkvs M2=>iM (cD kvs) M2 q
noncomputable def iN:Key->D
 |.inl i=>.int i
 |.inr x=>.str x
noncomputable def dQ (p:Key×D):D:=.tup [iN p.1,p.2]
def xV:QN:=n1 λx M q=>(cw x M λkvs=>iM kvs M q)\/dt x M λds=>∃kvs:List (Key×D),ds=kvs.map dQ/\iM (cD kvs) M q
section
variable {X:Cx} {τ:St} {z:Z}
theorem ae.gL (I:ae X τ z):sysModules<z.s.heap.objs.size:=Yp (by decide) (I.ok.bp.dp.keeps I.bk).lt
theorem lC {G:Gx}{F:Fz}:∀{kvs:List (Key×D)}{vs:List (Key×Value)},KV G F kvs vs->af G F (kvs.map (·.2)) (vs.map (·.2))/\kvs.map (·.1)=vs.map (·.1)
 |_,_,.nil=>⟨.nil,rfl⟩
 |_,_,.cons r t=>⟨.cons r.2 (lC t).1,by rw[XD,XD,r.1,(lC t).2]⟩
theorem xW (vs:List (Key×Value)):(vs.map (·.1)).zip (vs.map (·.2))=vs:=by
 induction vs with
 |nil=>rfl
 |cons p r ih=>rw[XD,XD,YM,ih]
theorem aE.Ha {G:Gx}{F:Fz}{M:Mp}{h:Heap}{a:Addr}{o:MO} (x:aE G F M h) (hF:F a=none) (hM:M a=none) (new:d3 G F (N.up M a o) h a o):aE G F (N.up M a o) h:=
 ⟨x.fz,λb u e=>by
  by_cases hb:b=a
  ·subst hb;rw[aw]at e;cases e;exact⟨hF,new⟩
  ·rw[az hb]at e;exact⟨(x.ob b u e).1,(x.ob b u e).2.go Le.rfl.d (λ_ _ _ q=>q) λc q=>by rw[az (c5 q hM)];exact q⟩,x.tb⟩
theorem ae.xX {a:Addr}{o:Obj} (I:ae X τ z) (f:Fp X z a) (e:z.s.heap.get? a=some o):Le z.F (N.up z.F a (.dat o))/\ae X τ ⟨N.up z.F a (.dat o),z.M,z.s⟩:=
 ⟨Le.new f.f,I.go (Le.new f.f) (I.hok.kL f.f f.m e) (λb hb=>⟨bg.s λ_ e=>e,I.c7 hb,az λq=>f.o (q ▸ hb)⟩) rfl I.bare⟩
theorem ae.take {a:Addr}{o:MO} (I:ae X τ z) (f:Fp X z a) (new:d3 X.G z.F (N.up z.M a o) z.s.heap a o):ae X τ ⟨z.F,N.up z.M a o,z.s⟩:=
 I.go Le.rfl (I.hok.Ha f.f f.m new) (λb hb=>⟨bg.s λ_ e=>e,(az (show b≠a from λq=>f.o (q ▸ hb))).trans (I.c7 hb),rfl⟩) rfl I.bare
theorem ae.rD {ds:List D}{us:List Value}{a:Addr}{n:Nat}{Q:QK}{R:Value->Shared->Prop}{F:Fz} (I:ae X τ z) (f:Fp X z a) (k:KE X τ F Q R) (l:Le F z.F) (r:af X.G z.F ds us) (ho:z.s.heap.get? a=some (bK us n)) (hz:us.length<=sizeLine) (q:bR ds z.M Q):R (.ref a) z.s:=by
 rcases q with q |q
 ·obtain⟨l1,J⟩:=I.xX f ho;exact k (.lst ds) ⟨N.up z.F a (.dat (bK us n)),z.M,z.s⟩ _ (l.tr l1) J (ny aw hz (r.up l1.d)) q
 ·exact k (.ref a) ⟨z.F,N.up z.M a (.lst ds),z.s⟩ _ l (I.take (o:=.lst ds) f ⟨by rw[r.len];exact hz,us,n,r,ho⟩) qh (q a f.m)
theorem ae.xY {kvs:List (Key×D)}{vs:List (Key×Value)}{a:Addr}{Q:QK}{R:Value->Shared->Prop}{F:Fz} (I:ae X τ z) (f:Fp X z a) (gL:(a == sysModules)=false) (k:KE X τ F Q R) (l:Le F z.F) (r:KV X.G z.F kvs vs) (ho:z.s.heap.DictOf (bo X.G.P X.G.w) a vs) (hz:kvs.length<=sizeLine) (q:iM kvs z.M Q):R (.ref a) z.s:=by
 rcases q with q |q
 ·obtain⟨o,es,ep,e,ex,g1,g2,g3,nd⟩:=ho;obtain⟨l1,J⟩:=I.xX f e;obtain⟨k1,k2⟩:=lC (r.up l1.d);refine k (.ak (kvs.map (·.1)) (kvs.map (·.2))) ⟨N.up z.F a (.dat o),z.M,z.s⟩ _ (l.tr l1) J ?_ q;rw[ab];refine⟨a,o,vs.map (·.2),rfl,aw,⟨ex,⟨es,ep,g1,g2,?_⟩,by rw[k2];exact nd,by rw[k2,Xr,Xr],by rw[Xr];exact hz⟩,gL,k1⟩;rw[k2,xW];exact g3
 ·exact k (.ref a) ⟨z.F,N.up z.M a (.ak kvs),z.s⟩ _ l (I.take (o:=.ak kvs) f ⟨hz,gL,vs,r,ho⟩) qh (q a f.m)
theorem ae.xZ {a:Addr} (I:ae X τ z) (hp:z.s.heap.objs.size<=a):(a == sysModules)=false:=beq_eq_false_iff_ne.mpr (YZ (XH (XM I.gL hp)))
theorem ae.ak {kvs:List (Key×D)}{vs:List (Key×Value)}{h':Heap}{a:Addr}{t:Nat}{Q:QK}{R:Value->Shared->Prop}{F:Fz} (I:ae X τ z) (k:KE X τ F Q R) (l:Le F z.F) (r:KV X.G z.F kvs vs) (kp:∀b,bg z.s.heap h' b) (hp:z.s.heap.objs.size<=a) (ho:h'.DictOf (bo X.G.P X.G.w) a vs) (hz:kvs.length<=sizeLine) (q:iM kvs z.M Q):R (.ref a) { z.s with heap:=h',toks:=t }:=
 (I.bN (t:=t) kp).xY (I.jA hp) (I.xZ hp) k l r ho hz q
variable {pos:Pos}{eG:List (Option Expr)}{iO:List Expr}{ps:List (DE×DE)}{k v:Expr}{tk tv:DE}
theorem Hb:PE X (.Dict [] [] pos) xT:=fun τ z Q R I h k=>
 wpAny_Dict_empty (I.ak (vs:=[]) (t:=z.s.toks) k Le.rfl .nil (λ_ _ q=>Xq _ q) (Xu _) (Heap.DictOf.new _) (XS _) h)
def PP (X:Cx) (pos:Pos) (eG:List (Option Expr)) (iO:List Expr) (ps:List (DE×DE)):Prop:=∀ τ z Q R,ae X τ z->rC ps τ z.M Q ->
 (∀kvs z' rs ws,Le z.F z'.F->ae X τ z'->Carries (bo X.G.P X.G.w) ws rs->KV X.G z'.F kvs rs->kvs.length=eG.length->Q kvs z'.M->R ws z'.s)->W X (evalPairs (pairTrees eG iO X.env pos)) R z.s
theorem Hc:PP X pos [] [] []:=fun τ z Q R I h k=>pairTrees_nil_walk (k [] z [] [] Le.rfl I ZO .nil rfl h)
theorem Hd (hk:PE X k tk) (hv:PE X v tv) (hr:PP X pos eG iO ps):PP X pos (some k::eG) (v::iO) ((tk,tv)::ps):=fun τ z Q R I h K=>
 pairTrees_cons_walk (hk τ z _ _ I h λx z1 u l1 I1 r1 q1=>by
  obtain⟨c,hc,q1⟩:=jG (P:=X.G.P) (w:=X.G.w) q1 r1;exact hv τ z1 _ _ I1 q1 λy z2 w l2 I2 r2 q2=>hr τ z2 _ _ I2 q2 λkvs z3 rs ws l3 I3 ca rel hl q3=>K ((c,y)::kvs) z3 ((c,w)::rs) ((u,w)::ws) (l1.tr (l2.tr l3)) I3 ⟨hc,rfl,ca⟩ (.cons ⟨rfl,r2.up l3.d⟩ rel) (by rw[XG,XG,hl]) q3)
theorem KV.cD:∀{more:List (Key×D)}{rs:List (Key×Value)}{G:Gx}{F:Fz}{kvs:List (Key×D)}{vs:List (Key×Value)},KV G F more rs->KV G F kvs vs->KV G F (more.foldl (λal kv=>aY al kv.1 kv.2) kvs) (merged vs rs)/\(more.foldl (λal kv=>aY al kv.1 kv.2) kvs).length<=kvs.length+more.length:=by
 intro more rs G F kvs vs r;unfold KV at r
 induction r generalizing kvs vs with
 |nil=>intro q;exact⟨q,Xu _⟩
 |@cons p q ps qs h t ih=>
  intro r0;have e:KV G F (aY kvs p.1 p.2) (stored vs q.1 q.2):=by
   have:=r0.put p.1 h.2;rw[<- h.1];exact this
  refine⟨(ih e).1,Xz (ih e).2 ?_⟩;have:=qC kvs p.1 p.2;rw[XG];lia
theorem He (h:PP X pos eG iO ps) (rE:eG.all (·.isSome)=true) (hl:eG.length=iO.length) (h0:eG≠[]) (Hf:eG.length<=15):PE X (.Dict eG iO pos) (xU ps):=fun τ z Q R I q K=>by
 have hb:=Xu z.s.heap.objs.size;have e0:(z.s.heap.push { cls:=.type "dict",data:=.dict #[] }).get? z.s.heap.objs.size=some { cls:=.type "dict",data:=.dict #[] }:=Xw _ rfl;have I1:ae X τ ⟨z.F,z.M,{ z.s with heap:=z.s.heap.push { cls:=.type "dict",data:=.dict #[] } }⟩:=I.bN (t:=z.s.toks) λ_ _ q=>Xq _ q;have fp:∀b∈[z.s.heap.objs.size],Fp X ⟨z.F,z.M,{ z.s with heap:=z.s.heap.push { cls:=.type "dict",data:=.dict #[] } }⟩ b:=λb m=>by rw[List.mem_singleton.mp m];exact I.jA hb
 obtain⟨lp,I2⟩:=I1.kX fp;refine wpAny_Dict_walk (knd:=bo X.G.P X.G.w) rE hl h0 Hf (h τ _ _ _ I2 q λkvs z3 rs ws l3 I3 ca rel hk q3=>?_);have x4:=l3 _ _ (dm (gE (List.mem_singleton.mpr rfl) e0));have h3:z3.s.heap.get? z.s.heap.objs.size=some { cls:=.type "dict",data:=.dict #[] }:=I3.hok.fz _ _ x4;obtain⟨l4,I4⟩:=I3.jz (F:=z.F) (λb m=>⟨(fp b m).f,(fp b m).o⟩) l3 I.bs I.b9;have Hg:=rel.up (b8.aM jy l3);obtain⟨rm,hm⟩:=KV.cD Hg (kvs:=[]) (vs:=[]) .nil;obtain⟨o,es,ep,e,rest⟩:=Heap.DictOf.new (knd:=bo X.G.P X.G.w) z.s.heap;rw[e0]at e;cases e;refine⟨rs,ca,⟨_,es,ep,h3,rest⟩,λh' nY hs=>?_⟩;have xL:z3.M z.s.heap.objs.size=none:=by
  cases r':z3.M z.s.heap.objs.size with
  |none=>rfl
  |some o'=>have:=(I3.hok.ob _ o' r').1;rw[x4]at this;cases this
 have f4:aM z3.F (aP [z.s.heap.objs.size] (z.s.heap.push { cls:=.type "dict",data:=.dict #[] })) z.s.heap.objs.size=none:=fc (gE (List.mem_singleton.mpr rfl) e0);have nO:=(fp _ (List.mem_singleton.mpr rfl)).o;have I5:=I4.b0 (t:=z3.s.toks+ws.length) (h':=h') (λb hb o q=>(hs.2 b hb).trans q) f4 xL nO;exact I5.xY (a:=z.s.heap.objs.size) ⟨f4,xL,nO⟩ (I.xZ hb) K l4 rm nY (Xz hm (by rw[hk,ZQ,List.length_nil];lia)) q3
theorem x5 {kvs:List (Key×D)}{i:Nat}{p:Key×D} (h:kvs[i]?=some p):cD (kvs.take (i+1))=aY (cD (kvs.take i)) p.1 p.2:=by
 rw[List.take_add_one,h];unfold cD;rw[List.foldl_append];rfl
theorem x6 (kvs:List (Key×D)) (k:Key) (v:D):(aY kvs k v).length<=kvs.length+1:=by
 unfold aY;split
 ·rw[Xr];lia
 ·rw[XI];exact Xu _
theorem rF (kvs:List (Key×D)):∀i,(cD (kvs.take i)).length<=i
 | 0=>by simp [cD]
 |i+1=>by
  have ih:=rF kvs i;cases h:kvs[i]? with
  |none=>rw[List.take_add_one,h,Option.toList_none,XO];lia
  |some p=>rw[x5 h];have:=x6 (cD (kvs.take i)) p.1 p.2;lia
theorem Hh {G:Gx}{F:Fz}{P:Program}{w:World}{k:Key}{u:Value} (r:ab G F (iN k) u):(bo P w).is k u=true:=by
 cases k with
 |inl i=>rw[iN,ab]at r;obtain⟨t,rfl⟩:=r;exact wC P w _ t
 |inr x=>rw[iN,ab]at r;obtain⟨t,rfl⟩:=r;exact wD P w _ t
theorem x7 {kvs:List (Key×D)}{its:List Value}{T:String}{a:Addr}{OK:Heap->Prop}{Q:QK}{R:Value->Shared->Prop} (hc:X.calm=true) (I:ae X τ z) (rs:af X.G z.F (kvs.map dQ) its) (hz:its.length<=sizeLine) (hok:OK z.s.heap) (S:n7 X.G.P X.G.w T a its.toArray.size (λi v=>its.toArray[i]?=some v) OK)
  (q:iM (cD kvs) z.M Q) (k:KE X τ z.F Q R):W X (call (.type "dict") [.ref a]) R z.s:=by
 have lt:∀b,z.F b≠none\/z.M b≠none->b<z.s.heap.objs.size:=λb h=>by
  rcases h with h |h
  ·cases e:z.F b with
   |none=>exact absurd e h
   |some f=>exact (I.hok.fz b f e).lt
  ·cases e:z.M b with
   |none=>exact absurd e h
   |some f=>exact (I.hok.ob b f e).2.lt
 have lk:kvs.length=its.length:=by rw[<- rs.len,Xr]
 refine G8 (DK:=λi h=>aE X.G z.F z.M h/\∃vs,KV X.G z.F (cD (kvs.take i)) vs/\h.DictOf (bo X.G.P X.G.w) z.s.heap.objs.size vs) S (I.ok.hd hc) hok ⟨I.hok.keep λb _ o e=>Xq _ e,[],.nil,Heap.DictOf.new _⟩ (λi h h' it hit x k=>?_) (λA' S8 i v s' hi hP hD=>?_) λh' tk hD keep=>?_
 ·obtain⟨ok,vs,rel,o,es,ep,e,rest⟩:=x;exact⟨ok.keep λb hb o e=>k b o (XH (Yp (lt b hb) hit)) e,vs,rel,o,es,ep,k _ _ (XH hit) e,rest⟩
 ·obtain⟨ok,vs,rel,dd⟩:=hD;have e1:its[i]?=some v:=by simpa using hP
  have cW:i<kvs.length:=by rw[lk];exact (List.getElem?_eq_some_iff.mp e1).1
  have f7:kvs[i]?=some kvs[i]:=Xx cW;obtain⟨u,hu,r1⟩:=rs.get (i:=i) (d:=dQ kvs[i]) (by rw[XJ,f7];rfl);rw[e1]at hu;cases hu;rw[dQ,ab]at r1;obtain⟨b,o,us,rfl,h1,h2,h3⟩:=r1;obtain⟨Wb,We,rfl,q1,q2⟩:=gF h3;obtain⟨n,hd⟩:=h2.data;refine⟨b,o,_,n,Wb,We,rfl,ok.fz b _ h1,h2.cls,hd,rfl,λQ E hq=>?_⟩;have hv:vs.length<=sizeLine:=by
   rw[<- Paired.length rel];exact Xz (rF kvs i) (by lia)
  refine wpAny_dictSet_pairs (hsz:=hv) (Hh q1) dd λh2 iE sb=>hq _ _ ⟨ok.keep λb hb o e=>sb.extBut b o (XH (lt b hb)) e,_,?_,iE⟩ sb;rw[x5 f7];exact rel.put kvs[i].1 q2
 ·obtain⟨ok,vs,rel,dd⟩:=hD;have ls:its.toArray.size=kvs.length:=by rw[Xv,lk]
  rw[ls,List.take_length]at rel;have hl:(cD kvs).length<=sizeLine:=by
   have:=rF kvs kvs.length;rw[List.take_length]at this;lia
  exact I.ak (t:=tk) k Le.rfl rel (λb o e=>keep b o e) (Xu _) dd hl q
open PySem.W in
theorem Hi (hc:X.calm=true):CB X (.type "dict") xV:=gK fun τ z Q R d v I r q k=>by
 rcases q with q |q
 ·obtain⟨a,kvs,vs,rfl,l,q⟩:=I.cw r q;refine kt_call_dict l.n l.d (by rw[<- Paired.length l.r];exact l.z) λh' hm hs=>?_;exact I.ak (t:=z.s.toks) k Le.rfl l.r (λb o e=>hs.extBut b o (XH (XF e)) (Xq _ e)) (Xu _) hm l.z q
 ·unfold dt at q;split at q
  ·obtain⟨kvs,rfl,q⟩:=q;obtain⟨a,us,o,rfl,l⟩:=I.cR r;obtain⟨n,hd⟩:=l.t.data;exact x7 hc I l.r l.t.len ⟨o,n,l.e,l.t.cls,hd,l.t.dict⟩ G7 q k
  ·obtain⟨a,ds,us,n,rfl,l,kvs,rfl,q⟩:=I.aV r q;exact x7 hc I l.r l.z l.e G6 q k
end
theorem Hj {X:Cx}:OM X "list.extend" rn:=fun τ z Q R d v ds us I rv rs h k=>by
 unfold rn at h;split at h
 ·obtain⟨u,rfl,ru⟩:=fV rs;obtain⟨a,xs,its,n,rfl,hM,l,h⟩:=I.fZ rv h;have hl:=l.r.len;unfold dt at h;split at h
  ·obtain⟨hz,q⟩:=h;obtain⟨b,f8,⟨cls,dd,data,sl⟩,rfl,l2⟩:=I.cR ru;obtain⟨e1,e2,⟨n2,e3⟩,_⟩:=l2.t;have hl2:=l2.r.len;have he:=l2.e;simp only at e1 e3;subst e1 e3;have hsz:its.toArray.size+f8.toArray.size<=sizeLine:=(by rw[Xv,Xv];lia);have lm:¬(!its.toArray.isEmpty && Y0 (its.toArray.size+f8.toArray.size))=true:=by
    rw[qz hsz,Bool.and_false];exact Yl
   refine call_meets F.slot_list_extend ⟨_,l.e,rfl⟩ F.entry_list_extend (F.args_list_extend_2 _ _) (Fw a b its.toArray f8.toArray n n2 dd sl lm (by rw[Xv];lia) (by lia)) ⟨l.e,he,?_⟩;exact k .ai ⟨z.F,_,_⟩ _ Le.rfl (I.n6 (us':=its++f8) hM l.e (by simp) (l.r.app l2.r) (by rw[XI];lia)) (by rw[ab]) q
  ·obtain⟨b,ys,f8,n2,rfl,l2,hz,q⟩:=I.aV ru h;have hl2:=l2.r.len;have hsz:its.toArray.size+f8.toArray.size<=sizeLine:=(by rw[Xv,Xv];lia);have lm:¬(!its.toArray.isEmpty && Y0 (its.toArray.size+f8.toArray.size))=true:=by
    rw[qz hsz,Bool.and_false];exact Yl
   refine call_meets F.slot_list_extend ⟨_,l.e,rfl⟩ F.entry_list_extend (F.args_list_extend_2 _ _) (AutoSeq1.list_extend_list_list_0 a its.toArray n b f8.toArray n2 lm (by rw[Xv];lia) (by lia)) ⟨l.e,l2.e,?_⟩;exact k .ai ⟨z.F,_,_⟩ _ Le.rfl (I.n6 (us':=its++f8) hM l.e (by simp) (l.r.app l2.r) (by rw[XI];lia)) (by rw[ab]) q
 ·exact h.elim
end N
end
section
set_option maxHeartbeats 1000000
namespace N
open PySem PySem.Spec PyProof.Rows L2
def cX (ok:Mp->Prop) (g:G) (tc:DT) (te:DE) (τ:St) (k:List D->Mp->Prop):List D->List D->Mp->Prop
 |[],ys,M=>ok M/\ys.length<sizeLine/\k ys M
 |x::xs,ys,M=>ok M/\ys.length<sizeLine/\cb g x τ M fun τ1 M0=>tc τ1 M0 λb M1=>if b=true then te τ1 M1 λy M2=>cX ok g tc te τ k xs (ys++[y]) M2 else cX ok g tc te τ k xs ys M1
noncomputable def dv (n:Nat) (fr:List (Str×Nat)) (τ:St):St:=Yw n none++fr.map λp=>(τ[p.2]?).join
def rG (n:Nat) (fr:List (Str×Nat)) (g:G) (ti:DI) (tc:DT) (te:DE):DE:=fun τ M q=>ti τ M λxs ok M1=>cX ok g tc te (dv n fr τ) (λys M2=>bR ys M2 q) xs [] M1
def Hk (n:Nat) (fr:List (Str×Nat)) (g:G) (ti:DI) (tc:DT) (te:DE) (j:Nat):DS:=λe τ M=>ti τ M λxs ok M1=>cX ok g tc te (dv n fr τ) (λys M2=>bR ys M2 λd M3=>e.nx (τ.set j (some d)) M3) xs [] M1
noncomputable def dw (X:Cx) (scope:Scope) (N':List Str) (cl:List (Str×Addr)) (C:Addr):Cx where
 G:=X.G
 A:=X.A
 N:=N'
 os:=X.os
 env:=compEnvC scope cl C X.env
 outer:=X.stk
 stk:=X.stk
 fn:=λ_=>false
 calm:=X.calm
 x:=λ_ _ _=>False
def PF (X:Cx) (a2:List Expr) (t:DT):Prop:=∀ τ z Q R,ae X τ z->t τ z.M Q->KT X τ z.F Q R ->
 W X (forIn a2 true λc r=>if r=true then do let ok <- isTrue c X.env (eval c X.env);pure (Zn ok) else pure (Zn r)) R z.s
def gM:DT:=λ_ M q=>q true M
theorem Hl {X:Cx}:PF X [] gM:=fun τ z Q R I h k=>wpAny_tests_nil (k true z Le.rfl I h)
theorem Hm {X:Cx}{c:Expr}{t:DT} (h:PT X c t):PF X [c] t:=fun τ z Q R I q k=>wpAny_tests_one (h τ z Q R I q k)
noncomputable def G.lt (k:Nat):G->Bool
 |.one i=>decide (i<k)
 |.many is=>is.all λi=>decide (i<k)
theorem x8:∀(is:List Nat) (ds:List D) (τ:St) (k:Nat),(is.all λi=>decide (i<k))=true->(fj is ds τ).length=τ.length/\(fj is ds τ).drop k=τ.drop k
 |[],ds,τ,k,_=>by unfold fj;exact⟨rfl,rfl⟩
 |i::is,[],τ,k,_=>by unfold fj;exact⟨rfl,rfl⟩
 |i::is,d::ds,τ,k,h=>by
  rw[List.all_cons,Xy]at h;obtain⟨h1,h2⟩:=x8 is ds (τ.set i (some d)) k h.2;unfold fj;exact⟨h1.trans List.length_set,h2.trans (List.drop_set_of_lt (of_decide_eq_true h.1))⟩
theorem Hn {g:G}{k:Nat} (h:g.lt k=true) {x:D} {τ:St} {M:Mp}{Q:St->Mp->Prop} (q:cb g x τ M Q):cb g x τ M fun τ2 M2=>Q τ2 M2/\τ2.length=τ.length/\τ2.drop k=τ.drop k:=by
 cases g with
 |one i=>exact⟨q,List.length_set,List.drop_set_of_lt (of_decide_eq_true h)⟩
 |many is=>
  have imp:∀{k k':List D->Prop},(∀ds,k ds->k' ds)->dt x M k->dt x M k':=λ{k k'} f h=>by
   cases x <;> first |exact f _ h |exact h |(obtain⟨ds,h1,h2⟩:=h;exact⟨ds,h1,f _ h2⟩)
  exact imp (λds p=>⟨p.1,p.2,x8 is ds τ k h⟩) q
structure iP (X:Cx) (scope:Scope) (Nt:List Str) (fr:List (Str×Nat)):Prop where
 kind:scope.kind=.function
 cell:∀y∈scope.names,y.2≠.cell
 names:∀y∈scope.names,y.2=.local->scope.names.lookup y.1=some .local
 free:∀y∈scope.names,y.2=.free->X.env.kindOf y.1=some .cell
 fr:∀p∈fr,X.N[p.2]?=some p.1/\scope.names.lookup p.1=some .free
section
variable {X:Cx} {τ:St} {z:Z}{tg ap iter:Expr}{a2:List Expr}{scope:Scope}{pos:Pos}{Nt:List Str}{fr:List (Str×Nat)}{g:G}{tc:DT}{te:DE}{cl:List (Str×Addr)}{C:Addr}
theorem Ho {h1:Heap}{t1:Nat}{m:Str->Option Value} (L:iP X scope Nt fr) (I:ae X τ z) (bn:∀ x c,cl.lookup x=some c->X.env.cells.lookup x=some c) (lD:∀ y∈scope.names,y.2=.free->∃ c,cl.lookup y.1=some c)
  (hC:z.s.heap.objs.size<=C) (c0:∀b,bg z.s.heap h1 b) (hn:h1.Ns C m):ae (dw X scope (Nt++fr.map (·.1)) cl C) (dv Nt.length fr τ) ⟨aS z.F (X.aR z.s.heap),z.M,{ z.s with heap:=h1,toks:=t1 }⟩:=by
 have e0:=I.qc;refine⟨⟨I.ok.bp,L.kind,I.ok.dp,I.ok.kM,λx y c e1 e2=>I.ok.inj x y c (bn _ _ e1) (bn _ _ e2),λx hx=>?_,I.ok.hd,I.ok.frames,.inl rfl⟩,e0.bs,I.os,I.bare,e0.b9,⟨m,hn,λi x v lE h2 h3=>?_⟩,λx c e=>?_,⟨I.nh.cz hC,I.hok.c6 hC⟩,I.nh.keep λb _=>c0 b,?_⟩
 ·have cQ:((relabel scope X.env).names.lookup x=some .cell\/(relabel scope X.env).names.lookup x=some .free):=hx;rcases cQ with q |q
  ·exact lD _ (qI L.cell (.inl rfl) q) rfl
  ·exact lD _ (qI L.cell (.inr rfl) q) rfl
 ·have rH:(Nt++fr.map (·.1))[i]?=some x:=lE;have hi:¬i<Nt.length:=λhi=>by
   unfold dv at h2;rw[Yo (by simpa using hi),List.getElem?_replicate]at h2;split at h2 <;> cases h2
  unfold dv at h2;rw[Ym (by simpa using hi),List.length_replicate,XJ]at h2;rw[Ym (by lia),XJ]at rH;cases e:fr[i-Nt.length]? with
  |none=>rw[e]at h2;cases h2
  |some p=>
   rw[e]at h2 rH;have ex:p.1=x:=Yg rH;have ev:(τ[p.2]?).join=some v:=Yg h2;obtain⟨hN,hfr⟩:=L.fr p (Yn e);have es:τ[p.2]?=some (some v):=by
    cases q:τ[p.2]? with
    |none=>rw[q]at ev;cases ev
    |some o=>rw[q]at ev;exact congrArg some ev
   have hkc:=L.free (p.1,.free) (PySem.mem_of_lookup hfr) rfl;obtain⟨W6,S9,Hr⟩:=I.loc;obtain⟨u,ru,lk⟩:=Hr p.2 p.1 v hN es (.inr (.inl hkc));refine⟨u,ru.up I.cA.d,?_⟩;rcases lk with ⟨kk,_⟩ |⟨_,c,hc,nn⟩
   ·rw[hkc]at kk;cases kk
   ·obtain⟨c',fS⟩:=lD _ (PySem.mem_of_lookup hfr) rfl;have hcc:=bn _ _ fS;rw[hc]at hcc;cases hcc;subst ex;refine .inr ⟨w4 hfr,c,fS,?_⟩;obtain⟨o,q1,q2⟩:=nn;exact⟨o,c0 _ _ q1,q2⟩
 ·have hc:=bn x c e;obtain⟨⟨v,o,q1,q2⟩,hM,hF⟩:=I.cell x c hc;refine⟨⟨v,o,c0 _ _ q1,q2⟩,hM,.inr ⟨rfl,?_⟩⟩;rcases hF with ⟨hf,hF⟩ |⟨hf,o',hF⟩
  ·refine⟨o,dm ?_⟩;unfold Cx.aR;rw[if_neg (I.jw hc),if_pos ⟨x,hf,hc⟩,q1];rfl
  ·exact⟨o',I.cA c _ hF⟩
 ·unfold dv;show _=(Nt++fr.map (·.1)).length;simp
end
end N
end
section
set_option maxHeartbeats 1000000
namespace N
open PySem PySem.Spec PyProof.Rows L2
section
variable {X:Cx} {τ:St} {z:Z}{tg ap iter:Expr}{a2:List Expr}{scope:Scope}{pos:Pos}{Nt:List Str}{fr:List (Str×Nat)}{g:G}{tc:DT}{te:DE}{cl:List (Str×Addr)}
structure x9 (X:Cx) (τ:St) (z:Z) (fin:List D->Mp->Prop) (L C:Addr) (z':Z) (ys:List D) (its:List Value) (n:Nat) (m':Str->Option Value):Prop where
 le:Le z.F z'.F
 n9:ae X τ z'
 fl:Fp X z' L
 Uv:Fp X z' C
 ne:L≠C
 ns:z'.s.heap.Ns C m'
 obj:z'.s.heap.get? L=some (bK its n)
 rel:af X.G z'.F ys its
 sz:its.length<=sizeLine
 fin:fin ys z'.M
theorem lF {a b:Addr} (h:b∈[a]):b=a:=List.mem_singleton.mp h
theorem rI {X:Cx} {τ:St} {z:Z}{b:Addr}{f:Fo} (I:ae X τ z) (h:z.F b=some f):z.M b=none:=by
 cases q:z.M b with
 |none=>rfl
 |some o=>have:=(I.hok.ob b o q).1;rw[h]at this;cases this
theorem x' {it:Addr}{xs:List D}{ok:Mp->Prop}{fin:List D->Mp->Prop}{E:Value->Shared->Prop}{RR:Value->Addr->Result->Shared->Prop}
  (L:iP X scope Nt fr) (lG:X.calm=true) (I:ae X τ z) (bn:∀x c,cl.lookup x=some c->X.env.cells.lookup x=some c) (lD:∀y∈scope.names,y.2=.free->∃c,cl.lookup y.1=some c)
  (hit:qo X tg xs ok z it) (hg:∀C,PG (dw X scope (Nt++fr.map (·.1)) cl C) tg (cb g)) (lH:g.lt Nt.length=true) (hc:∀C,PF (dw X scope (Nt++fr.map (·.1)) cl C) a2 tc) (he:∀C,PE (dw X scope (Nt++fr.map (·.1)) cl C) ap te)
  (w0:cX ok g tc te (dv Nt.length fr τ) fin xs [] z.M)
  (Ht:∀A C z' ys its n m',x9 X τ z fin A C z' ys its n m'->RR (.ref A) C (.ok .next) z'.s) :
  wpAny (model X.G.P X.G.w) X.A (newList []) (λal s3=>wpAny (model X.G.P X.G.w) X.A (newFunctionEnv scope X.env.globals cl [] X.env.qual none .none (some X.env)) (λx0 s4=>
   codeAny (model X.G.P X.G.w) X.A (.compStart (.ListComp ap [⟨tg,iter,a2,0⟩] scope pos) 0 (.ref it) al { x0 with scope:=relabel scope X.env }) (RR al x0.locals) s4) E s3) E z.s:=by
 obtain⟨T,t0,f0⟩:=hit;rename_i fp tn;refine Yi (wpAny_newFunctionEnv L.cell (by intro y hy;simp at hy) (λh1 bv dR=>?_) L.kind);dsimp only at bv dR ⊢;generalize rJ:z.s.heap.push { cls:=.type "list",dict:=none,data:=.seq ([]:List Value).toArray }=H2 at bv dR ⊢;have hC:H2.objs.size=z.s.heap.objs.size+1:=by rw[<- rJ,X8]
 have c0:∀b,bg z.s.heap h1 b:=λb o q=>
  dR.extBut b o (by rw[hC];exact XH (YK (XF q))) (Xq _ (rJ ▸ Xq _ q))
 have lI:z.s.heap.objs.size≠H2.objs.size:=by rw[hC];exact XH (YY _)
 have iQ:h1.get? z.s.heap.objs.size=some (bK [] 0):=dR.extBut _ _ lI (Xq _ (rJ ▸ Xw _ rfl));have jP:z.s.heap.objs.size<=H2.objs.size:=by rw[hC];exact Y' _
 have I0:=Ho (t1:=z.s.toks+([]:List (Str×Value)).length) (C:=H2.objs.size) L I bn lD jP c0 bv;have oe:tn 0 h1:=T.keep 0 _ _ t0 λb _=>c0 b;have a1:∀b∈fp,b<z.s.heap.objs.size:=λb hb=>let ⟨o,q⟩:=T.obj 0 _ t0 b hb;XF q
 generalize iR:z.s.heap.objs.size=a at lI iQ jP a1;generalize H2.objs.size=C at lI bv dR jP I0;generalize hX:dw X scope (Nt++fr.map (·.1)) cl C=X' at I0;have UQ:X'.G=X.G:=by subst hX;rfl
 have Vw:X'.A=X.A:=by subst hX;rfl
 have W7:X'.env=compEnvC scope cl C X.env:=by subst hX;rfl
 have Vx:X'.calm=true:=by subst hX;exact lG
 have og:PG X' tg (cb g):=by subst hX;exact hg _
 have fS:PF X' a2 tc:=by subst hX;exact hc _
 have ii:PE X' ap te:=by subst hX;exact he _
 have go:∀{α:Type} {t:Env->Sem α}{R:α->Shared->Prop}{s:Shared},W X' (t X'.env) R s->wpAny (model X.G.P X.G.w) X.A (t (compEnvC scope cl C X.env)) R (λ_ _=>False) s:=λh=>by
  subst hX;exact Zv h (λ_ _ q=>q) λ_ _ q=>q.no.elim
 have own:∀b,cF X' b->b=C\/cF X b:=λb hb=>by
  subst hX;rcases hb with h |⟨x,h⟩
  ·exact .inl h
  ·exact .inr (.inr ⟨x,bn x b h⟩)
 have oh:∀b∈fp,¬cF X' b:=λb hb o=>by
  rcases own b o with h |h
  ·exact absurd (XM (a1 b hb) jP) (by rw[h];exact YQ _)
  ·exact (f0 b hb).o h
 have rK:¬cF X' a:=λo=>by
  rcases own a o with h |h
  ·exact lI h
  ·exact absurd (I.fQ h) (by rw[iR];exact YQ _)
 have rL:∀b∈fp,b≠a:=λb hb=>XH (a1 b hb)
 -- kP Ta Tc dS Td
 let J:Nat->Shared->Prop:=λn s'=>∃i ys its c z',z'.s=s'/\Le (aS z.F (X.aR z.s.heap)) z'.F/\ae X' (dv Nt.length fr τ) z'/\af X.G z'.F ys its/\tn i z'.s.heap/\(∀b∈fp,Fp X' z' b)/\Fp X' z' a/\z'.s.heap.get? a=some (bK its c) /\
  cX ok g tc te (dv Nt.length fr τ) fin (xs.drop i) ys z'.M/\n+i=xs.length
 have loop:∀ s3:Shared,s3={ z.s with heap:=h1,toks:=z.s.toks+([]:List (Str×Value)).length } ->
   codeAny (model X.G.P X.G.w) X.A (.compLoop (.ListComp ap [⟨tg,iter,a2,0⟩] scope pos) 0 (.ref it) (.ref a) (compEnvC scope cl C X.env)) (RR (.ref a) C) s3:=by
  rintro s3 rfl;refine Fx (P:=λs'=>∃z' ys its n m',z'.s=s'/\x9 X τ z fin a C z' ys its n m') (λs' ⟨z',ys,its,n,m',e,q⟩=>e ▸ Ht _ _ z' ys its n m' q) J ?_ xs.length
   ⟨0,[],[],0,⟨aS z.F (X.aR z.s.heap),z.M,_⟩,rfl,Le.rfl,I0,.nil,oe,λb hb=>⟨?_,(f0 b hb).m,oh b hb⟩,⟨I.nh.cz (ZL iR),I.hok.c6 (ZL iR),rK⟩,iQ,w0,rfl⟩
  ·rintro n s' ⟨i,ys,its,c,z1,rfl,l1,I1,rv,st,UR,Vy,Wf,w,hn⟩;have lJ:∀b∈[a],Fp X' z1 b:=λb hb=>(by rw[lF hb];exact Vy);obtain⟨lp,Ip⟩:=I1.kX lJ;have pA:aP [a] z1.s.heap a=some (.pin (bK its c)):=gE (List.mem_singleton.mpr rfl) Wf;have ya:∀b∈fp,Fp X' ⟨aS z1.F (aP [a] z1.s.heap),z1.M,z1.s⟩ b:=λb hb=>⟨(fb (kW λm=>rL b hb (lF m))).trans (UR b hb).f,(UR b hb).m,(UR b hb).o⟩;have lz:Le z.F (aS z1.F (aP [a] z1.s.heap)):=I.cA.tr (l1.tr lp);cases hx:xs[i]? with
   |none=>
    have hl:xs.length<=i:=List.getElem?_eq_none_iff.mp hx;rw[List.drop_of_length_le hl]at w;have A1:=T.done X' UQ Vx i _ ⟨aS z1.F (aP [a] z1.s.heap),z1.M,z1.s⟩ (λ_ _=>False) Ip lz ya st w.1 hl;rw[Vw]at A1;refine eE A1 λr s1 ⟨hr,I2⟩=>?_;subst hr;obtain⟨l3,I3⟩:=I2.jz (F:=z1.F) (λb hb=>⟨(lJ b hb).f,(lJ b hb).o⟩) Le.rfl I1.bs I1.b9;have e2:s1.heap.get? a=some (bK its c):=I2.hok.fz a _ (dm pA);have hL:X'.env.locals=C:=(by subst hX;rfl);obtain⟨m',n4,_⟩:=I3.loc;rw[hL]at n4;have l4:=l1.tr l3;have cT:s1.os=z.s.os:=by have:=I3.os;subst hX;exact this.trans I.os.symm
    have I5:=I.after (z':=⟨aM (aS z1.F (aP [a] z1.s.heap)) (aP [a] z1.s.heap),z1.M,s1⟩) l4 (by rw[<- UQ];exact I3.hok) cT I3.bare;have Hu:aM (aS z1.F (aP [a] z1.s.heap)) (aP [a] z1.s.heap) a=none:=fc pA;have Hv:aM (aS z1.F (aP [a] z1.s.heap)) (aP [a] z1.s.heap) C=none:=by have:=I3.free.1;rw[hL]at this;exact this
    have Hw:z1.M C=none:=by have:=I3.free.2;rw[hL]at this;exact this
    have no:∀{b:Addr},z.s.heap.objs.size<=b->X.aR z.s.heap b=none:=λ{b} hb=>by
     cases q:X.aR z.s.heap b with
     |none=>rfl
     |some f=>exact absurd (XM (I.fQ (I.fR (h:=z.s.heap) (by rw[q];exact Yk f)).1) hb) (YQ _)
    have nO:∀{b:Addr},z.s.heap.objs.size<=b->¬cF X b:=λhb o=>absurd (XM (I.fQ o) hb) (YQ _);exact⟨_,ys,its,c,m',rfl,⟨Le.aM (λb e=>(I.fR e).2) l4,I5,⟨(fe (no (ZL iR))).trans Hu,Vy.m,nO (ZL iR)⟩,⟨(fe (no (iR ▸ jP))).trans Hv,Hw,nO (iR ▸ jP)⟩,lI,n4,e2,
     (rv.up l3.d).up (b8.aM X.p9 l4),by rw[<- rv.len];exact Nat.le_of_lt w.2.1,w.2.2⟩⟩
   |some d=>
    obtain⟨rM,hd⟩:=List.getElem?_eq_some_iff.mp hx;rw[ZT rM,hd]at w;have A1:=T.item X' UQ Vx i _ ⟨aS z1.F (aP [a] z1.s.heap),z1.M,z1.s⟩ d (λ_ _=>False) Ip lz ya st w.1 hx;rw[Vw]at A1;refine eE A1 λr s1 ⟨u,hr,h4⟩=>?_;subst hr;refine eE h4 λ_ s5 h5=>?_;obtain⟨l5,I5,r5,t5,n5⟩:=h5;rename_i F5;have f5:∀b∈fp,Fp X' ⟨F5,z1.M,s5⟩ b:=λb hb=>⟨n5 b hb,(UR b hb).m,oh b hb⟩;obtain⟨US,Iq⟩:=I5.kX f5
    -- kP aR jQ Te io,kP list Tf have grown
    have io:∀ {τ7:St} {z7:Z}{f9:List D}{oi:List Value}{c':Nat}{h9:Heap},Le (aS F5 (aP fp s5.heap)) z7.F->ae X' τ7 z7->τ7.length=(dv Nt.length fr τ).length->τ7.drop Nt.length=(dv Nt.length fr τ).drop Nt.length->(∀ b,b≠a->bg z7.s.heap h9 b)->h9.get? a=some (bK oi c') ->
      (∀F,b8 z7.F F->af X.G F f9 oi)->cX ok g tc te (dv Nt.length fr τ) fin (xs.drop (i+1)) f9 z7.M->∃m,m<n/\J m { z7.s with heap:=h9 }:=λ{τ7 z7 f9 oi c' h9} l7 I7 len Vb kp o9 rel w7=>by
     obtain⟨u1,u2⟩:=I7.jz (fp:=fp) (h:=s5.heap) (F:=F5) (λb hb=>⟨n5 b hb,oh b hb⟩) l7 I5.bs I5.b9;have bL:∀b∈fp,∃o,s5.heap.get? b=some o/\z7.F b=some (.pin o):=λb hb=>by
      obtain⟨o,ho⟩:=T.obj _ _ t5 b hb;exact⟨o,ho,l7 b _ (dm (gE hb ho))⟩
     have l8:Le (aS z1.F (aP [a] z1.s.heap)) (aM z7.F (aP fp s5.heap)):=l5.tr u1;obtain⟨v1,v2⟩:=u2.jz (fp:=[a]) (h:=z1.s.heap) (F:=z1.F) (λb hb=>⟨(lJ b hb).f,(lJ b hb).o⟩) l8 I1.bs I1.b9;have g0:=l8 a _ (dm pA);have UT:z7.M a=none:=rI (z:=⟨aM z7.F (aP fp s5.heap),z7.M,z7.s⟩) u2 g0;have UU:aM (aM z7.F (aP fp s5.heap)) (aP [a] z1.s.heap) a=none:=fc pA;have v3:=(v2.b0 (t:=z7.s.toks) kp UU UT rK).DM len.symm λk v q=>by
      have hk:¬k<Nt.length:=λhk=>by
       unfold dv at q;rw[Yo (by simpa using hk),List.getElem?_replicate]at q;split at q <;> cases q
      have y:∀l:St,l[k]?=(l.drop Nt.length)[k-Nt.length]?:=λl=>by
       rw[List.getElem?_drop]
       congr 1
       lia
      rw[y,Vb,<- y];exact q
     refine⟨n-1,by lia,i+1,f9,oi,c',⟨_,_,_⟩,rfl,l1.tr v1,v3,rel _ λb o e=>b8.aM jy l8 b o (b8.aM jy l7 b o e),?_,λb hb=>?_,⟨UU,UT,rK⟩,o9,w7,by lia⟩
     ·refine T.keep _ _ _ t5 λb hb o ho=>kp b (rL b hb) o ?_;obtain⟨o',h1,h2⟩:=bL b hb;rw[ho]at h1;cases h1;exact I7.hok.fz b _ h2
     ·obtain⟨o',h1,h2⟩:=bL b hb;refine⟨(fe (kW λm=>rL b hb (lF m))).trans (fc (gE hb h1)),rI (z:=z7) I7 h2,oh b hb⟩
    refine go (t:=λenv=>assign tg env u) (og _ ⟨_,z1.M,s5⟩ d u _ _ Iq (r5.up US.d) (Hn lH w.2.2) fun τ6 z6 l6 I6 q6=>?_);obtain⟨q6,yb,yc⟩:=q6;refine go (t:=λenv=>forIn a2 true λc r=>if r=true then do let ok <- isTrue c env (eval c env);pure (Zn ok) else pure (Zn r)) (fS τ6 z6 _ _ I6 q6 λHx z7 l7 I7 q7=>?_)
    have yd:∀{τ8:St} {z8:Z},Le (aS F5 (aP fp s5.heap)) z8.F->ae X' τ8 z8->z8.s.heap.get? a=some (bK its c):=λl8 I8=>I8.hok.fz a _ (l8 a _ (US a _ (l5 a _ (dm pA))));cases Hx with
    |false=>
     rw[if_neg Yl]at q7 ⊢;exact io (h9:=z7.s.heap) (l6.tr l7) I7 yb yc (λ_ _ _ e=>e) (yd (l6.tr l7) I7) (λF l=>rv.up λb o e=>l b o ((l6.tr l7) b _ (US b _ (l5 b _ (lp b _ e))))) q7
    |true=>
     rw[if_pos rfl]at q7 ⊢;refine go (t:=λenv=>eval ap env) (ii τ6 z7 _ _ I7 q7 λy z8 v l8 I8 Wg Wh=>?_);have l8:=l6.tr (l7.tr l8);refine append_at (hsz:=by rw[Xv,<- rv.len];exact Nat.le_of_lt w.2.1) (yd l8 I8) λh9 sb o9=>?_;rw[show its.toArray.push v=(its++[v]).toArray by simp]at o9;exact io (h9:=h9) l8 I8 yb yc (λb hb o q=>(sb.2 b hb).trans q) o9 (λF l=>(rv.up λb o e=>l b o (l8 b _ (US b _ (l5 b _ (lp b _ e))))).app (.cons (by rw[<- UQ];exact Wg.up l) .nil)) Wh
  ·exact (fb (by
    cases q:X.aR z.s.heap b with
    |none=>rfl
    |some f=>exact absurd (I.fR (h:=z.s.heap) (by rw[q];exact Yk f)).1 (f0 b hb).o)).trans (f0 b hb).f
 exact codeAny_compStart_list (loop _ rfl) (T.self X.A 0 _ _ _ oe (loop _ rfl))
theorem Hy {ti:DI} (L:iP X scope Nt fr) (lG:X.calm=true) (hi:PI X tg iter ti) (hg:∀ cl C,PG (dw X scope (Nt++fr.map (·.1)) cl C) tg (cb g)) (lH:g.lt Nt.length=true)
  (hc:∀cl C,PF (dw X scope (Nt++fr.map (·.1)) cl C) a2 tc) (he:∀cl C,PE (dw X scope (Nt++fr.map (·.1)) cl C) ap te) (hs:∀x,foldedSetIterable iter X.env x=pure x) :
  PE X (.ListComp ap [⟨tg,iter,a2,0⟩] scope pos) (rG Nt.length fr g ti tc te):=fun τ z Q R I h k=>by
 obtain⟨cl,e1,e2,e3⟩:=wZ (scope:=scope) (env:=X.env) λy hy hf=>I.ok.has _ (.inl (L.free y hy hf));rw[eval_ListComp];refine wpAny_comprehension_free (use:=none) rfl hs e1 L.kind L.names (hi τ z _ _ I h λxs ok z2 it l2 I2 hit w0=>?_);refine x' (RR:=λal C r s'=>compPost (model X.G.P X.G.w) X.A (XE X) none R al C r s') L lG I2 e2 e3 hit (hg cl) lH (hc cl) (he cl) w0 λA C z' ys its n m' q=>?_;refine⟨m',q.ns,λh' sb=>?_⟩;have J:=q.n9.b0 (t:=z'.s.toks) (h':=h') (λb hb o e=>(sb.2 b hb).trans e) q.Uv.f q.Uv.m q.Uv.o;exact J.rD ⟨q.fl.f,q.fl.m,q.fl.o⟩ k (l2.tr q.le) q.rel ((sb.2 A q.ne).trans q.obj) q.sz q.fin
theorem Hz {ti:DI}{y:Str}{j:Nat}{py jR:Pos} (L:iP X scope Nt fr) (lG:X.calm=true) (hN:iq X [j] [y]) (hi:PI X tg iter ti) (hg:∀ cl C,PG (dw X scope (Nt++fr.map (·.1)) cl C) tg (cb g)) (lH:g.lt Nt.length=true)
  (hc:∀cl C,PF (dw X scope (Nt++fr.map (·.1)) cl C) a2 tc) (he:∀cl C,PE (dw X scope (Nt++fr.map (·.1)) cl C) ap te) (hs:∀x,foldedSetIterable iter X.env x=pure x)
  (rN:swapsWith (.ListComp ap [⟨tg,iter,a2,0⟩] scope pos) (some (.Name y py)) jR.line X.env=pure true) :
  PS X (.Assign [.Name y py] (.ListComp ap [⟨tg,iter,a2,0⟩] scope pos) jR) (Hk Nt.length fr g ti tc te j):=fun τ z e R I h k=>by
 obtain⟨cl,e1,e2,e3⟩:=wZ (scope:=scope) (env:=X.env) λy hy hf=>I.ok.has _ (.inl (L.free y hy hf));rw[exec_Assign_Name_used _ _ _ _ rN];refine Xp (wpAny_standAt (Xp ?_));show W X (do let _ <- comprehension (.ListComp ap [⟨tg,iter,a2,0⟩] scope pos) scope X.env _ (newList []) false (eval iter X.env) (some (assign (.Name y py) X.env))) _ z.s
 refine Xp (eE (wpAny_comprehension_free (use:=some (assign (.Name y py) X.env)) (Q:=λ_ s'=>R .next s') rfl hs e1 L.kind L.names (hi τ z _ _ I h λxs ok z2 it l2 I2 hit w0=>?_)) λ_ s' hq=>Xs (Xs hq));refine x' (RR:=λal C r s'=>compPost (model X.G.P X.G.w) X.A (XE X) (some (assign (.Name y py) X.env)) (λ_ s'=>R .next s') al C r s') L lG I2 e2 e3 hit (hg cl) lH (hc cl) (he cl) w0 λA C z' ys its n m' q=>?_;obtain⟨oC,es,ep,HA,rest⟩:=id q.ns;have Vd:∀b∈[C],Fp X z' b:=λb hb=>by rw[lF hb];exact q.Uv
 obtain⟨lp,Ip⟩:=q.n9.kX Vd;have pC:aP [C] z'.s.heap C=some (.pin oC):=gE (List.mem_singleton.mpr rfl) HA;have Wi:Fp X ⟨aS z'.F (aP [C] z'.s.heap),z'.M,z'.s⟩ A:=⟨(fb (kW λm=>q.ne (lF m))).trans q.fl.f,q.fl.m,q.fl.o⟩;show W X (assign (.Name y py) X.env (.ref A)) (λ_ s'=>∃m,_/\_) z'.s;refine Ip.rD (R:=λv s'=>W X (assign (.Name y py) X.env v) _ s') Wi (λd z3 u l3 I3 r3 q3=>?_) Le.rfl (q.rel.up lp.d) q.obj q.sz q.fin;refine vY hN τ z3 d u (fun τ' M'=>τ'=τ.set j (some d)/\M'=z3.M) _ I3 r3 ⟨rfl,rfl⟩ fun τ4 z4 l4 I4 q4=>?_;have g4:=(l3.tr l4) C _ (dm pC);have h4:z4.s.heap.get? C=some oC:=I4.hok.fz C _ g4;refine⟨m',⟨oC,es,ep,h4,rest⟩,λfW sb=>?_⟩;obtain⟨u1,u2⟩:=I4.jz (fp:=[C]) (F:=z'.F) (λb hb=>⟨(Vd b hb).f,(Vd b hb).o⟩) (l3.tr l4) q.n9.bs q.n9.b9;have I6:=u2.b0 (t:=z4.s.toks) (h':=fW) (λb hb o e=>(sb.2 b hb).trans e) (fc pC) (rI (z:=z4) I4 g4) q.Uv.o;refine k.nx τ4 ⟨_,_,_⟩ ((l2.tr q.le).tr u1) I6 ?_;rw[q4.1];show e.nx _ z4.M;rw[q4.2];exact q3
end
end N
end
section
set_option maxHeartbeats 1000000
namespace N
open PySem PySem.Spec PyProof.Rows L2
def cJ (G:Gx) (k:Nat) (f:Addr) (sp:Sp):Prop:=∃(fd:FuncData) (ps:List Str) (K:PySem.W.Frag),bf G k f fd ps sp/\PySem.W.keepIn K (.ref f)=true/\bE K fd ps []/\∀z:Z,Mod G->Bs G z.F->aE G z.F z.M z.s.heap->K.In z.s.heap
def rO (d:D) (k:Addr->Prop):Prop:=match d with
 |.ref a=>k a
 |_=>False
def ye (ca:Addr->Sp->Prop) (E:XQ) (ta:DE) (t:DA):DE:=fun τ M q=>ta τ M λx M1=>rO x λf=>∃sp,ca f sp/\t τ M1 λds M2=>sp ds M2 q E
noncomputable def yf:D->String->Option Bool
 |.tup _,"tuple"=>some true
 |.str _,"tuple"=>some false
 |.str _,"bool"=>some false
 |.str _,"str"=>some true
 |.str _,"int"=>some false
 |.int _,"tuple"=>some false
 |.int _,"bool"=>some false
 |.int _,"str"=>some false
 |.int _,"int"=>some true
 |.bl _,"bool"=>some true
 |_,_=>none
def rP:QN:=λds M q=>match ds with
 |[x,.ty "list"]=>aV x M λ_=>q (.bl true) M
 |[x,.ty T]=>∃b,yf x T=some b/\q (.bl b) M
 |[.int _,.tup [.ty "str",.ty "int"]]=>q (.bl true) M
 |[.str _,.tup [.ty "str",.ty "int"]]=>q (.bl true) M
 |_=>False
section
variable {X:Cx}{x:Str}{pos:Pos}{T:String}
theorem HB (hg:Gl X x) (hm:X.G.mg x=none) (hv:bootBuiltins x=some (.type T)) (hn:x≠"__name__") (cH:(x == ("__debug__" : Str))=false):PE X (.Name x pos) (T6 (.ty T)):=fun τ z Q R I h k=>
 eA I hg hm hv hn cH (k (.ty T) z _ Le.rfl I (by rw[ab]) h)
theorem yg {k:Nat}{ca:Addr->Sp->Prop}{E:XQ}{UW e:Expr}{es:List Expr}{ta:DE}{t:DA} (hC:∀ f sp,ca f sp->cJ X.G k f sp) (hr:bx k X.A) (hx:dP X E) (hf:PE X UW ta) (ha:PA X (e::es) t)
  (c9:starEach (e::es) X.env=(false,eval e X.env)::starEach es X.env) (cV:(backTo pos (starEach es X.env)).any (·.1)=false)
  (HC:eval (.Call UW (e::es) [] pos) X.env=(do callWith pos (<- eval UW X.env) [] (backTo pos (starEach (e::es) X.env)) (backToKw pos (keywordEach [] X.env)))) :
  PE X (.Call UW (e::es) [] pos) (ye ca E ta t):=fun τ z Q R I h K=>
 Call_ (hf τ z _ _ I h λd z1 u l1 I1 r1 q1=>by
  unfold rO at q1;split at q1
  ·obtain⟨sp,hc,q1⟩:=q1;rw[ab]at r1;subst r1;obtain⟨fd,ps,K0,F,hk,hb,hi⟩:=hC _ sp hc;exact PySem.W.callWith_K (hi z1 I1.ok.bp I1.bs I1.hok) hk (ha pos τ z1 _ _ I1 q1 λvs z2 us l2 I2 r q=>⟨hi z2 I2.ok.bp I2.bs I2.hok,nZ (x:=X.G.ex) (bc:=[]) (ds:=[]) F hr hb (λ_ _ _=>.nil) hx I2 (I2.bs.x.tr I2.cA) (hi z2 I2.ok.bp I2.bs I2.hok) r (by rw[XO];exact q) λd z3 u l3=>K d z3 u (l1.tr (l2.tr l3))⟩) c9 cV
  ·exact q1.elim) HC
theorem HD:CB X (.builtin "isinstance") rP:=fun τ z Q R ds us I rs q k=>by
  have tp:∀ {t:Value},ab X.G z.F (.tup [.ty "str",.ty "int"]) t->∃ a dd n sl,t=.ref a/\z.s.heap.get? a=some { cls:=.type "tuple",dict:=dd,data:=.seq [ZK "str",ZK "int"].toArray n,slots:=sl }:=λr=>by
    obtain⟨a,us,⟨cls,dd,data,sl⟩,rfl,l⟩:=I.cR r;obtain⟨e1,_,⟨n,e3⟩,_⟩:=l.t;obtain⟨u1,u2,rfl,q1,q2⟩:=gF l.r;rw[ab]at q1 q2;have he:=l.e;simp only at e1 e3;subst e1 e3 q1 q2;exact⟨a,dd,n,sl,rfl,he⟩
  unfold rP at q;split at q
  · obtain⟨u,v,rfl,ru,rv⟩:=gF rs;rw[ab]at rv;subst rv;obtain⟨a,ds,us,n,rfl,l,q⟩:=I.aV ru q;exact PySem.W.kia_one (K:=X.G.K) PySem.W.kitx_list I.bQ ⟨_,l.e,rfl⟩ (qJ "list" X.G.K) (λz=>nomatch z) λtk=>I.fin k Le.rfl (by rw[ab]) q _
  · rename_i x T;obtain⟨b,hb,q⟩:=q;obtain⟨u,v,rfl,ru,rv⟩:=gF rs;rw[ab]at rv;subst rv;have bl:∀ {b:Bool},ab X.G z.F (.bl b) (.bool b):=(by intro b;rw[ab]);unfold yf at hb;split at hb <;> cases hb
    · obtain⟨a,us,o,rfl,l⟩:=I.cR ru;exact IsiPair.tuple_tuple l.e l.t.cls (k _ z _ Le.rfl I bl q)
    all_goals rw[ab]at ru
    all_goals first
      | (obtain⟨t,rfl⟩:=ru
         first
          |exact IsiPair.str_tuple (I.fin k Le.rfl bl q _)
          |exact IsiPair.str_bool (I.fin k Le.rfl bl q _)
          |exact IsiPair.str_str (k _ z _ Le.rfl I bl q)
          |exact IsiPair.str_int (I.fin k Le.rfl bl q _)
          |exact IsiPair.int_tuple (I.fin k Le.rfl bl q _)
          |exact IsiPair.int_bool (I.fin k Le.rfl bl q _)
          |exact IsiPair.int_str (I.fin k Le.rfl bl q _)
          |exact IsiPair.int_int (k _ z _ Le.rfl I bl q))
      |(subst ru;exact IsiPair.bool_bool (k _ z _ Le.rfl I bl q))
  · obtain⟨u,v,rfl,ru,rv⟩:=gF rs;obtain⟨a,dd,n,sl,rfl,h1⟩:=tp rv;rw[ab]at ru;obtain⟨t,rfl⟩:=ru;refine PySem.W.kia_tup (its:=[.type "str",.type "int"]) PySem.W.kitx_int I.bQ ZO h1 ?_ (λz=>nomatch z) λtk=>I.fin k Le.rfl (by rw[ab]) q _;unfold PySem.W.kitAny;rw[Fy X.G.K];show PySem.W.kitAny X.G.K (.type "int") [.type "int"]=_;unfold PySem.W.kitAny;rw[qJ "int" X.G.K]
  · obtain⟨u,v,rfl,ru,rv⟩:=gF rs;obtain⟨a,dd,n,sl,rfl,h1⟩:=tp rv;rw[ab]at ru;obtain⟨t,rfl⟩:=ru;refine PySem.W.kia_tup (its:=[.type "str",.type "int"]) PySem.W.kitx_str I.bQ ZO h1 ?_ (λz=>nomatch z) λtk=>I.fin k Le.rfl (by rw[ab]) q _;unfold PySem.W.kitAny;rw[qJ "str" X.G.K]
  · exact q.elim
theorem jS {G:Gx}{F:Fz}:∀{us:List Value}{ys:List Str},StrsAre us ys->af G F (ys.map D.str) us
 |_,_,.nil=>.nil
 |_,_,.cons x t r=>.cons gD (jS r)
end
end N
end
section
set_option maxHeartbeats 1000000
namespace N
open PySem PySem.Spec PyProof.Rows L2
open PySem.W (kdu_collect kdl_dict)
def yh:QN:=n1 λx M q=>cw x M λkvs=>∃ss:List Str,kvs.map (·.1)=ss.map YO/\ss.length<64/\∀ys:List Str,ys.Perm ss->sortedS ys=true->bR (ys.map D.str) M q
theorem yi:∀{al:List Value}{ss:List Str},al.length=ss.length->(∀(i:Nat) (v:Value) (x:Str),al[i]?=some v->ss[i]?=some x->∃t,v=.str x t)->StrsAre al ss
 |[],[],_,_=>.nil
 |[],_::_,h,_=>by cases h
 |_::_,[],h,_=>by cases h
 |v::al,x::ss,h,g=>by
  obtain⟨t,rfl⟩:=g 0 v x rfl rfl;exact .cons x t (yi (by simpa using h) λi v' Wj h1 h2=>g (i+1) v' Wj h1 h2)
theorem HE {X:Cx} (hc:X.calm=true):CB X (.builtin "sorted") yh:=gK fun τ z Q R d v I r q k=>by
 obtain⟨a,kvs,vs,rfl,l,ss,hk,gN,q⟩:=I.cw r q;obtain⟨ep,iS⟩:=l.d.dictAt;have hlen:kvs.length=vs.length:=Paired.length l.r;have rQ:kvs.length=ss.length:=by have:=congrArg ZX hk;rw[Xr,Xr]at this;exact this
 have z0:=l.z;refine Calls.call_function_entry kind_sorted plain_sorted entry_sorted (args_sorted1 _) ?_;unfold Builtin.«sorted»;refine Xp (m:=checkCount "sorted" 1 1 _) (Xs ?_);refine Xp (kdu_collect (A:=X.A.in1) (kdl_dict (knd:=bo X.G.P X.G.w) (kvs:=vs) (ep:=ep) l.n) (I.ok.hd hc) iS (by rw[<- hlen];exact z0) λh' tk al keep items=>?_);have hl:al.toList.length=vs.length:=by rw[XT];exact items.1
 refine Xp (wpAny_newList ?_ (by rw[hl,<- hlen];exact z0));have hS:StrsAre al.toList ss:=yi (by rw[hl,<- hlen,rQ]) λi v x h1 h2=>by
  obtain⟨c,y,hx,HF⟩:=items.2 i v (by rw[<- Y4];exact h1);have e1:(vs.map (·.1))[i]?=some c:=by rw[XJ,hx];rfl
  rw[<- (lC l.r).2,hk,XJ,h2]at e1;have e2:YO x=c:=Yg e1;subst e2;rcases dZ (show e8 (YO x) _=true from HF) with ⟨i,t,e1,_⟩ |⟨y,t,e1,e2⟩
  ·cases e1
  ·cases e1;exact⟨t,e2⟩
 have eH:(h'.push { cls:=.type "list",data:=.seq al.toList.toArray }).get? h'.objs.size=some (seqObj "list" al.toList.toArray 0):=Xw _ rfl;refine Xp (Yq (X5 slot_list_sort ⟨_,eH,rfl⟩ entry_list_sort (list_sort_treeK strKind_oneLt eH hS.keysOf (λv₁ v₂ rest e=>keyKind_strs (by rw[<- e];exact hS)) (by rw[hl,<- hlen,rQ];exact gN) λbd TY TV=>⟨_,rfl,?_⟩) (args_list_sort _)));obtain⟨ys,b1,b2,TX⟩:=sorted_out_str hS TY TV;refine Xs ⟨_,rfl,?_⟩;obtain⟨e,rR⟩:=sortedHeap_at (out:=(arrOf bd).map (·.2)) eH;have rs:=jS (G:=X.G) (F:=z.F) b1;have J:=I.bN (t:=tk) keep;refine J.lst (n:=e) (t:=tk) k Le.rfl rs (λb o hb=>?_) (Xu _) ?_ (by rw[<- rs.len,Xr,b2.length_eq,<- rQ];exact z0) (q ys b2 TX)
 ·have a1:b<h'.objs.size:=XF hb;rw[sortedHeap_old (XH a1) (by rw[X8];exact YK a1)];exact Xq _ hb
 ·rw[rR];rfl
end N
end
section
namespace L2
open PySem PySem.Spec PyProof.Rows
theorem HG (t:SetTable) (n:Nat):(t.orStandIn n).led=t.led:=by
 unfold SetTable.orStandIn;split <;> rfl
theorem HH (t:SetTable) (es:Array (Int×Value)) (h:Int) (x:Value):(layNew t es h x).2.1.led=t.led:=by
 unfold layNew;split
 ·exact HG _ _
 ·rfl
theorem yj {yk HI HJ:Nat}{led plain:Bool}{hs:Array Int}{r:SetTable×Array Nat} (h:SetTable.laid yk HI HJ led plain hs=some r):r.1.led=led/\r.1.plain=plain:=by
 unfold SetTable.laid at h;cases hc:SetTable.layClean yk hs with
 |none=>rw[hc]at h;cases h
 |some W8=>rw[hc]at h;cases h;exact⟨rfl,rfl⟩
theorem HK (t:SetTable) (es:Array (Int×Value)) (n:Nat):(relayAll t es n).2.1.led=t.led:=by
 unfold relayAll;cases hr:t.relaid (es.map (·.1)) n with
 |none=>rfl
 |some r=>
  obtain⟨t',HM⟩:=r;have:=yj hr;dsimp only;split
  ·exact this.1
  ·rfl
theorem HN (t:SetTable) (es:Array (Int×Value)) (n:Nat) (hp:t.plain=false):(relayAll t es n).2.1.plain=false:=by
 unfold relayAll;cases hr:t.relaid (es.map (·.1)) n with
 |none=>rfl
 |some r=>
  obtain⟨t',HM⟩:=r;have:=yj hr;dsimp only;split
  ·exact this.2.trans hp
  ·rfl
noncomputable def eI:Value->Str
 |.str x _=>x
 |_=>Str.empty
noncomputable def eJ (es:List (Int×Value)):List Str:=es.map λe=>eI e.2
def cK (prog:Program) (w:World) (h:Heap) (a:Addr) (zs:List Str):Prop:=
 ∃(es:Array (Int×Value)) (ep:Nat) (t:SetTable),h.get? a=some { cls:=.type "set",dict:=none,data:=.set es ep t,slots:=#[] }/\ElemsOf (strKind prog w) es.toList/\t.fits es.size=true /\
  t.led=(!w.params.followText "set-order")/\(t.plain=false\/es=#[])/\es.size<4000/\(eJ es.toList).Nodup/\∀x,x∈eJ es.toList ↔ x∈zs
theorem cK.at {prog:Program}{w:World}{h h':Heap}{a:Addr}{zs:List Str} (S:cK prog w h a zs) (k:∀o,h.get? a=some o->h'.get? a=some o):cK prog w h' a zs:=by
 obtain⟨es,ep,t,ho,r⟩:=S;exact⟨es,ep,t,k _ ho,r⟩
section
variable {prog:Program}{w:World}{A:Around}{E:Value->Shared->Prop}{s:Shared}{a:Addr}{zs:List Str}
theorem yl {es:List (Int×Value)} (h:ElemsOf (strKind prog w) es) {e:Int×Value} (he:e∈es):∃t,e.2=.str (eI e.2) t/\e.1=(strKind prog w).hash (eI e.2):=by
 obtain⟨⟨k,hk,hh⟩,_⟩:=h e he;obtain⟨t,ht⟩:=Value.isStrOf_shape (x:=k) (v:=e.2) hk;have:eI e.2=k:=by rw[ht];rfl
 exact⟨t,by rw[this];exact ht,by rw[this];exact hh⟩
theorem ym {es:List (Int×Value)} (h:ElemsOf (strKind prog w) es) (x:Str):(∃e∈es,(strKind prog w).is x e.2=true) ↔ x∈eJ es:=by
 constructor
 ·rintro⟨e,he,hx⟩;obtain⟨t,ht⟩:=Value.isStrOf_shape (x:=x) (v:=e.2) hx;exact List.mem_map.mpr ⟨e,he,by rw[ht];rfl⟩
 ·intro hx;obtain⟨e,he,rfl⟩:=List.mem_map.mp hx;obtain⟨t,ht,_⟩:=yl h he;refine⟨e,he,?_⟩;rw[ht];exact strKind_is _ _ _ _
theorem yn {es jT:Array (Int×Value)}{ep:Nat}{t t':SetTable}{Q:Unit->Shared->Prop} (ho:s.heap.get? a=some { cls:=.type "set",dict:=none,data:=.set es ep t,slots:=#[] }) (hz:jT.size<4096)
  (h:∀h',Zb a s.heap h'->h'.get? a=some { cls:=.type "set",dict:=none,data:=.set jT (ep+1) t',slots:=#[] }->Q () { s with heap:=h' }):wpAny (model prog w) A (storeSet a jT t') Q E s:=by
 refine wpAny_storeSet_of (ep:=ep) (t:=t) ho rfl (h _ (XZ s.heap a _) ?_) (fits_of_scanBound hz);have:=Yc (Obj.putSet jT t') ho (by rw[putSet_of (ep:=ep) (t:=t) jT t' rfl];rfl);rw[this,putSet_of (ep:=ep) (t:=t) jT t' rfl]
theorem HO {l l':List Str}{x:Str} (p:List.Perm l' (l++[x])) (nd:l.Nodup) (h:x ∉ l):l'.Nodup:=by
 refine p.nodup_iff.mpr (List.nodup_append.mpr ⟨nd,by simp,λy hy z hz=>?_⟩);rw[List.mem_singleton.mp hz];exact λe=>h (e ▸ hy)
theorem HP {x:Str}{tk:Tok}{Q:Bool->Shared->Prop} (S:cK prog w s.heap a zs) (hl:zs.length<3900)
  (h:∀b h',Zb a s.heap h'->cK prog w h' a (zs++[x])->Q b { s with heap:=h' }):wpAny (model prog w) A (setAddHashed a (.str x tk) ((strKind prog w).hash x)) Q E s:=by
 obtain⟨es,ep,t,ho,ec,hf,jU,cV,hsz,nd,hm⟩:=S;have Tg:es.size<3950:=by
  have:=List.Nodup.length_le_of_subset nd λy hy=>(hm y).mp hy;rw[eJ,Xr,XT]at this;lia
 have nM:(strKind prog w).is x (.str x tk)=true:=strKind_is _ _ _ _;have eK:(Value.str x tk).scannable=true:=rfl;unfold setAddHashed setAddHashedIn;refine Yq (Xp (YR ho rfl hf ?_));dsimp only;rw[byScan_of eK (by show es.size<4096;lia) ec,if_pos rfl];unfold setAddByScan;refine Xp (Xp (ZU (Xp (wpAny_setScan_of nM ho rfl hf ec ?_))));cases hr:List.findIdx? (λe=>(strKind prog w).is x e.2) es.toList with
 |some j=>
  obtain⟨hj,HQ,_⟩:=List.findIdx?_eq_some_iff_getElem.mp hr;have hx:x∈zs:=(hm x).mp ((ym ec x).mp ⟨es.toList[j],List.getElem_mem hj,HQ⟩);refine Xs (Xs ?_);refine h false s.heap (Heap.SameBut.refl a s.heap) ⟨es,ep,t,ho,ec,hf,jU,cV,hsz,nd,λy=>?_⟩;rw[hm y,ZG,List.mem_singleton];exact⟨.inl,λz=>z.elim id λe=>e ▸ hx⟩
 |none=>
  have hx:x ∉ eJ es.toList:=λz=>by
   obtain⟨e,he,q⟩:=(ym ec x).mpr z;have:=List.findIdx?_eq_none_iff.mp hr e he;rw[q]at this;cases this
  have jV:=layNew_perm t es ((strKind prog w).hash x) (.str x tk);have jW:=layNew_fits t es ((strKind prog w).hash x) (.str x tk);have jX:=HH t es ((strKind prog w).hash x) (.str x tk);dsimp only;generalize layNew t es ((strKind prog w).hash x) (.str x tk)=L at jV jW jX ⊢;obtain⟨cL,t1,Th,Ti⟩:=L;dsimp only at jV jW jX ⊢;rw[Array.toList_push]at jV;have yo:ElemsOf (strKind prog w) cL.toList:=(ec.push nM eK).perm jV;have jY:(eJ cL.toList).Perm (eJ es.toList++[x]):=by
   have:=jV.map (λe:Int×Value=>eI e.2);rw[XU]at this;exact this
  have yp:=HO jY nd hx;have jZ:∀y,y∈eJ cL.toList ↔ y∈zs++[x]:=λy=>by
   rw[jY.mem_iff,ZG,ZG,hm y]
  have hs1:cL.size=es.size+1:=by
   have:=jV.length_eq;rw[XI,XT,XT]at this;simpa using this
  have Vz:∀(b:Bool) {s₁:Shared}{Q':Unit->Shared->Prop},Q' () s₁->wpAny (model prog w) A (match b with |true=>rule "set.scan.the-table-gave-way" |false=>pure ()) Q' E s₁:=λb s₁ Q' q=>by
   cases b
   ·exact Xs q
   ·exact ZU q
  refine Xp (Vz _ ?_);cases e:t1.plain
  case' false=>
   rw[if_neg Yl];refine Xp (Xs ?_);simp only[if_true];have hf2:=jW;have hl2:t1.led=t.led:=jX;have lK:t1.plain=false:=e;clear e jW jX;generalize t1=t2 at hf2 hl2 lK ⊢
  case' true=>
   rw[if_pos rfl,hashByValue_scannable 8 eK];refine Xp (Xs ?_);simp only[show plainKind (.str x tk)=false from rfl,ZD,if_false];have hf2:=SetTable.fits_plain_off jW;have hl2:({ t1 with plain:=false }:SetTable).led=t.led:=jX;have lK:({ t1 with plain:=false }:SetTable).plain=false:=rfl;clear e jW jX;generalize ({ t1 with plain:=false }:SetTable)=t2 at hf2 hl2 lK ⊢
  all_goals
   refine Xp (yn ho (by lia) λh1 yq yr=>?_);split
   ·have hp:=relayAll_perm t2 cL (SetTable.grown cL.size);have hfr:=relayAll_fits t2 cL (SetTable.grown cL.size);have hlr:=HK t2 cL (SetTable.grown cL.size);have fv:=HN t2 cL (SetTable.grown cL.size) lK;generalize relayAll t2 cL (SetTable.grown cL.size)=R at hp hfr hlr fv ⊢;obtain⟨rS,t3,g2⟩:=R;dsimp only at hp hfr hlr fv ⊢;have hs2:rS.size=cL.size:=(by rw[<- XT,hp.length_eq,XT]);have nT:(eJ rS.toList).Perm (eJ cL.toList):=hp.map _;refine Xp (Vz _ (Xp (yn (s:={ s with heap:=h1 }) yr (by lia) λh2 HR ho2=>Xs (Xs ?_))));exact h true h2 (yq.trans HR) ⟨rS,_,t3,ho2,yo.perm hp,hfr,by rw[hlr,hl2,jU],.inl fv,by lia,nT.nodup_iff.mpr yp,λy=>(nT.mem_iff).trans (jZ y)⟩
   ·exact Xs (Xs (h true h1 yq ⟨cL,_,t2,yr,yo,hf2,by rw[hl2,jU],.inl lK,by lia,yp,jZ⟩))
end
end L2
namespace L2
open PySem PySem.Spec PyProof.Rows
theorem yt:∀{vs:List Value}{ss:List Str}{i:Nat}{v:Value},StrsAre vs ss->vs[i]?=some v->∃(x:Str) (t:Tok),ss[i]?=some x/\v=.str x t
 |_,_,i,v,.nil,e=>by simp at e
 |_,_,0,v,.cons x t _,e=>by simp at e;exact⟨x,t,rfl,e.symm⟩
 |_,_,i+1,v,.cons x t r,e=>by
  obtain⟨y,u,h1,h2⟩:=yt (i:=i) r (by simpa using e);exact⟨y,u,by simpa using h1,h2⟩
section
variable {prog:Program}{w:World}{A:Around}{E:Value->Shared->Prop}{s:Shared}
noncomputable def eL (w:World):Obj:={ cls:=.type "set",dict:=none,data:=.set #[] 0 (.fresh 0 0 (!w.params.followText "set-order")) }
theorem HS {h:Heap}{a:Addr} (e:h.get? a=some (eL w)):cK prog w h a []:=by
 refine⟨#[],0,_,e,λx hx=>?_,by rfl,rfl,.inr rfl,by decide,List.nodup_nil,λx=>Iff.rfl⟩;simp at hx
theorem HU (a:Value) {Q₁:Value->Shared->Prop} (h:Q₁ (.ref s.heap.objs.size) { s with heap:=s.heap.push (eL w) }) :
  codeAny (model prog w) A (.call (.builtin "set.__new__") ⟨[.type "set",a],[]⟩) (wants Q₁ E) s:=by
 refine codeAny_of_tree ?_;show wpAny _ A.in1 (checkBuiltinCall "set.__new__" ⟨[.type "set",a],[]⟩ >>= λ_=>again (.builtin "set.__new__" ⟨[.type "set",a],[]⟩)) _ _ s;refine Xp (wpAny_of_eq (F.newCall_set_1 a) (Xs ⟨YA F.plain_set_new _,Yu F.entry_set_new ?_⟩));rw[X9 F.plain_set_new _];unfold Builtin.«set.__new__» Builtin.Frozenset.newClass;have hsub:=sub_set_self;obtain⟨hp,g,d,tk,os⟩:=s;dsimp only at h ⊢
 wp_walk
 refine wpAny_askSetting (Xs ?_);dsimp only;simp only[newObj];exact Xp (wpAny_alloc (Xs (Xs h)))
end
end L2
namespace L2
open PySem PySem.Spec PyProof.Rows
theorem oj {ys N:List Str} (h:∀x∈ys,x∈N):∀x,x∈ys ↔ x∈N.filter (λz=>decide (z∈ys)):=λx=>by
 rw[List.mem_filter,decide_eq_true_iff];exact⟨λz=>⟨h x z,z⟩,λz=>z.2⟩
theorem cK.eM {prog:Program}{w:World}{h:Heap}{a:Addr}{zs zs':List Str} (S:cK prog w h a zs) (e:∀x,x∈zs ↔ x∈zs'):cK prog w h a zs':=by
 obtain⟨es,ep,t,ho,r1,r2,r3,r4,r5,VA,r7⟩:=S;exact⟨es,ep,t,ho,r1,r2,r3,r4,r5,VA,λx=>(r7 x).trans (e x)⟩
section
variable {prog:Program}{w:World}{A:Around}{R:Result->Shared->Prop}{I:Addr}{fp wr:List Addr}{G:Array GenState->Array GenState->Prop}{n:Nat}{P:Nat->Value->Prop}{St:Nat->Shared->Prop}
theorem HV (W:WalksS prog w A.in1 I fp wr G n P St) (S:Addr) (hS:S ∉ fp) (zs:List Str) (hn:n=zs.length) (HW:∀ i v,P i v->∃ (x:Str) (t:Tok),zs[i]?=some x/\v=.str x t) {N:List Str} (hN:N.length<3900) (hb:∀ x∈zs,x∈N) :
  ∀(k i:Nat) (s:Shared),n-i=k->i<=n->St i s->cK prog w s.heap S (zs.take i)->(∀s',Moved (S::wr) G s s'->cK prog w s'.heap S zs->R (.ok (.ret .none)) s') ->
   codeAny (model prog w) A (.builtin "set.update.loop" ⟨[.ref S,.ref I],[]⟩) R s:=by
 have hw:S ∉ wr:=λh=>hS (W.sub _ h);have sub:∀b∈wr,b∈S::wr:=λb h=>XB _ h;intro k
 induction k with
 |zero=>
  intro i s hk hi st hs q;obtain rfl:i=n:=by lia
  refine Yu F.entry_set_update_loop ?_;rw[X9 F.plain_set_update_loop _];show wpAny _ A.in1 (pyNext (.ref I) >>= _) _ _ s;refine Xp (W.done s _ _ st λs' m=>?_);refine Xs (q s' (m.mono sub) ?_);rw[List.take_of_length_le (by lia)]at hs;exact hs.at λo e=>m.heap S o hw e
 |succ k ih=>
  intro i s hk hi st hs q;have lt:i<n:=by lia
  refine Yu F.entry_set_update_loop ?_;rw[X9 F.plain_set_update_loop _];show wpAny _ A.in1 (pyNext (.ref I) >>= _) _ _ s;refine Xp (W.item i s _ _ lt st λv s1 hP oe m=>?_);obtain⟨x,t,hx,rfl⟩:=HW i v hP;have hs1:=hs.at (h':=s1.heap) λo e=>m.heap S o hw e;show wpAny _ A.in1 (holding [Value.str x t] (setAdd S (.str x t)) >>= _) _ _ s1;unfold setAdd;refine Xp (Yq (Yq (Xp ((strKind prog w).pyHash (k:=x) (strKind_is _ _ _ _) ?_))));have hsm:=hs1.eM (oj (ys:=zs.take i) (λx hx=>hb x (List.mem_of_mem_take hx)));refine HP (s:={ s1 with toks:=s1.toks+1 }) hsm (XC (List.length_filter_le _ _) hN) λb h' om HX=>?_;have hs2:=HX.eM (zs':=zs.take i++[x]) (λy=>by rw[ZG,ZG,<- oj (ys:=zs.take i) (λx hx=>hb x (List.mem_of_mem_take hx)) y]);have e2:zs.take i++[x]=zs.take (i+1):=by rw[List.take_add_one,hx];rfl
  rw[e2]at hs2;refine Xs ⟨YA F.plain_set_update_loop _,ih (i+1) _ (by lia) lt (W.frame _ s1 _ _ oe (Y' _) λc hc o e=>?_) hs2 λs2 m2 q2=>?_⟩
  ·rw[om.2 c λz:c=S=>hS (z ▸ hc)];exact e
  ·exact q s2 (Moved.trans W.gtrans ((m.mono sub).then_heap (Y' _) λc o hc e=>by rw[om.2 c λz:c=S=>hc (z ▸ XA)];exact e) m2) q2
end
section
variable {prog:Program}{w:World}{A:Around}{E:Value->Shared->Prop}{s:Shared}
theorem HY {l:Addr}{its:Array Value}{zs:List Str}{Q:Value->Shared->Prop} (hh:A.handled=none) (hl:s.heap.IsList l its) (hi:StrsAre its.toList zs) {N:List Str} (hN:N.length<3900) (hb:∀ x∈zs,x∈N)
  (h:∀(h':Heap) (tk:Nat),cK prog w h' s.heap.objs.size zs->(∀b o,s.heap.get? b=some o->h'.get? b=some o)->Q (.ref s.heap.objs.size) { s with heap:=h',toks:=tk }) :
  wpAny (model prog w) A (call (.type "set") [.ref l]) Q E s:=by
 obtain⟨c,tl,Tj⟩:=F.called_set.mro;have made:=F.called_set.made;have sub:=F.called_set.sub;refine wpAny_call (codeAny_of_tree ?_);show wpAny _ _ (callAny (.type "set") _) _ _ _;refine Xs ⟨Code.quiet_builtin _ (by decide +kernel),Yu F.entry_type_call ?_⟩;rw[Around.under_plain (weight_type_call_type "set" [.ref l] []) rfl];have g1:=F.called_set.notType;have g2:=F.called_set.canCreate;have g3:=F.typeCall_set_1 (.ref l)
 repeat (any_goals (first |assumption |wp_step))
 refine Y9 (HU (.ref l) (E:=E) (Q₁:=λu s1=>u=.ref s.heap.objs.size/\s1={ s with heap:=s.heap.push (eL w) }) ⟨rfl,rfl⟩) λr s1 hr=>?_;cases r with
 |error e=>exact hr
 |ok fl=>
  cases fl with
  |ret obj=>
   obtain⟨rfl,rfl⟩:=hr;have hS:(s.heap.push (eL w)).get? s.heap.objs.size=some (eL w):=Xw _ rfl;have hT:Shared.TypeIs { s with heap:=s.heap.push (eL w) } (.ref s.heap.objs.size) "set":=⟨_,hS,rfl⟩;have Tl:∀{k:Nat},Shared.TypeIs { s with heap:=s.heap.push (eL w),toks:=k } (.ref s.heap.objs.size) "set":=⟨_,hS,rfl⟩;have li:=F.called_set.init.lookup;have bi:=F.called_set.init.bind (.ref s.heap.objs.size)
   repeat (any_goals (first |assumption |wp_step))
   refine Y9 (codeAny_call_builtin (R:=wants (λr s2=>r=.none/\∃h' tk,s2={ s with heap:=h',toks:=tk }/\cK prog w h' s.heap.objs.size zs/\(∀b o,s.heap.get? b=some o->h'.get? b=some o)) E) F.called_set.init.plain F.entry_set_init (check_set_init_1 hT ?_)) λr2 s2 rT=>?_
   ·obtain⟨ol,yu,bn,nl,yv⟩:=hl;obtain⟨oc,od,Tn,os⟩:=ol;simp only at bn yv;subst bn;subst yv;have HZ:(s.heap.push (eL w)).get? l=some { cls:=.type "list",dict:=od,data:=.seq its nl,slots:=os }:=Xq _ yu;have e1:=F.sub_list_set;have e2:=F.sub_list_frozenset;have e3:(ZK "list" == ZK "dict")=false:=(by decide);have lL:(s.heap.push (eL w)).IsList l its:=⟨_,HZ,rfl,nl,rfl⟩;unfold Builtin.«set.__init__» noKeywords Builtin.Frozenset.updateFrom;generalize H0:pyIter=PI
    wp_walk
    subst H0;refine Zu lL (Xp (wpAny_runValue ?_));have UX:l<s.heap.objs.size:=XF yu;have H1:A.in1.in1.in1.handled=none:=(by simp [hh]);have VB:l≠(s.heap.push (eL w)).objs.size:=(by rw[X8];exact XH (YK UX));have Wk:s.heap.objs.size ∉ [(s.heap.push (eL w)).objs.size,l]:=by
     rw[X8];simp only[Yh,XR,or_false,not_or];exact⟨XH (YY _),YF UX⟩
    have len:its.size=zs.length:=(by rw[<- XT];exact hi.length);have val:∀(i:Nat) (v:Value),its[i]?=some v->∃(x:Str) (t:Tok),zs[i]?=some x/\v=.str x t:=λi v e=>yt hi (by rw[Y4];exact e);refine HV ((Walks.list H1 _ l VB its).toS) s.heap.objs.size Wk zs len val hN hb (its.size-0) 0 _ (by lia) (XS _) ⟨⟨_,Xw _ rfl,rfl,rfl⟩,(lL.push _)⟩ ?start ?fin
    case start=>
     rw[List.take_zero];exact HS (Xq _ hS)
    case fin=>
     intro s' m e9;obtain⟨h',Vc,d',dL,ra⟩:=s';have Uj:Vc=s.gens:=m.gens;have Ve:d'=s.drawn:=m.drawn;have Um:ra=s.os:=m.os;subst Uj;subst Ve;subst Um;refine Xs ?_;show wpAny _ _ (ret YB) _ _ _;refine Xs ⟨rfl,h',dL,rfl,e9,λb o e=>?_⟩;have lb:=XF e;refine m.heap b o ?_ (Xq _ (Xq _ e));simp only[Yh,XR,or_false,not_or];exact⟨XH lb,by rw[X8];exact XH (YK lb)⟩
   ·cases r2 with
    |error e=>exact rT
    |ok f2=>
     cases f2 with
     |ret r=>
      obtain⟨rfl,h',tk,rfl,e9,k⟩:=rT
      repeat (any_goals (first |assumption |wp_step))
      exact h _ _ e9 k
     |_=>exact rT.elim
  |_=>exact hr.elim
end
end L2
namespace L2
open PySem PySem.Spec PyProof.Rows
theorem gO:Slot "set_iterator" "__next__" "set_iterator.__next__":=.of (owner:="set_iterator") (n:="__next__") (by rw[Y8,Yx];kernel_rfl) (by decide +kernel) (by decide +kernel) (by decide +kernel) (by first |exact .inl (by decide +kernel) |exact .inr (by decide +kernel)) (by rw[ZE];kernel_rfl)
theorem yw:Slot "set_iterator" "__iter__" "set_iterator.__iter__":=.of (owner:="set_iterator") (n:="__iter__") (by rw[Y8,Yx];kernel_rfl) (by decide +kernel) (by decide +kernel) (by decide +kernel) (by first |exact .inl (by decide +kernel) |exact .inr (by decide +kernel)) (by rw[ZE];kernel_rfl)
theorem yx:entryFor table "set_iterator.__next__"=some Builtin.«set_iterator.__next__»:=entryFor_of_tree (by kernel_rfl)
theorem yy:Manifest.owners.lookup (String.ofList ['r','o','t','a','r','e','t','i','_','t','e','s'].reverse)=some Manifest.sig_set_iterator:=by kernel_rfl
theorem yz (a:Value):argsOk "set_iterator.__next__" ⟨[a],[]⟩:=by
 unfold argsOk;rw[signature?_of (id:="set_iterator.__next__") (n:=['_','_','t','x','e','n','_','_']) (o:=['r','o','t','a','r','e','t','i','_','t','e','s']) (by kernel_rfl) yy];kernel_rfl
theorem H3:entryFor table "set.__iter__"=some Builtin.«frozenset.__iter__»:=entryFor_alias (id':="frozenset.__iter__") (by kernel_rfl) rfl (by decide +kernel) (by kernel_rfl)
theorem rU {α:Type}:∀(l:List α) (i:Nat) (h:i<l.length),(l[i]::l.eraseIdx i).Perm l
 |x::l,0,_=>.refl _
 |x::l,i+1,h=>by
  have hi:i<l.length:=by simpa using h
  have:=rU l i hi;show (l[i]::x::l.eraseIdx i).Perm (x::l);exact (List.Perm.swap x l[i] _).trans (List.Perm.cons x this)
section
variable {M:Model}{prog:Program}{w:World}{A:Around}{E:Value->Shared->Prop}{s:Shared}
theorem H4 {iy:Source}{n:Nat}{Q:Nat->Shared->Prop} (h0:n≠0) (h:∀i d,i<n->Q i { s with drawn:=d }):wpAny M A (choose iy n) Q E s:=fun Γ p hΓ=>by
 show Sem.wp M Γ (.choose iy n .pure) _ _ p s;rw[Sem.wp_choose];exact⟨h0,h _ _ (Nat.mod_lt _ (by lia))⟩
theorem yA {α:Type}:∀(n:Nat) (xs:List α) (s:Shared) (Q:List α->Shared->Prop),xs.length=n->(∀ys d,ys.Perm xs->Q ys { s with drawn:=d })->wpAny M A (drawOrder n xs) Q E s
 | 0,xs,s,Q,hl,q=>by
  have:xs=[]:=List.length_eq_zero_iff.mp hl;subst this;exact Xs (q [] s.drawn (.refl _))
 |n+1,[],s,Q,hl,q=>by simp at hl
 |n+1,x::xs,s,Q,hl,q=>by
  unfold drawOrder;refine Xp (H4 (by simp) λi d hi=>?_);rw[Xx hi];dsimp only;refine Xp (yA n _ _ _ (by rw[List.length_eraseIdx,if_pos hi];simp at hl ⊢;lia) λys d' p=>Xs (q _ d' ?_));exact (List.Perm.cons _ p).trans (rU _ _ hi)
theorem yB {α:Type} (next:Nat->Nat):∀(fuel k:Nat) (left:List α) (out:Array α),left.length=fuel->(pickOrder.go next fuel k left out).toList.Perm (out.toList++left)
 | 0,k,left,out,hl=>by
  have:left=[]:=List.length_eq_zero_iff.mp hl;subst this;unfold pickOrder.go;simp
 |fuel+1,k,left,out,hl=>by
  have hi:next k % left.length<left.length:=Nat.mod_lt _ (by lia)
  unfold pickOrder.go;rw[Xx hi];dsimp only;refine (yB next fuel (k+1) _ _ (by rw[List.length_eraseIdx,if_pos hi];lia)).trans ?_
  rw[Array.toList_push,Yb];exact List.Perm.append_left _ (rU _ _ hi)
theorem rV {α:Type} (next:Nat->Nat) (xs:Array α):(pickOrder next xs).toList.Perm xs.toList:=by
 have:=yB next xs.size 0 xs.toList #[] (by simp)
 simpa [pickOrder] using this
noncomputable def ed (first:Value) (i:Nat) (a:Addr) (n ep:Nat):Obj:={ cls:=.type "set_iterator",data:=.fields #[first,.int i 0,.ref a,.int n 0,.int ep 0] }
theorem yC {α:Type} {Q':α->Shared->Prop}{E':Value->Shared->Prop} (hh:A.handled=none) (h:∀ e h',Shared.TypeIs { s with heap:=h' } e "StopIteration"->(∀ b o,s.heap.get? b=some o->h'.get? b=some o)->E' e { s with heap:=h' }) :
  wpAny (model prog w) A.in1 (newExc (.type "StopIteration") [] >>= λe=>(raiseNew e:Sem α)) Q' E' s:=by
 refine Xp ?_;simp only[newExc,newTuple];refine Xp (Yi ?_ (by size_fits));refine Xp (m:=firstArgMember _ _) (wpAny_of_eq (a:=YB) (by first |rfl |(simp only[firstArgMember];rfl)) (Yi ?_ (by size_fits)))
 simp only[raiseNew];refine Xp (wpAny_handled ?_);rw[show A.in1.handled=none from hh];refine Xp (Xs (wpAny_throw (h (.ref _) _ ⟨_,Xw _ rfl,rfl⟩ λb o e=>Xq _ (Xq _ e))))
def fx (h:Heap) (a:Addr) (es:Array (Int×Value)) (ep:Nat) (t:SetTable):Prop:=h.get? a=some { cls:=.type "set",dict:=none,data:=.set es ep t,slots:=#[] }/\t.fits es.size=true
theorem rW {a:Addr}{es:Array (Int×Value)}{ep:Nat}{t:SetTable}{Q:Array (Int×Value)->Shared->Prop} (S:fx s.heap a es ep t) (h:Q es s):wpAny (model prog w) A (setEntries a) Q E s:=by
 unfold setEntries;exact Xp (YR S.1 rfl S.2 (Xs h))
theorem j0 {I:Addr}{vs:Array Value}{k:Nat}{v:Value}{Q:Unit->Shared->Prop} (ho:s.heap.get? I=some { cls:=.type "set_iterator",data:=.fields vs }) (hk:k<vs.size)
  (h:∀h',(∀b o,b≠I->s.heap.get? b=some o->h'.get? b=some o)->h'.get? I=some { cls:=.type "set_iterator",data:=.fields (vs.setIfInBounds k v) }->Q () { s with heap:=h' }):wpAny (model prog w) A (setField (.ref I) k v) Q E s:=by
 refine wpAny_setField ho rfl hk (h _ (λb o hb e=>?_) ?_)
 ·exact (Zz _ _ (YZ hb)).trans e
 ·have:=Yc (Za (·.setIfInBounds k v)) ho (Obj.isFreed_of_fields (Obj.data_mapFields rfl _));rw[this];rfl
theorem oo {I a:Addr}{slot i n ep:Nat}{es:Array (Int×Value)}{t:SetTable}{r:Option (Value×Nat)}{Q:Option Value->Shared->Prop} (hh:A.handled=none) (hI:s.heap.get? I=some (ed (.int slot 0) i a n ep)) (S:fx s.heap a es ep t) (hn:es.size=n)
  (hr:∀(A':Around) (E':Value->Shared->Prop) (Q':Option (Value×Nat)->Shared->Prop),Q' r s->wpAny (model prog w) A' (setNext a slot i ep) Q' E' s)
  (h:match r with
   |some (x,nx)=>∀h',(∀b o,b≠I->s.heap.get? b=some o->h'.get? b=some o)->h'.get? I=some (ed (.int nx 0) (i+1) a n ep)->Q (some x) { s with heap:=h' }
   |none=>∀h',(∀b o,b≠I->s.heap.get? b=some o->h'.get? b=some o)->Q none { s with heap:=h' }):wpAny (model prog w) A (pyNext (.ref I)) Q E s:=by
 have hT:s.TypeIs (.ref I) "set_iterator":=⟨_,hI,rfl⟩;unfold pyNext;refine Xp (Zp (XY (name:=YX "__next__") hT gO (X5 gO hT yx ?_ (yz _))));unfold Builtin.«set_iterator.__next__»;refine Xp (Xs ?_);refine Xp (wpAny_fieldsOf hI rfl ?_);refine Xp (rW S ?_);rw[if_neg (by rw[hn];simp)];refine Xp (hr _ _ _ ?_);have W9:((slot:Int)).toNat=slot:=Zd _;cases r with
 |some p=>
  obtain⟨x,nx⟩:=p;dsimp only at h ⊢;refine Xp (j0 hI (by simp) λh1 k1 i1=>Xp (j0 (s:={ s with heap:=h1 }) i1 (by simp) λh2 k2 i2=>?_));exact Xs ⟨_,rfl,Xs (h h2 (λb o hb e=>k2 b o hb (k1 b o hb e)) (by rw[i2];simp [ed,rawInt]))⟩
 |none=>
  dsimp only at h ⊢;refine Xp (j0 hI (by simp) λh1 k1 i1=>?_);refine yC (s:={ s with heap:=h1 }) hh λe h2 lM k2=>?_;refine Xp (Zo (T:="StopIteration") (b:=true) lM isSubtype_stop ?_);exact Xs (h h2 λb o hb e=>k2 b o (k1 b o hb e))
end
end L2
namespace L2
open PySem PySem.Spec PyProof.Rows PySem.W
section
variable {prog:Program}{w:World}{A:Around}{E:Value->Shared->Prop}{s:Shared}
theorem yD {I a tp:Addr}{i n ep:Nat}{es:Array (Int×Value)}{t:SetTable}{vs:Array Value}{m:Nat}{Q:Option Value->Shared->Prop} (hh:A.handled=none) (hI:s.heap.get? I=some (ed (.ref tp) i a n ep)) (S:fx s.heap a es ep t) (hn:es.size=n)
  (hP:s.heap.get? tp=some { cls:=.type "tuple",data:=.seq vs m })
  (h:(∃(j:Nat) (u:Tok) (e:Int×Value),vs[i]?=some (.int j u)/\es[j]?=some e/\∀h',(∀b o,b≠I->s.heap.get? b=some o->h'.get? b=some o)->h'.get? I=some (ed (.ref tp) (i+1) a n ep)->Q (some e.2) { s with heap:=h' }) \/
   (vs[i]?=none/\∀h',(∀b o,b≠I->s.heap.get? b=some o->h'.get? b=some o)->Q none { s with heap:=h' })):wpAny (model prog w) A (pyNext (.ref I)) Q E s:=by
 have hT:s.TypeIs (.ref I) "set_iterator":=⟨_,hI,rfl⟩;unfold pyNext;refine Xp (Zp (XY (name:=YX "__next__") hT gO (X5 gO hT yx ?_ (yz _))));unfold Builtin.«set_iterator.__next__»;refine Xp (Xs ?_);refine Xp (wpAny_fieldsOf hI rfl ?_);refine Xp (rW S ?_);rw[if_neg (by rw[hn];simp)];dsimp only;refine Xp (Zh hP rfl ?_);dsimp only;rw[Zd];rcases h with ⟨j,u,e,h1,h2,h3⟩ |⟨h1,h2⟩
 ·rw[h1];dsimp only;rw[Zd,Zd];have Wn:∀ {R:Value->Shared->Prop}{E':Value->Shared->Prop}{A':Around},R e.2 s->wpAny (model prog w) A' (setNextDrawn a j ep) R E' s:=λ{R E' A'} q=>by
   unfold setNextDrawn;refine Xp (YR S.1 rfl S.2 ?_);dsimp only;rw[if_neg (by simp),h2];exact Xp (Xs (Xs q))
  refine Xp (Wn (Xp (j0 hI (by simp) λh' k1 i1=>?_)));exact Xs ⟨_,rfl,Xs (h3 h' k1 (by rw[i1];simp [ed,rawInt]))⟩
 ·rw[h1];dsimp only;refine Xp (j0 hI (by simp) λh3 k3 Wq=>Xp (j0 (s:={ s with heap:=h3 }) Wq (by simp) λh4 k4 W'=>?_));refine yC (s:={ s with heap:=h4 }) hh λe h5 lM k5=>?_;refine Xp (Zo (T:="StopIteration") (b:=true) lM isSubtype_stop ?_);exact Xs (h2 h5 λb o hb e=>k5 b o (k4 b o hb (k3 b o hb e)))
theorem iT {Q:Bool->Shared->Prop} (h:Q (w.params.followText "set-order") s):wpAny (model prog w) A setsByText Q E s:=by
 unfold setsByText;exact Xp (wpAny_askSetting (Xs h))
theorem rX {I:Addr}{o:Obj}{Q:Value->Shared->Prop} (hI:s.heap.get? I=some o) (hc:o.cls=.type "set_iterator") (h:Q (.ref I) s):wpAny (model prog w) A (pyIter (.ref I)) Q E s:=by
 have hT:s.TypeIs (.ref I) "set_iterator":=⟨_,hI,hc⟩;have H5:entryFor table "set_iterator.__iter__"=some Builtin.«dict_keyiterator.__iter__»:=entryFor_alias (id':="dict_keyiterator.__iter__") (by kernel_rfl) rfl (by decide +kernel) (by kernel_rfl);have arg:argsOk "set_iterator.__iter__" ⟨[.ref I],[]⟩:=by
  unfold argsOk;rw[signature?_of (id:="set_iterator.__iter__") (n:=['_','_','r','e','t','i','_','_']) (o:=['r','o','t','a','r','e','t','i','_','t','e','s']) (by kernel_rfl) yy];kernel_rfl
 refine wpAny_pyIter_slot hT yw (X5 yw hT H5 ?_ arg);unfold Builtin.«dict_keyiterator.__iter__»;refine Xp (Xs ?_);exact Xs ⟨_,rfl,"set_iterator",_,hT,gO.lookup,h⟩
theorem H6 {I a:Addr} (cP:a≠I) {es:Array (Int×Value)}{ep:Nat}{t:SetTable} (bt:w.params.followText "set-order"=true) (hh:A.handled=none) :
  WalksS prog w A I [I,a] [I] (λx y=>y=x) es.size (λi v=>((pickOrder (w.params.setOrder a ep) es).toList.map (·.2))[i]?=some v) (λi s=>s.heap.get? I=some (ed (.int 0 0) i a es.size ep)/\fx s.heap a es ep t) where
 sub:=λb hb=>by simp at hb;simp [hb]
 grefl:=λ_=>rfl
 gtrans:=λ_ _ _ h1 h2=>h2.trans h1
 frame:=λi s h' tk st _ k=>⟨k I (by simp) _ st.1,k a (by simp) _ st.2.1,st.2.2⟩
 item:=λi s Q E hi st q=>by
  have hs:(pickOrder (w.params.setOrder a ep) es).toList.length=es.size:=by rw[(rV _ es).length_eq,XT]
  have cW:i<(pickOrder (w.params.setOrder a ep) es).toList.length:=by lia
  have hx:(pickOrder (w.params.setOrder a ep) es)[i]?=some ((pickOrder (w.params.setOrder a ep) es).toList[i]):=by rw[<- Y4];exact Xx cW
  refine oo (slot:=0) (r:=some (((pickOrder (w.params.setOrder a ep) es).toList[i]).2,0)) hh st.1 st.2 rfl (λA' E' Q' q'=>?_) λh' k hI=>?_
  ·unfold setNext;refine Xp (YR st.2.1 rfl st.2.2 (Xp (iT ?_)));rw[bt,if_pos rfl,if_neg (by simp)];unfold setWalk;refine Xp (Xp (YR st.2.1 rfl st.2.2 (Xp (iT ?_))));rw[bt,if_pos rfl];refine Xp (wpAny_askSetting (Xs (Xs ?_)));show Q' (((pickOrder (w.params.setOrder a ep) es)[i]?).map λe=>(e.2,0)) s;rw[hx];exact q'
  ·refine q _ _ ?_ ⟨hI,k a _ cP st.2.1,st.2.2⟩ ⟨λb o hb e=>k b o (λz=>hb (by simp [z])) e,rfl,rfl,rfl,Xu _⟩;rw[XJ,Xx cW];rfl
 done:=λs Q E st q=>by
  have hs:(pickOrder (w.params.setOrder a ep) es).toList.length=es.size:=by rw[(rV _ es).length_eq,XT]
  have hx:(pickOrder (w.params.setOrder a ep) es)[es.size]?=none:=by rw[<- Y4];exact List.getElem?_eq_none (by lia)
  refine oo (slot:=0) (r:=none) hh st.1 st.2 rfl (λA' E' Q' q'=>?_) λh' k=>q _ ⟨λb o hb e=>k b o (λz=>hb (by simp [z])) e,rfl,rfl,rfl,Xu _⟩;unfold setNext;refine Xp (YR st.2.1 rfl st.2.2 (Xp (iT ?_)));rw[bt,if_pos rfl,if_neg (by simp)];unfold setWalk;refine Xp (Xp (YR st.2.1 rfl st.2.2 (Xp (iT ?_))));rw[bt,if_pos rfl];refine Xp (wpAny_askSetting (Xs (Xs ?_)));show Q' (((pickOrder (w.params.setOrder a ep) es)[es.size]?).map λe=>(e.2,0)) s;rw[hx];exact q'
 self:=λi s Q E st q=>rX st.1 rfl q
theorem H7 {I a:Addr} (cP:a≠I) {es:Array (Int×Value)}{ep:Nat}{t:SetTable} (bt:w.params.followText "set-order"=false) (led:t.led=true) (h1:es.size<=1) (hh:A.handled=none) :
  WalksS prog w A I [I,a] [I] (λx y=>y=x) es.size (λi v=>(es.toList.map (·.2))[i]?=some v) (λi s=>s.heap.get? I=some (ed (.int (if i=0 then 0 else t.place.getD 0 0+1:Nat) 0) i a es.size ep)/\fx s.heap a es ep t) where
 sub:=λb hb=>by simp at hb;simp [hb]
 grefl:=λ_=>rfl
 gtrans:=λ_ _ _ h1 h2=>h2.trans h1
 frame:=λi s h' tk st _ k=>⟨k I (by simp) _ st.1,k a (by simp) _ st.2.1,st.2.2⟩
 item:=λi s Q E hi st q=>by
  obtain rfl:i=0:=by lia
  have hz:es.size=1:=by lia
  have hp:t.place.size=1:=by
   have:=st.2.2;simp only[SetTable.fits,Xy,beq_iff_eq]at this;lia
  have rY:(!t.plain && decide (es.size > 1))=false:=by rw[hz];simp
  refine oo (slot:=0) (r:=some ((es[0]'(by lia)).2,t.place.getD 0 0+1)) hh (by simpa using st.1) st.2 rfl (λA' E' Q' q'=>?_) λh' k hI=>?_
  ·unfold setNext;refine Xp (YR st.2.1 rfl st.2.2 (Xp (iT ?_)));rw[bt,if_neg Yl];dsimp only;refine Y7 (λz=>absurd (rY.symm.trans (show (!t.plain && decide (es.size > 1))=true from z)) Yl) (λ_=>?_);refine Xp ?_;show wpAny _ _ (if (!t.led && !es.isEmpty)=true then _ else pure PUnit.unit) _ _ s
   rw[led,if_neg (by simp)];refine Xs (Xs ?_);have eb:SetTable.below t.place 0=0:=by
    unfold SetTable.below;rw[hp];simp [SetTable.below.go]
   rw[eb,Ys (show 0<es.size by lia),Ys (show 0<t.place.size by lia)];have Uj:t.place.getD 0 0=t.place[0]'(by lia):=(by rw[Ze,Ys (show 0<t.place.size by lia)];rfl);rw[Uj]at q';exact q'
  ·refine q _ _ ?_ ⟨by rw[if_neg (by lia)];exact hI,k a _ cP st.2.1,st.2.2⟩ ⟨λb o hb e=>k b o (λz=>hb (by simp [z])) e,rfl,rfl,rfl,Xu _⟩;rw[XJ,Y4,Ys (show 0<es.size by lia)];rfl
 done:=λs Q E st q=>by
  have hp:t.place.size=es.size:=by
   have:=st.2.2;simp only[SetTable.fits,Xy,beq_iff_eq]at this;lia
  have rY:(!t.plain && decide (es.size > 1))=false:=by simp;lia
  refine oo (r:=none) hh st.1 st.2 rfl (λA' E' Q' q'=>?_) λh' k=>q _ ⟨λb o hb e=>k b o (λz=>hb (by simp [z])) e,rfl,rfl,rfl,Xu _⟩;unfold setNext;refine Xp (YR st.2.1 rfl st.2.2 (Xp (iT ?_)));rw[bt,if_neg Yl];dsimp only;refine Y7 (λz=>absurd (rY.symm.trans (show (!t.plain && decide (es.size > 1))=true from z)) Yl) (λ_=>?_);refine Xp ?_;show wpAny _ _ (if (!t.led && !es.isEmpty)=true then _ else pure PUnit.unit) _ _ s
  rw[led,if_neg (by simp)];refine Xs (Xs ?_);have eb:SetTable.below t.place (if es.size=0 then 0 else t.place.getD 0 0+1)=es.size:=by
   rcases Nat.lt_or_ge es.size 1 with hz |hz
   ·have z0:es.size=0:=(by lia);unfold SetTable.below;rw[hp,z0];simp [SetTable.below.go]
   ·have z1:es.size=1:=(by lia);have Uj:∀d,t.place.getD 0 d=t.place[0]'(by lia):=λd=>(by rw[Ze,Ys (show 0<t.place.size by lia)];rfl);unfold SetTable.below;rw[hp,z1];simp [SetTable.below.go,Uj]
  rw[eb,Array.getElem?_eq_none (Xu _)];exact q'
 self:=λi s Q E st q=>rX st.1 rfl q
theorem H8 {I a tp:Addr} (cP:a≠I) (H9:tp≠I) {es:Array (Int×Value)}{ep m:Nat}{t:SetTable}{ps:List Nat} (hp:ps.Perm (YD es.size)) (hh:A.handled=none) :
  WalksS prog w A I [I,a,tp] [I] (λx y=>y=x) es.size (λi v=>(ps.map λj=>(es.getD j (0,.none)).2)[i]?=some v)
   (λi s=>s.heap.get? I=some (ed (.ref tp) i a es.size ep)/\fx s.heap a es ep t/\s.heap.get? tp=some { cls:=.type "tuple",data:=.seq (ps.map λi=>rawInt (i:Nat)).toArray m }) where
 sub:=λb hb=>by simp at hb;simp [hb]
 grefl:=λ_=>rfl
 gtrans:=λ_ _ _ h1 h2=>h2.trans h1
 frame:=λi s h' tk st _ k=>⟨k I (by simp) _ st.1,⟨k a (by simp) _ st.2.1.1,st.2.1.2⟩,k tp (by simp) _ st.2.2⟩
 item:=λi s Q E hi st q=>by
  have hl:ps.length=es.size:=by rw[hp.length_eq,Zc]
  have cW:i<ps.length:=by lia
  have hj:ps[i]<es.size:=List.mem_range.mp (hp.mem_iff.mp (List.getElem_mem cW));refine yD hh st.1 st.2.1 rfl st.2.2 (.inl ⟨ps[i],0,es[ps[i]],?_,Ys hj,λh' k hI=>?_⟩)
  ·simp [Xx cW,rawInt]
  ·refine q _ _ ?_ ⟨hI,⟨k a _ cP st.2.1.1,st.2.1.2⟩,k tp _ H9 st.2.2⟩ ⟨λb o hb e=>k b o (λz=>hb (by simp [z])) e,rfl,rfl,rfl,Xu _⟩;rw[XJ,Xx cW];simp [Ze,Ys hj]
 done:=λs Q E st q=>by
  have hl:ps.length=es.size:=by rw[hp.length_eq,Zc]
  refine yD hh st.1 st.2.1 rfl st.2.2 (.inr ⟨?_,λh' k=>q _ ⟨λb o hb e=>k b o (λz=>hb (by simp [z])) e,rfl,rfl,rfl,Xu _⟩⟩);simp [hl]
 self:=λi s Q E st q=>rX st.1 rfl q
end
end L2
namespace L2
open PySem PySem.Spec PyProof.Rows PySem.W
section
variable {prog:Program}{w:World}{A:Around}{E:Value->Shared->Prop}{s:Shared}
theorem H' {a:Addr}{zs:List Str}{Q:Value->Shared->Prop} (S:cK prog w s.heap a zs)
  (h:∀(I:Addr) (h':Heap) (d:Drawn) (fp:List Addr) (St:Nat->Shared->Prop) (os:List Value),(∀b o,s.heap.get? b=some o->h'.get? b=some o)->(∀b∈fp,s.heap.objs.size<=b\/b=a)->s.heap.objs.size<=I ->
   (∃ys:List Str,StrsAre os ys/\ys.Nodup/\∀x,x∈ys ↔ x∈zs)->(∀A':Around,A'.handled=none->WalksS prog w A' I fp [I] (λx y=>y=x) os.length (λi v=>os[i]?=some v) St)->(∀tk,St 0 { s with heap:=h',drawn:=d,toks:=tk })->Q (.ref I) { s with heap:=h',drawn:=d }) :
  wpAny (model prog w) A (pyIter (.ref a)) Q E s:=by
 obtain⟨es,ep,t,ho,ec,hf,jU,cV,hsz,nd,hm⟩:=S;have hT:s.TypeIs (.ref a) "set":=⟨_,ho,rfl⟩;have S0:fx s.heap a es ep t:=⟨ho,hf⟩;have la:a<s.heap.objs.size:=XF ho;have iU:∀os:List Value,os.Perm (es.toList.map (·.2))->∃ys:List Str,StrsAre os ys/\ys.Nodup/\∀x,x∈ys ↔ x∈zs:=λos p=>by
  have all:∀v∈os,∃u,v=.str (eI v) u:=λv hv=>by
   obtain⟨e,he,rfl⟩:=List.mem_map.mp (p.mem_iff.mp hv);obtain⟨u,h1,_⟩:=yl ec he;exact⟨u,h1⟩
  have jQ:∀l:List Value,(∀v∈l,∃u,v=.str (eI v) u)->StrsAre l (l.map eI):=by
   intro l
   induction l with
   |nil=>intro _;exact .nil
   |cons v l ih=>
    intro hv;obtain⟨u,e⟩:=hv v XA;have:=ih λx hx=>hv x (XB _ hx);rw[XD];rw[e];exact .cons _ u this
  have pp:(os.map eI).Perm (eJ es.toList):=by
   have:=p.map eI;rw[Yv]at this;exact this
  exact⟨os.map eI,jQ os all,pp.nodup_iff.mpr nd,λx=>(pp.mem_iff).trans (hm x)⟩
 refine wpAny_pyIter_slot hT F.slot_set_iter (X5 F.slot_set_iter hT H3 ?_ (F.args_set_iter_1 _));unfold Builtin.«frozenset.__iter__» Builtin.Frozenset.slot0;refine Xp (Xs ?_);unfold Builtin.Frozenset.sizeOf;refine Xp (Xp (rW S0 (Xs ?_)));unfold setDrawn;refine Xp (Xp (YR S0.1 rfl S0.2 (Xp (iT (Xs ?_)))));have yE:a≠s.heap.objs.size:=XH la;cases bt:w.params.followText "set-order" with
 |true=>
  refine Y7 (λz=>absurd z (by simp)) (λ_=>?_);refine Xp (Xs ?_);refine Xp (wpAny_setEpoch_of S0.1 rfl S0.2 ?_);unfold newFields;refine Xp (Yi (Xs ⟨_,rfl,"set_iterator",_,⟨_,Xw _ rfl,rfl⟩,gO.lookup,?_⟩) (by size_fits));have pp:=(rV (w.params.setOrder a ep) es).map (·.2);have ol:((pickOrder (w.params.setOrder a ep) es).toList.map (·.2)).length=es.size:=by rw[pp.length_eq];simp
  refine h s.heap.objs.size _ s.drawn [s.heap.objs.size,a] (λi s'=>s'.heap.get? s.heap.objs.size=some (ed (.int 0 0) i a es.size ep)/\fx s'.heap a es ep t) ((pickOrder (w.params.setOrder a ep) es).toList.map (·.2)) (λb o e=>Xq _ e) (λb hb=>?_) (Xu _) (iU _ pp) (λA' hA=>by rw[ol];exact H6 yE (t:=t) bt hA) (λtk=>⟨Xw _ rfl,Xq _ S0.1,S0.2⟩);simp at hb;rcases hb with rfl |rfl
  ·exact .inl (Xu _)
  ·exact .inr rfl
 |false=>
  rw[bt]at jU;rcases Nat.lt_or_ge 1 es.size with h2 |h1
  ·have pl:t.plain=false:=by
    rcases cV with z |z
    ·exact z
    ·rw[z]at h2;simp at h2
   refine Y7 (λ_=>?_) (λz=>absurd (show (!false && (!t.plain && decide (es.size > 1)))=true by rw[pl];simp;lia) z);refine Xp (yA es.size (YD es.size) s _ (by simp) λps d hp=>?_);refine Xp (wpAny_newTuple ?_ (by rw[Xr,hp.length_eq,Zc];exact fits_of_scanBound (by show es.size<4096;lia)));have o1:∀{o:Obj}{b:Addr},s.heap.get? b=some o->(s.heap.push { cls:=.type "tuple",data:=.seq (ps.map λ(i:Nat)=>rawInt i).toArray }).get? b=some o:=λe=>Xq _ e;refine Xp (wpAny_setEpoch_of (o1 S0.1) rfl S0.2 ?_);unfold newFields;refine Xp (Yi (Xs ⟨_,rfl,"set_iterator",_,⟨_,Xw _ rfl,rfl⟩,gO.lookup,?_⟩) (by size_fits));have hl:ps.length=es.size:=(by rw[hp.length_eq,Zc]);have pp:(ps.map λj=>(es.getD j (0,.none)).2).Perm (es.toList.map (·.2)):=by
    refine (hp.map _).trans ?_;have e:(YD es.size).map (λj=>(es.getD j (0,.none)).2)=es.toList.map (·.2):=by
     refine List.ext_getElem? λi=>?_;rw[XJ,XJ];by_cases hi:i<es.size
     ·have TY:(YD es.size)[i]?=some i:=(by simp [hi]);have TV:es.toList[i]?=some es[i]:=(by simp [hi]);rw[TY,TV];simp [Ze,Ys hi]
     ·have TY:(YD es.size)[i]?=none:=(by simp;lia);have TV:es.toList[i]?=none:=(by simp;lia);rw[TY,TV];rfl
    rw[e]
   have eO:(s.heap.push { cls:=.type "tuple",data:=.seq (ps.map λ(i:Nat)=>rawInt i).toArray }).objs.size=s.heap.objs.size+1:=X8 _ _;have n1:a≠(s.heap.push { cls:=.type "tuple",data:=.seq (ps.map λ(i:Nat)=>rawInt i).toArray }).objs.size:=(by rw[eO];exact XH (YK la));have n2:s.heap.objs.size≠(s.heap.push { cls:=.type "tuple",data:=.seq (ps.map λ(i:Nat)=>rawInt i).toArray }).objs.size:=(by rw[eO];exact XH (YY _));refine h (s.heap.push { cls:=.type "tuple",data:=.seq (ps.map λ(i:Nat)=>rawInt i).toArray }).objs.size _ d [(s.heap.push { cls:=.type "tuple",data:=.seq (ps.map λ(i:Nat)=>rawInt i).toArray }).objs.size,a,s.heap.objs.size]
    (λi s'=>s'.heap.get? (s.heap.push { cls:=.type "tuple",data:=.seq (ps.map λ(i:Nat)=>rawInt i).toArray }).objs.size=some (ed (.ref s.heap.objs.size) i a es.size ep)/\fx s'.heap a es ep t/\s'.heap.get? s.heap.objs.size=some { cls:=.type "tuple",data:=.seq (ps.map λi=>rawInt (i:Nat)).toArray 0 })
    (ps.map λj=>(es.getD j (0,.none)).2) (λb o e=>Xq _ (o1 e)) (λb hb=>?_) (by rw[eO];exact Y' _) (iU _ pp) (λA' hA=>by rw[Xr,hl];exact H8 (m:=0) n1 n2 (t:=t) (ep:=ep) hp hA) (λtk=>⟨Xw _ rfl,⟨Xq _ (o1 S0.1),S0.2⟩,Xq _ (Xw _ rfl)⟩)
   simp only[Yh,XR,or_false]at hb;rcases hb with rfl |rfl |rfl
   ·exact .inl (by rw[eO];exact Y' _)
   ·exact .inr rfl
   ·exact .inl (Xu _)
  ·refine Y7 (λz=>absurd (show (!false && (!t.plain && decide (es.size > 1)))=true from z) (by simp;lia)) (λ_=>?_);refine Xp (Xs ?_);refine Xp (wpAny_setEpoch_of S0.1 rfl S0.2 ?_);unfold newFields;refine Xp (Yi (Xs ⟨_,rfl,"set_iterator",_,⟨_,Xw _ rfl,rfl⟩,gO.lookup,?_⟩) (by size_fits));have ol:(es.toList.map (·.2)).length=es.size:=(by simp);refine h s.heap.objs.size _ s.drawn [s.heap.objs.size,a] (λi s'=>s'.heap.get? s.heap.objs.size=some (ed (.int (if i=0 then 0 else t.place.getD 0 0+1:Nat) 0) i a es.size ep)/\fx s'.heap a es ep t) (es.toList.map (·.2)) (λb o e=>Xq _ e) (λb hb=>?_) (Xu _) (iU _ (.refl _)) (λA' hA=>by rw[ol];exact H7 yE (t:=t) bt (by simpa using jU) h1 hA) (λtk=>⟨Xw _ rfl,Xq _ S0.1,S0.2⟩)
   simp at hb;rcases hb with rfl |rfl
   ·exact .inl (Xu _)
   ·exact .inr rfl
theorem Ia {r:Addr}{Q:Bool->Shared->Prop} (hT:s.TypeIs (.ref r) "set") (h:Q false s):wpAny (model prog w) A (Builtin.List.listLengthHint (.ref r)) Q E s:=by
 unfold Builtin.List.listLengthHint;refine Xp (wpAny_specialOf hT PySem.F.slot_set_len.lookup ?_);generalize yF:("set.__len__" : String)=Ib
 wp_delta
 rw[show splitId Ib=some ("set","__len__") from by subst yF;decide +kernel];subst yF;refine Xp (Zo (T:="set") (b:=true) hT (by rw[ZE];kernel_rfl) ?_);refine Y7 (λz=>absurd z (by decide)) (λ_=>Y7 (λ_=>Xp (wpAny_typeOf hT (Xs h))) (λz=>absurd (by decide +kernel) z))
theorem Ic {a : Addr} {zs : List Str} {R : List Value -> Shared -> Prop} (hh : A.handled = none) (S : cK prog w s.heap a zs) (hz : zs.length < 3900)
    (h:∀(h':Heap) (tk:Nat) (d:Drawn) (os:List Value) (ys:List Str),(∀b o,s.heap.get? b=some o->h'.get? b=some o)->StrsAre os ys->ys.Nodup->(∀x,x∈ys ↔ x∈zs)->R os { s with heap:=h',toks:=tk,drawn:=d }) :
    wpAny (model prog w) A (collect (.ref a)) R E s:=by
  have la:a<s.heap.objs.size:=let ⟨_,_,_,ho,_⟩:=S;XF ho
  unfold collect;refine Xp (wpAny_runValue (Yu entry_proto_collect' ?_));rw[X9 PySem.F.plain_proto_collect _];show wpAny _ A.in1 (newList [] >>= λu=>again (.builtin "list.__iadd__" ⟨[u,.ref a],[]⟩)) _ _ s;refine Xp (Yi (Xs ⟨YA PySem.F.plain_list_iadd _,Yu entry_list_iadd' ?_⟩));rw[X9 PySem.F.plain_list_iadd _];have hL:(s.heap.push { cls:=.type "list",data:=.seq ([]:List Value).toArray }).get? s.heap.objs.size=some { cls:=.type "list",data:=.seq #[] }:=Xw _ rfl;have S1:cK prog w (s.heap.push { cls:=.type "list",data:=.seq ([]:List Value).toArray }) a zs:=S.at λo e=>Xq _ e;have hT:Shared.TypeIs { s with heap:=s.heap.push { cls:=.type "list",data:=.seq ([]:List Value).toArray } } (.ref a) "set":=let ⟨_,_,_,ho,_⟩:=S1;⟨_,ho,rfl⟩
  have eO:(s.heap.push { cls:=.type "list",data:=.seq ([]:List Value).toArray }).objs.size=s.heap.objs.size+1:=X8 _ _;have k0:∀b o,s.heap.get? b=some o->(s.heap.push { cls:=.type "list",data:=.seq ([]:List Value).toArray }).get? b=some o:=λb o e=>Xq _ e;show wpAny _ A.in1 (Builtin.List.listExtendWith (.ref s.heap.objs.size) (.ref a) (.ref s.heap.objs.size)) _ _ _;generalize s.heap.push { cls:=.type "list",data:=.seq ([]:List Value).toArray }=g1 at hL S1 hT eO k0 ⊢;have yG:s.heap.objs.size≠a:=YF la;unfold Builtin.List.listExtendWith;refine Xp (wpAny_typeOf (T:="set") hT ?_);have e1:Builtin.List.listSameRef (.ref s.heap.objs.size) (.ref a)=false:=by simp [Builtin.List.listSameRef,yG]
  simp only[e1,show (ZK "set" == ZK "list")=false by decide,show (ZK "set" == ZK "tuple")=false by decide,Bool.or_false,ZD,if_false];refine Xp (H' S1 λI h2 d fp St os k2 Ie hI jQ W st=>?_);obtain⟨ys,sa,nd,eM⟩:=jQ;have rZ:=k2 _ _ hL;have nf:s.heap.objs.size ∉ fp:=λz=>by
    rcases Ie _ z with q |q
    · rw[eO]at q;lia
    · exact yG q
  have VB:s.heap.objs.size≠I:=by rw[eO]at hI;lia
  have lM:Shared.TypeIs { s with heap:=h2,drawn:=d } (.ref a) "set":=let ⟨_,_,_,ho,_⟩:=S1;⟨_,k2 _ _ ho,rfl⟩
  refine Xp (Yq (Ia lM ?_));have lo:os.length=ys.length:=sa.length;have gP:os.length<=sizeLine:=by
    have:=List.Nodup.length_le_of_subset nd λy hy=>(eM y).mp hy;exact Xz (show os.length<=4000 by lia) (by decide)
  have key : ∀ (g : Heap) (c tk : Nat), St 0 { s with heap := g, drawn := d, toks := tk } -> (∀ b o, b ≠ s.heap.objs.size -> h2.get? b = some o -> g.get? b = some o) -> g.get? s.heap.objs.size = some { cls := .type "list", data := .seq #[] c } ->
      codeAny (model prog w) A (.builtin "list.extend.loop" ⟨[.ref s.heap.objs.size,.ref I,.ref s.heap.objs.size],[]⟩) (λr s'=>∃ (h':Heap) (tk:Nat) (al:Array Value) (c':Nat),r=.ok (.ret (.ref s.heap.objs.size))/\s'={ s with heap:=h',toks:=tk,drawn:=d }/\(∀ b o,s.heap.get? b=some o->h'.get? b=some o) /\
        h'.get? s.heap.objs.size=some { cls:=.type "list",dict:=none,data:=.seq al c',slots:=#[] }/\ItemsOf (λi v=>os[i]?=some v) al os.length) { s with heap:=g,drawn:=d,toks:=tk }:=by
    intro g c tk bd Uw hg;refine codeAny_extend_loopS (W A.in1 (by simpa using hh)) gP s.heap.objs.size nf (.ref s.heap.objs.size) os.length 0 _ #[] c rfl (XS _) bd hg (ItemsOf.nil _) λs' al c' m hS' iQ=>?_;obtain⟨hx,gx,dx,Ws,Wu⟩:=s';have Uj:gx=s.gens:=m.gens;have Ve:dx=d:=m.drawn;have Um:Wu=s.os:=m.os;subst Uj;subst Ve;subst Um;refine⟨hx,Ws,al,c',rfl,rfl,λb o e=>?_,hS',iQ⟩;have lb:=XF e;refine m.heap b o ?_ (Uw b o (XH lb) (k2 b o (k0 b o e)));simp only[Yh,XR,or_false,not_or];exact⟨XH lb,XH (Yp lb (by rw[eO]at hI;exact hI))⟩
  have fin : ∀ (r : Result) (s' : Shared), (∃ (h' : Heap) (tk : Nat) (al : Array Value) (c' : Nat), r = .ok (.ret (.ref s.heap.objs.size)) ∧ s' = { s with heap := h', toks := tk, drawn := d } ∧ (∀ b o, s.heap.get? b = some o → h'.get? b = some o) ∧
        h'.get? s.heap.objs.size=some { cls:=.type "list",dict:=none,data:=.seq al c',slots:=#[] }/\ItemsOf (λi v=>os[i]?=some v) al os.length)->∃(h':Heap) (tk c':Nat),r=.ok (.ret (.ref s.heap.objs.size))/\s'={ s with heap:=h',toks:=tk,drawn:=d }/\h'.get? s.heap.objs.size=some { cls:=.type "list",dict:=none,data:=.seq os.toArray c',slots:=#[] }/\R os { s with heap:=h',toks:=tk,drawn:=d }:=by
    rintro r s' ⟨h',tk,al,c',rfl,rfl,k,hS',iQ⟩;have e:al=os.toArray:=by
      refine Array.ext (by rw[Xv];exact iQ.1) λi h1 h2=>?_;have:=iQ.2 i al[i] (Ys h1);rw[Xv]at h2;rw[Xx h2]at this;injection this with this;rw[<- this];simp
    subst e;exact⟨h',tk,c',rfl,rfl,hS',h h' tk d os ys k sa nd eM⟩
  refine Y7 (λ_=>?Ig) (λ_=>Xs ⟨YA PySem.F.plain_extend_loop _,Y9 (key h2 0 s.toks (st _) (λb o _ e=>e) rZ) λr s' y=>?last⟩)
  case last=>
    obtain⟨h',tk,c',rfl,rfl,hS',q⟩:=fin r s' y;show wpAny _ A (load s.heap.objs.size >>= _) _ _ _;exact Xp (wpAny_load hS' (Xs q))
  case Ig=>
    refine Xp (ZU (Xp ?_));show wpAny _ _ (updateSeq s.heap.objs.size (·.push .none) >>= λ_=>updateSeq s.heap.objs.size (·.pop)) _ _ _;refine Xp (wpAny_updateSeq rZ rfl ?_);have u2:=Yc (Yd (·.push YB)) rZ rfl;refine wpAny_updateSeq (hz:=by seq_fits) u2 rfl ?_;have u3:=Yc (Yd (·.pop)) u2 rfl;have yH:∀b o,b≠s.heap.objs.size->h2.get? b=some o->((h2.update s.heap.objs.size (Yd (·.push YB))).update s.heap.objs.size (Yd (·.pop))).get? b=some o:=λb o hb e=>(Zz _ _ (YZ hb)).trans ((Zz _ _ (YZ hb)).trans e);refine Xs ⟨YA PySem.F.plain_extend_loop _,Y9 (key _ _ s.toks ((W A hh).frame 0 _ _ _ (st s.toks) (Xu _) λb hb o e=>yH b o (λz=>nf (z ▸ hb)) e) yH u3) λr s' y=>?_⟩;obtain⟨h',tk,c',rfl,rfl,hS',q⟩:=fin r s' y;show wpAny _ A (load s.heap.objs.size >>= _) _ _ _;exact Xp (wpAny_load hS' (Xs q))
end
end L2
end
section
set_option maxHeartbeats 1000000
namespace N
open PySem PySem.Spec PyProof.Rows L2
def yI (ta:DE):DE:=fun τ M q=>ta τ M λx M1=>aV x M1 λds=>∃zs N:List Str,ds=zs.map D.str/\N.length<64/\(∀x∈zs,x∈N)/\∀ys:List Str,ys.Nodup->(∀x,x∈ys ↔ x∈zs)->sortedS ys=true->bR (ys.map D.str) M1 q
section
variable {X:Cx} {τ:St} {z:Z}
theorem ae.Ih (I:ae X τ z) (d:Drawn):ae X τ ⟨z.F,z.M,{ z.s with drawn:=d }⟩:=⟨I.ok,I.bs,I.os,I.bare,I.b9,I.loc,I.cell,I.free,I.hok,I.len⟩
theorem yJ {G:Gx}{F:Fz}:∀{ys:List Str}{us:List Value},af G F (ys.map D.str) us->StrsAre us ys
 |[],us,r=>by rw[YN,af]at r;subst r;exact .nil
 |y::ys,us,r=>by rw[XD,af]at r;obtain⟨u,us,rfl,h,r⟩:=r;rw[ab]at h;obtain⟨t,rfl⟩:=h;exact .cons _ _ (yJ r)
theorem Ii {a:Addr}{zs:List Str}{Q:QK}{R:Value->Shared->Prop}{F:Fz} (hc:X.calm=true) (I:ae X τ z) (S:cK X.G.P X.G.w z.s.heap a zs) (gN:zs.length<64) (k:KE X τ F Q R) (l:Le F z.F)
  (q:∀ys:List Str,ys.Nodup->(∀x,x∈ys ↔ x∈zs)->sortedS ys=true->bR (ys.map D.str) z.M Q):W X (call (.builtin "sorted") [.ref a]) R z.s:=by
 refine Calls.call_function_entry kind_sorted plain_sorted entry_sorted (args_sorted1 _) ?_;unfold Builtin.«sorted»;refine Xp (m:=checkCount "sorted" 1 1 _) (Xs ?_);refine Xp (Ic (A:=X.A.in1) (I.ok.hd hc) S (by lia) λh' tk d os ss keep hS nd eM=>?_);have hl:os.length=ss.length:=hS.length;have le:ss.length<=zs.length:=List.Nodup.length_le_of_subset nd λy hy=>(eM y).mp hy;have gP:os.length<=sizeLine:=Xz (show os.length<=64 by lia) (by decide);refine Xp (wpAny_newList ?_ gP);have eH:(h'.push { cls:=.type "list",data:=.seq os.toArray }).get? h'.objs.size=some (seqObj "list" os.toArray 0):=Xw _ rfl;refine Xp (Yq (X5 slot_list_sort ⟨_,eH,rfl⟩ entry_list_sort (list_sort_treeK strKind_oneLt eH hS.keysOf (λv₁ v₂ rest e=>keyKind_strs (by rw[<- e];exact hS)) (by lia) λbd TY TV=>⟨_,rfl,?_⟩) (args_list_sort _)));obtain⟨ys,b1,b2,TX⟩:=sorted_out_str hS TY TV;refine Xs ⟨_,rfl,?_⟩;have J:ae X τ ⟨z.F,z.M,{ z.s with heap:=h',toks:=tk,drawn:=d }⟩:=(I.bN (t:=tk) keep).Ih d;obtain⟨e,rR⟩:=sortedHeap_at (out:=(arrOf bd).map (·.2)) eH;have rs:=jS (G:=X.G) (F:=z.F) b1;refine J.lst (n:=e) (t:=tk) k l rs (λb o hb=>?_) (Xu _) ?_ (by rw[<- rs.len,Xr,b2.length_eq,<- hl];exact gP) (q ys (b2.nodup_iff.mpr nd) (λx=>b2.mem_iff.trans (eM x)) TX)
 ·have a1:b<h'.objs.size:=XF hb;rw[sortedHeap_old (XH a1) (by rw[X8];exact YK a1)];exact Xq _ hb
 ·rw[rR];rfl
theorem Ij {e:Expr}{te:DE}{p1 p2 gQ dz:Pos} (hc:X.calm=true) (r6:Gl X "sorted") (jZ:X.G.mg "sorted"=none) (r8:Gl X "set") (iK:X.G.mg "set"=none) (he:PE X e te) (hs:bS e=true) :
  PE X (.Call (.Name "sorted" p1) [.Call (.Name "set" p2) [e] [] dz] [] gQ) (yI te):=fun τ z Q R I h k=>by
 refine Yt (eA I r6 jZ (by decide +kernel:bootBuiltins "sorted"=some (.builtin "sorted")) (by decide) (by decide) ?_);refine PyProof.Rows.callWith_builtin1 ?_ (bF rfl) rfl;rw[bF (e:=.Call (.Name "set" p2) [e] [] dz) rfl];show W X (spliced ((false,eval (.Call (.Name "set" p2) [e] [] dz) X.env)::backTo gQ (starEach [] X.env))) _ z.s;refine YS ?_;refine Yt (eA I r8 iK (by decide +kernel:bootBuiltins "set"=some (.type "set")) (by decide) (by decide) ?_);refine YE ?_ (bF hs) rfl;refine qk he qj (bF hs) dz τ z (λds M=>n1 (λd M Q=>aV d M λes=>∃zs N:List Str,es=zs.map D.str/\N.length<64/\(∀x∈zs,x∈N)/\∀ys:List Str,ys.Nodup->(∀x,x∈ys ↔ x∈zs)->sortedS ys=true->bR (ys.map D.str) M Q) ds M Q) _ I h λds z1 us l1 I1 r1 q1=>?_;unfold n1 at q1;dsimp only at q1;split at q1
 case h_2=>exact q1.elim
 obtain⟨u,rfl,ru⟩:=fV r1;obtain⟨a,ds,its,n,rfl,l,zs,N,rfl,gN,hb,q⟩:=I1.aV ru q1;have jQ:StrsAre its zs:=yJ l.r;refine HY (A:=X.A) (its:=its.toArray) (N:=N) (I1.ok.hd hc) ⟨_,l.e,rfl,n,rfl⟩ (by simpa using jQ) (by lia) hb λh' tk S keep=>?_;refine Zq ?_;exact Ii hc (I1.bN (t:=tk) keep) (S.eM (oj hb)) (XC (List.length_filter_le _ _) gN) k l1 λys h1 h2 h3=>q ys h1 (λx=>(h2 x).trans (oj hb x).symm) h3
end
end N
end
section
namespace L2
open PySem PySem.Spec PyProof.Rows PySem.W
section
variable {prog:Program}{w:World}{A:Around}{E:Value->Shared->Prop}{s:Shared}
theorem Ik {M:Model}{a:Addr}{o:Obj}{Q:Option Obj->Shared->Prop} (ho:s.heap.get? a=some o) (h:Q (some o) s):wpAny M A (Sem.loadIfAlive a Sem.pure) Q E s:=fun Γ p x=>by
 rw[Sem.wp_loadIfAlive,ho];exact h
def r9 (h:Heap) (e it a:Addr) (b:Bool) (i:Nat):Prop:=∃f5,h.get? e=some { cls:=.type "enumerate",data:=.fields #[rawInt (a:Int),.bool b,.ref it,rawInt (i:Int),.none,f5] }
theorem Il {e it l a:Addr}{b:Bool}{i:Nat}{items:Array Value}{x:Value}{oa:Obj}{Q:Option Value->Shared->Prop} (he:r9 s.heap e it a b i) (ha:s.heap.get? a=some oa)
  (hit:s.heap.IsTupleIter it l i) (hl:s.heap.IsTuple l items) (hx:items[i]?=some x) (ne:e≠it) (nl:l≠e) (gR:l≠it) (na:a≠e) (Im:a≠it)
  (q:∀h' tk,r9 h' e it a true (i+1)->h'.IsTupleIter it l (i+1)->h'.get? s.heap.objs.size=some { cls:=.type "tuple",data:=.seq #[.int i tk,x] }->h'.objs.size=s.heap.objs.size+1 ->
   (∀c o,c≠e->c≠it->s.heap.get? c=some o->h'.get? c=some o)->Q (some (.ref s.heap.objs.size)) { s with heap:=h',toks:=tk+1 }):wpAny (model prog w) A (pyNext (.ref e)) Q E s:=by
 obtain⟨f5,he⟩:=he;have hT:s.TypeIs (.ref e) "enumerate":=⟨_,he,rfl⟩;unfold pyNext;refine Xp (Zp (XY (name:=YX "__next__") hT F.slot_enumerate_next
  (X5 F.slot_enumerate_next hT F.entry_enumerate_next ?_ (F.args_enumerate_next_1 _))))
 show wpAny _ _ (field (.ref e) 2 >>= _) _ _ _;refine Xp (Yr he rfl (x:=.ref it) rfl ?_);refine Xp (p0 hit hl hx λh1 Io on=>?_);have sd:h1.get? e=_:=on.extBut _ _ ne he;obtain⟨Vf,oq,se⟩:=id Io;obtain⟨hp,g,d,tk,os⟩:=s;have Ir:h1.get? a=some oa:=on.extBut _ _ Im ha;have z1:h1.objs.size=hp.objs.size:=on.1
 wp_walk using XN sd
 have zz:((h1.update e (Za λx=>x.setIfInBounds 3 (rawInt ((i:Int)+1)))).update e (Za λx=>x.setIfInBounds 4 YB)).objs.size=hp.objs.size:=by rw[Zx,Zx,z1]
 have b1:∀c o,c≠e->h1.get? c=some o->((h1.update e (Za λx=>x.setIfInBounds 3 (rawInt ((i:Int)+1)))).update e (Za λx=>x.setIfInBounds 4 YB)).get? c=some o:=λc o n q=>
  (XZ ..).extBut c o n ((XZ ..).extBut c o n q)
 have e3:((h1.update e (Za λx=>x.setIfInBounds 3 (rawInt ((i:Int)+1)))).update e (Za λx=>x.setIfInBounds 4 YB)).get? e=some { cls:=.type "enumerate",data:=.fields #[rawInt (a:Int),.bool b,.ref it,rawInt ((i:Int)+1),.none,f5] }:=
  Yc (Za λx=>x.setIfInBounds 4 YB) (Yc (Za λx=>x.setIfInBounds 3 (rawInt ((i:Int)+1))) sd rfl) rfl
 generalize ((h1.update e (Za λx=>x.setIfInBounds 3 (rawInt ((i:Int)+1)))).update e (Za λx=>x.setIfInBounds 4 YB))=h2 at *;have tp:=Xw h2 (o:={ cls:=.type "tuple",data:=.seq #[.int (i:Int) tk,x] }) rfl;have kp:∀c o,h2.get? c=some o->(h2.push { cls:=.type "tuple",data:=.seq #[.int (i:Int) tk,x] }).get? c=some o:=λc o q=>Xq _ q;have sz:(h2.push { cls:=.type "tuple",data:=.seq #[.int (i:Int) tk,x] }).objs.size=hp.objs.size+1:=by rw[X8,zz]
 rw[zz]at tp;refine Ik (o:=oa) (kp _ _ (b1 _ _ na Ir)) ?_;have e4:=kp _ _ e3;have k2:∀c o,c≠e->c≠it->hp.get? c=some o->(h2.push { cls:=.type "tuple",data:=.seq #[.int (i:Int) tk,x] }).get? c=some o:=λc o n n' q=>kp _ _ (b1 c o n (on.extBut c o n' q));have yK:=kp _ _ (b1 it _ ne.symm oq);dsimp only;generalize (h2.push { cls:=.type "tuple",data:=.seq #[.int (i:Int) tk,x] })=h3 at *;rw[zz];cases b with
 |true=>
  refine Xp (Yr e4 rfl (x:=.bool true) rfl (Xs (Xs ⟨_,rfl,Xs (q h3 tk ⟨f5,e4⟩ ⟨_,yK,se⟩ tp sz k2)⟩)))
 |false=>
  refine Xp (Yr e4 rfl (x:=.bool false) rfl ?_);have n:e≠hp.objs.size:=XH (XF he);refine Xp (wpAny_setField e4 rfl (by show 1<6;decide) (Xs (Xs ⟨_,rfl,Xs (q _ tk ⟨f5,Yc _ e4 rfl⟩ ⟨Vf,(XZ ..).extBut _ _ ne.symm yK,se⟩ ((XZ ..).extBut _ _ n.symm tp) (by rw[Zx];exact sz) λc o n1 n2 z=>(XZ ..).extBut _ _ n1 (k2 c o n1 n2 z))⟩)))
theorem It {e it l:Addr}{i:Nat}{items:Array Value}{f0 f1 f5:Value}{Q:Option Value->Shared->Prop} (hh:A.handled=none)
  (he:s.heap.get? e=some { cls:=.type "enumerate",data:=.fields #[f0,f1,.ref it,rawInt (i:Int),.none,f5] }) (hit:s.heap.IsTupleIter it l i) (hl:s.heap.IsTuple l items) (hx:items[i]?=none)
  (hQ:∀h',ZJ it s.heap h'->Q none { s with heap:=h' }):wpAny (model prog w) A (pyNext (.ref e)) Q E s:=by
 have hT:s.TypeIs (.ref e) "enumerate":=⟨_,he,rfl⟩;unfold pyNext;refine Xp (Zp (XY (name:=YX "__next__") hT F.slot_enumerate_next
  (X5 F.slot_enumerate_next hT F.entry_enumerate_next ?_ (F.args_enumerate_next_1 _))))
 show wpAny _ _ (field (.ref e) 2 >>= _) _ _ _;refine Xp (Yr he rfl (x:=.ref it) rfl ?_);refine Xp (m6 hh hit hl hx λh' x ii cQ=>?_);obtain⟨o,ho,hc⟩:=cQ;refine Xp (Zo (T:="StopIteration") (b:=true) ⟨o,ho,hc⟩ isSubtype_stop ?_);exact Xs (hQ _ ii)
def sf (h:Heap) (e it:Addr) (i:Nat) (as:List Addr):Prop:=(as=[]/\∃c0,IsEnum h e it (i:Int) c0)\/∃a r b,as=a::r/\r9 h e it a b i
def ot (h:Heap) (items:Array Value) (as:List Addr):Prop:=∀(j:Nat) (b:Addr),as[j]?=some b->∃tk x,items[j]?=some x/\h.get? b=some { cls:=.type "tuple",data:=.seq #[.int (j:Int) tk,x] }
theorem Iu {e it l:Addr}{i:Nat}{items:Array Value}{x:Value}{as:List Addr}{Q:Option Value->Shared->Prop} (hh:A.handled=none) (he:sf s.heap e it i as) (hA:ot s.heap items as)
  (hit:s.heap.IsTupleIter it l i) (hl:s.heap.IsTuple l items) (hx:items[i]?=some x) (ne:e≠it) (nl:l≠e) (gR:l≠it) (na:∀a∈as,a≠e/\a≠it)
  (q:∀h' tk,sf h' e it (i+1) (as++[s.heap.objs.size])->h'.IsTupleIter it l (i+1)->h'.get? s.heap.objs.size=some { cls:=.type "tuple",data:=.seq #[.int i tk,x] }->h'.objs.size=s.heap.objs.size+1 ->
   (∀c o,c≠e->c≠it->s.heap.get? c=some o->h'.get? c=some o)->Q (some (.ref s.heap.objs.size)) { s with heap:=h',toks:=tk+1 }):wpAny (model prog w) A (pyNext (.ref e)) Q E s:=by
 rcases he with ⟨rfl,c0,he⟩ |⟨a,r,b,rfl,he⟩
 ·refine wpAny_pyNext_enum_itemD (Draws.tuple (A:=A.in1) hh it l gR items) he ⟨hit,hl⟩ (Array.getElem?_eq_some_iff.mp hx).1 ne (by simp only[Yh,XR,or_false,not_or];exact⟨ne,nl.symm⟩) λu h' tk hP Z' J T n k=>?_;have hP:items[i]?=some u:=hP;rw[hx]at hP;cases hP;exact q h' tk (.inr ⟨_,[],false,rfl,x,by have Z2:=Z';unfold IsEnumOut at Z2;rw[Int.natCast_add];exact Z2⟩) J.1 T n k
 ·obtain⟨tk,y,_,ha⟩:=hA 0 a rfl;obtain⟨n1,n2⟩:=na a (by simp);exact Il he ha hit hl hx ne nl gR n1 n2 λh' tk z1 z2 z3 z4 z5=>q h' tk (.inr ⟨a,r++[_],true,rfl,z1⟩) z2 z3 z4 z5
theorem Iw {R:Result->Shared->Prop} (hh:A.handled=none) {e it l S:Addr}{items:Array Value} (hz:items.size<sizeLine) (ne:e≠it) (nl:l≠e) (gR:l≠it) (ns:S≠e) (sg:S≠it) (Ix:l≠S) (res:Value) (n0:Nat) (le:e<n0) (li:it<n0) (UX:S<n0) :
  ∀(k i:Nat) (s:Shared) (as:List Addr) (c:Nat),items.size-i=k->i<=items.size->sf s.heap e it i as->s.heap.IsTupleIter it l i->s.heap.IsTuple l items->s.heap.get? S=some { cls:=.type "list",data:=.seq (as.map Ye).toArray c }->ot s.heap items as->as.length=i ->
   n0<=s.heap.objs.size->(∀a∈as,n0<=a)->as.Pairwise (· < ·) ->
   (∀h' tk iV c',(∀b o,b≠e->b≠it->b≠S->s.heap.get? b=some o->h'.get? b=some o)->h'.get? S=some { cls:=.type "list",data:=.seq (iV.map Ye).toArray c' }->ot h' items iV->iV.length=items.size->(∀a∈iV,n0<=a)->iV.Pairwise (· < ·) ->
    R (.ok (.ret res)) { s with heap:=h',toks:=tk })->codeAny (model prog w) A (.builtin "list.extend.loop" ⟨[.ref S,.ref e,res],[]⟩) R s:=by
 intro k
 induction k with
 |zero=>
  intro i s as c hk hi he hit hl hS hA la hn h0 pw q;have cW:i=items.size:=by lia
  subst cW;refine Yu F.entry_extend_loop ?_;rw[X9 F.plain_extend_loop];unfold Builtin.«list.extend.loop»;have fin:∀h',ZJ it s.heap h'->R (.ok (.ret res)) { s with heap:=h' }:=λh' eb=>q h' s.toks as c (λb o _ n2 _ z=>eb b o n2 z) (eb _ _ sg hS) (λj b z=>by
   obtain⟨tk,x,z1,z2⟩:=hA j b z;exact⟨tk,x,z1,eb _ _ (YF (XM li (h0 b (Yn z)))) z2⟩) la h0 pw
  have nx:items[items.size]?=none:=by simp
  rcases he with ⟨_,c0,he⟩ |⟨a,r,b,_,f5,he⟩
  ·exact Xp (Dt hh he hit hl nx λh' eb=>Xs (fin h' eb))
  ·exact Xp (It hh he hit hl nx λh' eb=>Xs (fin h' eb))
 |succ k ih=>
  intro i s as c hk hi he hit hl hS hA la hn h0 pw q;have a1:i<items.size:=by lia
  obtain⟨x,hx⟩:∃x,items[i]?=some x:=⟨items[i],by simp [a1]⟩;refine Yu F.entry_extend_loop ?_;rw[X9 F.plain_extend_loop];unfold Builtin.«list.extend.loop»;refine Xp (Iu hh he hA hit hl hx ne nl gR (λa ha=>⟨YF (XM le (h0 a ha)),YF (XM li (h0 a ha))⟩) λh' tk ii pi T' n' kp=>?_);have hS':=kp S _ ns sg hS;refine (show wpAny _ _ (updateSeq S (λy=>y.push (.ref s.heap.objs.size)) >>= _) _ _ _ from Xp (wpAny_updateSeq hS' rfl ?_ (by rw[Xv,Xr,la];lia) (by rw[Array.size_push,Xv,Xr,la];lia)));have Iy:S<s.heap.objs.size:=XF hS;have sb:=XZ h' S (Yd λy=>y.push (.ref s.heap.objs.size));have Iz:=Yc (Yd λy=>y.push (.ref s.heap.objs.size)) hS' rfl;obtain⟨c',IA⟩:∃c',(h'.update S (Yd λy=>y.push (.ref s.heap.objs.size))).get? S=some { cls:=.type "list",data:=.seq ((as++[s.heap.objs.size]).map Ye).toArray c' }:=by
   have Vg:((as++[s.heap.objs.size]).map Ye).toArray=((as.map Ye).toArray).push (.ref s.heap.objs.size):=(by simp);rw[Vg];exact⟨_,Iz⟩
  have rM:∀a∈as,a<s.heap.objs.size:=λa ha=>by
   obtain⟨j,hj⟩:=List.getElem?_of_mem ha;obtain⟨_,_,_,z⟩:=hA j a hj;exact XF z
  refine Xs ⟨YA F.plain_extend_loop _,ih (i+1) _ (as++[s.heap.objs.size]) c' (by lia) a1 ?_ ?_ ?_ IA ?_ (by simp [la]) ?_ ?_ ?_ ?_⟩
  ·rcases ii with ⟨z,_⟩ |⟨a,r,b,z,f5,z'⟩
   ·simp at z
   ·exact .inr ⟨a,r,b,z,f5,sb.extBut _ _ ns.symm z'⟩
  ·exact pi.at λo z=>sb.extBut _ _ sg.symm z
  ·exact hl.at λo z=>sb.extBut _ _ Ix (kp _ _ nl gR z)
  ·intro j b hj;by_cases hb:j<as.length
   ·rw[Yo hb]at hj;obtain⟨tk,y,z1,z2⟩:=hA j b hj;have:=h0 b (Yn hj);exact⟨tk,y,z1,sb.extBut _ _ (YF (XM UX this)) (kp _ _ (YF (XM le this)) (YF (XM li this)) z2)⟩
   ·rw[Ym (by lia)]at hj;have IB:j-as.length=0:=by
     rcases Nat.eq_zero_or_pos (j-as.length) with z |z
     ·exact z
     ·rw[List.getElem?_eq_none (by simp;lia)]at hj;cases hj
    rw[IB]at hj;cases hj;have:j=i:=(by lia);subst this;exact⟨tk,x,hx,sb.extBut _ _ (YF Iy) T'⟩
  ·show n0<=(h'.update S _).objs.size;rw[Zx,n'];lia
  ·intro a ha;rcases List.mem_append.mp ha with z |z
   ·exact h0 a z
   ·rw[List.mem_singleton.mp z];exact hn
  ·rw[List.pairwise_append];exact⟨pw,List.pairwise_singleton _ _,λa ha b hb=>by rw[List.mem_singleton.mp hb];exact rM a ha⟩
  ·intro fW IC ID IE kk z2 z3 z4 z5 z6;exact q fW IC ID IE (λb o n1 n2 n3 z=>kk b o n1 n2 n3 (sb.extBut _ _ n3 (kp b o n1 n2 z))) z2 z3 z4 z5 z6
theorem IF:typeLookup (.type "enumerate") "__len__"=pure none:=by rw[Y8,Yx];kernel_rfl
theorem IG:typeLookup (.type "enumerate") "__length_hint__"=pure none:=by rw[Y8,Yx];kernel_rfl
theorem IH {Q:Value->Shared->Prop} (hh:A.handled=none) {e it l:Addr}{items:Array Value}{c0:Value} (hz:items.size<sizeLine) (he:IsEnum s.heap e it 0 c0) (hit:s.heap.IsTupleIter it l 0) (hl:s.heap.IsTuple l items) (ne:e≠it) (nl:l≠e) (gR:l≠it)
  (q:∀h' tk as c,(∀b o,b≠e->b≠it->s.heap.get? b=some o->h'.get? b=some o)->h'.get? s.heap.objs.size=some { cls:=.type "list",data:=.seq (as.map Ye).toArray c }->ot h' items as->as.length=items.size->(∀a∈as,s.heap.objs.size<a)->as.Pairwise (· < ·) ->
   Q (.ref s.heap.objs.size) { s with heap:=h',toks:=tk }):wpAny (model prog w) A (call (.type "list") [.ref e]) Q E s:=by
 have le:=XF he;obtain⟨Vf,oq,se⟩:=id hit;obtain⟨ol,lL,hl2⟩:=id hl;have li:=XF oq;have ll:=XF lL;refine callType_codes F.called_list (F.typeCall_list_1 _) F.entry_list_init (code_list_new (Q₁:=λv s1=>v=.ref s.heap.objs.size/\s1={ s with heap:=s.heap.push { cls:=.type "list",data:=.seq #[] } }) _ ⟨rfl,rfl⟩) ?_;rintro obj s1 ⟨rfl,rfl⟩;have h0:=Xw s.heap (o:={ cls:=.type "list",data:=.seq #[] }) rfl;refine⟨⟨_,h0,rfl⟩,F.args_list_init_2 _ _,?_⟩;have kp:∀c o,s.heap.get? c=some o->(s.heap.push { cls:=.type "list",data:=.seq #[] }).get? c=some o:=λc o z=>Xq _ z;have sd:=kp _ _ he;have To:=kp _ _ oq;have Tp:=kp _ _ lL;have f1:=IF;have f2:=IG;have sz:(s.heap.push { cls:=.type "list",data:=.seq #[] }).objs.size=s.heap.objs.size+1:=X8 ..;obtain⟨hp,g,d,tk,os⟩:=s;dsimp only at *
 wp_walk using XN h0
 obtain⟨c1,yL⟩:∃c,((hp.push { cls:=.type "list",data:=.seq #[] }).update hp.objs.size (Yd λx=>#[])).get? hp.objs.size=some { cls:=.type "list",data:=.seq #[] c }:=⟨_,Yc _ h0 rfl⟩;have k1:∀c o,hp.get? c=some o->((hp.push { cls:=.type "list",data:=.seq #[] }).update hp.objs.size (Yd λx=>#[])).get? c=some o:=λc o z=>(XZ ..).extBut _ _ (XH (XF z)) (kp _ _ z);have eO:((hp.push { cls:=.type "list",data:=.seq #[] }).update hp.objs.size (Yd λx=>#[])).objs.size=hp.objs.size+1:=by rw[Zx,sz]
 generalize ((hp.push { cls:=.type "list",data:=.seq #[] }).update hp.objs.size (Yd λx=>#[]))=h1 at *;have sh:=k1 _ _ he;have hT:Shared.TypeIs (⟨h1,g,d,tk,os⟩:Shared) (.ref e) "enumerate":=⟨_,sh,rfl⟩;have ns:(Builtin.List.listSameRef (Ye hp.objs.size) (Ye e))=false:=by
  show (hp.objs.size == e)=false;simpa using YF le
 refine XN sh (Xs ?_);rw[ns];refine Xp (wpAny_pyIter_enum sh (Xp (Yq ?_)));unfold Builtin.List.listLengthHint;refine Xp (wpAny_specialOf hT f1 ?_);refine (show wpAny _ _ (specialOf (.ref e) "__length_hint__" >>= _) _ _ _ from Xp (wpAny_specialOf hT f2 (Xs ?_)));refine (show wpAny _ _ (rule "list.extend.makes-room" >>= _) _ _ _ from Xp (ZU ?_));refine (show wpAny _ _ (Builtin.List.listTouch (.ref hp.objs.size) >>= _) _ _ _ from ?_);unfold Builtin.List.listTouch;obtain⟨c2,yM⟩:∃c,(h1.update hp.objs.size (Yd λx=>x.push .none)).get? hp.objs.size=some { cls:=.type "list",data:=.seq #[.none] c }:=⟨_,Yc _ yL rfl⟩;obtain⟨c3,II⟩:∃c,((h1.update hp.objs.size (Yd λx=>x.push .none)).update hp.objs.size (Yd λx=>x.pop)).get? hp.objs.size=some { cls:=.type "list",data:=.seq #[] c }:=⟨_,Yc _ yM rfl⟩;have k3:∀c o,hp.get? c=some o->((h1.update hp.objs.size (Yd λx=>x.push .none)).update hp.objs.size (Yd λx=>x.pop)).get? c=some o:=λc o z=>(XZ ..).extBut _ _ (XH (XF z)) ((XZ ..).extBut _ _ (XH (XF z)) (k1 _ _ z));have IJ:((h1.update hp.objs.size (Yd λx=>x.push .none)).update hp.objs.size (Yd λx=>x.pop)).objs.size=hp.objs.size+1:=by rw[Zx,Zx,eO]
 refine Xp (Xp (show wpAny _ _ (updateSeq hp.objs.size λx=>x.push .none) _ _ _ from wpAny_updateSeq yL rfl ?_ (XS _) (by show 1<=sizeLine+1;lia)));refine (show wpAny _ _ (updateSeq hp.objs.size λx=>x.pop) _ _ _ from wpAny_updateSeq yM rfl ?_ (by show 1<=sizeLine;decide) (XS _));dsimp only;generalize ((h1.update hp.objs.size (Yd λx=>x.push .none)).update hp.objs.size (Yd λx=>x.pop))=h3 at *;refine Xs ⟨YA F.plain_extend_loop _,Iw (A:=A.in1) hh hz ne nl gR (YF le) (YF li) (XH ll) _ (hp.objs.size+1) (YK le) (YK li) (YY _) _ 0 _ [] c3 rfl (XS _) (.inl ⟨rfl,c0,k3 _ _ he⟩) (hit.at λo z=>k3 _ _ z) (hl.at λo z=>k3 _ _ z) II (λj b z=>by cases z) rfl (ZL IJ.symm) (λ_ z=>nomatch z) .nil
  λh' dL iV c' kk z2 z3 z4 z5 z6=>⟨rfl,q h' dL iV c' (λb o n1 n2 z=>kk b o n1 n2 (XH (XF z)) (k3 _ _ z)) z2 z3 z4 z5 z6⟩⟩
end
end L2
end
section
set_option maxHeartbeats 1000000
namespace N
open PySem PySem.Spec PyProof.Rows L2
open Classical in
noncomputable def cE (F:Fz) (as:List Addr) (h:Heap):Fz:=λb=>if b∈as then (h.get? b).map Fo.dat else F b
section
variable {X:Cx} {τ:St} {z:Z}
theorem ou {F:Fz}{as:List Addr}{h:Heap}{b:Addr}{o:Obj} (hb:b∈as) (e:h.get? b=some o):cE F as h b=some (.dat o):=by unfold cE;rw[if_pos hb,e];rfl
theorem j3 {F:Fz}{as:List Addr}{h:Heap}{b:Addr} (hb:b ∉ as):cE F as h b=F b:=if_neg hb
theorem ae.many {as:List Addr}{h':Heap}{t:Nat} (I:ae X τ z) (kp:∀ b,bg z.s.heap h' b) (new:∀ b∈as,z.s.heap.objs.size<=b):Le z.F (cE z.F as h')/\ae X τ ⟨cE z.F as h',z.M,{ z.s with heap:=h',toks:=t }⟩:=by
  have l:Le z.F (cE z.F as h'):=λb f e=>by
    rw[j3 λhb=>by rw[I.hok.cz (new b hb)]at e;cases e];exact e
  have ok:aE X.G (cE z.F as h') z.M h':=by
   refine⟨λb f e=>?_,λb o e=>?_,I.hok.tb.go (λT p q e=>?_) l.d λT _ _ _=>kp T⟩
   · by_cases hb:b∈as
     · cases q:h'.get? b with
       |none=>unfold cE at e;rw[if_pos hb,q]at e;cases e
       |some o=>rw[ou hb q]at e;cases e;exact q
     · rw[j3 hb]at e;exact (I.hok.fz b f e).go (kp b)
   case refine_3=>
     by_cases hb:T∈as
     · cases r:h'.get? T with
       |none=>unfold cE at e;rw[if_pos hb,r]at e;cases e
       |some o=>rw[ou hb r]at e;cases e
     · rw[j3 hb]at e;exact e
   · have hb:b ∉ as:=λm=>by have:=I.hok.c6 (new b m);rw[e]at this;cases this
     exact⟨(j3 hb).trans (I.hok.ob b o e).1,(I.hok.ob b o e).2.go l.d (λc _=>kp c) λ_ q=>q⟩
  exact⟨l,I.go l ok (λb hb=>⟨(kp b).s,I.c7 hb,j3 λm=>YQ _ (XM (I.fQ hb) (new b m))⟩) rfl I.bare⟩
def yN (ta:DE):DE:=fun τ M q=>ta τ M λx M1=>match x with
 |.tup ds=>ds.length<sizeLine/\bR (gG ds) M1 q
 |_=>False
theorem yO {G:Gx}{F:Fz}:∀ {ds:List D}{us:List Value}{as:List Addr}{k:Nat},af G F ds us->as.length=us.length->(∀ (j:Nat) (b:Addr),as[j]?=some b->∃ tk x,us[j]?=some x/\F b=some (.dat { cls:=.type "tuple",data:=.seq #[.int ((k+j:Nat):Int) tk,x] })) ->
  af G F (ds.mapIdx λi d=>.tup [.int ((k+i:Nat):Int),d]) (as.map Ye)
 |[],us,as,k,r,l,h=>by
  rw[af]at r;subst r;rw[List.length_eq_zero_iff.mp l];exact .nil
 |d::ds,us,as,k,r,l,h=>by
  rw[af]at r;obtain⟨u,us,rfl,r1,r2⟩:=r;cases as with
  |nil=>cases l
  |cons a as=>
   obtain⟨tk,x,e1,e2⟩:=h 0 a rfl;cases e1;rw[List.mapIdx_cons,XD];refine .cons ?_ ?_
   ·rw[ab];exact⟨a,_,[.int ((k+0:Nat):Int) tk,u],rfl,e2,⟨rfl,rfl,⟨_,rfl⟩,by show 2<=sizeLine;decide⟩,.cons b5 (.cons r1 .nil)⟩
   ·have:=yO (k:=k+1) (as:=as) r2 (ZS l) λj b hb=>by
     obtain⟨tk,x,e1,e2⟩:=h (j+1) b hb;exact⟨tk,x,e1,by rw[show k+1+j=k+(j+1) by lia];exact e2⟩
    have e:(λ(i:Nat) (d:D)=>D.tup [.int ((k+(i+1):Nat):Int),d])=λi d=>.tup [.int ((k+1+i:Nat):Int),d]:=(by funext i d;rw[show k+(i+1)=k+1+i by lia]);rw[e];exact this
theorem IK {e:Expr}{te:DE}{p1 p2 gQ dz:Pos} (hc:X.calm=true) (r6:Gl X "list") (jZ:X.G.mg "list"=none) (r8:Gl X "enumerate") (iK:X.G.mg "enumerate"=none) (he:PE X e te) (hs:bS e=true) :
  PE X (.Call (.Name "list" p1) [.Call (.Name "enumerate" p2) [e] [] dz] [] gQ) (yN te):=fun τ z Q R I h k=>by
 refine Yt (eA I r6 jZ (by decide +kernel:bootBuiltins "list"=some (.type "list")) (by decide) (by decide) ?_);refine YE ?_ (bF rfl) rfl;rw[bF (e:=.Call (.Name "enumerate" p2) [e] [] dz) rfl];show W X (spliced ((false,eval (.Call (.Name "enumerate" p2) [e] [] dz) X.env)::backTo gQ (starEach [] X.env))) _ z.s;refine YS ?_;refine Yt (eA I r8 iK boot_enumerate (by decide) (by decide) ?_);refine YE ?_ (bF hs) rfl;refine qk he qj (bF hs) dz τ z (λds M=>n1 (λd M Q=>match d with
  |.tup ds=>ds.length<sizeLine/\bR (gG ds) M Q
  |_=>False) ds M Q) _ I h λds z1 us l1 I1 r1 q1=>?_
 unfold n1 at q1;dsimp only at q1;split at q1
 case h_2=>exact q1.elim
 obtain⟨u,rfl,ru⟩:=fV r1;split at q1
 case h_2=>exact q1.elim
 rename_i ds;obtain⟨hz,q⟩:=q1;obtain⟨a,us,o,rfl,l⟩:=I1.cR ru;have hl:=l.r.len;refine Dr l.p λh' Z J n2 keep=>?_;refine Zq ?_;have hL:h'.IsTuple a us.toArray:=(show z1.s.heap.IsTuple a us.toArray from l.p).at λo e=>keep _ _ e;obtain⟨ol,e1,_⟩:=id l.p;have la:=XF e1;refine IH (s:={ z1.s with heap:=h' }) (I1.ok.hd hc) (by rw[Xv,<- hl];exact hz) Z J hL (YF (YY _)) (XH (YK la)) (XH la) λh2 tk as c kp hS hA ln hn pw=>?_;have kk:∀b,bg z1.s.heap h2 b:=λb o e=>kp b o (XH (YK (XF e))) (XH (XF e)) (keep b o e);have sz:z1.s.heap.objs.size<=h'.objs.size:=by rw[n2];lia
 obtain⟨l2,I2⟩:=I1.many (as:=as) (t:=tk) kk λb hb=>Xz sz (Nat.le_of_lt (hn b hb));have rs:af X.G (cE z1.F as h2) (gG ds) (as.map Ye):=by
  have:=yO (k:=0) (as:=as) (l.r.up l2.d) (by rw[ln,Xv]) λj b hb=>by
   obtain⟨tk,x,e1,e2⟩:=hA j b hb;exact⟨tk,x,by simpa using e1,ou (Yn hb) (by rw[Nat.zero_add];exact e2)⟩
  simpa [gG] using this
 have fp:Fp X ⟨cE z1.F as h2,z1.M,{ z1.s with heap:=h2,toks:=tk }⟩ h'.objs.size:=⟨(j3 (F:=z1.F) (h:=h2) λm=>YQ _ (hn _ m)).trans (I1.hok.cz sz),I1.hok.c6 sz,λo=>YQ _ (XM (I1.fQ o) sz)⟩;exact I2.rD (n:=c) fp k (l1.tr l2) rs hS (by rw[Xr,ln,Xv,<- hl];exact Nat.le_of_lt hz) q
end
end N
end
section
set_option maxHeartbeats 1000000
namespace N
open PySem PySem.Spec PyProof.Rows L2
noncomputable def j4 (kvs more:List (Key×D)):List (Key×D):=more.foldl (λal kv=>aY al kv.1 kv.2) kvs
theorem KV.add {G:Gx}{F:Fz}{more:List (Key×D)}{ws:List (Key×Value)} (r:KV G F more ws):∀{kvs:List (Key×D)}{vs:List (Key×Value)},KV G F kvs vs->KV G F (j4 kvs more) (merged vs ws):=by
 unfold KV at r
 induction r with
 |nil=>intro kvs vs q;exact q
 |@cons p q ps qs h t ih=>
  intro kvs vs k;have:=ih (KV.put k p.1 h.2);rw[h.1]at this;show KV G F (j4 (aY kvs p.1 p.2) ps) (merged (stored vs q.1 q.2) qs);rw[h.1];exact this
theorem IL (more:List (Key×D)):∀kvs:List (Key×D),(j4 kvs more).length<=kvs.length+more.length:=by
 induction more with
 |nil=>intro kvs;exact Xu _
 |cons p r ih=>
  intro kvs;have h1:=ih (aY kvs p.1 p.2);have h2:=x6 kvs p.1 p.2;show (j4 (aY kvs p.1 p.2) r).length<=_;rw[XG];lia
def si:QM:=λo ds M q=>match o,ds with
 |.ref p,[.ak ks es]=>∃kvs,M p=some (.ak kvs)/\kvs.length+ks.length<=sizeLine/\q .ai (up M p (.ak (j4 kvs (ks.zip es))))
 |_,_=>False
section
variable {X:Cx} {τ:St} {z:Z}
theorem IM:OM X "dict.update" si:=fun τ z Q R d v ds us I rv rs h k=>by
 unfold si at h;split at h
 ·rename_i p ks es;obtain⟨kvs,hp,hz,q⟩:=h;rw[ab]at rv;subst rv;obtain⟨u,rfl,ru⟩:=fV rs;have hF:=(I.hok.ob _ _ hp).1;have yP:=ru;rw[ab]at yP;obtain⟨a,o,us',rfl,e1,e2,e3,e4⟩:=yP;obtain⟨Ug,Tq,ws,e,l2,hm⟩:=I.cw (k:=λkvs=>kvs=ks.zip es) ru rfl;cases e;subst hm;obtain⟨vs,l⟩:=I.iI hp;have ne:p≠a:=λq=>by rw[q,e1]at hF;cases hF
  have lz:(ks.zip es).length<=ks.length:=by rw[Zg];exact Nat.min_le_left _ _
  refine call_meetsIn PySem.F.slot_dict_update l.d.typeIs PySem.F.entry_dict_update (PySem.F.args_dict_update_2 _ _) (meets_dict_update (bo X.G.P X.G.w) p a ne l2.n) ⟨vs,ws,l.d,l2.d,by rw[<- Paired.length l.r,<- Paired.length l2.r];lia,λh' dd _ hs=>?_⟩;have he:∃q,h'.get? p=some q:=let ⟨q,_,_,hq,_⟩:=dd;⟨q,hq⟩
  exact k .ai ⟨z.F,_,_⟩ _ Le.rfl (I.put (t:=z.s.toks) (o':=.ak (j4 kvs (ks.zip es))) hp rfl (.inl rfl) (λb hb o q=>(hs.2 b hb).trans q) he ⟨Xz (IL _ _) (by lia),l.n,_,l2.r.add l.r,dd⟩) (by rw[ab]) q
 ·exact h.elim
end
end N
end
section
set_option maxHeartbeats 1000000
namespace N
open PySem PySem.Spec PyProof.Rows L2
mutual
inductive Fr (M K:Mp):D->D->Prop
 |rfl {d:D}:Fr M K d d
 |lst {p:Addr}{ds es:List D}:M p=some (.lst ds)->K p=none->gc M K ds es->Fr M K (.ref p) (.lst es)
 |ak {p:Addr}{kvs:List (Key×D)}{es:List D}:M p=some (.ak kvs)->K p=none->gc M K (kvs.map (·.2)) es->Fr M K (.ref p) (.ak (kvs.map (·.1)) es)
 |tup {ds es:List D}:gc M K ds es->Fr M K (.tup ds) (.tup es)
 |IP {ds es:List D}:gc M K ds es->Fr M K (.lst ds) (.lst es)
inductive gc (M K:Mp):List D->List D->Prop
 |rfl {ds:List D}:gc M K ds ds
 |cons {d e:D}{ds es:List D}:Fr M K d e->gc M K ds es->gc M K (d::ds) (e::es)
end
structure cx (K M:Mp):Prop where
 sub:∀a o,K a=some o->M a=some o
 own:∀a b,K a≠none->M b=some (.own a)->K b=some (.own a)
theorem cx.rfl {M:Mp}:cx M M:=⟨λ_ _ h=>h,λ_ _ _ h=>h⟩
noncomputable def dc (F:Fz) (M K:Mp) (h:Heap):Fz:=λa=>match M a,K a with
 |some _,none=>(h.get? a).map Fo.dat
 |_,_=>F a
section
variable {G:Gx}{F:Fz}{M K:Mp}{h:Heap}
theorem eP (x:aE G F M h):Le F (dc F M K h):=λa f e=>by
 unfold dc;cases q:M a with
 |none=>exact e
 |some o=>have:=(x.ob a o q).1;rw[e]at this;cases this
theorem yQ {a:Addr}{o:MO}{ob:Obj} (hM:M a=some o) (hK:K a=none) (e:h.get? a=some ob):dc F M K h a=some (.dat ob):=by
 unfold dc;rw[hM,hK];show (h.get? a).map Fo.dat=_;rw[e];rfl
theorem yR (x:aE G F M h) (s:cx K M):aE G (dc F M K h) K h:=by
 refine⟨λa f e=>?_,λa o e=>?_,x.tb.go (λT p q e=>?_) (eP x).d λ_ _ _ _ _ e=>e⟩
 case refine_3=>
  unfold dc at e;split at e
  ·cases q:h.get? T <;> rw[q]at e <;> cases e
  ·exact e
 ·unfold dc at e;split at e
  ·cases q:h.get? a with
   |none=>rw[q]at e;cases e
   |some ob=>rw[q]at e;cases e;exact q
  ·exact x.fz a f e
 ·have hM:=s.sub a o e;obtain⟨h1,h2⟩:=x.ob a o hM;refine⟨by unfold dc;rw[hM,e];exact h1,h2.go (eP x).d (λ_ _ _ q=>q) λb q=>s.own a b (by rw[e];exact Yk o) q⟩
mutual
theorem Fr.rel (x:aE G F M h):∀{d e:D}{u:Value},Fr M K d e->ab G F d u->ab G (dc F M K h) e u
 |_,_,u,.rfl,r=>r.up (eP x).d
 |_,_,u,.lst h1 h2 h3,r=>by
  rw[ab]at r;subst r;obtain⟨_,hz,us,n,rs,e⟩:=x.ob _ _ h1;exact ny (yQ h1 h2 e) (by rw[<- rs.len];exact hz) (h3.rel x rs)
 |_,_,u,.ak (kvs:=kvs) h1 h2 h3,r=>by
  rw[ab]at r;subst r;obtain⟨_,hz,hs,vs,rs,o,es,ep,e,ex,g1,g2,g3,nd⟩:=x.ob _ _ h1;obtain⟨k1,k2⟩:=lC rs;rw[ab];refine⟨_,o,vs.map (·.2),rfl,yQ h1 h2 e,⟨ex,⟨es,ep,g1,g2,?_⟩,by rw[k2];exact nd,by rw[k2,Xr,Xr],by rw[Xr];exact hz⟩,hs,h3.rel x k1⟩;rw[k2,xW];exact g3
 |_,_,u,.tup h3,r=>by
  rw[ab]at r ⊢;obtain⟨a,o,us,e,h1,h2,rs⟩:=r;exact⟨a,o,us,e,eP x a _ h1,h2,h3.rel x rs⟩
 |_,_,u,.IP h3,r=>by
  rw[ab]at r ⊢;obtain⟨a,n,us,e,h1,h2,rs⟩:=r;exact⟨a,n,us,e,eP x a _ h1,h2,h3.rel x rs⟩
theorem gc.rel (x:aE G F M h):∀{ds es:List D}{us:List Value},gc M K ds es->af G F ds us->af G (dc F M K h) es us
 |_,_,us,.rfl,r=>r.up (eP x).d
 |_,_,us,.cons h1 h2,r=>by
  rw[af]at r;obtain⟨u,us,rfl,r1,r2⟩:=r;exact .cons (h1.rel x r1) (h2.rel x r2)
end
end
theorem ae.IQ {X:Cx} {τ:St} {z:Z}{K:Mp} (I:ae X τ z) (s:cx K z.M):ae X τ ⟨dc z.F z.M K z.s.heap,K,z.s⟩ where
 ok:=I.ok
 bs:=I.bs.up (eP I.hok)
 os:=I.os
 bare:=I.bare
 b9:=λenv h=>let ⟨h1,L,o,h2,h3,h4⟩:=I.b9 env h;⟨h1,L,o,h2,eP I.hok _ _ h3,h4⟩
 loc:=let ⟨m,h1,h2⟩:=I.loc;⟨m,h1,λi x d a b c=>let ⟨u,r,l⟩:=h2 i x d a b c;⟨u,r.up (eP I.hok).d,l⟩⟩
 cell:=λx c h=>by
  obtain⟨h1,h2,h3⟩:=I.cell x c h;have e:dc z.F z.M K z.s.heap c=z.F c:=by unfold dc;rw[h2]
  refine⟨h1,?_,?_⟩
  ·cases q:K c with
   |none=>exact q
   |some o=>rw[s.sub c o q]at h2;cases h2
  ·dsimp only;rw[e];exact h3
 free:=by
  obtain⟨h1,h2⟩:=I.free;refine⟨by dsimp only;unfold dc;rw[h2];exact h1,?_⟩;cases q:K X.env.locals with
  |none=>exact q
  |some o=>rw[s.sub _ o q]at h2;cases h2
 hok:=yR I.hok s
 len:=I.len
noncomputable def bY (a:Addr) (d:D):Option D->Option D
 |some (.ref b)=>if b=a then some d else some (.ref b)
 |o=>o
theorem IS {M:Mp}{a:Addr}{o:MO} (h:M a=some o) (n:∀b,o≠.own b):cx (rm M a) M:=⟨λb u e=>by
 by_cases z:b=a
 ·rw[z,m7]at e;cases e
 ·rw[p6 z]at e;exact e,λb c e q=>by
 by_cases z:c=a
 ·rw[z,h]at q;cases q;exact absurd rfl (n b)
 ·rw[p6 z];exact q⟩
theorem ae.yS {X:Cx} {τ:St} {z:Z}{a:Addr}{o:MO}{d:D} (I:ae X τ z) (h:z.M a=some o) (n:∀b,o≠.own b) (f:Fr z.M (rm z.M a) (.ref a) d):∃F',Le z.F F'/\ae X (τ.map (bY a d)) ⟨F',rm z.M a,z.s⟩:=by
 have I':=I.IQ (IS h n);refine⟨_,eP I.hok,{ I' with loc:=?_,len:=by rw[Xr];exact I.len }⟩;obtain⟨m,h1,h2⟩:=I'.loc;refine⟨m,h1,λi x e hx he hv=>?_⟩;rw[XJ]at he;obtain⟨y,hy,hs⟩:=Option.map_eq_some_iff.mp he;cases y with
 |none=>cases hs
 |some y=>
  obtain⟨u,r,l⟩:=h2 i x y hx hy hv;cases y with
  |ref b=>
   unfold bY at hs;dsimp only at hs;split at hs
   ·rename_i e0;subst e0;cases hs;rw[ab]at r;exact⟨u,by rw[r];exact f.rel I.hok (by rw[ab]),l⟩
   ·cases hs;exact⟨u,r,l⟩
  |_=>cases hs;exact⟨u,r,l⟩
inductive dT (P:St->Mp->Prop):St->Mp->Prop
 |rfl {τ:St} {M:Mp}:P τ M->dT P τ M
 |lst {τ:St} {M:Mp} (a:Addr) (ds:List D):M a=some (.lst ds)->dT P (τ.map (bY a (.lst ds))) (rm M a)->dT P τ M
 |ak {τ:St} {M:Mp} (a:Addr) (kvs:List (Key×D)):M a=some (.ak kvs)->dT P (τ.map (bY a (.ak (kvs.map (·.1)) (kvs.map (·.2))))) (rm M a)->dT P τ M
theorem KS.IT {X:Cx}{F:Fz}{e:En}{R:Flow->Shared->Prop} (k:KS X F e R):KS X F { e with nx:=dT e.nx } R where
 rt:=k.rt
 bk:=k.bk
 ct:=k.ct
 nx:=fun τ z l I h=>by
  have go:∀{τ:St} {M:Mp},dT e.nx τ M->∀z:Z,z.M=M->Le F z.F->ae X τ z->R .next z.s:=λh=>by
   induction h with
   |rfl h=>intro z e l I;subst e;exact k.nx _ z l I h
   |lst a ds h1 _ ih=>
    intro z e l I;subst e;obtain⟨F',l',I'⟩:=I.yS h1 (λb q=>by cases q) (.lst h1 m7 .rfl);exact ih ⟨F',rm z.M a,z.s⟩ rfl (l.tr l') I'
   |ak a kvs h1 _ ih=>
    intro z e l I;subst e;obtain⟨F',l',I'⟩:=I.yS h1 (λb q=>by cases q) (.ak h1 m7 .rfl);exact ih ⟨F',rm z.M a,z.s⟩ rfl (l.tr l') I'
  exact go h z rfl l I
def yT (ti:DI) (g:DG) (tb:DS):DS:=λe τ M=>qp ti g tb { e with nx:=dT e.nx } τ M
theorem IU {X:Cx}{st:Stmt}{ti:DI}{g:DG}{tb:DS} (h:PS X st (qp ti g tb)):PS X st (yT ti g tb):=fun τ z e R I q k=>h τ z _ R I q k.IT
end N
end
section
set_option maxHeartbeats 1000000
namespace N
open PySem PySem.Spec PyProof.Rows L2 PySem.W
structure sj (G:Gx) (F0:Fz) (d:Addr) (ks:List Key) (ds:List D) (n ep:Nat):Prop where
 bL:∀{F M h},Le F0 F->aE G F M h->∃vs,KV G F (ks.zip ds) vs/\h.DictAt (bo G.P G.w) d vs ep/\vs.length=n
 len:(ks.zip ds).length=n
theorem ow {X:Cx} {τ:St} {z:Z}{ks:List Key}{ds:List D}{u:Value} (I:ae X τ z) (r:ab X.G z.F (.ak ks ds) u):∃a n ep vs,u=.ref a/\sj X.G z.F a ks ds n ep/\z.s.heap.DictAt (bo X.G.P X.G.w) a vs ep/\vs.length=n/\(a == sysModules)=false:=by
 rw[ab]at r;obtain⟨a,o,us,rfl,h1,h2,h4,h3⟩:=r;obtain⟨es,ep,g1,g2,g3⟩:=h2.bL;have hl:=h3.len;have key:∀{F M h},Le z.F F->aE X.G F M h->∃vs,KV X.G F (ks.zip ds) vs/\h.DictAt (bo X.G.P X.G.w) a vs ep/\vs.length=(ks.zip us).length:=λ{F M h} l ok=>
  ⟨ks.zip us,KV.zip (h3.up l.d),⟨o,es,ok.fz a _ (l a _ h1),h2.ex,g1,g2,g3,by rw[List.map_fst_zip (by rw[h2.len];exact Xu _)];exact h2.nd⟩,rfl⟩
 obtain⟨vs,q1,q2,q3⟩:=key Le.rfl I.hok;exact⟨a,(ks.zip us).length,ep,vs,rfl,⟨key,by rw[Zg,Zg,hl]⟩,q2,q3,h4⟩
theorem yU {G:Gx}{F:Fz}{P:Program}{w:World}{k:Key}{u:Value} (h:(bo P w).is k u=true):ab G F (iN k) u:=by
 rcases dZ (k:=k) (v:=u) h with ⟨i,t,rfl,rfl⟩ |⟨x,t,rfl,rfl⟩
 ·exact b5
 ·exact gD
theorem ox {G:Gx}{F:Fz}:∀{a:List (Key×D)}{b:List (Key×Value)}{i:Nat}{p:Key×D},KV G F a b->a[i]?=some p->∃q,b[i]?=some q/\p.1=q.1/\ab G F p.2 q.2
 |_,_,_,_,.nil,e=>by simp at e
 |_,_,0,_,.cons r _,e=>by simp at e;subst e;exact⟨_,rfl,r.1,r.2⟩
 |_,_,i+1,_,.cons _ t,e=>by
  obtain⟨q,h1,h2⟩:=ox (i:=i) t (by simpa using e);exact⟨q,by simpa using h1,h2⟩
section
variable {G:Gx}{F0:Fz}{d it:Addr}{ks:List Key}{ds:List D}{n ep:Nat}{tg:Expr}{jp:List Expr}{kk:Nat}{tp:Pos}
theorem IV (S:sj G F0 d ks ds n ep):fT G tg ((ks.zip ds).map λp=>iN p.1) (λ_=>True) F0 [it] it (λi h=>h.IsKeyIter it d i n ep) where
 obj:=λi h st c hc=>by
  rw[List.mem_singleton.mp hc];obtain⟨o,q,_⟩:=st;exact⟨o,q⟩
 keep:=λi h h' st k=>by
  obtain⟨o,q,r⟩:=st;exact⟨o,k it (List.mem_singleton.mpr rfl) _ q,r⟩
 item:=by
  intro X hG hc i τ z d' E I l hf st hok hd;subst hG;rw[XJ]at hd;obtain⟨p,hp,rfl⟩:=Option.map_eq_some_iff.mp hd;obtain⟨vs,rel,da,lv⟩:=S.bL l I.hok;obtain⟨q,hq,e1,r2⟩:=ox rel hp;rw[<- lv]at st ⊢;refine wpAny_pyNext_dict_item (k:=q.1) (v:=q.2) st da hq λkey h' hk bd sb=>⟨_,rfl,?_⟩;refine letGo_keyiter (s':={ z.s with heap:=h' }) bd ?_;exact⟨Le.rfl,I.du (t:=z.s.toks) hf λc hc o e=>sb.extBut c o (by simpa using hc) e,by rw[e1];exact yU hk,bd,λb hb=>(hf b hb).f⟩
 done:=by
  intro X hG hc i τ z E I l hf st hok hd;subst hG;obtain⟨vs,rel,da,lv⟩:=S.bL l I.hok;rw[<- lv]at st;refine wpAny_pyNext_dict_end (I.ok.hd hc) st da ?_ λh' eb=>⟨rfl,I.du (t:=z.s.toks) hf λb hb o e=>eb b o (by simpa using hb) e⟩;rw[Xr,Paired.length rel]at hd;simp;lia
 self:=λ_ _ _ _ _ st h=>wpAny_pyIter_keyiter st h
theorem IW (S:sj G F0 d ks ds n ep):fT G (.Tuple jp kk tp) ((ks.zip ds).map dQ) (λ_=>True) F0 [it] it (λi h=>∃ok ov,IsItemIter h it d i n ep ok ov) where
 obj:=λi h st c hc=>by
  rw[List.mem_singleton.mp hc];obtain⟨_,_,q⟩:=st;exact⟨_,q⟩
 keep:=λi h h' st k=>by
  obtain⟨o1,o2,q⟩:=st;exact⟨o1,o2,k it (List.mem_singleton.mpr rfl) _ q⟩
 item:=by
  intro X hG hc i τ z d' E I l hf st hok hd;subst hG;rw[XJ]at hd;obtain⟨p,hp,rfl⟩:=Option.map_eq_some_iff.mp hd;obtain⟨vs,rel,da,lv⟩:=S.bL l I.hok;obtain⟨q,hq,e1,r2⟩:=ox rel hp;obtain⟨o1,o2,q1⟩:=st;rw[<- lv]at q1 ⊢;have hit:it<z.s.heap.objs.size:=XF q1;refine wpAny_pyNext_items_item (k:=q.1) (v:=q.2) q1 da hq λkey h' hk Z' T' n' keep=>⟨_,rfl,?_⟩;refine wpAny_letOwnedTupleGo_items Z' λfW qu sb=>?_;have I':ae X τ ⟨z.F,z.M,{ z.s with heap:=fW,toks:=z.s.toks }⟩:=I.du hf λc hc o e=>by
   simp only[Yh,XR,or_false]at hc;exact sb.extBut _ _ hc (keep c o hc e)
  refine wo I' (I.jA (Xu _)) (sb.extBut _ _ (YF hit) T') ⟨rfl,rfl,⟨0,rfl⟩,by show 2<=sizeLine;decide⟩ (by rw[e1];exact yU hk) r2 ⟨_,_,qu⟩ λc hc=>⟨(hf c hc).f,?_⟩;rw[List.mem_singleton.mp hc];exact XH hit
 done:=by
  intro X hG hc i τ z E I l hf st hok hd;subst hG;obtain⟨vs,rel,da,lv⟩:=S.bL l I.hok;obtain⟨o1,o2,q1⟩:=st;rw[<- lv]at q1;refine wpAny_pyNext_items_end (I.ok.hd hc) q1 da ?_ λh' eb=>⟨rfl,I.du (t:=z.s.toks) hf λb hb o e=>eb b o (by simpa using hb) e⟩;rw[Xr,Paired.length rel]at hd;simp;lia
 self:=λ_ _ _ _ _ st h=>by
  obtain⟨o1,o2,q1⟩:=st;exact kcp_self q1 h
end
section
variable {X:Cx}{o e:Expr}{to te:DE}{tg:Expr}{jp:List Expr}{kk:Nat}{tp q p:Pos}
def yV (t:DE):DI:=fun τ M k=>t τ M λd M1=>match d with
 |.ak ks ds=>k ((ks.zip ds).map λp=>iN p.1) (λ_=>True) M1
 |.str x=>x.cps.all (·<128)=true/\k (nD x) (λ_=>True) M1
 |d=>iw d M1 λxs ok=>k xs ok M1
theorem IX (hl:PE X e te):PI X tg e (yV te):=fun τ z k R I h K=>hl τ z _ _ I h λd z1 u l1 I1 r1 q1=>by
 have go:iw d z1.M (λxs ok=>k xs ok z1.M)->W X (pyIter u) R z1.s:=λq1=>by
  obtain⟨q,a,xs,ok,rfl,S,hok,q1⟩:=I1.iy r1 q1;obtain⟨us,r,hz,hq⟩:=S X τ z1 rfl I1 Le.rfl hok;have fin:R (.ref z1.s.heap.objs.size) { z1.s with heap:=z1.s.heap.push { cls:=.type (fN q),data:=.fields #[.ref a,.int 0 0] } }:=
   K xs ok ⟨z1.F,z1.M,_⟩ _ l1 (I1.bN (t:=z1.s.toks) λb o e=>Xq _ e) (jB I1 (Xu _) (Es S) ⟨_,Xw _ rfl,rfl,rfl⟩) q1
  cases q with
  |true=>exact ZN hq fin
  |false=>exact Zu hq fin
 cases d with
 |str x=>
  rw[ab]at r1;obtain⟨t,rfl⟩:=r1;exact wpAny_pyIter_ascii q1.1 (K _ _ ⟨z1.F,z1.M,_⟩ _ l1 (I1.bN (t:=z1.s.toks) λb o e=>Xq _ e) (jB I1 (Xu _) Et ⟨_,Xw _ rfl,rfl,rfl⟩) q1.2)
 |ak ks ds=>
  obtain⟨a,n,ep,vs,rfl,S,da,lv,lo⟩:=ow I1 r1;refine wpAny_pyIter_dict (knd:=bo X.G.P X.G.w) lo da ?_;rw[lv];exact K _ _ ⟨z1.F,z1.M,_⟩ _ l1 (I1.bN (t:=z1.s.toks) λb o e=>Xq _ e) (jB I1 (Xu _) (IV S) ⟨_,Xw _ rfl,rfl,rfl⟩) q1
 |_=>exact go q1
def oy (Q:List Key->List D->Mp->Prop):QK:=λd M=>match d with
 |.ak ks ds=>Q ks ds M
 |_=>False
theorem yW (ho:PE X o to) (f6:attributeBase o "items" X.env (eval o X.env)=eval o X.env) (bm:(q.endLine == p.line)=true) {τ:St} {z:Z}{Q:List Key->List D->Mp->Prop}{R:Value->Shared->Prop} (I:ae X τ z) (h:to τ z.M (oy Q))
  (k:∀ks ds a z1 v,Le z.F z1.F->ae X τ z1->ab X.G z1.F (.ak ks ds) (.ref a)->z1.s.heap.IsItemsView v a->Q ks ds z1.M->R (.ref v) z1.s):W X (eval (.Call (.Attribute o "items" q) [] [] p) X.env) R z.s:=
 wpAny_Call_method0_late f6 bm (ho τ z _ _ I h λx z1 v l1 I1 r1 q1=>by
  unfold oy at q1;split at q1
  ·rename_i ks ds;obtain⟨h1,h2⟩:=rx (T:="dict") I1 r1 rfl;obtain⟨a,n,ep,vs,rfl,S,da,lv,lo⟩:=ow I1 r1;obtain⟨o,es,g⟩:=da;have dd:z1.s.heap.DictOf (bo X.G.P X.G.w) a vs:=⟨o,es,ep,g⟩;refine⟨"dict","dict.items",PySem.F.plainAttrs_dict,PySem.F.slot_dict_items,PySem.F.type_dict_items,h1,h2,Calls.callWith_builtin rfl (PySem.evalArgs_none ?_)⟩;refine call_meetsIn PySem.F.slot_dict_items dd.typeIs PySem.F.entry_dict_items (PySem.F.args_dict_items_1 _) (meets_dict_items (bo X.G.P X.G.w) a lo) ⟨⟨vs,dd⟩,?_⟩;exact k ks ds a ⟨z1.F,z1.M,{ z1.s with heap:=z1.s.heap.push { cls:=.type "dict_items",data:=.fields #[.ref a] },toks:=z1.s.toks }⟩ _ l1 (I1.bN λb o e=>Xq _ e) r1 ⟨_,Xw _ rfl,rfl,rfl⟩ q1
  ·exact q1.elim)
def yX (t:DE):DI:=fun τ M k=>t τ M (oy λks ds M1=>k ((ks.zip ds).map dQ) (λ_=>True) M1)
theorem IY (ho:PE X o to) (f6:attributeBase o "items" X.env (eval o X.env)=eval o X.env) (bm:(q.endLine == p.line)=true):PI X (.Tuple jp kk tp) (.Call (.Attribute o "items" q) [] [] p) (yX to):=fun τ z k R I h K=>
 yW ho f6 bm I h λks ds a z1 v l1 I1 r1 iv q1=>by
  obtain⟨Ug,n,ep,vs,e,S,da,lv,lo⟩:=ow I1 r1;cases e;refine wpAny_pyIter_items (knd:=bo X.G.P X.G.w) iv da ?_;rw[lv];exact K _ _ ⟨z1.F,z1.M,_⟩ _ l1 (I1.bN (t:=z1.s.toks) λb o e=>Xq _ e) (jB I1 (Xu _) (IW S) ⟨.none,.none,Xw _ rfl⟩) q1
end
end N
end
section
namespace Kn
open PySem PySem.W PyProof.Rows
noncomputable def krun {α:Type} (lt:Nat->Nat->Bool):KasT α->α
 |.ret a=>a
 |.ask i j k=>krun lt (k (lt i j))
theorem j5 {α β:Type} (lt:Nat->Nat->Bool) (f:α->KasT β):∀t:KasT α,krun lt (t.bind f)=krun lt (f (krun lt t))
 |.ret _=>rfl
 |.ask i j k=>j5 lt f (k (lt i j))
section
variable (r:Nat->Nat)
variable {r}
end
end Kn
namespace Kn
open PySem PySem.W PyProof.Rows
def cg {α:Type} (n:Nat) (R:α->Prop):KasT α->Prop
 |.ret a=>R a
 |.ask i j k=>i<n/\j<n/\∀b,cg n R (k b)
theorem cg.bind {α β:Type} {n:Nat}{R:α->Prop}{S:β->Prop}{f:α->KasT β} (hf:∀a,R a->cg n S (f a)):∀{t:KasT α},cg n R t->cg n S (t.bind f)
 |.ret a,h=>hf a h
 |.ask _ _ k,h=>⟨h.1,h.2.1,λb=>cg.bind hf (h.2.2 b)⟩
theorem yY {α:Type} {n:Nat}{R:α->Prop}{lt:Nat->Nat->Bool}{cmp:Nat->Nat->(Bool->Shared->Prop)->Shared->Prop}{Q:α->Shared->Prop}{s:Shared}
  (hc:∀i j C,i<n->j<n->C (lt i j) s->cmp i j C s):∀{t:KasT α},cg n R t->Q (krun lt t) s->t.kasWp cmp Q s
 |.ret _,_,q=>q
 |.ask i j k,h,q=>hc i j _ h.1 h.2.1 (yY hc (h.2.2 _) q)
def Gn (n:Nat) (p:Array Nat):Prop:=∀x∈p.toList,x<n
theorem Gn.get {n:Nat}{p:Array Nat} (h0:0<n) (h:Gn n p) (i:Nat):p.getD i 0<n:=by
 rw[Ze];cases e:p[i]? with
 |none=>exact h0
 |some x=>exact h x (Array.mem_toList_iff.mpr (Array.mem_of_getElem? e))
theorem Gn.perm {n:Nat}{p q:Array Nat} (h:Gn n p) (e:q.Perm p):Gn n q:=λx hx=>h x (Array.mem_toList_iff.mpr (e.mem_iff.mp (Array.mem_toList_iff.mp hx)))
section
variable {n:Nat} (h0:0<n)
include h0
theorem sm {p:Array Nat} (g:Gn n p):∀f m,cg n (λ_=>True) (kas_asc p f m)
 | 0,_=>trivial
 |f+1,m=>by
  rw[kas_asc];refine⟨g.get h0 _,g.get h0 _,λb=>?_⟩;dsimp only;split
  ·trivial
  ·exact sm g f _
theorem oz:∀(f:Nat) (p:Array Nat) (m q:Nat),Gn n p->cg n (λr:Array Nat×Nat×Nat=>Gn n r.1) (kas_desc f p m q)
 | 0,p,_,_,g=>g
 |f+1,p,m,q,g=>by
  rw[kas_desc];refine⟨g.get h0 _,g.get h0 _,λb=>?_⟩;dsimp only;by_cases hb:b=true
  ·rw[if_pos hb];split
   ·exact oz f _ _ _ (g.perm (mirror_perm _ _ _ _))
   ·exact oz f _ _ _ g
  ·rw[if_neg hb];refine⟨g.get h0 _,g.get h0 _,λb=>?_⟩;dsimp only;split
   ·exact g
   ·exact oz f _ _ _ g
theorem yZ {p:Array Nat} (g:Gn n p) (m k:Nat):cg n (λr:Nat×Array Nat=>Gn n r.2) (kas_tail3 m k p):=by
 unfold kas_tail3;refine cg.bind (R:=λ_=>True) (λm _=>?_) (sm h0 (g.perm (mirror_perm _ _ _ _)) _ _);exact g.perm (mirror_perm _ _ _ _)
theorem y0 {p:Array Nat} (g:Gn n p) (m k:Nat):cg n (λr:Nat×Array Nat=>Gn n r.2) (kas_descPart m k p):=by
 unfold kas_descPart;refine cg.bind (λr hr=>?_) (oz h0 _ p _ _ g);split
 ·exact yZ h0 (Gn.perm hr (mirror_perm _ _ _ _)) _ _
 ·exact yZ h0 hr _ _
theorem IZ {p:Array Nat} (g:Gn n p) (k:Nat):cg n (λr:Nat×Array Nat=>Gn n r.2) (kas_count k p):=by
 unfold kas_count;refine cg.bind (λm _=>?_) (sm h0 g _ _);split
 ·exact g
 split
 ·refine⟨g.get h0 _,g.get h0 _,λb=>?_⟩;dsimp only;split
  ·exact g
  ·exact y0 h0 (g.perm (mirror_perm _ _ _ _)) _ _
 ·exact y0 h0 g _ _
theorem su {p:Array Nat} (g:Gn n p) (k:Nat):∀f l u,cg n (λ_=>True) (kas_place p k f l u)
 | 0,_,_=>trivial
 |f+1,l,u=>by
  rw[kas_place];split
  ·trivial
  ·refine⟨g.get h0 _,g.get h0 _,λb=>?_⟩;dsimp only;split
   ·exact su g k f _ _
   ·exact su g k f _ _
theorem y1:∀(f:Nat) (p:Array Nat) (k:Nat),Gn n p->cg n (λ_=>True) (kas_bin f p k)
 | 0,_,_,_=>trivial
 |f+1,p,k,g=>by
  rw[kas_bin];exact cg.bind (λl _=>y1 f _ _ (g.perm (bubble_perm _ _ _))) (su h0 g _ _ _ _)
theorem I9:cg n (λ_=>True) (kas_sort n):=by
 unfold kas_sort;refine cg.bind (λr hr=>?_) (IZ h0 (p:=(YD n).toArray) (λx hx=>by simpa using hx) n);split
 ·exact y1 h0 _ _ _ hr
 ·trivial
end
end Kn
namespace Kn
open PySem PySem.W PyProof.Rows
section
variable {lt:Nat->Nat->Bool}
theorem lO:∀(f:Nat) (p:Array Nat) (m q:Nat),(krun lt (kas_desc f p m q)).1.Perm p
 | 0,p,_,_=>by rw[kas_desc];exact .refl _
 |f+1,p,m,q=>by
  rw[kas_desc,krun];split
  ·split
   ·exact (lO f _ _ _).trans (mirror_perm _ _ _ _)
   ·exact lO f _ _ _
  ·rw[krun];split
   ·exact .refl _
   ·exact lO f _ _ _
theorem y2 (p:Array Nat) (m k:Nat):(krun lt (kas_tail3 m k p)).2.Perm p:=by
 unfold kas_tail3;rw[j5];exact mirror_perm _ _ _ _
theorem y3 (p:Array Nat) (m k:Nat):(krun lt (kas_descPart m k p)).2.Perm p:=by
 unfold kas_descPart;rw[j5];split
 ·exact (y2 _ _ _).trans ((mirror_perm _ _ _ _).trans (lO _ _ _ _))
 ·exact (y2 _ _ _).trans (lO _ _ _ _)
theorem y4 (p:Array Nat) (k:Nat):(krun lt (kas_count k p)).2.Perm p:=by
 unfold kas_count;rw[j5];split
 ·exact .refl _
 split
 ·rw[krun];split
  ·exact .refl _
  ·exact (y3 _ _ _).trans (mirror_perm _ _ _ _)
 ·exact y3 _ _ _
theorem y5:∀(f:Nat) (p:Array Nat) (k:Nat),(krun lt (kas_bin f p k)).Perm p
 | 0,p,_=>by rw[kas_bin];exact .refl _
 |f+1,p,k=>by
  rw[kas_bin,j5];exact (y5 f _ _).trans (bubble_perm _ _ _)
theorem Ja (n:Nat):(krun lt (kas_sort n)).Perm (YD n).toArray:=by
 unfold kas_sort;rw[j5];split
 ·exact (y5 _ _ _).trans (y4 _ _)
 ·exact y4 _ _
end
end Kn
namespace L2
open PySem PySem.Spec PyProof.Rows PySem.W
end L2
end
section
set_option maxHeartbeats 1000000
namespace N
open PySem PySem.Spec PyProof.Rows L2 PySem.W
open Kn (krun)
def gS (G:Gx) (F:Fz) (vs:List Value) (ps:List (Str×D)):Prop:=vs.length=ps.length/\∀(i:Nat) p,ps[i]?=some p->∃b o t u n,vs[i]?=some (.ref b)/\F b=some (.dat o)/\o.cls=.type "tuple"/\o.data=.seq #[.str p.1 t,u] n/\ab G F p.2 u/\aG p.2=true/\a8 p.2<=50
theorem gS.tl {G:Gx}{F:Fz}{v:Value}{vs:List Value}{p:Str×D}{ps:List (Str×D)} (t:gS G F (v::vs) (p::ps)):gS G F vs ps:=⟨ZS t.1,λi y hy=>t.2 (i+1) y hy⟩
noncomputable def iW (ps:List (Str×D)) (i j:Nat):Bool:=decide ((ps.getD i ("",.ai)).1.cps.toList<(ps.getD j ("",.ai)).1.cps.toList)
section
variable {G:Gx}{F:Fz}{M:Mp}{A:Around}{E:Value->Shared->Prop}{s:Shared}
theorem gS.y6 {P:Program}{w:World} (ok:aE G F M s.heap):∀{vs:List Value}{ps:List (Str×D)},gS G F vs ps->∃fs,KatTups s.heap vs fs/\fs.length=vs.length/\∀f∈fs,Looks (model P w) s.heap (typeOf f) (.type "str")
 |[],[],_=>⟨[],.nil,rfl,λf hf=>(nomatch hf)⟩
 |[],_::_,t=>by have:=t.1;simp at this
 |_::_,[],t=>by have:=t.1;simp at this
 |v::vs,p::ps,t=>by
  obtain⟨fs,h1,h2,h3⟩:=gS.y6 (P:=P) (w:=w) ok t.tl;obtain⟨b,o,tk,u,n,e1,e2,e3,e4,_⟩:=t.2 0 p rfl;cases e1;refine⟨.str p.1 tk::fs,.cons (ok.fz b _ e2) e3 e4 (by simp) h1,by simp [h2],λf hf=>?_⟩;rcases List.mem_cons.mp hf with z |z
  ·subst z;exact Looks.of_pure rfl
  ·exact h3 f z
theorem Jb {a : Addr} {vs : List Value} {ps : List (Str × D)} {n : Nat} {P : Fin -> Shared -> Prop} (hu : A.units + 60 < cLine) (ok : aE G F M s.heap) (ha : F a = none) (hm : M a = none) (ho : s.heap.get? a = some (seqObj "list" vs.toArray n)) (hT : gS G F vs ps) (nd : (ps.map (·.1)).Nodup) (gN : vs.length < 64)
    (h:∀(p:List Nat),p.Perm (YD vs.length)->P (.done (.ret .none)) { s with heap:=sortedHeap s.heap a vs (p.map λi=>vs.getD i YB).toArray }) :
    wpAny (model G.P G.w) A (Builtin.«list.sort» ⟨[.ref a],[]⟩) P E s:=by
  obtain⟨e1,g1⟩:∃e1,(s.heap.update a (Yd λ_=>(#[]:Array Value))).get? a=some (seqObj "list" #[] e1):=⟨_,get?_update_seq ho λ_=>#[]⟩;have g6:(((s.heap.update a (Yd λ_=>(#[]:Array Value))).push (seqObj "tuple" vs.toArray 0)).push (seqObj "list" #[] 0)).get? a=some (seqObj "list" #[] e1):=Xq _ (Xq _ g1);have sb:=XZ s.heap a (Yd λ_=>(#[]:Array Value));have iX:aE G F M (((s.heap.update a (Yd λ_=>(#[]:Array Value))).push (seqObj "tuple" vs.toArray 0)).push (seqObj "list" #[] 0)):=ok.keep λb hb o e=>Xq _ (Xq _ (sb.extBut b o (by rintro rfl;rcases hb with h |h;exact h ha;exact h hm) e));rw[list_sort_plain];refine Xp (listItems_at ho rfl (Xp (listUpdate_at ho rfl ?_ (by rw[Xv,ZQ];lia) (XS _))));refine Xp (seqEpoch_at g1 rfl (Xp (wpAny_newTuple ?_ (by show vs.length<=_;rw[ZQ];lia))));refine Xp (wpAny_newList (Yq ?_) (XS _));show wpAny (model G.P G.w) A _ P E { s with heap:=((s.heap.update a (Yd λ_=>(#[]:Array Value))).push (seqObj "tuple" vs.toArray 0)).push (seqObj "list" #[] 0) };dsimp only;by_cases h2:vs.toArray.size<2
  · have y7:vs.length<2:=(by simpa using h2);rw[if_pos h2,if_pos h2];refine Xp (Xs ?_);rw[StateT.run_pure];refine Xp (Xs ?_);dsimp only;have Ud:(arrOf (SortSt.mk' general' (vs.toArray.zip vs.toArray) #[] 7 none)).map (·.2)=vs.toArray:=by
      show (vs.toArray.zip vs.toArray).map (·.2)=vs.toArray;apply Array.toList_inj.mp;rw[Array.toList_map,Array.toList_zip];simp only[List.toList_toArray];have zz:∀l:List Value,(l.zip l).map (·.2)=l:=λl=>(by induction l with |nil=>rfl |cons x l ih=>simp [ih]);exact zz vs
    rw[Ud];refine Xp (seqEpoch_at g6 rfl (Xp (listUpdate_at g6 rfl ?_ (XS _) (by rw[Xv,ZQ];lia))));simp only[bne_self_eq_false,ZD,if_false];have q:=h (YD vs.length) (.refl _);have zz:(YD vs.length).map (λi=>vs.getD i YB)=vs:=by
      refine List.ext_getElem (by simp) λi h1 h2=>?_;simp [XW,Xx h2]
    rw[zz]at q;exact Xs q
  · have y7 : 2 ≤ vs.length := by have : ¬ vs.length < 2 := by simpa using h2
                                  lia
    rw[if_neg h2,if_neg h2];obtain⟨fs,f1,f2,f3⟩:=hT.y6 (P:=G.P) (w:=G.w) (s:={ s with heap:=((s.heap.update a (Yd λ_=>(#[]:Array Value))).push (seqObj "tuple" vs.toArray 0)).push (seqObj "list" #[] 0) }) iX;refine Xp (kat_kind (T:=.type "str") f1 (by rw[f2];lia) f3 (by simp) ?_);have pp:=Kn.Ja (lt:=iW ps) vs.length;refine Xp (Zv (kat_run (ks:=vs) (Q:=λbd s'=>arrOf bd=(krun (iW ps) (kas_sort vs.length)).map (kas_item (vs.toArray.zip vs.toArray))/\failedOf bd=none/\s'={ s with heap:=((s.heap.update a (Yd λ_=>(#[]:Array Value))).push (seqObj "tuple" vs.toArray 0)).push (seqObj "list" #[] 0) })
      (G:=λq s'=>q=krun (iW ps) (kas_sort vs.length)/\s'={ s with heap:=((s.heap.update a (Yd λ_=>(#[]:Array Value))).push (seqObj "tuple" vs.toArray 0)).push (seqObj "list" #[] 0) }) rfl y7 gN (λq bd s' _ TV TZ ⟨T1,Uh⟩=>⟨T1 ▸ TV,TZ,Uh⟩) ?ask) ?_ λ_ _ e=>e)
    case ask=>
      refine Kn.yY (n:=vs.length) (R:=λ_=>True) (lt:=iW ps) (λi j C hi hj q=>?_) (Kn.I9 (by lia)) ⟨rfl,rfl⟩;have cW:i<ps.length:=(by rw[<- hT.1];exact hi);have lP:j<ps.length:=(by rw[<- hT.1];exact hj);have VC:ps[i]?=some ps[i]:=Xx cW;have Uc:ps[j]?=some ps[j]:=Xx lP;obtain⟨bi,Vf,ti,Xd,Xe,TY,TV,TZ,T1,Uh,UJ,U7⟩:=hT.2 i _ VC;obtain⟨Wv,Xf,Xg,Xh,Xi,c1,c2,c3,c4,Ww,Wx,Xj⟩:=hT.2 j _ Uc;unfold kas_ask;rw[XW,XW,TY,c1];refine kat_lt (iX.fz bi _ TV) T1 (iX.fz Wv _ c2) c4 ?_;have e:iW ps i j=decide (ps[i].1.cps.toList<ps[j].1.cps.toList):=(by unfold iW;rw[XW,XW,VC,Uc];rfl);rw[e]at q;refine kat_cons (lg 50 (d:=.str ps[i].1) (e:=.str ps[j].1) iX .str .str (by simp [a8]) (by lia) _ _ _ _ ?_);by_cases VD:i=j
      · subst VD;rw[gH _ rfl];refine kat_yes (kat_cons (lg 50 iX (eD iX Uh UJ) (eD iX Ww Wx) U7 (by lia) _ _ _ _ ?_));rw[gH _ UJ];rw[decide_eq_false (List.lt_irrefl _)]at q;exact kat_yes (kat_nil (by simpa using q))
      · have ne:ps[i].1≠ps[j].1:=fun z=>VD ((List.getElem_inj (h₀:=by simpa using cW) (h₁:=by simpa using lP) nd).mp (by simpa using z));have e2:aC (.str ps[i].1) (.str ps[j].1)=false:=by
          show (some ps[j].1 == some ps[i].1)=false;simpa using YZ ne
        rw[e2];exact kat_no (oneLt_str q)
    rintro⟨⟨⟩,bd⟩ s' ⟨IN,hf,rfl⟩;dsimp only;have hout:=kat_snds rfl IN;rw[hout];have lp:(krun (iW ps) (kas_sort vs.length)).toList.length=vs.length:=(by rw[XT,pp.size_eq];simp);refine Xp (seqEpoch_at g6 rfl (Xp (listUpdate_at g6 rfl ?_ (XS _) (by rw[Xv,Xr,lp,ZQ];lia))));rw[hf];simp only[bne_self_eq_false,ZD,if_false];exact Xs (h _ (by have:=Array.perm_iff_toList_perm.mp pp;simpa using this))
end
def lQ (t:DE):DE:=fun τ M q=>t τ M (oy λks ds M1=>ks.length<64/\(∀k∈ks,∃x,k=YO x)/\(∀d∈ds,aG d=true/\a8 d<=50)/\∀ys:List (Key×D),ys.Perm (ks.zip ds)->bR (ys.map dQ) M1 q)
section
variable {X:Cx}{o:Expr}{to:DE}{p1 q2 gQ dz:Pos}
theorem Jc {G:Gx}{F:Fz}{ks:List Key}{ds:List D}{u:Value} (r:ab G F (.ak ks ds) u):ks.Nodup/\ds.length=ks.length:=by
 rw[ab]at r;obtain⟨a,o,us,rfl,h1,h2,h4,h3⟩:=r;exact⟨h2.nd,h3.len.trans h2.len⟩
theorem Jd (hc:X.calm=true) (hu:X.A.units+110<cLine) (hg:Gl X "sorted") (hm:X.G.mg "sorted"=none) (ho:PE X o to) (f6:attributeBase o "items" X.env (eval o X.env)=eval o X.env) (bm:(q2.endLine == dz.line)=true) :
  PE X (.Call (.Name "sorted" p1) [.Call (.Attribute o "items" q2) [] [] dz] [] gQ) (lQ to):=fun τ z Q R I h k=>by
 refine Yt (eA I hg hm (by decide +kernel:bootBuiltins "sorted"=some (.builtin "sorted")) (by decide) (by decide) ?_);refine PyProof.Rows.callWith_builtin1 ?_ (bF rfl) rfl;rw[bF (e:=.Call (.Attribute o "items" q2) [] [] dz) rfl];show W X (spliced ((false,eval (.Call (.Attribute o "items" q2) [] [] dz) X.env)::backTo gQ (starEach [] X.env))) _ z.s;refine YS ?_;refine yW ho f6 bm I h λks ds a z1 v l1 I1 r1 iv q1=>?_;refine Zq ?_;obtain⟨gN,hk,hd,q⟩:=q1;obtain⟨nd,ln⟩:=Jc r1;obtain⟨Ug,n,ep,vs,e,S,da,lv,lo⟩:=ow I1 r1;cases e;obtain⟨Je,rel,Jf,Tr⟩:=S.bL Le.rfl I1.hok;have lz:(ks.zip ds).length=ks.length:=by rw[Zg,ln,Nat.min_self]
 have gT:Je.length=ks.length:=by rw[<- Paired.length rel,lz]
 refine Calls.call_function_entry kind_sorted plain_sorted entry_sorted (args_sorted1 _) ?_;unfold Builtin.«sorted»;refine Xp (m:=checkCount "sorted" 1 1 _) (Xs ?_);refine Xp (kdx_collect (knd:=bo X.G.P X.G.w) (A:=X.A.in1) (I1.ok.hd hc) iv Jf (by rw[gT,ZQ];lia) λh' tk as keep la Gp=>?_);obtain⟨l2,I2⟩:=I1.many (as:=as) (t:=tk) (λb o e=>keep b o e) λb hb=>Nat.le_of_lt (Gp.above b hb);obtain⟨ss,oA⟩:∃ss:List Str,ks=ss.map YO:=by
  clear gN nd ln lz gT rel S r1 q
  induction ks with
  |nil=>exact⟨[],rfl⟩
  |cons k ks ih=>
   obtain⟨x,rfl⟩:=hk k XA;obtain⟨ss,rfl⟩:=ih λk wE=>hk k (XB _ wE);exact⟨x::ss,rfl⟩
 have item:∀(i:Nat) (pr:Key×D),(ks.zip ds)[i]?=some pr->∃b t u s,as[i]?=some b/\pr.1=YO s/\cE z1.F as h' b=some (.dat { cls:=.type "tuple",data:=.seq #[.str s t,u] })/\ab X.G (cE z1.F as h') pr.2 u:=λi pr hp=>by
  obtain⟨q,hq,e1,r2⟩:=ox rel hp;have hi:i<as.length:=by rw[la];exact (List.getElem?_eq_some_iff.mp hq).1
  have hb:as[i]?=some as[i]:=Xx hi;obtain⟨key,kk,x,g1,g2,g3⟩:=Gp.pairs i _ hb;rw[hq]at g1;cases g1;have Jg:pr.1∈ks:=(Zf (show (pr.1,pr.2)∈ks.zip ds from Yn hp)).1;obtain⟨s,hs⟩:=hk _ Jg;have e3:kk=YO s:=e1.symm.trans hs;rw[e3]at g2;rcases dZ (show e8 (YO s) key=true from g2) with ⟨i,t,e,_⟩ |⟨y,t,e,e2⟩
  ·cases e
  ·cases e;subst e2;exact⟨_,t,x,s,hb,hs,ou (Yn hb) g3,r2.up l2.d⟩
 have Jh:(ss.zip ds).length=as.length:=by rw[la,gT,<- lz,oA,Zg,Zg,Xr]
 have Wz:∀(i:Nat) (p:Str×D),(ss.zip ds)[i]?=some p->(ks.zip ds)[i]?=some (YO p.1,p.2):=λi p hp=>by
  rw[oA,List.zip_map_left,XJ,hp];rfl
 have Ji:gS X.G (cE z1.F as h') (as.map Ye) (ss.zip ds):=⟨by rw[Xr,Jh],λi p hp=>by
  obtain⟨b,t,u,s,g1,g2,g3,g4⟩:=item i _ (Wz i p hp);cases g2;obtain⟨d1,d2⟩:=hd _ (Zf (show (p.1,p.2)∈ss.zip ds from Yn hp)).2;exact⟨b,_,t,u,_,by rw[XJ,g1];rfl,g3,rfl,rfl,g4,d1,d2⟩⟩
 have Jj:((ss.zip ds).map (·.1)).Nodup:=by
  rw[List.map_fst_zip (by rw[ln,oA,Xr];exact Xu _)];rw[oA]at nd;exact (List.pairwise_map.mp nd).imp λh e=>h (congrArg YO e)
 have Jk:(as.map Ye).length<=sizeLine:=by rw[Xr,la,gT,ZQ];lia
 refine Xp (wpAny_newList ?_ Jk);have eH:(h'.push { cls:=.type "list",data:=.seq (as.map Ye).toArray }).get? h'.objs.size=some (seqObj "list" (as.map Ye).toArray 0):=Xw _ rfl;have UU:=I2.hok.cz (Xu h'.objs.size);have UT:=I2.hok.c6 (Xu h'.objs.size);have Jl:aE X.G (cE z1.F as h') z1.M (h'.push { cls:=.type "list",data:=.seq (as.map Ye).toArray }):=I2.hok.keep λb _ o e=>Xq _ e;refine Xp (Yq (X5 slot_list_sort ⟨_,eH,rfl⟩ entry_list_sort (Jb (G:=X.G) (F:=cE z1.F as h') (M:=z1.M) (by show X.A.units+1+1+60<cLine;lia) Jl UU UT eH Ji Jj (by rw[Xr,la,gT];lia) λp b1=>⟨_,rfl,?_⟩) (args_list_sort _)));refine Xs ⟨_,rfl,?_⟩;obtain⟨e,iS⟩:=sortedHeap_at (out:=(p.map λi=>(as.map Ye).getD i YB).toArray) eH;have lp:p.length=ks.length:=by rw[b1.length_eq,Zc,Xr,la,gT]
 have pm:(p.map λi=>(ks.zip ds).getD i (YO "",.ai)).Perm (ks.zip ds):=by
  have:=b1.map λi=>(ks.zip ds).getD i (YO "",D.ai);have zz:(YD (as.map Ye).length).map (λi=>(ks.zip ds).getD i (YO "",D.ai))=ks.zip ds:=by
   refine List.ext_getElem (by rw[Xr,Zc,Xr,la,gT,lz]) λi h1 h2=>?_;simp [XW,Xx h2]
  rw[zz]at this;exact this
 have rs:af X.G (cE z1.F as h') ((p.map λi=>(ks.zip ds).getD i (YO "",D.ai)).map dQ) (p.map λi=>(as.map Ye).getD i YB):=by
  have go:∀p:List Nat,(∀i∈p,i<ks.length)->af X.G (cE z1.F as h') ((p.map λi=>(ks.zip ds).getD i (YO "",D.ai)).map dQ) (p.map λi=>(as.map Ye).getD i YB):=λp hp=>by
   induction p with
   |nil=>exact .nil
   |cons i p ih=>
    refine .cons ?_ (ih λj hj=>hp j (XB _ hj));have hi:i<(ks.zip ds).length:=(by rw[lz];exact hp i XA);have hz:(ks.zip ds)[i]?=some (ks.zip ds)[i]:=Xx hi;obtain⟨b,t,u,s,g1,g2,g3,g4⟩:=item i _ hz;dsimp only;rw[XW,XW,hz,XJ,g1];show ab X.G _ (dQ (ks.zip ds)[i]) (.ref b);rw[dQ,g2];exact nu g3 ⟨rfl,rfl,⟨0,rfl⟩,by show 2<=sizeLine;decide⟩ (.cons gD (.cons g4 .nil))
  exact go p λi hi=>by have:=b1.mem_iff.mp hi;rw[List.mem_range,Xr,la,gT]at this;exact this
 refine I2.lst (n:=e) (t:=tk) k (l1.tr l2) rs (λb o hb=>?_) (Xu _) ?_ (by rw[Xr,lp,ZQ];lia) (q _ pm)
 ·have a1:b<h'.objs.size:=XF hb;rw[sortedHeap_old (XH a1) (by rw[X8];exact YK a1)];exact Xq _ hb
 ·rw[iS];rfl
end
end N
end
section
set_option maxHeartbeats 1000000
namespace N
open PySem PySem.Spec PyProof.Rows L2
set_option genInjectivity false
set_option genSizeOfSpec false
inductive C where
 |ai |bl (b:Bool) |int (i:Int) |str (x:Str)
noncomputable def C.d:C->D
 |.ai=>.ai
 |.bl b=>.bl b
 |.int i=>.int i
 |.str x=>.str x
inductive Bi where
 |len |tuple |int |max |sum |dict |any |oB |sorted
inductive Mt where
 |append |pop |extend |get |update
mutual
inductive E where
 |v (i:Nat) |c (k:C) |g (i:Nat) |ty (x:String) |tup (es:L) |lst (es:L)
 |op (o:Operator) (a b:E) |cmp (o:CmpOp) (a b:E) |neg (a:E) |and (a b:E) |or (a b:E) |not (a:E) |ite (c a b:E)
 |ix (a b:E) |sl (a lo hi:E) |rev (a:E) |call (i:Nat) (es:L) |bi (b:Bi) (es:L) |mt (m:Mt) (o:E) (es:L)
 |lc (n:Nat) (fr:List Nat) (g:G) (it:I) (c e:E) |fld (e:E) (f:Str) |new (i:Nat) (es:L) |aU (i:Nat) (o:E) (es:L) |app (f:E) (es:L)
 |j6 |sv (ks vs:L) |sset (e:E) |sx (e:E) |oE (e:E) |au
inductive L where
 |nil |cons (e:E) (r:L)
inductive I where
 |seq (e:E) |oF (e:E) |zip (a b:E) |oG (e:E) |y8 (e:E) |no
end
mutual
inductive S where
 |set (g:G) (e:E) |put (o i e:E) |oH (o:E) (f:Str) (e:E) |ret (e:E) |ex (e:E) |cond (c:E) (a b:B) |loop (g:G) (it:I) (b:B) |j7 (c:E) (b:B) |pass |brk |cnt |dead
inductive B where
 |nil |cons (s:S) (r:B)
end
structure Wd where
 sp:Nat->Sp
 gv:List D
 fl:Addr->Str->Prop
 ci:Nat->Option (Addr×Sp)
 mt:Nat->Option (Addr×Sp)
 ca:Addr->Sp->Prop
abbrev X0:XQ:=λ_ _=>False
def cM {α β γ:Type}:α->β->γ->Prop:=λ_ _ _=>False
noncomputable def y9 (n:Nat) (fr:List Nat) (τ:St):St:=Yw n none++fr.map λi=>(τ[i]?).join
def sy (n:Nat) (fr:List Nat) (g:G) (ti:DI) (tc:DT) (te:DE):DE:=fun τ M q=>ti τ M λxs ok M1=>cX ok g tc te (y9 n fr τ) (λys M2=>bR ys M2 q) xs [] M1
theorem Jm (n:Nat) (fr:List (Str×Nat)) (g:G) (ti:DI) (tc:DT) (te:DE):rG n fr g ti tc te=sy n (fr.map (·.2)) g ti tc te:=by
 unfold rG sy dv y9;simp only[Yv];rfl
def oJ (fl:Addr->Str->Prop) (f:Str):Q1:=λx M q=>cC x M λa C dx fs=>∃d,fl C f/\fs.lookup f=some d/\q d M
def y' (fl:Addr->Str->Prop) (f:Str) (to tv:DE):DS:=λe τ M=>tv τ M λd M1=>to τ M1 λo M2=>cC o M2 λa C dx fs=>fl C f/\fs.length<1000/\e.nx τ (up M2 a (.ins C dx (fu f d fs)))
def Jn (c:Option (Addr×Sp)) (t:DA):DE:=match c with
 |some (C,sp)=>qU C sp [] X0 t
 |none=>cM
def sA (c:Option (Addr×Sp)) (m:Str) (to:DE) (t:DA):DE:=match c with
 |some (C,sp)=>lu C m sp [] X0 to t
 |none=>cM
def za:Bi->QN
 |.len=>xJ |.tuple=>qZ |.int=>xK |.max=>q8 |.sum=>xM |.dict=>xV |.any=>xO |.oB=>rP |.sorted=>yh
noncomputable def Mt.ty:Mt->String
 |.get=>"dict" |.update=>"dict" |_=>"list"
def zb:Mt->QM
 |.append=>rj |.pop=>rl |.extend=>rn |.get=>rq |.update=>si
noncomputable def j8:E->Bool
 |.au=>true
 |_=>false
def oW (e:E) (t:DE):DO:=cond (j8 e) xD (xE t)
def Vh (e:E) (t:DT):DT:=cond (j8 e) gM t
noncomputable def vl (t:DE):DE×DT:=(t,xu t)
variable (W:Wd) (mn:List Str)
mutual
noncomputable def E.w:E->DE×DT
 |.v i=>vl (ey i)
 |.c k=>vl (T6 k.d)
 |.g i=>vl (T6 (W.gv.getD i .ai))
 |.ty x=>vl (T6 (.ty x))
 |.tup es=>vl (vD es.w)
 |.lst es=>vl (vE es.w)
 |.op o a b=>vl (ni (wX o) a.w.1 b.w.1)
 |.cmp o a b=>(xi (jJ o) a.w.1 b.w.1,xj (jJ o) a.w.1 b.w.1)
 |.neg a=>vl (jx xC a.w.1)
 |.and a b=>(vF a.w.1 b.w.1,vJ a.w.2 b.w.2)
 |.or a b=>(vG a.w.1 b.w.1,vK a.w.2 b.w.2)
 |.not a=>(vH a.w.1,vL a.w.2)
 |.ite c a b=>(vM c.w.2 a.w.1 b.w.1,cM)
 |.ix a b=>vl (ni aA a.w.1 b.w.1)
 |.sl a lo hi=>(xF a.w.1 (oW lo lo.w.1) (oW hi hi.w.1),cM)
 |.rev a=>(jx qX a.w.1,cM)
 |.call i es=>vl (qO (W.sp i) [] X0 es.w)
 |.bi b es=>vl (Ul (za b) es.w)
 |.mt m o es=>vl (lB m.ty (zb m) o.w.1 es.w)
 |.lc n fr g it c e=>(sy n fr g it.w (Vh c c.w.2) e.w.1,cM)
 |.fld e f=>vl (jx (oJ W.fl f) e.w.1)
 |.new i es=>(Jn (W.ci i) es.w,cM)
 |.aU i o es=>vl (sA (W.mt i) (mn.getD i "") o.w.1 es.w)
 |.app f es=>vl (ye W.ca X0 f.w.1 es.w)
 |.j6=>(xT,cM)
 |.sv ks vs=>(xU (ks.wl.zip vs.wl),cM)
 |.sset e=>(yI e.w.1,cM)
 |.sx e=>(yN e.w.1,cM)
 |.oE e=>(lQ e.w.1,cM)
 |.au=>(cM,cM)
noncomputable def L.w:L->DA
 |.nil=>ez
 |.cons e r=>fh e.w.1 r.w
noncomputable def L.wl:L->List DE
 |.nil=>[]
 |.cons e r=>e.w.1::r.wl
noncomputable def I.w:I->DI
 |.seq e=>yV e.w.1
 |.y8 e=>yX e.w.1
 |.oF e=>wg e.w.1
 |.zip a b=>wx a.w.1 b.w.1
 |.oG e=>wy e.w.1
 |.no=>cM
end
mutual
def S.w:S->DS
 |.set g e=>kU (e.w W mn).1 (cb g)
 |.put o i e=>kU (e.w W mn).1 (qn nX (o.w W mn).1 (i.w W mn).1)
 |.oH o f e=>y' W.fl f (o.w W mn).1 (e.w W mn).1
 |.ret e=>vO (e.w W mn).1
 |.ex e=>nj (e.w W mn).1
 |.cond c a b=>vP (c.w W mn).2 a.w b.w
 |.loop g it b=>yT (it.w W mn) (cb g) b.w
 |.j7 c b=>we (c.w W mn).2 b.w
 |.pass=>λe τ M=>e.nx τ M
 |.brk=>λe τ M=>e.bk τ M
 |.cnt=>λe τ M=>e.ct τ M
 |.dead=>cM
def B.w:B->DS
 |.nil=>λe τ M=>e.nx τ M
 |.cons s .nil=>s.w
 |.cons s r=>qe s.w r.w
end
structure Nm where
 bT:List Str
 fy:List Str
 cls:List Str
 aj:List Str
noncomputable def dA (x:Str):List Str->Nat->Option Nat
 |[],_=>none
 |y::r,i=>if y=x then some i else dA x r (i+1)
noncomputable def oK (sc:Scope) (x:Str):Bool:=match sc.names.lookup x with
 |some .local=>true
 |some .cell=>true
 |some .free=>true
 |_=>false
noncomputable def aW (sc:Scope) (x:Str):Bool:=match sc.names.lookup x with
 |some .globalImplicit=>true
 |_=>false
noncomputable def loc (sc:Scope) (x:Str):Bool:=match sc.names.lookup x with
 |some .local=>true
 |some .cell=>true
 |_=>false
noncomputable def oL (sc:Scope) (x:Str):Bool:=match sc.names.lookup x with
 |some .local=>true
 |_=>false
noncomputable def lR (x:Str):Bool:=!(x == ("__debug__" : Str)) && !(x == ("__classdict__" : Str))
noncomputable def b7:Expr->Bool
 |.Set _ _ _=>false
 |.Slice _ _ _ _=>false
 |.Starred _ _=>false
 |_=>true
noncomputable def eQ:Expr->Bool
 |.ListComp _ _ _ _=>true
 |.SetComp _ _ _ _=>true
 |.DictComp _ _ _ _ _=>true
 |_=>false
noncomputable def lS:Expr->Bool
 |.Tuple _ _ _=>true
 |_=>false
noncomputable def fA (sc scope:Scope):Scope:=
 { scope with names:=scope.names.map λ(n,k)=>if (k == .free && sc.kind == .function && sc.names.lookup n == some .cell) then (n,.cell) else (n,k) }
noncomputable def sC (x:Str):Option Bi:=if x="len" then some .len else if x="tuple" then some .tuple else if x="int" then some .int else if x="max" then some .max
 else if x="sum" then some .sum else if x="dict" then some .dict else if x="any" then some .any else if x="isinstance" then some .oB else if x="sorted" then some .sorted else none
noncomputable def sD (x:Str):Option Mt:=if x="append" then some .append else if x="pop" then some .pop else if x="extend" then some .extend else if x="get" then some .get else if x="update" then some .update else none
noncomputable def zc (x:Str):E:=if x="tuple" then .ty "tuple" else if x="bool" then .ty "bool" else if x="str" then .ty "str" else if x="int" then .ty "int" else if x="list" then .ty "list" else .au
noncomputable def j9 (o:Option Nat) (f:Nat->E) (e:E):E:=match o with
 |some i=>f i
 |none=>e
noncomputable def L.of:List E->L
 |[]=>.nil
 |e::r=>.cons e (L.of r)
noncomputable def eR (f:E->E->E):List E->E
 |[]=>.au
 |[e]=>e
 |e::r=>f e (eR f r)
noncomputable def lT:Expr->Option (Str×Pos)
 |.Name x p=>some (x,p)
 |_=>none
noncomputable def lU:List Expr->Option (List (Str×Pos))
 |[]=>some []
 |e::r=>(lT e).bind λq=>(lU r).map (q::·)
noncomputable def iY:Expr->List (Str×Pos)
 |.Name x p=>[(x,p)]
 |.Tuple es _ _=>(lU es).getD []
 |_=>[]
noncomputable def sE (N:List Str) (ok:Str->Bool) (l:List (Str×Pos)):Option G:=if l.all (λq=>ok q.1 && (dA q.1 N 0).isSome) then some (.many (l.map λq=>(dA q.1 N 0).getD 0)) else none
noncomputable def gU (N:List Str) (ok:Str->Bool):Expr->Option G
 |.Name x _=>if ok x then (dA x N 0).map .one else none
 |.Tuple es _ _=>(lU es).bind (sE N ok)
 |_=>none
noncomputable def iZ (N:List Str) (names:List (Str×NameKind)):List (Str×Nat):=names.filterMap λy=>if y.2=.free then (dA y.1 N 0).map λi=>(y.1,i) else none
variable (m:Nm)
noncomputable def sF (N:List Str) (sc:Scope) (x:Str) (as:L) (ne:Bool):E:=
 if aW sc x then j9 (dA x m.bT 0) (.call · as) (j9 (dA x m.cls 0) (.new · as) (match sC x with |some b=>if ne then .bi b as else .au |none=>.au)) else .au
noncomputable def sG (y:Str) (o:E) (as:L):E:=j9 (dA y m.aj 0) (.aU · o as) (match sD y with |some b=>.mt b o as |none=>.au)
noncomputable def oM (N:List Str) (sc:Scope) (x:Str):E:=
 if lR x then (if oK sc x then j9 (dA x N 0) .v .au else if aW sc x then j9 (dA x m.fy 0) .g (zc x) else .au) else .au
noncomputable def sH:Const->E
 |.int i=>.c (.int i)
 |.str x=>.c (.str x)
 |.bool b=>.c (.bl b)
 |.none=>.c .ai
 |_=>.au
noncomputable def sJ (sc:Scope) (x:Str):List Expr->Option Expr
 |[.Call (.Name g _) [a] [] _]=>if x="sorted"/\g="set"/\aW sc x=true/\aW sc g=true/\b7 a=true then some a else none
 |_=>none
noncomputable def sL (sc:Scope) (x:Str):List Expr->Option Expr
 |[.Call (.Name g _) [a] [] _]=>if x="list"/\g="enumerate"/\aW sc x=true/\aW sc g=true/\b7 a=true then some a else none
 |_=>none
noncomputable def sM (sc:Scope) (x:Str):List Expr->Option Expr
 |[.Call (.Attribute o y q) [] [] p]=>if x="sorted"/\y="items"/\aW sc x=true/\PL.fq o=false/\(q.endLine == p.line)=true then some o else none
 |_=>none
noncomputable def oN (o:Option Expr) (f:Expr->E):E:=match o with
 |some x=>f x
 |none=>.au
noncomputable def oO (o:Option Expr) (f:Expr->E):Bool:=match o with
 |some x=>!j8 (f x)
 |none=>true
noncomputable def sN (f:Expr->E) (a:Expr):Expr->E
 |.Slice none none (some (.UnaryOp .USub (.Constant (.int 1) _ _) _)) _=>.rev (f a)
 |.Slice lo hi none _=>if oO lo f && oO hi f then .sl (f a) (oN lo f) (oN hi f) else .au
 |b=>if b7 b then .ix (f a) (f b) else .au
noncomputable def sP (f:Expr->E) (a:Expr):List CmpOp->List Expr->E
 |[o],[b]=>if b7 b then .cmp o (f a) (f b) else .au
 |_,_=>.au
noncomputable def Jo (e:E):UnaryOp->E
 |.USub=>.neg e
 |.Not=>.not e
 |_=>.au
noncomputable def Jp (es:List E):BoolOp->E
 |.And=>eR .and es
 |.Or=>eR .or es
noncomputable def sQ (ns:List Str) (sc:Scope) (f:Expr->E) (es:List Expr) (pos:Pos):Expr->E
  | .Name x _=>match sJ sc x es with
    |some a=>.sset (f a)
    |none=>match sL sc x es with
     |some a=>.sx (f a)
     |none=>match sM sc x es with
      |some a=>.oE (f a)
      |none=>if lR x && a6 es then (if oK sc x then (if es.isEmpty then .au else .app (oM m ns sc x) (L.of (es.map f))) else sF m ns sc x (L.of (es.map f)) (!es.isEmpty)) else .au
  |.Attribute o y q=>if (q.endLine == pos.line) && !PL.fq o && a6 es && decide (es.length<29) then sG m y (f o) (L.of (es.map f)) else .au
  |.Subscript a b q=>if a6 es && !es.isEmpty then .app (f (.Subscript a b q)) (L.of (es.map f)) else .au
  |_=>.au
noncomputable def Jq (e:E):List Keyword->E
 |[]=>e
 |_=>.au
noncomputable def bU (sc:Scope) (f:Expr->E) (tg:Expr):Expr->I
 |.Call (.Name g p) [a] [] q=>if aW sc g && b7 a then (if g="range" then I.oF (f a) else if g="reversed" then .oG (f a) else .seq (f (.Call (.Name g p) [a] [] q))) else .seq (f (.Call (.Name g p) [a] [] q))
 |.Call (.Name g p) [a,b] [] q=>if aW sc g && b7 a && b7 b then (if g="zip"/\lS tg=true then .zip (f a) (f b) else .seq (f (.Call (.Name g p) [a,b] [] q))) else .seq (f (.Call (.Name g p) [a,b] [] q))
 |.Call (.Attribute o y q) [] [] p=>if y="items"/\lS tg=true/\PL.fq o=false/\(q.endLine == p.line)=true then .y8 (f o) else .seq (f (.Call (.Attribute o y q) [] [] p))
 |e=>.seq (f e)
noncomputable def dU (ns:List Str) (scope:Scope) (tg:Expr):List Str:=(iY tg).map (·.1)++(iZ ns scope.names).map (·.1)
noncomputable def zd (ns:List Str) (sc:Scope) (f:List Str->Scope->Expr->E) (ap:Expr) (scope:Scope) (tg iter:Expr) (a2:List Expr):E:=
 match gU (dU ns scope tg) (oL (fA sc scope)) tg with
 | some g=>if nQ sc ns scope (iZ ns scope.names) && g.lt ((iY tg).map (·.1)).length && decide (dU ns scope tg).Nodup && b7 iter then (match a2 with
   |[]=>.lc ((iY tg).map (·.1)).length ((iZ ns scope.names).map (·.2)) g (bU sc (f ns sc) tg iter) .au (f (dU ns scope tg) (fA sc scope) ap)
   |[c]=>if j8 (f (dU ns scope tg) (fA sc scope) c) then .au else .lc ((iY tg).map (·.1)).length ((iZ ns scope.names).map (·.2)) g (bU sc (f ns sc) tg iter) (f (dU ns scope tg) (fA sc scope) c) (f (dU ns scope tg) (fA sc scope) ap)
   |_=>.au) else .au
 |none=>.au
noncomputable def sR (ns:List Str) (sc:Scope) (f:List Str->Scope->Expr->E) (ap:Expr) (scope:Scope):List Comprehension->E
 |[⟨tg,iter,a2,0⟩]=>zd ns sc f ap scope tg iter a2
 |_=>.au
noncomputable def sS (f:Expr->E) (ks:List (Option Expr)) (vs:List Expr):E:=
 if ks.isEmpty && vs.isEmpty then .j6 else if ks.all (·.isSome) && decide (ks.length=vs.length) && decide (ks.length<=15) && !ks.isEmpty then .sv (L.of (ks.map λk=>match k with |some k=>f k |none=>.au)) (L.of (vs.map f)) else .au
noncomputable def aQ:Nat->List Str->Scope->Expr->E
 | 0,_,_,_=>.au
 |n+1,ns,sc,e=>match e with
  |.Name x _=>oM m ns sc x
  |.Constant c _ _=>sH c
  |.Tuple es _ _=>if a6 es then .tup (L.of (es.map (aQ n ns sc))) else .au
  |.List es _=>if a6 es then .lst (L.of (es.map (aQ n ns sc))) else .au
  |.BinOp a o b _=>.op o (aQ n ns sc a) (aQ n ns sc b)
  |.Compare a os bs _=>sP (aQ n ns sc) a os bs
  |.UnaryOp o a _=>Jo (aQ n ns sc a) o
  |.BoolOp o vs _=>Jp (vs.map (aQ n ns sc)) o
  |.IfExp c a b _=>.ite (aQ n ns sc c) (aQ n ns sc a) (aQ n ns sc b)
  |.Subscript a b _=>sN (aQ n ns sc) a b
  |.Call g es sn p=>Jq (sQ m ns sc (aQ n ns sc) es p g) sn
  |.Attribute o f _=>if !PL.fq o then .fld (aQ n ns sc o) f else .au
  |.ListComp ap gs scope _=>sR ns sc (aQ n) ap scope gs
  |.Dict ks vs _=>sS (aQ n ns sc) ks vs
  |_=>.au
end N
end
section
set_option maxHeartbeats 1000000
namespace N
open PySem PySem.Spec PyProof.Rows L2
theorem ze {x:Str}:∀{l:List Str}{i j:Nat},dA x l i=some j->∃k,j=i+k/\l[k]?=some x
 |[],_,_,h=>by cases h
 |y::r,i,j,h=>by
  unfold dA at h;split at h
  ·rename_i e;cases h;exact⟨0,rfl,by rw[e];rfl⟩
  ·obtain⟨k,e,q⟩:=ze h;exact⟨k+1,by lia,q⟩
theorem gV {x:Str}{l:List Str}{j:Nat} (h:dA x l 0=some j):l[j]?=some x:=by
 obtain⟨k,e,q⟩:=ze h;rw[e,Nat.zero_add];exact q
theorem Jr {sc:Scope}{x:Str} (h:oK sc x=true):jq sc x:=by
 unfold oK at h;unfold jq;split at h <;> first |(rename_i e;rw[e];first |exact .inl rfl |exact .inr (.inl rfl) |exact .inr (.inr rfl)) |cases h
theorem Js {sc:Scope}{x:Str} (h:aW sc x=true):sc.names.lookup x=some .globalImplicit:=by
 unfold aW at h;split at h <;> first |assumption |cases h
theorem oP {sc:Scope}{x:Str} (h:loc sc x=true):L2.ik sc x:=by
 unfold loc at h;unfold L2.ik;split at h <;> first |(rename_i e;rw[e];first |exact .inl rfl |exact .inr rfl) |cases h
theorem Jt {sc:Scope}{x:Str} (h:oL sc x=true):sc.names.lookup x=some .local:=by
 unfold oL at h;split at h <;> first |assumption |cases h
theorem gW {y:Str} (h:lR y=true):(y == ("__debug__" : Str))=false/\(y == ("__classdict__" : Str))=false:=by
 unfold lR at h;rw[Xy,Bool.not_eq_true',Bool.not_eq_true']at h;exact h
theorem lV {e : Expr} (h : b7 e = true) : bS e = true ∧ (∀ o, behindInMarks o e = false) ∧ (∀ o i, subscripted e false o i = operate [o, i] (getItem o i)) ∧ (∀ (env : Env) x, foldedSetIterable e env x = pure x) ∧ ∀ (o : Expr) (pos : Pos) (env : Env) v, assign (.Subscript o e pos) env v = (do
      let ov <- holding [v] (eval o env)
      let iv <- holding [v,ov] (eval e env)
      standAt pos
      holding [v,ov,iv] (setItem ov iv v)
      release [v,ov,iv] []):=by cases e <;> first |exact⟨rfl,λ_=>rfl,λ_ _=>rfl,λ_ _=>rfl,λ_ _ _ _=>rfl⟩ |cases h
theorem oQ {e:Expr} (h:b7 e=true):bS e=true:=(lV h).1
theorem zg {e:Expr}{o:CmpOp} (h:b7 e=true):behindInMarks o e=false:=(lV h).2.1 o
theorem Ju {e:Expr} (h:b7 e=true):∀o i,subscripted e false o i=operate [o,i] (getItem o i):=(lV h).2.2.1
theorem sT {e:Expr}{env:Env} (h:b7 e=true):∀x,foldedSetIterable e env x=pure x:=(lV h).2.2.2.1 env
theorem Jv {o i : Expr} {pos : Pos} {env : Env} (h : b7 i = true) : ∀ v, assign (.Subscript o i pos) env v = (do
      let ov <- holding [v] (eval o env)
      let iv <- holding [v,ov] (eval i env)
      standAt pos
      holding [v,ov,iv] (setItem ov iv v)
      release [v,ov,iv] []):=(lV h).2.2.2.2 o pos env
theorem lW {e:Expr}{t:Option Expr}{n:Nat}{env:Env} (h:eQ e=false):swapsWith e t n env=pure false:=by cases e <;> first |rfl |cases h
theorem Jw {t v:Expr}{env:Env} (h:lS v=false):swappedStores [t] v env=pure none:=by
 cases t <;> first |rfl |(cases v <;> first |rfl |cases h)
noncomputable def i0:List Str:=["len","tuple","list","int","max","min","sum","dict","all","any","isinstance","sorted","set","bool","str","range","zip","enumerate","reversed"]
structure lX (m:Nm) (W:Wd) (k:Nat) (G:Gx):Prop where
 fn:∀i x,m.bT[i]?=some x->∃f fd ps,bf G k f fd ps (W.sp i)/\G.mg x=some (.ref f)/\PySem.W.keepIn G.K (.ref f)=true/\bE G.K fd ps []
 gv:∀i x,m.fy[i]?=some x->∃u,G.mg x=some u/\∀F:Fz,(∀b o,G.base.get? b=some o->F b=some (.dat o))->ab G F (W.gv.getD i .ai) u
 bl:∀x∈i0,G.mg x=none
 fl:∀C f,W.fl C f->cU G.K C/\d6 G.K C f
 cl:∀i x C sp,m.cls[i]?=some x->W.ci i=some (C,sp)->∃j f fd ps,j+1<=k/\Mk G.K C f/\bf G j f fd ps sp/\G.mg x=some (.ref C)/\bE G.K fd ps []
 mt:∀i x C sp,m.aj[i]?=some x->W.mt i=some (C,sp)->∃f fd ps,cU G.K C/\jE G.K C x f/\bf G k f fd ps sp/\bE G.K fd ps []
 ca:∀f sp,W.ca f sp->cJ G k f sp
structure bj (m:Nm) (W:Wd) (k:Nat) (ns:List Str) (sc:Scope) (X:Cx):Prop where
 hN:X.N=ns
 eK:X.env.scope=sc
 nd:ns.Nodup
 calm:X.calm=true
 room:bx k X.A
 en:lX m W k X.G
theorem fB {X:Cx}:dP X X0:=λ_ _ _ h=>h.elim
theorem gX {X:Cx}:eF X [] []:=λ_ _ _=>.nil
section
variable {m:Nm}{W:Wd}{k:Nat}{ns:List Str}{sc:Scope}{X:Cx}{x:Expr}{t:DE×DT}
theorem bj.sU (C:bj m W k ns sc X):X.A.units+110<cLine:=by have:=C.room.un;lia
theorem bj.u1 (C:bj m W k ns sc X):X.A.units+1<cLine:=by have:=C.room.un;lia
theorem bj.aW (C:bj m W k ns sc X) {y:Str} (h:aW sc y=true):Gl X y:=by
 show X.env.scope.names.lookup y=_;rw[C.eK];exact Js h
theorem bj.lc (C:bj m W k ns sc X) {scope:Scope}{N':List Str}{cl:List (Str×Addr)}{a:Addr} (nd:N'.Nodup):bj m W k N' (fA sc scope) (dw X scope N' cl a):=
 ⟨rfl,by rw[<- C.eK];rfl,nd,C.calm,C.room,C.en⟩
structure a3 (X:Cx) (x:Expr) (w:DE×DT):Prop where
 e:PE X x w.1
 t:PT X x w.2
 s:eQ x=true->∀(y:Str) (j:Nat) (py jR:Pos),iq X [j] [y]->swapsWith x (some (.Name y py)) jR.line X.env=pure true->PS X (.Assign [.Name y py] x jR) (kU w.1 (cb (.one j)))
theorem a3.val {d:DE} (h:PE X x d) (he:∀il,isTrue x X.env il=(do let v <- il;standAt x.pos;holding [v] (truthy v)):=by exact λ_=>rfl) (hl:eQ x=false:=by rfl):a3 X x (vl d):=⟨h,FW h he,λz=>by rw[hl]at z;cases z⟩
theorem a3.no {d:DE} (h:PE X x d) (hl:eQ x=false:=by rfl):a3 X x (d,cM):=⟨h,ql,λz=>by rw[hl]at z;cases z⟩
theorem a3.au:a3 X x (E.au.w W m.aj):=by
 refine⟨kT,ql,λ_ _ _ _ _ _ _=>?_⟩;exact fun τ z e R I h=>h.elim
theorem a3.dS {d:DE}{u:DT} (h:PE X x d) (h':PT X x u) (hl:eQ x=false:=by rfl):a3 X x (d,u):=⟨h,h',λz=>by rw[hl]at z;cases z⟩
theorem lY {o:Option Nat}{f:Nat->E}{e:E} (h1:∀i,o=some i->a3 X x ((f i).w W m.aj)) (h2:a3 X x (e.w W m.aj)):a3 X x ((j9 o f e).w W m.aj):=by
 cases o with
 |none=>exact h2
 |some i=>exact h1 i rfl
theorem i3 {f:Expr->E}:∀{es:List Expr},a6 es=true->(∀e∈es,PE X e ((f e).w W m.aj).1)->PA X es ((L.of (es.map f)).w W m.aj)
 |[],_,_=>by rw[YN,L.of,L.w];exact qj
 |e::es,h,g=>by
  have h':(bS e && a6 es)=true:=h;rw[Xy]at h';rw[XD,L.of,L.w];exact qk (g e XA) (i3 h'.2 λa ha=>g a (XB _ ha)) (bF h'.1)
theorem zh {f:Expr->E}{p:Pos}:∀{vs:List Expr},(∀e∈vs,a3 X e ((f e).w W m.aj))->PE X (.BoolOp .And vs p) ((eR .and (vs.map f)).w W m.aj).1/\PW X (.BoolOp .And vs p) ((eR .and (vs.map f)).w W m.aj).2
 |[],_=>⟨kT,vX⟩
 |[a],g=>⟨vU (g a XA).e,D0 (g a XA).t⟩
 |a::b::r,g=>by
  have i:=zh (p:=p) (vs:=b::r) λe he=>g e (XB _ he);have e:eR .and ((a::b::r).map f)=.and (f a) (eR .and ((b::r).map f)):=rfl;rw[e,E.w];exact⟨D5 (g a XA).e i.1,D2 (g a XA).t i.2⟩
theorem zi {f:Expr->E}{p:Pos}:∀{vs:List Expr},(∀e∈vs,a3 X e ((f e).w W m.aj))->PE X (.BoolOp .Or vs p) ((eR .or (vs.map f)).w W m.aj).1/\PW X (.BoolOp .Or vs p) ((eR .or (vs.map f)).w W m.aj).2
 |[],_=>⟨kT,vX⟩
 |[a],g=>⟨vU (g a XA).e,D1 (g a XA).t⟩
 |a::b::r,g=>by
  have i:=zi (p:=p) (vs:=b::r) λe he=>g e (XB _ he);have e:eR .or ((a::b::r).map f)=.or (f a) (eR .or ((b::r).map f)):=rfl;rw[e,E.w];exact⟨D6 (g a XA).e i.1,D3 (g a XA).t i.2⟩
theorem zj {u:DT} (h:PW X x u):PT X x u:=fun τ z Q R I q k=>h _ τ z Q R I q k
theorem zl (C:bj m W k ns sc X) {y:Str}{p:Pos}:a3 X (.Name y p) ((oM m ns sc y).w W m.aj):=by
 unfold oM;split
 ·rename_i ho;split
  ·rename_i hv;exact lY (λi hi=>by rw[E.w];exact .val (DR (by rw[C.hN];exact gV hi) (by rw[C.eK];exact Jr hv) (gW ho).1 (gW ho).2)) .au
  ·split
   ·rename_i hg;refine lY (λi hi=>?_) ?_
    ·obtain⟨u,h1,h2⟩:=C.en.gv i y (gV hi);rw[E.w];exact .val (DY (C.aW hg) h1 (gW ho).1 fun τ z I=>h2 z.F I.bs.b)
    ·have ty:∀{T:String},y∈i0->bootBuiltins y=some (.type T)->y≠"__name__"->a3 X (.Name y p) ((E.ty T).w W m.aj):=λh1 h2 h3=>(by rw[E.w];exact .val (HB (C.aW hg) (C.en.bl y h1) h2 h3 (gW ho).1));unfold zc;split
     ·rename_i e;subst e;exact ty (by decide) (by decide +kernel) (by decide)
     ·split
      ·rename_i e;subst e;exact ty (by decide) (by decide +kernel) (by decide)
      ·split
       ·rename_i e;subst e;exact ty (by decide) (by decide +kernel) (by decide)
       ·split
        ·rename_i e;subst e;exact ty (by decide) (by decide +kernel) (by decide)
        ·split
         ·rename_i e;subst e;exact ty (by decide) (by decide +kernel) (by decide)
         ·exact .au
   ·exact .au
 ·exact .au
theorem Jx {c:Const}{kk:Nat}{p:Pos}:a3 X (.Constant c kk p) ((sH c).w W m.aj):=by
 unfold sH;split
 ·rw[E.w];exact .val vT
 ·rw[E.w];exact .val DX
 ·rw[E.w];exact .val DV
 ·rw[E.w];exact .val DW
 ·exact .au
end
end N
end
section
set_option maxHeartbeats 1000000
namespace N
open PySem PySem.Spec PyProof.Rows L2
section
variable {m:Nm}{W:Wd}{k:Nat}{ns:List Str}{sc:Scope}{X:Cx}{x:Expr}
def Bi.nm:Bi->Str
 |.len=>"len" |.tuple=>"tuple" |.int=>"int" |.max=>"max" |.sum=>"sum" |.dict=>"dict" |.any=>"any" |.oB=>"isinstance" |.sorted=>"sorted"
def Mt.nm:Mt->Str
 |.append=>"append" |.pop=>"pop" |.extend=>"extend" |.get=>"get" |.update=>"update"
theorem Jy {y:Str}{b:Bi} (h:sC y=some b):y=b.nm:=by
 unfold sC at h
 repeat' split at h
 all_goals first |(cases h;assumption) |cases h
theorem Jz {y:Str}{b:Mt} (h:sD y=some b):y=b.nm:=by
 unfold sD at h
 repeat' split at h
 all_goals first |(cases h;assumption) |cases h
theorem JA (C:bj m W k ns sc X) {e:Expr}{es:List Expr}{p pos:Pos}{tA:DA} (hA:PA X (e::es) tA) (hs:a6 (e::es)=true):∀b:Bi,aW sc b.nm=true->PE X (.Call (.Name b.nm p) (e::es) [] pos) (Ul (za b) tA):=by
 have h':(bS e && a6 es)=true:=hs;rw[Xy]at h';have Un:∀{y:Str}{id:String}{r:QN},CB X (.builtin id) r->aW sc y=true->y∈i0->bootBuiltins y=some (.builtin id)->y≠"__name__"->(y == ("__debug__" : Str))=false->PE X (.Call (.Name y p) (e::es) [] pos) (Ul r tA):=
  λhc hg hb hv hn hd=>Gu hc (C.aW hg) (C.en.bl _ hb) hv hA hn hd (bF h'.1) (d7 h'.2)
 have Vi:∀{y:Str}{T:String}{r:QN},CB X (.type T) r->aW sc y=true->y∈i0->bootBuiltins y=some (.type T)->y≠"__name__"->(y == ("__debug__" : Str))=false->PE X (.Call (.Name y p) (e::es) [] pos) (Ul r tA):=
  λhc hg hb hv hn hd=>Gv hc (C.aW hg) (C.en.bl _ hb) hv hA hn hd (bF h'.1) (d7 h'.2)
 intro b hg;cases b with
 |len=>exact Un Gw hg (by decide) (by decide +kernel) (by decide) (by decide)
 |tuple=>exact Vi Gz hg (by decide) (by decide +kernel) (by decide) (by decide)
 |int=>exact Vi Gy hg (by decide) (by decide +kernel) (by decide) (by decide)
 |max=>exact Un (GA C.calm) hg (by decide) (by decide +kernel) (by decide) (by decide)
 |sum=>exact Un (GB C.calm) hg (by decide) (by decide +kernel) (by decide) (by decide)
 |dict=>exact Vi (Hi C.calm) hg (by decide) (by decide +kernel) (by decide) (by decide)
 |any=>exact Un (GG C.calm) hg (by decide) (by decide +kernel) (by decide) (by decide)
 |oB=>exact Un HD hg (by decide) (by decide +kernel) (by decide) (by decide)
 |sorted=>exact Un (HE C.calm) hg (by decide) (by decide +kernel) (by decide) (by decide)
theorem JB {o:Expr}{es:List Expr}{q p:Pos}{to:DE}{tA:DA} (ho:PE X o to) (hA:PA X es tA) (h0:es=[]->tA=ez) (hs:a6 es=true) (hl:es.length<29) (hb:PL.fq o=false) (bm:(q.endLine == p.line)=true):∀b:Mt,PE X (.Call (.Attribute o b.nm q) es [] p) (lB b.ty (zb b) to tA):=by
 have go:∀{T id:String}{y:Str}{r:QM},PlainAttrs T->Slot T y id->typeOf (.builtin id)=pure (.type "method_descriptor")->OM X id r->PE X (.Call (.Attribute o y q) es [] p) (lB T r to tA):=λpa sl ty hm=>by
  cases es with
  |nil=>cases h0 rfl;exact GJ pa sl ty hm ho (PL.jH hb) bm
  |cons e es=>
   have h':(bS e && a6 es)=true:=hs;rw[Xy]at h';exact GK pa sl ty hm ho hA (PL.jH hb) (w6 hs hl) bm (bF h'.1) (d7 h'.2)
 intro b;cases b with
 |append=>exact go PySem.F.plainAttrs_list PySem.F.slot_list_append PySem.F.type_list_append GO
 |pop=>exact go PySem.F.plainAttrs_list PySem.F.slot_list_pop PySem.F.type_list_pop GP
 |extend=>exact go PySem.F.plainAttrs_list PySem.F.slot_list_extend PySem.F.type_list_extend Hj
 |get=>exact go PySem.F.plainAttrs_dict PySem.F.slot_dict_get PySem.F.type_dict_get GS
 |update=>exact go PySem.F.plainAttrs_dict PySem.F.slot_dict_update PySem.F.type_dict_update IM
theorem JC (C:bj m W k ns sc X) {y:Str}{es:List Expr}{p pos:Pos}{f:Expr->E} (ho:lR y=true) (hs:a6 es=true) (g:∀ e∈es,PE X e ((f e).w W m.aj).1) :
  a3 X (.Call (.Name y p) es [] pos) ((sF m ns sc y (L.of (es.map f)) (!es.isEmpty)).w W m.aj):=by
 have hA:=i3 hs g;unfold sF;split
 ·rename_i hg;refine lY (λi hi=>?_) (lY (λi hi=>?_) ?_)
  ·obtain⟨fa,fd,ps,g1,g2,g3,g4⟩:=C.en.fn i y (gV hi);rw[E.w];refine .val ?_;cases es with
   |nil=>exact F4 g1 C.room (C.aW hg) g2 g3 g4 gX fB (gW ho).1
   |cons e es=>
    have h':(bS e && a6 es)=true:=hs;rw[Xy]at h';exact F3 g1 C.room (C.aW hg) g2 g3 g4 gX fB hA (gW ho).1 (bF h'.1) (d7 h'.2)
  ·rw[E.w];refine .no ?_;cases hc:W.ci i with
   |none=>exact kT
   |some cs=>
    obtain⟨Ca,sp⟩:=cs;obtain⟨j,fa,fd,ps,g0,g1,g2,g3,g4⟩:=C.en.cl i y Ca sp (gV hi) hc;cases es with
    |nil=>exact Gg g1 g2 (C.room.mono g0) (C.aW hg) g3 g4 gX fB (gW ho).1
    |cons e es=>
     have h':(bS e && a6 es)=true:=hs;rw[Xy]at h';exact Gf g1 g2 (C.room.mono g0) (C.aW hg) g3 g4 gX fB hA (gW ho).1 (bF h'.1) (d7 h'.2)
  ·split
   ·rename_i b hb;split
    ·cases es with
     |nil=>contradiction
     |cons e es=>
      cases Jy hb;rw[E.w];exact .val (JA C hA hs b hg)
    ·exact .au
   ·exact .au
 ·exact .au
theorem zm {o : Expr} {es : List Expr} {y : Str} {q pos : Pos} {env : Env} (hb : PL.fq o = false) (hs : a6 es = true) (hl : es.length < 29) (bm : (q.endLine == pos.line) = true) : eval (.Call (.Attribute o y q) es [] pos) env = (do
      let ov <- eval o env
      standAt q.atName
      let (f,first) <- holding [ov] (getMethod ov y (do return (<- importBound o env).getD true))
      callWith pos f first (backTo pos (starEach es env)) (backToKw pos (keywordEach [] env))):=by
  have e1:eval (.Call (.Attribute o y q) es [] pos) env=(do
    let ov <- attributeBase o y env (eval o env)
    standAt q.atName
    methodCall o y q pos env ov (es.length+([]:List Keyword).length) (backTo pos (starEach es env)) (backToKw pos (keywordEach [] env))):=rfl
  rw[e1,PL.jH hb];have e2:methodCallForm (es.length+([]:List Keyword).length) (backTo pos (starEach es env)) (backToKw pos (keywordEach [] env))=true:=w6 (env:=env) (cpos:=pos) hs hl;unfold methodCall;rw[e2];unfold calleeOf methodCallPos;rw[bm];rfl
theorem JD (C:bj m W k ns sc X) {y:Str}{o:Expr}{Um:E}{es:List Expr}{q pos:Pos}{f:Expr->E} (ho:PE X o (Um.w W m.aj).1) (hb:PL.fq o=false) (bm:(q.endLine == pos.line)=true) (hl:es.length<29) (hs:a6 es=true) (g:∀ e∈es,PE X e ((f e).w W m.aj).1) :
  a3 X (.Call (.Attribute o y q) es [] pos) ((sG m y Um (L.of (es.map f))).w W m.aj):=by
 have hA:=i3 hs g;unfold sG;refine lY (λi hi=>?_) ?_
 ·rw[E.w];refine .val ?_;cases hc:W.mt i with
  |none=>exact kT
  |some cs=>
   obtain⟨Ca,sp⟩:=cs;have hy:=gV hi;obtain⟨fa,fd,ps,g1,g2,g3,g4⟩:=C.en.mt i y Ca sp hy hc;have e:m.aj.getD i ""=y:=(by rw[XW,hy];rfl);show PE X _ (lu Ca (m.aj.getD i "") sp [] X0 _ _);rw[e];cases es with
   |nil=>exact Ge ho g1 g2 g3 C.room g4 gX fB (zm hb hs hl bm)
   |cons e es=>
    have h':(bS e && a6 es)=true:=hs;rw[Xy]at h';exact Gb ho g1 g2 g3 C.room g4 gX fB hA (bF h'.1) (d7 h'.2) (zm hb hs hl bm)
 ·split
  ·rename_i b om;cases Jz om;rw[E.w];exact .val (JB ho hA (λz=>by subst z;rfl) hs hl hb bm b)
  ·exact .au
end
end N
end
section
set_option maxHeartbeats 2000000
namespace N
open PySem PySem.Spec PyProof.Rows L2
section
variable {m:Nm}{W:Wd}{k:Nat}{ns:List Str}{sc:Scope}{X:Cx}{x:Expr}
theorem JE {e:Expr}{q:Str×Pos} (h:lT e=some q):e=.Name q.1 q.2:=by
 cases e
 case Name x p=>cases h;rfl
 all_goals cases h
theorem zo:∀{es:List Expr}{l:List (Str×Pos)},lU es=some l->es=l.map λq=>.Name q.1 q.2
 |[],l,h=>by cases h;rfl
 |e::r,l,h=>by
  obtain⟨q,h1,h2⟩:=Option.bind_eq_some_iff.mp (show (lT e).bind _=some l from h);obtain⟨l',h3,rfl⟩:=Option.map_eq_some_iff.mp h2;rw[XD,<- zo h3,JE h1]
theorem sV (C:bj m W k ns sc X) {ok:Str->Bool} (hok:∀y,ok y=true->L2.ik X.env.scope y/\(X.fn y=true\/X.env.scope.names.lookup y=some .local)) {e:Expr}{g:G} (h:gU ns ok e=some g):PG X e (cb g):=by
 have nd:X.N.Nodup:=by rw[C.hN];exact C.nd
 unfold gU at h;split at h
 ·rename_i x p;split at h
  ·rename_i ho;obtain⟨i,h1,rfl⟩:=Option.map_eq_some_iff.mp h;refine vY ⟨nd,λWA y hy=>?_⟩;cases List.mem_singleton.mp hy;exact⟨by rw[C.hN];exact gV h1,hok x ho⟩
  ·cases h
 ·rename_i es kk p;cases hn:lU es with
  |none=>rw[hn]at h;cases h
  |some l=>
   rw[hn]at h;have h:sE ns ok l=some g:=h;unfold sE at h;split at h
   ·rename_i ha;cases h;rw[zo hn];refine Em C.calm ⟨nd,λi y hy=>?_⟩ (by rw[Xr]);rw[List.zip_map',List.mem_map]at hy;obtain⟨q,hq,e⟩:=hy;cases e;have hb:=List.all_eq_true.mp ha q hq;rw[Xy]at hb;obtain⟨i,hi⟩:=Option.isSome_iff_exists.mp hb.2;rw[hi];exact⟨by rw[C.hN];exact gV hi,hok q.1 hb.1⟩
   ·cases h
 ·cases h
theorem iP.of {scope:Scope}{Nt:List Str}{fr:List (Str×Nat)} (h1:X.env.scope=sc) (h2:X.N=ns) (h:nQ sc ns scope fr=true):iP X scope Nt fr:=by
 unfold nQ at h;simp only[Xy,List.all_eq_true,decide_eq_true_eq]at h;obtain⟨⟨⟨⟨TY,TV⟩,TZ⟩,T1⟩,Uh⟩:=h;refine⟨eq_of_beq TY,TV,TZ,λy hy hf=>?_,λp hp=>?_⟩
 ·show X.env.scope.names.lookup y.1=some .cell;rw[h1];exact T1 y hy hf
 ·rw[h2];exact Uh p hp
theorem zp {e:Expr} (h:lS e=true):∃a b c,e=.Tuple a b c:=by cases e <;> first |exact⟨_,_,_,rfl⟩ |cases h
theorem sW {n:Nat} (C:bj m W k ns sc X) (ih:∀x,a3 X x ((aQ m n ns sc x).w W m.aj)) {tg e:Expr}:PI X tg e ((bU sc (aQ m n ns sc) tg e).w W m.aj):=by
 have sq:PI X tg e ((I.seq (aQ m n ns sc e)).w W m.aj):=by rw[I.w];exact IX (ih e).e
 have bl:∀y∈i0,X.G.mg y=none:=C.en.bl;have s1:∀{a:Expr},b7 a=true->starEach [a] X.env=[(false,eval a X.env)]:=λh=>by rw[bF (oQ h)];rfl
 unfold bU;split
 ·rename_i f p a q;split
  ·rename_i h;rw[Xy]at h;split
   ·rename_i e;subst e;rw[I.w];exact Ey (C.aW h.1) (bl _ (by decide)) (ih a).e (s1 h.2)
   ·split
    ·rename_i e;subst e;rw[I.w];exact EM (C.aW h.1) (bl _ (by decide)) (ih a).e (s1 h.2)
    ·exact sq
  ·exact sq
 ·rename_i f p a b q;split
  ·rename_i h;rw[Xy,Xy]at h;obtain⟨⟨h1,h2⟩,h3⟩:=h;have s2:starEach [a,b] X.env=[(false,eval a X.env),(false,eval b X.env)]:=(by rw[bF (oQ h2),s1 h3]);split
   ·rename_i e;obtain⟨rfl,ht⟩:=e;obtain⟨_,_,_,rfl⟩:=zp ht;rw[I.w];exact EJ (C.aW h1) (bl _ (by decide)) (ih a).e (ih b).e s2 (s1 h3)
   ·exact sq
  ·exact sq
 ·rename_i o y q p;split
  ·rename_i c;obtain⟨rfl,ht,hb,bm⟩:=c;obtain⟨_,_,_,rfl⟩:=zp ht;rw[I.w];exact IY (ih o).e (PL.jH hb) bm
  ·exact sq
 ·exact sq
theorem zq {n:Nat} (C:bj m W k ns sc X) (ih:∀ x,a3 X x ((aQ m n ns sc x).w W m.aj)) {tg iter ap:Expr}{a2:List Expr}{scope:Scope}{pos:Pos}{g:G}{Ui UP:E} (hg:gU (dU ns scope tg) (oL (fA sc scope)) tg=some g)
  (h1:nQ sc ns scope (iZ ns scope.names)=true) (h2:g.lt ((iY tg).map (·.1)).length=true) (h3:(dU ns scope tg).Nodup) (h4:b7 iter=true)
  (hc:∀{X':Cx},bj m W k (dU ns scope tg) (fA sc scope) X'->PF X' a2 (Vh Ui (Ui.w W m.aj).2)) (he:∀{X':Cx},bj m W k (dU ns scope tg) (fA sc scope) X'->PE X' ap (UP.w W m.aj).1) :
  a3 X (.ListComp ap [⟨tg,iter,a2,0⟩] scope pos) ((E.lc ((iY tg).map (·.1)).length ((iZ ns scope.names).map (·.2)) g (bU sc (aQ m n ns sc) tg iter) Ui UP).w W m.aj):=by
 have L1:iP X scope ((iY tg).map (·.1)) (iZ ns scope.names):=.of C.eK C.hN h1;have C':∀cl a,bj m W k (dU ns scope tg) (fA sc scope) (dw X scope (dU ns scope tg) cl a):=λcl a=>C.lc h3;have og:∀cl a,PG (dw X scope (dU ns scope tg) cl a) tg (cb g):=λcl a=>sV (C' cl a) (λy hy=>by
  have hl:=Jt hy;rw[(C' cl a).eK];exact⟨.inl hl,.inr hl⟩) hg
 rw[E.w,<- Jm];exact⟨Hy L1 C.calm (sW C ih) og h2 (λcl a=>hc (C' cl a)) (λcl a=>he (C' cl a)) (sT h4),ql,
  λ_ y j py jR hN rN=>Hz L1 C.calm hN (sW C ih) og h2 (λcl a=>hc (C' cl a)) (λcl a=>he (C' cl a)) (sT h4) rN⟩
theorem zr {f:Expr->E}{pos:Pos}:∀ {ks:List (Option Expr)}{vs:List Expr},ks.all (·.isSome)=true->ks.length=vs.length->(∀ e,PE X e ((f e).w W m.aj).1) ->
  PP X pos ks vs (((L.of (ks.map λk=>match k with |some k=>f k |none=>.au)).wl W m.aj).zip ((L.of (vs.map f)).wl W m.aj))
 |[],[],_,_,_=>by simp only[YN,L.of,L.wl,List.zip_nil_left];exact Hc
 |[],v::vs,_,h,_=>by cases h
 |none::ks,vs,h,_,_=>by cases h
 |some k::ks,[],_,h,_=>by cases h
 |some k::ks,v::vs,h,hl,g=>by
  simp only[XD,L.of,L.wl,YM];exact Hd (g k) (g v) (zr (by simpa using h) (by simpa using hl) g)
end
end N
end
section
namespace N
open PySem PySem.Spec PyProof.Rows L2
section
variable {m:Nm}{W:Wd}{k:Nat}
theorem zt {X:Cx}{o:Option Expr}{f:Expr->E} (h:oO o f=true) (g:∀e,PE X e ((f e).w W m.aj).1):PO X o (oW (oN o f) ((oN o f).w W m.aj).1):=by
 cases o with
 |none=>exact Gh
 |some x=>
  have h:j8 (f x)=false:=by simpa [oO] using h
  show PO X (some x) (oW (f x) ((f x).w W m.aj).1);unfold oW;rw[h];exact Gi (g x)
theorem JF {a b:Expr}{q pos:Pos}{es:List Expr}{env:Env}:eval (.Call (.Subscript a b q) es [] pos) env=(do callWith pos (<- eval (.Subscript a b q) env) [] (backTo pos (starEach es env)) (backToKw pos (keywordEach [] env))):=rfl
theorem JG {X:Cx}{fl:Addr->Str->Prop}{f:Str} (hf:∀C,fl C f->cU X.G.K C/\d6 X.G.K C f) {x:D}{M:Mp}{q:QK} (h:oJ fl f x M q):qS X.G.K f x M q:=by
 unfold oJ cC at h;unfold qS cC;split at h
 ·obtain⟨C,dx,fs,e,d,h1,h2⟩:=h;exact⟨C,dx,fs,e,d,hf C h1,h2⟩
 ·exact h.elim
theorem JH {X:Cx}{fl:Addr->Str->Prop}{f:Str}{e:Expr}{to:DE}{pos:Pos} (hf:∀C,fl C f->cU X.G.K C/\d6 X.G.K C f) (he:PE X e to) (hb:attributeBase e f X.env (eval e X.env)=eval e X.env):PE X (.Attribute e f pos) (jx (oJ fl f) to):=fun τ z Q R I h k=>
 Fj hb (he τ z _ _ I h λd z1 u l1 I1 r1 q1=>F9 τ z1 Q R d u I1 r1 (JG hf q1) λd z2 u l2=>k d z2 u (l1.tr l2))
theorem JI {sc:Scope}{x:Str}{es:List Expr}{a:Expr} (h:sJ sc x es=some a):∃p q,x="sorted"/\es=[.Call (.Name "set" p) [a] [] q]/\aW sc "sorted"=true/\aW sc "set"=true/\b7 a=true:=by
 unfold sJ at h;split at h
 ·rename_i g p b q;split at h
  ·rename_i c;obtain⟨rfl,rfl,h1,h2,h3⟩:=c;cases h;exact⟨p,q,rfl,rfl,h1,h2,h3⟩
  ·cases h
 ·cases h
theorem JJ {sc:Scope}{x:Str}{es:List Expr}{a:Expr} (h:sL sc x es=some a):∃p q,x="list"/\es=[.Call (.Name "enumerate" p) [a] [] q]/\aW sc "list"=true/\aW sc "enumerate"=true/\b7 a=true:=by
 unfold sL at h;split at h
 ·rename_i g p b q;split at h
  ·rename_i c;obtain⟨rfl,rfl,h1,h2,h3⟩:=c;cases h;exact⟨p,q,rfl,rfl,h1,h2,h3⟩
  ·cases h
 ·cases h
theorem JK {sc:Scope}{x:Str}{es:List Expr}{a:Expr} (h:sM sc x es=some a):∃p q,x="sorted"/\es=[.Call (.Attribute a "items" q) [] [] p]/\aW sc "sorted"=true/\PL.fq a=false/\(q.endLine == p.line)=true:=by
 unfold sM at h;split at h
 ·rename_i o y q p;split at h
  ·rename_i c;obtain⟨rfl,rfl,h1,h2,h3⟩:=c;cases h;exact⟨p,q,rfl,rfl,h1,h2,h3⟩
  ·cases h
 ·cases h
section
variable {ns:List Str}{sc:Scope}{X:Cx}{f:Expr->E}
theorem JL (ih:∀x,a3 X x ((f x).w W m.aj)) {a b:Expr}{pos:Pos}:a3 X (.Subscript a b pos) ((sN f a b).w W m.aj):=by
 unfold sN;split
 ·rw[E.w];exact .no (Gm (ih _).e λ_ _=>by with_unfolding_all rfl)
 ·split
  ·rename_i h;rw[Xy]at h;rw[E.w];exact .no (Gk (ih _).e (zt h.1 λe=>(ih e).e) (zt h.2 λe=>(ih e).e) λ_ _=>by with_unfolding_all rfl)
  ·exact .au
 ·split
  ·rename_i h;rw[E.w];exact .val (FX (ih _).e (ih _).e (Ju h))
  ·exact .au
theorem JM (C:bj m W k ns sc X) (ih:∀x,a3 X x ((f x).w W m.aj)) {a:Expr}{os:List CmpOp}{bs:List Expr}{pos:Pos}:a3 X (.Compare a os bs pos) ((sP f a os bs).w W m.aj):=by
 unfold sP;split
 ·split
  ·rename_i h;rw[E.w];exact .dS (FP (xq C.sU _) (ih _).e (ih _).e (zg h)) (FQ (xq C.sU _) (ih _).e (ih _).e (zg h))
  ·exact .au
 ·exact .au
theorem JN (C:bj m W k ns sc X) (ih:∀x,a3 X x ((f x).w W m.aj)) {g:Expr}{es:List Expr}{pos:Pos}:a3 X (.Call g es [] pos) ((sQ m ns sc f es pos g).w W m.aj):=by
 have hA:a6 es=true->PA X es ((L.of (es.map f)).w W m.aj):=λh=>i3 h λe _=>(ih e).e;unfold sQ;split
 ·split
  ·rename_i a ha;obtain⟨p,q,rfl,rfl,h1,h2,h3⟩:=JI ha;rw[E.w];exact .no (Ij C.calm (C.aW h1) (C.en.bl _ (by decide)) (C.aW h2) (C.en.bl _ (by decide)) (ih a).e (oQ h3))
  ·split
   ·rename_i a ha;obtain⟨p,q,rfl,rfl,h1,h2,h3⟩:=JJ ha;rw[E.w];exact .no (IK C.calm (C.aW h1) (C.en.bl _ (by decide)) (C.aW h2) (C.en.bl _ (by decide)) (ih a).e (oQ h3))
   split
   ·rename_i a ha;obtain⟨p,q,rfl,rfl,h1,h2,h3⟩:=JK ha;rw[E.w];exact .no (Jd C.calm C.sU (C.aW h1) (C.en.bl _ (by decide)) (ih a).e (PL.jH h2) h3)
   split
   ·rename_i h;rw[Xy]at h;split
    ·split
     ·exact .au
     ·rename_i hn;rw[E.w];cases es with
      |nil=>exact absurd rfl hn
      |cons e es=>
       have h':(bS e && a6 es)=true:=h.2;rw[Xy]at h';exact .val (yg C.en.ca C.room fB (zl C).e (hA h.2) (bF h'.1) (d7 h'.2) rfl)
    ·exact JC C h.1 h.2 λe _=>(ih e).e
   ·exact .au
 ·split
  ·rename_i h;rw[Xy,Xy,Xy]at h;obtain⟨⟨⟨h1,h2⟩,h3⟩,h4⟩:=h;exact JD C (ih _).e (by simpa using h2) h1 (of_decide_eq_true h4) h3 λe _=>(ih e).e
  ·exact .au
 ·split
  ·rename_i h;rw[Xy]at h;rw[E.w];cases es with
   |nil=>exact absurd h.2 (by decide)
   |cons e es=>
    have h':(bS e && a6 es)=true:=h.1;rw[Xy]at h';exact .val (yg C.en.ca C.room fB (ih _).e (hA h.1) (bF h'.1) (d7 h'.2) JF)
  ·exact .au
 ·exact .au
theorem JO (ih:∀x,a3 X x ((f x).w W m.aj)) {ks:List (Option Expr)}{vs:List Expr}{pos:Pos}:a3 X (.Dict ks vs pos) ((sS f ks vs).w W m.aj):=by
 unfold sS;split
 ·rename_i h;rw[Xy,List.isEmpty_iff,List.isEmpty_iff]at h;obtain⟨rfl,rfl⟩:=h;rw[E.w];exact .no Hb
 ·split
  ·rename_i h;rw[Xy,Xy,Xy]at h;obtain⟨⟨⟨h1,h2⟩,h3⟩,h4⟩:=h;rw[E.w];exact .no (He (zr h1 (of_decide_eq_true h2) λe=>(ih e).e) h1 (of_decide_eq_true h2) (by rintro rfl;cases h4) (of_decide_eq_true h3))
  ·exact .au
end
theorem JP {n:Nat}{ns:List Str}{sc:Scope}{X:Cx} (C:bj m W k ns sc X) (ih:∀{ns:List Str}{sc:Scope}{X:Cx},bj m W k ns sc X->∀x,a3 X x ((aQ m n ns sc x).w W m.aj)) {ap:Expr}{gs:List Comprehension}{scope:Scope}{pos:Pos}:a3 X (.ListComp ap gs scope pos) ((sR ns sc (aQ m n) ap scope gs).w W m.aj):=by
 unfold sR;split
 ·unfold zd;split
  ·rename_i g hg;split
   ·rename_i h;rw[Xy,Xy,Xy]at h;obtain⟨⟨⟨h1,h2⟩,h3⟩,h4⟩:=h;split
    ·exact zq (n:=n) C (ih C) hg h1 h2 (of_decide_eq_true h3) h4 (λ_=>Hl) λC'=>(ih C' _).e
    ·split
     ·exact .au
     ·rename_i hn;exact zq (n:=n) C (ih C) hg h1 h2 (of_decide_eq_true h3) h4 (λC'=>by unfold Vh;rw[show j8 _=false by simpa using hn];exact Hm (ih C' _).t) λC'=>(ih C' _).e
    ·exact .au
   ·exact .au
  ·exact .au
 ·exact .au
theorem i4:∀(n:Nat) {ns:List Str}{sc:Scope}{X:Cx},bj m W k ns sc X->∀x,a3 X x ((aQ m n ns sc x).w W m.aj)
 | 0,ns,sc,X,C,x=>.au
 |n+1,ns,sc,X,C,x=>by
  have ih:∀x,a3 X x ((aQ m n ns sc x).w W m.aj):=i4 n C;have hA:∀{es:List Expr},a6 es=true->PA X es ((L.of (es.map (aQ m n ns sc))).w W m.aj):=λh=>i3 h λe _=>(ih e).e;cases x
  case Name y p=>exact zl C
  case Constant c kk p=>exact Jx
  case Tuple es kk p=>
   show a3 X _ ((if a6 es then E.tup (L.of (es.map (aQ m n ns sc))) else .au).w W m.aj)
   split
   ·rename_i h;rw[E.w];exact .val (D9 (hA h))
   ·exact .au
  case List es p=>
   show a3 X _ ((if a6 es then E.lst (L.of (es.map (aQ m n ns sc))) else .au).w W m.aj)
   split
   ·rename_i h;rw[E.w];exact .val (Ea (hA h))
   ·exact .au
  case BinOp a o b p=>exact .val (DZ (FN _) (ih _).e (ih _).e)
  case Compare a os bs p=>exact JM C ih
  case UnaryOp o a p=>
   cases o
   case USub=>exact .val (xG xH (ih _).e)
   case Not=>exact .dS (D7 (ih _).e) (D4 (ih _).t)
   all_goals exact .au
  case BoolOp o vs p=>
   cases o
   case And=>obtain⟨h1,h2⟩:=zh (p:=p) λe _=>ih e;exact .dS h1 (zj h2)
   case Or=>obtain⟨h1,h2⟩:=zi (p:=p) λe _=>ih e;exact .dS h1 (zj h2)
  case IfExp c a b p=>exact .no (D8 (ih _).t (ih _).e (ih _).e)
  case Subscript a b p=>exact JL ih
  case Call g es sn p=>
   cases sn with
   |nil=>exact JN C ih
   |cons _ _=>exact .au
  case Attribute o f p=>
   show a3 X _ ((if !PL.fq o then E.fld (aQ m n ns sc o) f else .au).w W m.aj)
   split
   ·rename_i h;rw[E.w];exact .val (JH (λC' z=>C.en.fl C' _ z) (ih _).e (PL.jH (by simpa using h)))
   ·exact .au
  case ListComp ap gs scope p=>exact JP C (i4 n)
  case Dict ks vs p=>exact JO ih
  all_goals exact .au
end
noncomputable def B.of:List S->B
 |[]=>.nil
 |s::r=>.cons s (B.of r)
noncomputable def lZ (o:Option G) (f:G->S):S:=match o with
 |some g=>f g
 |none=>.dead
noncomputable def sX (ns:List Str) (sc:Scope) (f:Expr->E) (v:Expr):List Expr->S
 |[.Name x p]=>lZ (gU ns (loc sc) (.Name x p)) λg=>.set g (f v)
 |[.Tuple es kk p]=>if !lS v && !eQ v then lZ (gU ns (loc sc) (.Tuple es kk p)) λg=>.set g (f v) else .dead
 |[.Subscript o i _]=>if b7 i && !eQ v then .put (f o) (f i) (f v) else .dead
 |[.Attribute o a _]=>if !eQ v then .oH (f o) a (f v) else .dead
 |_=>.dead
noncomputable def zu (s:S):List Stmt->S
 |[]=>s
 |_=>.dead
noncomputable def JQ (f:Expr->E):Option Expr->S
 |some v=>.ret (f v)
 |none=>.dead
noncomputable def sY (b:B) (hs:List ExceptHandler) (e f:List Stmt):S:=if hs.isEmpty || !e.isEmpty || !f.isEmpty then .dead else .cond (.c (.bl true)) b .nil
variable (m:Nm) in
noncomputable def gg:Nat->List Str->Scope->Stmt->S
 | 0,_,_,_=>.dead
 |n+1,ns,sc,s=>match s with
  |.Assign ts v _=>sX ns sc (aQ m n ns sc) v ts
  |.Return o _=>JQ (aQ m n ns sc) o
  |.Expr v _=>if !eQ v then .ex (aQ m n ns sc v) else .dead
  |.If c a b _=>.cond (aQ m n ns sc c) (B.of (a.map (gg n ns sc))) (B.of (b.map (gg n ns sc)))
  |.For t i b e _=>zu (if b7 i then lZ (gU ns (loc sc) t) λg=>.loop g (bU sc (aQ m n ns sc) t i) (B.of (b.map (gg n ns sc))) else .dead) e
  |.While c b e _=>zu (.j7 (aQ m n ns sc c) (B.of (b.map (gg n ns sc)))) e
  |.Try b hs e f _=>sY (B.of (b.map (gg n ns sc))) hs e f
  |.Pass _=>.pass
  |.Break _=>.brk
  |.Continue _=>.cnt
  |_=>.dead
section
variable {m:Nm}{W:Wd}{k:Nat}{ns:List Str}{sc:Scope}{X:Cx}
theorem sZ {st:Stmt}{o:Option G}{f:G->S} (h:∀g,o=some g->PS X st ((f g).w W m.aj)):PS X st ((lZ o f).w W m.aj):=by
 cases o with
 |none=>exact dN
 |some g=>exact h g rfl
theorem gY {f:Stmt->S} (g:∀s,PS X s ((f s).w W m.aj)):∀ss:List Stmt,d4 X ss ((B.of (ss.map f)).w W m.aj)
 |[]=>Eb
 |[s]=>vW (g s)
 |s::t::r=>Ec (g s) (gY g (t::r))
theorem JR {X:Cx}{fl:Addr->Str->Prop}{f:Str} (hf:∀C,fl C f->cU X.G.K C/\d6 X.G.K C f) {o d:D}{M:Mp}{q:Mp->Prop} (h:cC o M λa C dx fs=>fl C f/\fs.length<1000/\q (up M a (.ins C dx (fu f d fs)))):qT X.G.K f o d M q:=by
 unfold cC at h;unfold qT cC;split at h
 ·obtain⟨C,dx,fs,e,h1,h2⟩:=h;exact⟨C,dx,fs,e,hf C h1,h2⟩
 ·exact h.elim
theorem JS {fl:Addr->Str->Prop}{o value:Expr}{f:Str}{to tv:DE}{pos qV:Pos} (hf:∀C,fl C f->cU X.G.K C/\d6 X.G.K C f) (ho:PE X o to) (hv:PE X value tv) (hs:swapsWith value (some (.Attribute o f qV)) pos.line X.env=pure false):PS X (.Assign [.Attribute o f qV] value pos) (y' fl f to tv):=fun τ z e R I h k=>
 plainObj_wpAny_Assign_Attribute (hv τ z _ _ I h λd z1 u l1 I1 r1 q1=>ho τ z1 _ _ I1 q1 λod z2 ov l2 I2 r2 q2=>Ga I2 r2 (r1.up l2.d) (JR hf q2) λz3 e3 I3 q3=>k.nx τ z3 (by rw[e3];exact l1.tr l2) I3 q3) hs
theorem JT (C:bj m W k ns sc X) (hf:∀y,loc sc y=true->X.fn y=true\/X.env.scope.names.lookup y=some .local) {f:Expr->E} (ih:∀x,a3 X x ((f x).w W m.aj)) {ts:List Expr}{v:Expr}{q:Pos}:PS X (.Assign ts v q) ((sX ns sc f v ts).w W m.aj):=by
 have hok:∀y,loc sc y=true->L2.ik X.env.scope y/\(X.fn y=true\/X.env.scope.names.lookup y=some .local):=λy hy=>⟨by rw[C.eK];exact oP hy,hf y hy⟩;have nd:X.N.Nodup:=by rw[C.hN];exact C.nd
 unfold sX;split
 ·rename_i x p;refine sZ λg hg=>?_;rw[S.w];have hg:(if loc sc x then (dA x ns 0).map G.one else none)=some g:=hg
  split at hg
  ·rename_i hl;obtain⟨i,h1,rfl⟩:=Option.map_eq_some_iff.mp hg;have hN:iq X [i] [x]:=⟨nd,λWA y hy=>by
    cases List.mem_singleton.mp hy;exact⟨by rw[C.hN];exact gV h1,hok x hl⟩⟩
   cases hc:eQ v with
   |false=>exact wb hN (ih v).e (lW hc)
   |true=>
    have key:∃b:Bool,swapsWith v (some (.Name x p)) q.line X.env=pure b:=by
     cases v <;> first |exact⟨_,rfl⟩ |cases hc
    obtain⟨b,hb⟩:=key;cases b with
    |false=>exact wb hN (ih v).e hb
    |true=>exact (ih v).s hc x i p q hN hb
  ·cases hg
 ·split
  ·rename_i es kk p h;rw[Xy]at h;refine sZ λg hg=>?_;rw[S.w];exact v9 (ih v).e (sV C hok hg) (show swapsWith v (some (.Tuple es kk p)) q.line X.env=pure false from lW (by simpa using h.2)) (Jw (by simpa using h.1)) rfl
  ·exact dN
 ·split
  ·rename_i o i p h;rw[Xy]at h;rw[S.w];exact v9 (ih v).e (Eo (ih o).e (ih i).e (FY C.u1) (Jv h.1)) (show swapsWith v (some (.Subscript o i p)) q.line X.env=pure false from lW (by simpa using h.2)) rfl rfl
  ·exact dN
 ·split
  ·rename_i o a p h;rw[S.w];exact JS (λC' z=>C.en.fl C' _ z) (ih o).e (ih v).e (lW (by simpa using h))
  ·exact dN
 ·exact dN
theorem JU {body:List Stmt}{h₀:ExceptHandler}{hs:List ExceptHandler}{t:DS}{pos:Pos} (hb:d4 X body t):PS X (.Try body (h₀::hs) [] [] pos) t:=fun τ z e R I h k=>
 wpAny_Try_except (Zv (hb τ z e (λf s=>match f with |.next=>N.W X (execs [] X.env) R s |f=>R f s) I h ⟨fun τ1 z1 l I1 q=>wpAny_execs_nil (k.nx τ1 z1 l I1 q),k.rt,k.bk,k.ct⟩) (λ_ _ h=>h) λ_ _ h=>h.no.elim)
theorem JV {body:List Stmt}{hs:List ExceptHandler}{e f:List Stmt}{b:B}{pos:Pos} (hb:d4 X body (b.w W m.aj)):PS X (.Try body hs e f pos) ((sY b hs e f).w W m.aj):=by
 unfold sY;split
 ·exact dN
 ·rename_i c;cases hs with
  |nil=>exact absurd rfl c
  |cons h₀ hs=>cases e with
   |cons _ _=>exact absurd (by simp) c
   |nil=>cases f with
    |cons _ _=>exact absurd (by simp) c
    |nil=>
     intro τ z en R I h k;exact JU hb τ z en R I (by rw[S.w,E.w]at h;exact h) k
theorem s6 (C:bj m W k ns sc X) (hf:∀y,loc sc y=true->X.fn y=true\/X.env.scope.names.lookup y=some .local):∀(n:Nat) (s:Stmt),PS X s ((gg m n ns sc s).w W m.aj)
 | 0,s=>dN
 |n+1,s=>by
  have ih:∀x,a3 X x ((aQ m n ns sc x).w W m.aj):=i4 n C;have l0:∀s,PS X s ((gg m n ns sc s).w W m.aj):=s6 C hf n;cases s
  case Assign ts v q=>exact JT C hf ih
  case Return o p=>
   cases o with
   |none=>exact dN
   |some v=>exact Ei (ih _).e
  case Expr v p=>
   show PS X _ ((if !eQ v then S.ex (aQ m n ns sc v) else .dead).w W m.aj)
   split
   ·rename_i h;rw[S.w];exact Eh (ih _).e (lW (by simpa using h))
   ·exact dN
  case If c a b p=>exact Ej (ih _).t (gY l0 _) (gY l0 _)
  case For t i b e p=>
   cases e with
   |cons _ _=>exact dN
   |nil=>
    show PS X _ ((if b7 i then lZ (gU ns (loc sc) t) λg=>S.loop g (bU sc (aQ m n ns sc) t i) (B.of (b.map (gg m n ns sc))) else .dead).w W m.aj)
    split
    ·rename_i h;refine sZ λg hg=>?_;rw[S.w];exact IU (Er C.calm (sW C ih) (sV C (λy hy=>⟨by rw[C.eK];exact oP hy,hf y hy⟩) hg) (gY l0 _) (sT h))
    ·exact dN
  case While c b e p=>
   cases e with
   |cons _ _=>exact dN
   |nil=>exact Ep (ih _).t (gY l0 _)
  case Try b hs e f p=>exact JV (gY l0 _)
  case Pass p=>exact Ed
  case Break p=>exact Ee
  case Continue p=>exact Ef
  all_goals exact dN
end
noncomputable def aF (m:Nm) (n:Nat) (ns:List Str) (sc:Scope) (ss:List Stmt):B:=B.of (ss.map (gg m n ns sc))
end N
end
section
set_option maxHeartbeats 1000000
namespace N
open PySem PySem.Spec PyProof.Rows L2
def aZ (Q:QK):QK:=λd M=>∃K e,cx K M/\Fr M K d e/\Q e K
section
variable {G:Gx}{F:Fz}{M K:Mp}{h:Heap}
theorem CR.ret {z:Z}{Q:QK}{E:XQ}{r:Result}{s:Shared} (h:CR G z (aZ Q) E r s):CR G z Q E r s:=by
 cases r with
 |error e=>exact h
 |ok fl=>
  cases fl with
  |ret u=>
   obtain⟨d,z',l,rd,Km,e,sb,f,q⟩:=h;exact⟨e,⟨dc z'.F z'.M Km z'.s.heap,Km,z'.s⟩,⟨l.s,l.l.tr (eP l.ok),yR l.ok sb,l.os,l.bare⟩,f.rel l.ok rd,q⟩
  |next=>exact h
  |brk=>exact h
  |cont=>exact h
end
noncomputable abbrev a9 (Q:QK):En:={ nx:=λ_ M=>aZ Q .ai M,rt:=aZ Q }
theorem zv {G:Gx}{m:Nm}{W:Wd}{k n:Nat}{x qual:Str}{st:Stmt}{f:Addr}{fd:FuncData}{ns ps:List Str}{sp:Sp}{b:B} (F:c8 G.K x qual st f fd) (S:aB ns ps (ag st)) (En:lX m W k G) (hc:aF m n ns (ag st) (ax st)=b)
  (h:∀ds M Q E,sp ds M Q E->ds.length=ps.length/\b.w W m.aj (a9 Q) (start ns ds) M):bf G (k+1) f fd ps sp:=by
 obtain⟨oc,od,kV,doc,pm,TU,an,ct,ch,rfl,lk,dr⟩:=F.ex;have key:bf G (k+1) f (PySem.W.fnOf x qual (d8 st) (ax st) (ag st) .none kV doc pm TU an ct) ps λds M R E=>∃Q,R=aZ Q/\sp ds M Q E:=by
  refine qQ lk dr S (λds M R E ⟨Q,_,z⟩=>(h ds M Q E z).1) λA outer s M ds R E hr ⟨Q,e,z⟩=>?_;subst e;have C:bj m W k ns (ag st) (b6 G ns qual (ag st) f an A outer s E):=⟨rfl,rfl,S.nd,rfl,hr,En⟩;refine⟨_,gY (s6 C (λ_ _=>.inl rfl) n) _,?_⟩;have:=(h ds M Q E z).2;rw[<- hc]at this;exact this
 refine⟨λds M Q E z=>(h ds M Q E z).1,λA outer z args us ds Q E hr e0 hb r hs=>Y9 (key.eu A outer z args us ds (aZ Q) E hr e0 hb r ⟨Q,rfl,hs⟩) λr s q=>q.ret⟩
end N
end
section
set_option maxHeartbeats 1000000
namespace N
open PySem PySem.Spec PyProof.Rows L2
structure Ds where
 x:Str
 st:Stmt
 ps:List Str
def zw:Sp:=λ_ _ _ _=>False
def oR:List (Nat×Sp)->Nat->Sp
 |[],_=>zw
 |(j,sp)::r,i=>if i=j then sp else oR r i
structure l9 (G:Gx) (x:Str) (st:Stmt) (f:Addr) (fd:FuncData) (ps:List Str):Prop where
 fn:∃n,c8 G.K n n st f fd
 b:bE G.K fd ps []
 mg:G.mg x=some (.ref f)
theorem l9.kp {G:Gx}{x:Str}{st:Stmt}{f:Addr}{fd:FuncData}{ps:List Str} (d:l9 G x st f fd ps):PySem.W.keepIn G.K (.ref f)=true:=d.fn.elim λ_ h=>h.kp
structure Wo where
 G:Gx
 ds:List Ds
 fy:List Str
 gv:List D
 fl:Addr->Str->Prop
 cls:List Str
 ca:Nat->Addr
 ms:List Ds
 mc:Nat->Addr
def Wo.nm (w:Wo):Nm:=⟨w.ds.map (·.x),w.fy,w.cls,w.ms.map (·.x)⟩
structure s9 (K:PySem.W.Frag) (C:Addr) (d:Ds) (f:Addr) (fd:FuncData):Prop where
 fn:∃q:Str,c8 K d.x q d.st f fd
 b:bE K fd d.ps []
 m:jE K C d.x f
 c:cU K C
structure Wo.Ok (w:Wo):Prop where
 df:∀(i:Nat) (d:Ds),w.ds[i]?=some d->∃f fd,l9 w.G d.x d.st f fd d.ps
 gv:∀i x,w.fy[i]?=some x->∃u,w.G.mg x=some u/\∀F:Fz,(∀b o,w.G.base.get? b=some o->F b=some (.dat o))->ab w.G F (w.gv.getD i .ai) u
 bl:∀x∈i0,w.G.mg x=none
 fl:∀C f,w.fl C f->cU w.G.K C/\d6 w.G.K C f
 mt:∀(i:Nat) (d:Ds),w.ms[i]?=some d->∃f fd,s9 w.G.K (w.mc i) d f fd
 cl:∀(i:Nat) (x:Str),w.cls[i]?=some x->w.G.mg x=some (.ref (w.ca i))/\∀f,PySem.W.findIn w.G.K (.ref (w.ca i)) "__init__"=some (some (.ref f))->PySem.W.isFn w.G.K (.ref f)=true->Mk w.G.K (w.ca i) f
def FO (w:Wo) (i k:Nat) (sp:Sp):Prop:=∃d f fd,w.ds[i]?=some d/\l9 w.G d.x d.st f fd d.ps/\bf w.G k f fd d.ps sp
theorem FO.mono {w:Wo}{i j k:Nat}{sp:Sp} (h:FO w i j sp) (hk:j<=k):FO w i k sp:=let ⟨d,f,fd,a,b,c⟩:=h;⟨d,f,fd,a,b,c.mono hk⟩
theorem FO.imp {w:Wo}{i k:Nat}{sp lr:Sp} (h:FO w i k sp) (g:∀ds M Q E,lr ds M Q E->sp ds M Q E):FO w i k lr:=
 let ⟨d,f,fd,a,b,c⟩:=h
 ⟨d,f,fd,a,b,c.imp g⟩
theorem JW {G:Gx}{k:Nat}{f:Addr}{fd:FuncData}{ps:List Str}:bf G k f fd ps zw:=⟨λ_ _ _ _ h=>h.elim,λ_ _ _ _ _ _ _ _ _ _ _ _ h=>h.elim⟩
def tf (w:Wo) (k:Nat):List (Nat×Sp)->Prop
 |[]=>True
 |(i,sp)::r=>(∃j,j<=k/\FO w i j sp)/\tf w k r
theorem tj {w:Wo} (O:w.Ok) {k i:Nat}{d:Ds} (hd:w.ds[i]?=some d):∀{cs:List (Nat×Sp)},tf w k cs->FO w i k (oR cs i)
 |[],_=>let ⟨f,fd,h⟩:=O.df i d hd;⟨d,f,fd,hd,h,JW⟩
 |(j,sp)::r,h=>by
  unfold oR;by_cases e:i=j
  ·subst e;rw[if_pos rfl];obtain⟨⟨l,hl,h⟩,_⟩:=h;exact h.mono hl
  ·rw[if_neg e];exact tj O hd h.2
def de (w:Wo) (i k:Nat) (sp:Sp):Prop:=∃d f fd,w.ms[i]?=some d/\s9 w.G.K (w.mc i) d f fd/\bf w.G k f fd d.ps sp
theorem de.mono {w:Wo}{i j k:Nat}{sp:Sp} (h:de w i j sp) (hk:j<=k):de w i k sp:=let ⟨d,f,fd,a,b,c⟩:=h;⟨d,f,fd,a,b,c.mono hk⟩
noncomputable def gh:List (Nat×Sp)->Nat->Option Sp
 |[],_=>none
 |(j,sp)::r,i=>if i=j then some sp else gh r i
def tm (w:Wo) (k:Nat):List (Nat×Sp)->Prop
 |[]=>True
 |(i,sp)::r=>(∃j,j<=k/\de w i j sp)/\tm w k r
theorem zx {w:Wo}{k i:Nat}{sp:Sp}:∀{cs:List (Nat×Sp)},tm w k cs->gh cs i=some sp->de w i k sp
 |[],_,h=>by cases h
 |(j,s)::r,h,e=>by
  unfold gh at e;by_cases z:i=j
  ·subst z;rw[if_pos rfl]at e;cases e;obtain⟨⟨l,hl,h⟩,_⟩:=h;exact h.mono hl
  ·rw[if_neg z]at e;exact zx h.2 e
structure a0 (w:Wo) where
 cs:List (Nat×Sp):=[]
 ms:List (Nat×Sp):=[]
 ci:List (Nat×Nat×Sp):=[]
 ca:Addr->Sp->Prop:=λ_ _=>False
noncomputable def oS (w:Wo):List (Nat×Nat×Sp)->Nat->Option (Addr×Sp)
 |[],_=>none
 |(j,_,sp)::r,i=>if i=j then some (w.ca j,sp) else oS w r i
noncomputable def a0.wd {w:Wo} (l:a0 w):Wd:=⟨oR l.cs,w.gv,w.fl,oS w l.ci,λi=>(gh l.ms i).map λsp=>(w.mc i,sp),l.ca⟩
def tq (w:Wo) (k:Nat):List (Nat×Nat×Sp)->Prop
 |[]=>True
 |(i,m,sp)::r=>(w.mc m=w.ca i/\w.ms[m]?.map (·.x)=some "__init__"/\∃j,j+1<=k/\de w m j sp)/\tq w k r
theorem zy {w:Wo}{k i:Nat}{C:Addr}{sp:Sp}:∀{cs:List (Nat×Nat×Sp)},tq w k cs->oS w cs i=some (C,sp)->C=w.ca i/\∃m j,w.mc m=w.ca i/\w.ms[m]?.map (·.x)=some "__init__"/\j+1<=k/\de w m j sp
 |[],_,h=>by cases h
 |(j,m,s)::r,h,e=>by
  unfold oS at e;by_cases z:i=j
  ·subst z;rw[if_pos rfl]at e;cases e;obtain⟨⟨h1,h0,l,hl,h⟩,_⟩:=h;exact⟨rfl,m,l,h1,h0,hl,h⟩
  ·rw[if_neg z]at e;exact zy h.2 e
structure a0.Ok {w:Wo} (l:a0 w) (k:Nat):Prop where
 cs:tf w k l.cs
 ms:tm w k l.ms:=by exact trivial
 ci:tq w k l.ci:=by exact trivial
 ca:∀f sp,l.ca f sp->cJ w.G k f sp:=by exact λ_ _ z=>z.elim
theorem a0.Ok.env {w:Wo} (O:w.Ok) {l:a0 w}{k:Nat} (h:l.Ok k):lX w.nm l.wd k w.G where
 fn:=λj x hj=>by
  have lP:(w.ds.map (·.x))[j]?=some x:=hj;rw[XJ]at lP;obtain⟨e,he,rfl⟩:=Option.map_eq_some_iff.mp lP;obtain⟨e',f',zn,h1,h2,h3⟩:=tj O he h.cs;rw[he]at h1;cases h1;exact⟨f',zn,e.ps,h3,h2.mg,h2.kp,h2.b⟩
 gv:=O.gv
 bl:=O.bl
 fl:=O.fl
 cl:=λi x C sp hi hc=>by
  obtain⟨e,m,j,h1,h0,h2,d,f,fd,h3,h4,h5⟩:=zy h.ci hc;subst e;obtain⟨g1,g2⟩:=O.cl i x hi;rw[h3]at h0;have hx:d.x="__init__":=Yg h0;have hm:=h4.m;rw[hx,h1]at hm;exact⟨j,f,fd,d.ps,h2,g2 f hm.bL hm.fn,h5,g1,h4.b⟩
 mt:=λi x C sp hi hc=>by
  have fS:(gh l.ms i).map (λsp=>(w.mc i,sp))=some (C,sp):=hc;obtain⟨s,e1,e2⟩:=Option.map_eq_some_iff.mp fS;cases e2;obtain⟨d,f,fd,h3,h4,h5⟩:=zx h.ms e1;have cW:(w.ms.map (·.x))[i]?=some x:=hi;rw[XJ,h3]at cW;cases cW;exact⟨f,fd,d.ps,h4.c,h4.m,h5,h4.b⟩
 ca:=h.ca
theorem aI {w:Wo} (O:w.Ok) {nm:Nm} (hn:w.nm=nm) {k n:Nat}{ns:List Str}{b:B}{sp:Sp} (i:Nat) (d:Ds) (hd:w.ds[i]?=some d) (l:a0 w) (hl:l.Ok k) (S:aB ns d.ps (ag d.st)) (hc:aF nm n ns (ag d.st) (ax d.st)=b)
  (h:∀ds M Q E,sp ds M Q E->ds.length=d.ps.length/\b.w l.wd nm.aj (a9 Q) (start ns ds) M):FO w i (k+1) sp:=by
 subst hn;obtain⟨f,fd,F⟩:=O.df i d hd;obtain⟨n,Fn⟩:=F.fn;exact⟨d,f,fd,hd,F,zv Fn S (hl.env O) hc h⟩
theorem i5 {w:Wo} (O:w.Ok) {nm:Nm} (hn:w.nm=nm) {k n:Nat}{ns:List Str}{b:B}{sp:Sp} (i:Nat) (d:Ds) (hd:w.ms[i]?=some d) (l:a0 w) (hl:l.Ok k) (S:aB ns d.ps (ag d.st)) (hc:aF nm n ns (ag d.st) (ax d.st)=b)
  (h:∀ds M Q E,sp ds M Q E->ds.length=d.ps.length/\b.w l.wd nm.aj (a9 Q) (start ns ds) M):de w i (k+1) sp:=by
 subst hn;obtain⟨f,fd,F⟩:=O.mt i d hd;obtain⟨q,Fn⟩:=F.fn;exact⟨d,f,fd,hd,F,zv Fn S (hl.env O) hc h⟩
end N
end
section
namespace Att
open PySem PySem.W PySem.Calls PyProof.Rows
theorem JX {P:Params}{h:Heap}:∀(ns:List Int) (vs:List Value),WellAll P h vs (ns.map WData.int)->IntsAre vs ns:=by
 intro ns
 induction ns with
 |nil=>
  intro vs w;rw[YN]at w;cases w;exact .nil
 |cons n ns ih=>
  intro vs w;rw[XD]at w;cases w with
  |cons a b=>
   cases a;exact .cons _ _ (ih _ b)
theorem JY {l:OpenLaw}{n:Nat} (hn:l.most=some n) {P:Params}{h:Heap}{args:List WData}{iU:List Value}
  (i6:l.row.toRowW.claim.pre args=true) (sw:WellAll P h iU args) :
  ∃a vs ns,iU=[Ye a]/\args=[WData.list (ns.map WData.int)]/\h.get? a=some { cls:=.type "list",data:=.seq vs.toArray }/\IntsAre vs ns/\ns.length<=n:=by
 have JZ:WShape.hasAll [] args [.list .int]=true:=(pre_splitW i6).1;have hc:l.pre.holds [] { args:=args }=true:=(pre_splitW i6).2;obtain⟨d,r,rfl,h1,h2⟩:=hasAllW_cons JZ;obtain rfl:=hasAllW_nil h2;obtain⟨xs,rfl,h3⟩:=hasW_list h1;obtain⟨ns,rfl⟩:=items_int h3;have hlen:ns.length<=n:=by
  unfold OpenLaw.pre at hc;have h4:(WTm.not (.lt (.lit (.int (n:Int))) (.len (.arg 0)))).holds [] { args:=[.list (ns.map .int)] }=true:=by
   have h4:=(holds_andW hc).1;rw[hn]at h4;exact h4
  have h5:=condW_of h4 (w_not (w_lt w_lit (w_len_list (w_arg rfl))));rw[Xr]at h5;refine Nat.le_of_not_lt λq=>?_;have q':(n:Int)<((ns.length:Nat):Int):=by lia
  first
   |(rw[decide_eq_true q']at h5;exact absurd h5 (by decide))
   |(simp at h5;lia)
 cases sw with
 |cons w1 w2=>
  cases w2;cases w1 with
  |list ho rE=>exact⟨_,_,ns,rfl,rfl,ho,JX ns _ rE,hlen⟩
theorem J0 (l:OpenLaw) (args:List WData):l.row.toRowW.claim.post args (.bool true) args=true:=
 postW_of (r:=l.row.toRowW) (X:=(true == true))
  (show WShape.has [] (.bool true) .bool=true by first |rfl |decide |simp [WShape.has,WShape.arms,WShape.armsAll])
  (show (WTm.eq .res (.lit (.bool true))).value [] { args:=args,res:=some (.bool true),after:=args }=some (.bool (true == true)) from w_eq_bool (w_res rfl) w_lit) rfl
theorem J1 {l:OpenLaw}{n:Nat}{q:Program}{loose:List Str}{XP:(Str->Option Value)->Heap->Prop}{YP:World->Heap->Prop}{d:DefRec}
  (hn:l.most=some n) (jO:d.params.defaults=[])
  (call:∀(w:World) (s₀ s₁:Shared) (mg mb:Str->Option Value) (fa:Addr) (o:Obj) (pm cd doc:Value) (a:Addr) (vs:List Value) (ns:List Int),
   Ground q loose [] XP w s₀ mg mb s₁.heap->YP w s₁.heap ->
   s₁.heap.get? fa=some o->o.data=.func (docDef d.name d.params d.body d.scope pm cd doc)->s₁.heap.CodeRec cd d.name->mg d.name=some (.ref fa) ->
   s₁.heap.get? a=some { cls:=.type "list",data:=.seq vs.toArray }->IntsAre vs ns->ns.length<=n->s₁.gens=#[] ->
   codeAny (model l.prog w) callerA (.call (.ref fa) ⟨[.ref a],[]⟩) (λr s'=>r=.ok (.ret (.bool true))/\OldK s₁.heap s'.heap/\s'.os=s₁.os/\AllBare s'.gens) s₁) :
  WalkO q loose XP YP l.row.toRowW d [] (λf vs=>PySem.call f vs):=by
 intro w s₀ s₁ mg mb G Y fa o pm cd doc UO kV ho hd dr hD hmg hg args iU as i6 Ts Tt sw Tu;obtain rfl:UO=.none:=Dflts.none hD jO;obtain rfl:kV=.none:=Dflts.noKw hD;obtain⟨a,vs,ns,rfl,rfl,sK,tt,hlen⟩:=JY hn i6 sw;refine enter_call (Y9 (call w s₀ s₁ mg mb fa o pm cd doc a vs ns G Y ho (fd_plain hd) dr hmg sK tt hlen hg) λr s' hq=>?_);obtain⟨rfl,h2,h3,h4⟩:=hq;exact⟨.inl ⟨.bool true,.bool true,[],rfl,λ_=>rfl,.bool true,J0 l _,λ_=>⟨List.Pairwise.nil,λ_ hm=>(nomatch hm)⟩⟩,h2,h3,h4⟩
end Att
namespace L2
open PySem PySem.Spec PyProof.Rows
end L2
end
section
set_option maxHeartbeats 1000000
namespace N
open PySem PySem.Spec PyProof.Rows L2
abbrev gi:=List (Addr×Pos×Str)
noncomputable def bz (ts:gi):Fz:=λb=>(ts.lookup b).map λq=>.tab q.1 q.2
noncomputable def ee (h:Heap) (ts:gi):Fz:=λb=>match ts.lookup b with
 |some q=>some (.tab q.1 q.2)
 |none=>(h.get? b).map Fo.dat
noncomputable abbrev gZ (h:Heap) (ts:gi):Heap:=PySem.W.hideAll h (ts.map (·.1))
theorem ma {ts:gi}{b:Addr} (h:b ∉ ts.map (·.1)):ts.lookup b=none:=by
 rw[List.lookup_eq_none_iff];rintro⟨a,q⟩ hm;have:b≠a:=λz=>h (z ▸ List.mem_map.mpr ⟨_,hm,rfl⟩);simpa using this
theorem dV:∀{ts:gi}{b:Addr}{q:Pos×Str},ts.lookup b=some q->b∈ts.map (·.1)
 |[],_,_,h=>by cases h
 |(a,p)::r,b,q,h=>by
  by_cases e:b=a
  ·rw[e];exact XA
  ·rw[Yy,beq_false_of_ne e]at h;exact XB _ (dV h)
theorem J2 {h:Heap}{ts:gi}{b:Addr}{o:Obj} (e:(gZ h ts).get? b=some o):h.get? b=some o/\b ∉ ts.map (·.1):=
 ⟨PySem.W.of_hideAll _ e,λhm=>by rw[PySem.W.hideAll_none _ hm]at e;cases e⟩
theorem J3 {P:Program}{w:World}{K:PySem.W.Frag}{mg mb:Str->Option Value}{k:Nat}{fa a:Addr}{fd:FuncData}{x:Str}{sp:Sp}{s₁:Shared}{vs:List Value}{ns:List Int}{ts:gi}
  (KX:K.In s₁.heap) (hT:∀T∈ts.map (·.1),s₁.heap.get? T=some (PySem.W.tabObj #[])) (md:∀T∈ts.map (·.1),K.lookup T=none/\∃c,PySem.W.CodeHd s₁.heap c T)
  (bv:s₁.heap.Ns mainGlobals mg) (hb:s₁.heap.Ns builtinsNs mb) (J4:∀x:Str,x≠"__name__"->mb x=bootBuiltins x) (J5:s₁.heap.NoLimit) (hg:s₁.gens=#[])
  (ha:s₁.heap.get? a=some { cls:=.type "list",data:=.seq vs.toArray }) (hi:IntsAre vs ns) (hl:ns.length<=sizeLine) (hr:bx k callerA)
  (F:∀base:Heap,K.In base->base.Ns mainGlobals mg->bf ⟨P,w,K,mg,base,bz ts⟩ k fa fd [x] sp) (J6:∀(s:Shared) (u:Value),BindsTo s fd ⟨[u],[]⟩ [(x,u)])
  (jL:sp [.lst (ns.map D.int)] (λ_=>none) (λd _=>d=.bl true) X0) :
  codeAny (model P w) callerA (.call (.ref fa) ⟨[.ref a],[]⟩) (λr s'=>r=.ok (.ret (.bool true))/\OldK s₁.heap s'.heap/\s'.os=s₁.os/\AllBare s'.gens) s₁:=by
 have T7:∀b o,s₁.heap.get? b=some o->b ∉ ts.map (·.1)->ee s₁.heap ts b=some (.dat o):=λb o e n=>by unfold ee;rw[ma n];show (s₁.heap.get? b).map Fo.dat=_;rw[e];rfl
 have t0:∀b q,ts.lookup b=some q->ee s₁.heap ts b=some (.tab q.1 q.2):=λb q e=>by unfold ee;rw[e]
 have zB:∀b f,ee s₁.heap ts b=some f->(∃q,ts.lookup b=some q/\f=.tab q.1 q.2)\/∃o,s₁.heap.get? b=some o/\f=.dat o:=λb f e=>by
  unfold ee at e;split at e
  ·rename_i q hq;cases e;exact .inl ⟨q,hq,rfl⟩
  ·obtain⟨o,h1,rfl⟩:=Option.map_eq_some_iff.mp e;exact .inr ⟨o,h1,rfl⟩
 have nd:∀{b:Addr}{m:Str->Option Value},s₁.heap.Ns b m->b ∉ ts.map (·.1):=λ{b m} ⟨o,es,ep,e,d,r⟩ hm=>by
  rw[hT b hm]at e;cases e;cases d
 have oT:∀{b:Addr}{m:Str->Option Value},s₁.heap.Ns b m->(gZ s₁.heap ts).Ns b m:=λ{b m} h=>let n:=nd h;let ⟨o,es,ep,e,d,r⟩:=h;⟨o,es,ep,PySem.W.hideAll_get _ e n,d,r⟩
 have zD:K.In (gZ s₁.heap ts):=λb o e=>PySem.W.hideAll_get _ (KX b o e) λhm=>by rw[(md b hm).1]at e;cases e
 have hok:aE ⟨P,w,K,mg,gZ s₁.heap ts,bz ts⟩ (ee s₁.heap ts) (λ_=>none) s₁.heap:=⟨λb f e=>by
  rcases zB b f e with ⟨q,h1,rfl⟩ |⟨o,h1,rfl⟩
  ·exact⟨_,hT b (dV h1)⟩
  ·exact h1,λ_ _ e=>(nomatch e),λT p q e=>by
  rcases zB T _ e with ⟨q',h1,h2⟩ |⟨o,h1,h2⟩
  ·exact .inl (hT T (dV h1))
  ·cases h2⟩
 have bs:Bs ⟨P,w,K,mg,gZ s₁.heap ts,bz ts⟩ (ee s₁.heap ts):=⟨λb o e=>let ⟨h1,h2⟩:=J2 e;T7 b o h1 h2,λb f e=>by
  obtain⟨q,h1,rfl⟩:=Option.map_eq_some_iff.mp (show (ts.lookup b).map _=_ from e);exact t0 b q h1⟩
 have e0:dM ⟨P,w,K,mg,gZ s₁.heap ts,bz ts⟩ callerA [] ⟨ee s₁.heap ts,λ_=>none,s₁⟩:=⟨rfl,⟨zD,oT bv,⟨mb,oT hb,J4⟩,let ⟨mc,h1,h2⟩:=J5;⟨mc,oT h1,h2⟩⟩,bs,λ_ h=>(nomatch h),hok,.of_eq hg⟩
 have ri:∀{ns:List Int}{vs:List Value},IntsAre vs ns->af ⟨P,w,K,mg,gZ s₁.heap ts,bz ts⟩ (ee s₁.heap ts) (ns.map D.int) vs:=λh=>by
  induction h with
  |nil=>exact .nil
  |cons n t r ih=>exact .cons b5 ih
 have na:a ∉ ts.map (·.1):=λhm=>by rw[hT a hm]at ha;cases ha
 have WB:ab ⟨P,w,K,mg,gZ s₁.heap ts,bz ts⟩ (ee s₁.heap ts) (.lst (ns.map D.int)) (.ref a):=ny (n:=0) (T7 a _ ha na) (by rw[hi.length];exact hl) (ri hi);refine Y9 ((F _ zD (oT bv)).eu callerA [] ⟨ee s₁.heap ts,λ_=>none,s₁⟩ ⟨[.ref a],[]⟩ [.ref a] [.lst (ns.map D.int)] _ _ hr e0 (J6 s₁ (.ref a)) (.cons WB .nil) jL) λr s' h=>?_;cases r with
 |error e=>obtain⟨_,_,_,z,_⟩:=h;exact z.elim
 |ok fl=>
  cases fl with
  |next=>exact h.elim
  |brk=>exact h.elim
  |cont=>exact h.elim
  |ret u=>
   obtain⟨d,z',⟨rfl,l,ok,os,bare⟩,rd,e⟩:=h;have e':d=.bl true:=e;subst e';rw[ab]at rd;subst rd;have kp:∀b o,s₁.heap.get? b=some o->asItWas s₁.heap z'.s.heap b o/\∃o',z'.s.heap.get? b=some o':=λb o q=>by
    by_cases hm:b∈ts.map (·.1)
    ·have e0:=hT b hm;rw[q]at e0;cases e0;obtain⟨⟨T,p,s⟩,hq,rfl⟩:=List.mem_map.mp hm;obtain⟨⟨p',s'⟩,hq'⟩:∃ q,ts.lookup T=some q:=by
      cases e:ts.lookup T with
      |some q=>exact⟨q,rfl⟩
      |none=>rw[List.lookup_eq_none_iff]at e;exact absurd (e _ hq) (by simp)
     obtain⟨c,C⟩:=(md T hm).2;have it:=(C.tab q).isCodeTable;rcases ok.tb T _ _ (l T _ (t0 T _ hq')) with y |⟨c',o',y,_⟩
     ·exact⟨.inr (.inl ⟨it,rfl,#[],#[],rfl,by simpa using y⟩),_,y⟩
     ·exact⟨.inr (.inl ⟨it,rfl,#[],_,rfl,by simpa using y⟩),_,y⟩
    ·have:=ok.fz b _ (l b _ (T7 b o q hm));exact⟨.inl this,o,this⟩
   exact⟨rfl,⟨λb o q=>(kp b o q).1,λb o q=>(kp b o q).2⟩,os,bare⟩
theorem walk_of {l:PySem.W.OpenLaw}{n k:Nat}{q:Program}{loose:List Str}{XP:(Str->Option Value)->Heap->Prop}{YP:World->Heap->Prop}{d:DefRec}{K:Params->PySem.W.Frag}{sp:World->Sp}{x:Str}{ts:gi}
  (hn:l.most=some n) (nN:n<=sizeLine) (jO:d.params.defaults=[]) (hr:bx k callerA)
  (WC:∀(w:World) (h:Heap),YP w h->(K w.params).In h/\∀T∈ts.map (·.1),h.get? T=some (PySem.W.tabObj #[]))
  (md:∀(w:World),∀T∈ts.map (·.1),(K w.params).lookup T=none/\∃c,PySem.W.codeHdIn (K w.params) c T=true)
  (F:∀(w:World) (mg:Str->Option Value) (fa:Addr) (h:Heap),(K w.params).In h->h.Ns mainGlobals mg->mg d.name=some (.ref fa) ->
   ∃fd:FuncData,(∀(s:Shared) (u:Value),BindsTo s fd ⟨[u],[]⟩ [(x,u)])/\∀base:Heap,(K w.params).In base->base.Ns mainGlobals mg->bf ⟨l.prog,w,K w.params,mg,base,bz ts⟩ k fa fd [x] (sp w))
  (jL:∀(w:World) (ns:List Int),ns.length<=n->sp w [.lst (ns.map D.int)] (λ_=>none) (λd _=>d=.bl true) X0) :
  PySem.W.WalkO q loose XP YP l.row.toRowW d [] (λf vs=>PySem.call f vs):=by
 refine Att.J1 hn jO λw s₀ s₁ mg mb fa o pm cd doc a vs ns G Y ho hd dr hmg sK tt hlen hg=>?_;obtain⟨KX,hT⟩:=WC w _ Y;obtain⟨fd,hb,hF⟩:=F w mg fa _ KX G.T.g hmg;exact J3 KX hT (λT hm=>⟨(md w T hm).1,let ⟨c,e⟩:=(md w T hm).2;⟨c,PySem.W.codeHd_of_K KX e⟩⟩) G.T.g G.T.b G.T.builtins G.T.nolimit hg sK tt (Xz hlen nN) hr hF hb (jL w ns hlen)
end N
end
section
set_option maxHeartbeats 1000000
namespace N
open PySem PySem.Spec PyProof.Rows L2
theorem aE.oU {G:Gx}{F:Fz}{M:Mp}{h h':Heap}{T c:Addr}{p:Pos}{q:Str}{o:Obj} (x:aE G F M h) (hT:F T=some (.tab p q)) (k:∀b,b≠T->bg h h' b) (e:h'.get? T=some { cls:=.none,data:=.fields #[rawInt p.line,rawInt p.col,.ref c] }) (hp:h.objs.size<=c) (ho:h'.get? c=some o) (hc:ew o q):aE G (up F c (.dat o)) M h':=by
 have hF:=x.cz hp;have Tv:T≠c:=c5 hT hF;refine⟨λb f r=>?_,λb u r=>?_,λT' p' q' r=>?_⟩
 ·by_cases hb:b=c
  ·subst hb;rw[aw]at r;cases r;exact ho
  ·rw[az hb]at r;by_cases j':b=T
   ·subst j';rw[hT]at r;cases r;exact⟨_,e⟩
   ·exact (x.fz b f r).go (k b j')
 ·have hb:b≠c:=c5 r (x.c6 hp);obtain⟨h1,h2⟩:=x.ob b u r;refine⟨by rw[az hb];exact h1,h2.go (Le.new hF).d (λd hd=>k d ?_) λ_ e=>e⟩;rintro rfl;rcases hd with rfl |hd
  ·rw[hT]at h1;cases h1
  ·have:=(x.ob _ _ hd).1;rw[hT]at this;cases this
 ·by_cases hb:T'=c
  ·subst hb;rw[aw]at r;cases r
  ·rw[az hb]at r;by_cases j':T'=T
   ·subst j';rw[hT]at r;cases r;exact .inr ⟨c,o,e,aw,hc⟩
   ·rcases x.tb T' p' q' r with y |⟨c',o',h1,h2,h3⟩
    ·exact .inl (k T' j' _ y)
    ·exact .inr ⟨c',o',k T' j' _ h1,Le.new hF _ _ h2,h3⟩
theorem ae.oU {X:Cx} {τ:St} {z:Z}{h':Heap}{t:Nat}{T c:Addr}{p:Pos}{q:Str}{o:Obj} (I:ae X τ z) (hT:z.F T=some (.tab p q)) (k:∀ b,b≠T->bg z.s.heap h' b) (e:h'.get? T=some { cls:=.none,data:=.fields #[rawInt p.line,rawInt p.col,.ref c] }) (hp:z.s.heap.objs.size<=c) (ho:h'.get? c=some o) (hc:ew o q) :
  Le z.F (up z.F c (.dat o))/\ae X τ ⟨up z.F c (.dat o),z.M,{ z.s with heap:=h',toks:=t }⟩:=by
 have l:Le z.F (up z.F c (.dat o)):=Le.new (I.hok.cz hp);refine⟨l,I.go l (I.hok.oU hT k e hp ho hc) (λb hb=>⟨(k b ?_).s,I.c7 hb,az (XH (XM (I.fQ hb) hp))⟩) rfl I.bare⟩;rintro rfl;rcases hb with rfl |⟨x,hx⟩
 ·rw[I.free.1]at hT;cases hT
 ·rcases (I.cell x b hx).2.2 with r |⟨_,o',r⟩
  ·rw[r.2]at hT;cases hT
  ·rw[r]at hT;cases hT
structure dC (G:Gx) (c T:Addr) (p:Pos) (q:Str):Prop where
 cd:PySem.W.codeHdIn G.K c T=true
 bi:∃(Ua:Addr) (ob:Obj),G.mg "__builtins__"=some (.ref Ua)/\G.K.lookup Ua=some ob/\Ua≠builtinsNs/\Ua≠mainGlobals/\Ua≠T/\ob.cls=.type "module"/\ob.dict=some builtinsNs/\ob.data=.plain
 Ux:mainGlobals≠T
 tab:G.ex T=some (.tab p q)
abbrev eS:=List (Str×Addr)
theorem zG {h:Heap}{c:Addr}{q:Str} (x:h.CodeRec (.ref c) q):∃o,h.get? c=some o/\ew o q:=by
 obtain⟨d,o,vs,t,e,e1,e2,e3⟩:=x;cases e;exact⟨o,e1,vs,t,e2,e3⟩
section
variable {X:Cx} {τ:St} {z:Z}
theorem J7 {clos:eS}{params:Arguments}{body:Expr}{scope:Scope}{pos:Pos}{c T:Addr}{R:Value->Shared->Prop} (I:ae X τ z) (L:dC X.G c T pos (X.env.qual++"<lambda>")) (tu:defaultsOf params X.env=([],[])) (bn:closureFor scope X.env=pure clos) (me:X.env.code=.ref c)
  (k:∀f c' o' ctv z',Le z.F z'.F->ae X τ z'->z'.M=z.M->z'.F f=some (.dat (PySem.W.kla_obj "<lambda>" (X.env.qual++"<lambda>") params body scope clos ((X.G.mg "__name__").getD .none) c' ctv))->z'.F c'=some (.dat o')->ew o' (X.env.qual++"<lambda>")->R (.ref f) z'.s) :
  W X (eval (.Lambda params body scope pos) X.env) R z.s:=by
 obtain⟨cd,⟨Ua,ob,b1,b2,TX,b4,Vj,Uy,Uz,UA⟩,Ux,tab⟩:=L;have hg:z.s.heap.Ns mainGlobals X.G.mg:=I.ok.bp.dp.keeps I.bk;have C:PySem.W.CodeHd z.s.heap c T:=PySem.W.codeHd_of_K I.bQ cd;have hb:z.s.heap.BuiltinsAt X.G.mg T:=⟨Ua,ob,b1,TX,b4,Vj,I.bQ _ _ b2,Uy,Uz,UA⟩;have hT:z.F T=some (.tab pos (X.env.qual++"<lambda>")):=I.bs.x T _ tab;have fin:∀ {c':Addr}{o':Obj}{ctv:Value}{z1:Z} (tk:Nat),Le z.F z1.F->ae X τ z1->z1.M=z.M->z1.F c'=some (.dat o')->ew o' (X.env.qual++"<lambda>") ->
   R (.ref z1.s.heap.objs.size) { z1.s with heap:=z1.s.heap.push (PySem.W.kla_obj "<lambda>" (X.env.qual++"<lambda>") params body scope clos ((X.G.mg "__name__").getD .none) c' ctv),toks:=tk }:=λ{c' o' ctv z1} tk l1 I1 Ub hc hr=>by
  have I2:=I1.jt (f:=.dat (PySem.W.kla_obj "<lambda>" (X.env.qual++"<lambda>") params body scope clos ((X.G.mg "__name__").getD .none) c' ctv)) (t:=tk) (λb o e=>Xq _ e) (Xu _) (Xw _ rfl);have l2:=Le.new (f:=.dat (PySem.W.kla_obj "<lambda>" (X.env.qual++"<lambda>") params body scope clos ((X.G.mg "__name__").getD .none) c' ctv)) (I1.hok.cz (Xu z1.s.heap.objs.size));exact k _ c' o' ctv _ (l1.tr l2) I2 Ub aw (l2 _ _ hc) hr
 refine PySem.W.kla_eval tu ?_;rcases I.hok.tb T _ _ hT with hP |⟨c',o',hP,hc,hr⟩
 ·refine PySem.W.kla_makeFunction bn I.ok.dp hg me C hP trivial rfl Ux hb λc' ctv h' tk ext tw fm rec tab=>?_;obtain⟨o',ho,hr⟩:=zG rec;obtain⟨l1,I1⟩:=I.oU (t:=tk) hT (λb z u e=>ext b u z e) (by simpa using tab) tw ho hr;exact fin tk l1 I1 rfl aw hr
 ·refine PySem.W.kla_makeFunctionHit (cv:=.ref c') bn I.ok.dp hg me C hP ?_ ?_ hb λctv h' tk k hs=>?_
  ·simp [TriplesOk,rawInt]
  ·simp [codeAmong,rawInt]
  exact fin (z1:=⟨z.F,z.M,{ z.s with heap:=h',toks:=tk }⟩) tk Le.rfl (I.bN k) rfl hc hr
theorem J8 {clos:eS}{name:Str}{params:Arguments}{body:List Stmt}{scope:Scope}{pos:Pos}{c T:Addr}{i:Nat}{R:Flow->Shared->Prop} (I:ae X τ z) (L:dC X.G c T pos (qualnameIn X.env name name)) (hN:X.N.Nodup) (hi:X.N[i]?=some name) (hx:ik X.env.scope name) (J9:X.fn name=true\/X.env.scope.names.lookup name=some .local)
  (tx:params.defaults=[]) (mh:params.kw_defaults=[]) (ha:annTrees params none X.env=[]) (bn:closureFor scope X.env=pure clos) (me:X.env.code=.ref c)
  (k:∀f c' o' doc ctv z',Le z.F z'.F->ae X (τ.set i (some (.ref f))) z'->z'.M=z.M->z'.F f=some (.dat (PySem.W.fnMade name (qualnameIn X.env name name) params body scope clos doc ((X.G.mg "__name__").getD .none) c' ctv))->z'.F c'=some (.dat o')->ew o' (qualnameIn X.env name name)->R .next z'.s) :
  W X (exec (.FunctionDef name params body [] none [] scope none name pos) X.env) R z.s:=by
 obtain⟨cd,⟨Ua,ob,b1,b2,TX,b4,Vj,Uy,Uz,UA⟩,Ux,tab⟩:=L;have hg:z.s.heap.Ns mainGlobals X.G.mg:=I.ok.bp.dp.keeps I.bk;have C:PySem.W.CodeHd z.s.heap c T:=PySem.W.codeHd_of_K I.bQ cd;have hb:z.s.heap.BuiltinsAt X.G.mg T:=⟨Ua,ob,b1,TX,b4,Vj,I.bQ _ _ b2,Uy,Uz,UA⟩;refine PySem.W.nestDef_K tx mh ha ?_;generalize tz:qualnameIn X.env name name=qual at *;have hT:z.F T=some (.tab pos qual):=I.bs.x T _ tab;have fin:∀ {c':Addr}{o':Obj}{doc ctv:Value}{z1:Z} (tk:Nat),Le z.F z1.F->ae X τ z1->z1.M=z.M->z1.F c'=some (.dat o')->ew o' qual ->
   W X (storeName X.env name (.ref z1.s.heap.objs.size)) (λ_ s=>R .next s) { z1.s with heap:=z1.s.heap.push (PySem.W.fnMade name qual params body scope clos doc ((X.G.mg "__name__").getD .none) c' ctv),toks:=tk }:=λ{c' o' doc ctv z1} tk l1 I1 Ub hc hr=>by
  have I2:=I1.jt (f:=.dat (PySem.W.fnMade name qual params body scope clos doc ((X.G.mg "__name__").getD .none) c' ctv)) (t:=tk) (λb o e=>Xq _ e) (Xu _) (Xw _ rfl);have l2:=Le.new (f:=.dat (PySem.W.fnMade name qual params body scope clos doc ((X.G.mg "__name__").getD .none) c' ctv)) (I1.hok.cz (Xu z1.s.heap.objs.size));generalize J':PySem.W.fnMade name qual params body scope clos doc ((X.G.mg "__name__").getD .none) c' ctv=VE at *;have rf:ab X.G (up z1.F z1.s.heap.objs.size (.dat VE)) (.ref z1.s.heap.objs.size) (.ref z1.s.heap.objs.size):=by rw[ab]
  refine nk (Q:=λ_ s=>R .next s) I2 hN hi hx J9 rf λs' I3=>?_;have:=k z1.s.heap.objs.size c' o' doc ctv ⟨up z1.F z1.s.heap.objs.size (.dat VE),z1.M,s'⟩ (l1.tr l2) I3 Ub;rw[J']at this;exact this aw (l2 _ _ hc) hr
 rcases I.hok.tb T _ _ hT with hP |⟨c',o',hP,hc,hr⟩
 ·refine PySem.W.makeFunction_K bn I.ok.dp hg me C hP trivial rfl Ux hb λc' ctv doc h' tk ext tw fm rec tab=>?_;obtain⟨o',ho,hr⟩:=zG rec;obtain⟨l1,I1⟩:=I.oU (t:=tk) hT (λb z u e=>ext b u z e) (by simpa using tab) tw ho hr;have q:=fin (z1:=⟨up z.F c' (.dat o'),z.M,{ z.s with heap:=h',toks:=tk }⟩) (doc:=doc) (ctv:=ctv) tk l1 I1 rfl aw hr;exact q
 ·refine PySem.W.makeFunction_hit (cv:=.ref c') bn I.ok.dp hg me C hP ?_ ?_ hb λctv doc h' tk k hs=>?_
  ·simp [TriplesOk,rawInt]
  ·simp [codeAmong,rawInt]
  have q:=fin (z1:=⟨z.F,z.M,{ z.s with heap:=h',toks:=tk }⟩) (doc:=doc) (ctv:=ctv) tk Le.rfl (I.bN k) rfl hc hr;exact q
end
end N
end
section
set_option maxHeartbeats 1000000
namespace N
open PySem L2
theorem ar {Q:QK}{d:D}{M:Mp} (h:Q d M):aZ Q d M:=⟨M,d,.rfl,.rfl,h⟩
theorem cj {M:Mp}{p:Addr}{a b:MO}:up (up M p a) p b=up M p b:=funext λx=>by
 by_cases h:x=p
 ·rw[h,aw,aw]
 ·rw[az h,az h,az h]
noncomputable def MO.tC:MO->Bool
 |.own _=>false
 |_=>true
theorem tE {M:Mp}{p:Addr}{o:MO} (hp:M p=none) (ho:o.tC=true):cx M (up M p o):=⟨λa u e=>by rw[az (c5 e hp)];exact e,λa b e q=>by
 by_cases hb:b=p
 ·subst hb;rw[aw]at q;cases q;cases ho
 ·rw[az hb]at q;exact q⟩
theorem tF {Q:QK}{M:Mp}{p:Addr}{kvs:List (Key×D)} (hp:M p=none) (h:Q (.ak (kvs.map (·.1)) (kvs.map (·.2))) M):aZ Q (.ref p) (up M p (.ak kvs)):=⟨M,_,tE hp rfl,.ak aw hp .rfl,h⟩
theorem zH {Q:QK}{M:Mp}{p:Addr}{o:MO}{d:D} (hp:M p=none) (ho:o.tC=true) (h:Q d M):aZ Q d (up M p o):=⟨M,d,tE hp ho,.rfl,h⟩
theorem aN {c:Prop} [Decidable c] {a b:Prop} (h:c) (q:a):if c then a else b:=by rw[if_pos h];exact q
theorem ay {c:Prop} [Decidable c] {a b:Prop} (h:¬c) (q:b):if c then a else b:=by rw[if_neg h];exact q
theorem eT {ok:Mp->Prop}{g:G}{tc:DT}{te:DE} {τ:St} {k:List D->Mp->Prop} (J:List D->List D->Mp->Prop) (fin:∀ ys M,J [] ys M->ok M/\ys.length<sizeLine/\k ys M)
  (step:∀x xs ys M,J (x::xs) ys M->ok M/\ys.length<sizeLine/\∀N:List D->Mp->Prop,(∀f9 M',J xs f9 M'->N f9 M')->cb g x τ M fun τ1 M0=>tc τ1 M0 λb M1=>if b=true then te τ1 M1 λy M2=>N (ys++[y]) M2 else N ys M1) :
  ∀xs ys M,J xs ys M->cX ok g tc te τ k xs ys M
 |[],ys,M,h=>fin ys M h
 |x::xs,ys,M,h=>
  let ⟨h1,h2,h3⟩:=step x xs ys M h
  ⟨h1,h2,h3 (λys M=>cX ok g tc te τ k xs ys M) λf9 M' q=>eT J fin step xs f9 M' q⟩
theorem dW {ok:Mp->Prop}{g:DG}{tb:DS}{e:En} (J:List D->St->Mp->Prop) (fin:∀ τ M,J [] τ M->ok M/\e.nx τ M)
  (step:∀x xs τ M,J (x::xs) τ M->ok M/\∀N:St->Mp->Prop,(∀ τ' M',J xs τ' M'->N τ' M')->g x τ M fun τ1 M1=>tb { e with nx:=N,ct:=N,bk:=e.nx } τ1 M1):∀xs τ M,J xs τ M->fU ok g tb e xs τ M
 |[],τ,M,h=>fin τ M h
 |x::xs,τ,M,h=>
  let ⟨h1,h2⟩:=step x xs τ M h
  ⟨h1,h2 (fU ok g tb e xs) fun τ' M' q=>dW J fin step xs τ' M' q⟩
theorem i7 {α:Type} {ok:Mp->Prop}{g:G}{te:DE} {τ:St} {k:List D->Mp->Prop}{M:Mp} (f:α->D) (h:α->D) (xs:List α) (hok:ok M) (hl:xs.length<sizeLine)
  (one:∀x∈xs,∀N:D->Mp->Prop,N (h x) M->cb g (f x) τ M fun τ1 M0=>te τ1 M0 N) (fin:k (xs.map h) M):cX ok g gM te τ k (xs.map f) [] M:=by
 refine eT (λrest ys M'=>M'=M/\∃a b,xs=a++b/\rest=b.map f/\ys=a.map h) ?_ ?_ _ _ _ ⟨rfl,[],xs,rfl,rfl,rfl⟩
 ·rintro ys M' ⟨rfl,a,b,e1,e2,rfl⟩;cases b with
  |cons x r=>cases e2
  |nil=>rw[XO]at e1;subst e1;exact⟨hok,by rw[Xr];exact hl,fin⟩
 ·rintro x rest ys M' ⟨rfl,a,b,e1,e2,rfl⟩;cases b with
  |nil=>cases e2
  |cons y r=>
   cases e2;refine⟨hok,by rw[Xr];rw[e1,XI]at hl;lia,λN hN=>?_⟩;exact one y (by rw[e1];simp) (λy M2=>N (a.map h++[y]) M2) (hN _ _ ⟨rfl,a++[y],r,by rw[e1];simp,rfl,by simp⟩)
end N
end
section
set_option maxHeartbeats 1000000
namespace N
open PySem PySem.Spec PyProof.Rows L2
structure mi (ps fr:List Str) (scope:Scope):Prop where
 kind:scope.kind=.function
 UM:scope.isCoroutine=false
 jD:scope.isGenerator=false
 oV:∀y∈scope.names,y.2≠.cell
 free:∀y∈scope.names,y.2=.free->y.1∈fr
 Ka:∀x∈fr,scope.names.lookup x=some .free
 tG:∀x∈ps,scope.names.lookup x=some .local
theorem zI:∀{ps:List Str}{us:List Value}{i:Nat}{x:Str}{u:Value},ps.Nodup->ps[i]?=some x->us[i]?=some u->(ps.zip us).reverse.lookup x=some u
 |[],_,_,_,_,_,h,_=>by simp at h
 |_::_,[],_,_,_,_,_,h=>by simp at h
 |p::ps,w::us,0,x,u,nd,h1,h2=>by
  simp only[List.getElem?_cons_zero,Option.some.injEq]at h1 h2;subst h1 h2;rw[YM,Y1,List.lookup_append];have:(ps.zip us).reverse.lookup p=none:=by
   rw[List.lookup_eq_none_iff];rintro⟨a,b⟩ iC;have ha:=(Zf (List.mem_reverse.mp iC)).1;have:p≠a:=λz=>(List.nodup_cons.mp nd).1 (z ▸ ha);simpa using this
  rw[this];simp
 |p::ps,w::us,i+1,x,u,nd,h1,h2=>by
  rw[YM,Y1,List.lookup_append,zI (List.nodup_cons.mp nd).2 (by simpa using h1) (by simpa using h2)];rfl
noncomputable def tH (qual:Str) (scope:Scope) (clos:eS) (L f:Addr) (cd:Value):Env:=newEnv scope L mainGlobals clos (qual++".<locals>.") (some f) cd none builtinsNs
noncomputable def oX (G:Gx) (N:List Str) (qual:Str) (scope:Scope) (clos:eS) (f:Addr) (cd:Value) (A:Around) (outer:List Env) (s:Shared) (E:XQ):Cx where
 G:=G
 A:=A.deeper (tH qual scope clos s.heap.objs.size f cd)
 N:=N
 os:=s.os
 env:=tH qual scope clos s.heap.objs.size f cd
 outer:=outer
 stk:=tH qual scope clos s.heap.objs.size f cd::outer
 fn:=λ_=>false
 calm:=true
 x:=λx _ M=>E x M
structure ka (G:Gx) (clos:eS) (ws:List D):Prop where
 len:ws.length=clos.length
 bL:∀(i:Nat) x a w,clos[i]?=some (x,a)->ws[i]?=some w->∃o u,G.ex a=some (.pin o)/\o.data=.cell (some u)/\ab G G.ex w u
 nd:(clos.map (·.1)).Nodup
 inj:∀x y c,clos.lookup x=some c->clos.lookup y=some c->x=y
theorem tI:∀{clos:eS}{i:Nat}{p:Str×Addr},(clos.map (·.1)).Nodup->clos[i]?=some p->clos.lookup p.1=some p.2
 |[],_,_,_,h=>by simp at h
 |q::r,0,p,_,h=>by
  simp only[List.getElem?_cons_zero,Option.some.injEq]at h;subst h;simp [List.lookup]
 |q::r,i+1,p,nd,h=>by
  rw[XD,ZF]at nd;have h':r[i]?=some p:=by simpa using h
  have ne:(p.1 == q.1)=false:=by
   have:p.1≠q.1:=λz=>nd.1 (by rw[<- z];exact List.mem_map.mpr ⟨p,Yn h',rfl⟩);simpa using this
  show (match p.1 == q.1 with |true=>some q.2 |false=>r.lookup p.1)=some p.2
  rw[ne];exact tI nd.2 h'
theorem ka.cell {G:Gx}{clos:eS}{ws:List D} (h:ka G clos ws) {x:Str}{a:Addr} (e:clos.lookup x=some a):∃o u,G.ex a=some (.pin o)/\o.data=.cell (some u):=by
 obtain⟨i,hi,Uk⟩:=List.mem_iff_getElem.mp (PySem.mem_of_lookup e);obtain⟨o,u,h1,h2,_⟩:=h.bL i x a (ws[i]'(by rw[h.len];exact hi)) (by rw[Xx hi,Uk]) (Xx _);exact⟨o,u,h1,h2⟩
theorem zJ {G:Gx}{ps ls:List Str}{qual:Str}{scope:Scope}{clos:eS}{f:Addr}{cd:Value}{A:Around}{outer:List Env}{z:Z}{E:XQ}{us:List Value}{ds ws:List D}{h':Heap}{tk:Nat}
  (S:mi ps (clos.map (·.1)) scope) (hd:A.handled=none) (e0:dM G A outer z) (hl:ds.length=ps.length) (Kb:ps.Nodup) (r:af G z.F ds us) (T2:ka G clos ws)
  (bv:h'.Ns z.s.heap.objs.size (λx=>(ps.zip us).reverse.lookup x)) (dR:Zb z.s.heap.objs.size (z.s.heap.push { cls:=.type "frame",data:=.dict #[] }) h') :
  ae (oX G ((ps++clos.map (·.1))++ls) qual scope clos f cd A outer z.s E) ((ds.map some++ws.map some)++ls.map λ_=>none) ⟨z.F,z.M,{ z.s with heap:=h',toks:=tk }⟩:=by
 have hk:∀b o,z.s.heap.get? b=some o->h'.get? b=some o:=λb o e=>by
  rw[dR.2 b (XH (XF e))];exact Xq _ e
 have pin:∀{a o},G.ex a=some (.pin o)->z.F a=some (.pin o)/\h'.get? a=some o:=λ{a o} e=>⟨e0.bs.x a _ e,hk _ _ (e0.hok.fz a _ (e0.bs.x a _ e))⟩;refine⟨⟨e0.bp,S.kind,rfl,rfl,T2.inj,λy hy=>?_,λ_=>hd,Around.frames_deeper e0.frames,.inr ⟨rfl,rfl⟩⟩,e0.bs,rfl,e0.bare,e0.b9,⟨_,bv,λi y v h1 h2 h3=>?_⟩,λy c h=>?_,⟨e0.hok.cz (Xu _),e0.hok.c6 (Xu _)⟩,e0.hok.keep λb _ o q=>hk b o q,?_⟩
 ·have hy:scope.names.lookup y=some .cell\/scope.names.lookup y=some .free:=hy;rcases hy with hy |hy
  ·exact absurd rfl (S.oV _ (PySem.mem_of_lookup hy))
  ·obtain⟨p,hp,e⟩:=List.mem_map.mp (S.free _ (PySem.mem_of_lookup hy) rfl);obtain⟨i,hi,Uk⟩:=List.mem_iff_getElem.mp hp;have:=tI T2.nd (Xx hi);rw[Uk,e]at this;exact⟨_,this⟩
 ·have h1:((ps++clos.map (·.1))++ls)[i]?=some y:=h1;have lN:(ps++clos.map (·.1)).length=(ds.map some++ws.map some).length:=by rw[XI,XI,Xr,Xr,Xr,hl,T2.len]
  have Kc:i<(ds.map some++ws.map some).length:=by
   refine Nat.lt_of_not_le λz=>?_;rw[Ym z,XJ]at h2;cases e:ls[i-(ds.map some++ws.map some).length]? with
   |none=>rw[e]at h2;cases h2
   |some a=>rw[e]at h2;cases h2
  rw[Yo (by lia)]at h1;rw[Yo Kc]at h2;by_cases hi:i<ps.length
  ·rw[Yo hi]at h1;rw[Yo (by rw[Xr];lia),XJ]at h2;cases e:ds[i]? with
   |none=>rw[e]at h2;cases h2
   |some a=>
    rw[e]at h2;cases h2;obtain⟨u,hu,rv⟩:=r.get e;exact⟨u,rv,.inl ⟨S.tG y (Yn h1),zI Kb h1 hu⟩⟩
  ·rw[Ym (by lia),XJ]at h1;rw[Ym (by rw[Xr];lia),XJ,Xr,hl]at h2;cases e:ws[i-ps.length]? with
   |none=>rw[e]at h2;cases h2
   |some a=>
    rw[e]at h2;cases h2;cases e1:clos[i-ps.length]? with
    |none=>rw[e1]at h1;cases h1
    |some p=>
     rw[e1]at h1;cases h1;obtain⟨o,u,q1,q2,q3⟩:=T2.bL _ p.1 p.2 v e1 e;have lk:=tI T2.nd e1;exact⟨u,q3.up e0.bs.x.d,.inr ⟨.inr (S.Ka _ (List.mem_map.mpr ⟨p,Yn e1,rfl⟩)),p.2,lk,_,(pin q1).2,q2⟩⟩
 ·obtain⟨o,u,q1,q2⟩:=T2.cell (show clos.lookup y=some c from h);obtain⟨p1,p2⟩:=pin q1;refine⟨⟨_,o,p2,q2⟩,?_,.inr ⟨rfl,o,p1⟩⟩;cases e:z.M c with
  |none=>rfl
  |some m=>have:=(e0.hok.ob c m e).1;rw[p1]at this;cases this
 ·show _=((ps++clos.map (·.1))++ls).length;rw[XI,XI,XI,XI,Xr,Xr,Xr,Xr,hl,T2.len]
theorem zN {G:Gx}{z:Z}{c:Addr}{o:Obj}{q:Str} (bs:Bs G z.F) (ok:aE G z.F z.M z.s.heap) (h:G.ex c=some (.dat o)) (r:ew o q):z.s.heap.CodeRec (.ref c) q:=by
 obtain⟨vs,t,h1,h2⟩:=r;exact⟨c,o,vs,t,rfl,ok.fz c _ (bs.x c _ h),h1,h2⟩
theorem Ke {G:Gx}{m:Nm}{W:Wd}{k n:Nat}{f c:Addr}{o':Obj}{qual:Str}{params:Arguments}{body:Expr}{scope:Scope}{clos:eS}{pm ctv:Value}{ps:List Str}{ws:List D}{sp:Sp}{e:E}
  (hf:G.ex f=some (.dat (PySem.W.kla_obj "<lambda>" qual params body scope clos pm c ctv))) (hc:G.ex c=some (.dat o')) (hr:ew o' qual) (S:mi ps (clos.map (·.1)) scope) (T2:ka G clos ws) (nd:(ps++clos.map (·.1)).Nodup) (En:lX m W k G) (tJ:aQ m n (ps++clos.map (·.1)) scope body=e)
  (h:∀ds M Q E,sp ds M Q E->ds.length=ps.length/\(e.w W m.aj).1 (ds.map some++ws.map some) M (aZ Q)):bf G (k+1) f (PySem.W.kla_fn "<lambda>" qual params body scope clos pm (.ref c) ctv) ps sp:=by
 refine⟨λds M Q E z=>(h ds M Q E z).1,λA outer z args us ds Q E room e0 ce r hs=>?_⟩;obtain⟨hl,hq⟩:=h _ _ _ _ hs;have ho:z.s.heap.get? f=some _:=e0.hok.fz f _ (e0.bs.x f _ hf);refine Y9 (R:=CR G z (aZ Q) E) ?_ λr s q=>q.ret;refine PySem.W.kla_callFunE room.depth ho rfl S.UM S.jD rfl (zN e0.bs e0.hok hc hr) (ce _ _ _ _ ?_);refine wpAny_newFunctionEnv S.oV (λy hy=>S.tG _ (Zf (show (y.1,y.2)∈ps.zip us from hy)).1) (λh' bv dR=>?_) S.kind;have hk:∀b o,z.s.heap.get? b=some o->h'.get? b=some o:=λb o e=>by
  rw[dR.2 b (XH (XF e))];exact Xq _ e
 refine⟨(e0.bp.ju.keeps e0.bk).keeps hk,PySem.W.kla_codeExpr ?_⟩;have I:=zJ (ls:=[]) (qual:=qual) (f:=f) (cd:=.ref c) (E:=E) (tk:=z.s.toks+(ps.zip us).length) S room.hd e0 hl (List.nodup_append.mp nd).1 r T2 bv dR;rw[XO,YN,XO]at I;have C:bj m W k (ps++clos.map (·.1)) scope (oX G (ps++clos.map (·.1)) qual scope clos f (.ref c) A outer z.s E):=⟨rfl,rfl,nd,rfl,room.deeper _,En⟩;rw[<- tJ]at hq;exact Zv ((i4 n C body).e _ _ _ _ I hq λd z1 u l J rd q=>(⟨d,z1,⟨rfl,l,J.hok,J.os,J.bare⟩,rd,q⟩:CR G z (aZ Q) E (.ok (.ret u)) z1.s)) (λ_ _ h=>h) λe s' hs=>hs.no.elim
theorem Kf {G:Gx}{m:Nm}{W:Wd}{k n:Nat}{f c:Addr}{o':Obj}{name qual:Str}{params:Arguments}{body:List Stmt}{scope:Scope}{clos:eS}{doc pm ctv:Value}{ps ls:List Str}{ws:List D}{sp:Sp}{b:B}
  (hf:G.ex f=some (.dat (PySem.W.fnMade name qual params body scope clos doc pm c ctv))) (hc:G.ex c=some (.dat o')) (hr:ew o' qual) (S:mi ps (clos.map (·.1)) scope) (T2:ka G clos ws) (nd:((ps++clos.map (·.1))++ls).Nodup) (En:lX m W k G)
  (tJ:aF m n ((ps++clos.map (·.1))++ls) scope body=b)
  (h:∀ds M Q E,sp ds M Q E->ds.length=ps.length/\b.w W m.aj (a9 Q) ((ds.map some++ws.map some)++ls.map λ_=>none) M):bf G (k+1) f (PySem.W.fnX name qual params body scope clos .none .none doc pm none (.ref c) ctv) ps sp:=by
 refine⟨λds M Q E z=>(h ds M Q E z).1,λA outer z args us ds Q E room e0 ce r hs=>?_⟩;obtain⟨hl,hq⟩:=h _ _ _ _ hs;have ho:z.s.heap.get? f=some _:=e0.hok.fz f _ (e0.bs.x f _ hf);refine Y9 (R:=CR G z (aZ Q) E) ?_ λr s q=>q.ret;refine codeAny_call_function room.depth ho rfl S.UM S.jD rfl (zN e0.bs e0.hok hc hr) (ce _ _ _ _ ?_);refine wpAny_newFunctionEnv S.oV (λy hy=>S.tG _ (Zf (show (y.1,y.2)∈ps.zip us from hy)).1) (λh' bv dR=>?_) S.kind;have hk:∀b o,z.s.heap.get? b=some o->h'.get? b=some o:=λb o e=>by
  rw[dR.2 b (XH (XF e))];exact Xq _ e
 refine⟨(e0.bp.ju.keeps e0.bk).keeps hk,codeAny_func ?_⟩;have I:=zJ (ls:=ls) (qual:=qual) (f:=f) (cd:=.ref c) (E:=E) (tk:=z.s.toks+(ps.zip us).length) S room.hd e0 hl (List.nodup_append.mp (List.nodup_append.mp nd).1).1 r T2 bv dR;have C:bj m W k ((ps++clos.map (·.1))++ls) scope (oX G ((ps++clos.map (·.1))++ls) qual scope clos f (.ref c) A outer z.s E):=⟨rfl,rfl,nd,rfl,room.deeper _,En⟩;have qg:∀y,loc scope y=true->(oX G ((ps++clos.map (·.1))++ls) qual scope clos f (.ref c) A outer z.s E).fn y=true\/scope.names.lookup y=some .local:=λy hy=>by
  rcases oP hy with e |e
  ·exact .inr e
  ·exact absurd rfl (S.oV _ (PySem.mem_of_lookup e))
 rw[<- tJ]at hq;refine Zv (gY (s6 C qg n) body _ _ _ (λfl s'=>match fl with |.ret u=>CR G z (aZ Q) E (.ok (.ret u)) s' |.next=>CR G z (aZ Q) E (.ok (.ret .none)) s' |_=>False) I hq
  ⟨fun τ z1 l J q=>⟨.ai,z1,⟨rfl,l,J.hok,J.os,J.bare⟩,by rw[ab],q⟩,λd τ z1 u l J rd q=>⟨d,z1,⟨rfl,l,J.hok,J.os,J.bare⟩,rd,q⟩,λ_ _ _ _ q=>q,λ_ _ _ _ q=>q⟩) (λfl s' hs=>?_) λe s' hs=>hs.no.elim
 cases fl <;> first |exact hs |exact False.elim hs
end N
end
section
set_option maxHeartbeats 1000000
namespace N
open PySem PySem.Spec PyProof.Rows L2
noncomputable def Wo.at (w:Wo) (e:Fz):Wo:={ w with G:={ w.G with ex:=e } }
theorem Wo.Ok.at {w:Wo} (O:w.Ok) (e:Fz):(w.at e).Ok where
 df:=λi d h=>let ⟨f,fd,h1,h2,h3⟩:=O.df i d h;⟨f,fd,h1,h2,h3⟩
 gv:=λi x h=>let ⟨u,h1,h2⟩:=O.gv i x h;⟨u,h1,λF hF=>(h2 F hF).xe e⟩
 bl:=O.bl
 fl:=O.fl
 mt:=O.mt
 cl:=O.cl
section
variable {X:Cx} {τ:St} {z:Z}
theorem zO {G:Gx}{k:Nat}{f:Addr}{fd:FuncData}{ps:List Str}{sp:Sp}{cls:Value} (hf:G.ex f=some (.dat { cls:=cls,data:=.func fd })) (hc:cls=.type "function") (F:bf G k f fd ps sp) (hb:∀K,bE K fd ps []):cJ G k f sp:=by
 subst hc;refine⟨fd,ps,[(f,{ cls:=.type "function",data:=.func fd })],F,by simp [PySem.W.keepIn,List.lookup],hb _,λz _ bs ok a o q=>?_⟩;by_cases y:a=f
 ·subst y;simp [List.lookup]at q;rw[<- q];exact ok.fz a _ (bs.x a _ hf)
 ·have:(a == f)=false:=by simpa using y
  simp [List.lookup,this]at q
theorem Kg {clos:eS}{ws:List D} (I:ae X τ z) (len:ws.length=clos.length) (nd:(clos.map (·.1)).Nodup) (h:∀ (i:Nat) x a w,clos[i]?=some (x,a)->ws[i]?=some w->X.env.cells.lookup x=some a/\X.fn x=true/\X.env.scope.names.lookup x=some .cell/\∃ j:Nat,X.N[j]?=some x/\τ[j]?=some (some w)) :
  ka { X.G with ex:=aS z.F (X.aR z.s.heap) } clos ws:=by
 have cl:∀x c,clos.lookup x=some c->X.env.cells.lookup x=some c:=λx c e=>by
  obtain⟨i,hi,Uk⟩:=List.mem_iff_getElem.mp (PySem.mem_of_lookup e);exact (h i x c (ws[i]'(by rw[len];exact hi)) (by rw[Xx hi,Uk]) (Xx _)).1
 refine⟨len,λi x a w e1 e2=>?_,nd,λx y c e1 e2=>I.ok.inj x y c (cl _ _ e1) (cl _ _ e2)⟩;obtain⟨h1,h2,h3,j,h4,h5⟩:=h i x a w e1 e2;obtain⟨m,hn,hl⟩:=I.loc;obtain⟨u,r,k⟩:=hl j x w h4 h5 (.inr (.inl h3));rcases k with k |⟨_,c,e,o,WD,WE⟩
 ·have q:X.env.scope.names.lookup x=some .local:=k.1;rw[h3]at q;cases q
 ·rw[h1]at e;cases e;refine⟨o,u,?_,WE,(r.up I.cA.d).xe _⟩;show aS z.F (X.aR z.s.heap) a=_;refine dm ?_;unfold Cx.aR;rw[if_neg (I.jw h1),if_pos ⟨x,h2,h1⟩,WD];rfl
end
theorem zP {l:Expr} (hl:bS l=true:=by rfl):∀{as:List Expr},a6 as=true->a6 (as++[l])=true
 |[],_=>by show (bS l && true)=true;rw[hl];rfl
 |a::as,h=>by
  have h':(bS a && a6 as)=true:=h;rw[Xy]at h';show (bS a && a6 (as++[l]))=true;rw[h'.1,zP hl h'.2];rfl
theorem Kh {X:Cx}{m:Nm}{W:Wd}{f:Expr->E}{kb:Expr} (Ki:bS kb=true) {as:List Expr} (hs:a6 as=true) (g:∀ e∈as,PE X e ((f e).w W m.aj).1) (pos:Pos) (τ:St):∀ (z:Z) (P:List D->Mp->Prop) (R:List Value->Shared->Prop),ae X τ z->(L.of (as.map f)).w W m.aj τ z.M P ->
  (∀ds z1 us,Le z.F z1.F->ae X τ z1->af X.G z1.F ds us->P ds z1.M->N.W X (eval kb X.env) (λv s=>R (us++[v]) s) z1.s)->N.W X (spliced (backTo pos (starEach (as++[kb]) X.env))) R z.s:=by
 induction as with
 |nil=>
  intro z P R I h k;have h0:P [] z.M:=h;have k0:=k [] z [] Le.rfl I .nil h0;show N.W X (spliced (backTo pos (starEach [kb] X.env))) R z.s;rw[bF Ki];refine YS (Zv k0 (λv s q=>?_) λ_ _ q=>q);exact Zq q
 |cons a as ih=>
  intro z P R I h k;have h':(bS a && a6 as)=true:=hs;rw[Xy]at h';have h1:((f a).w W m.aj).1 τ z.M λx M1=>(L.of (as.map f)).w W m.aj τ M1 λxs M2=>P (x::xs) M2:=h;show N.W X (spliced (backTo pos (starEach (a::(as++[kb])) X.env))) R z.s;rw[bF h'.1];show N.W X (spliced ((false,eval a X.env)::backTo pos (starEach (as++[kb]) X.env))) R z.s;refine YS (g a XA τ z _ _ I h1 λx z1 v l1 I1 r1 q1=>?_);refine ih h'.2 (λe he=>g e (XB _ he)) z1 (λxs M=>P (x::xs) M) (λvs s=>R (v::vs) s) I1 q1 λds z2 us l2 I2 r2 q2=>?_;exact k (x::ds) z2 (v::us) (l1.tr l2) I2 (.cons (r1.up l2.d) r2) q2
theorem Kj {w:Wo} (O:w.Ok) {nm:Nm} (hn:w.nm=nm) {k kl n nl:Nat}{ns lps:List Str}{as:List Expr}{params:Arguments}{body:Expr}{scope:Scope}{g:Str}{gp lp cp rp:Pos}{el:E}{es:L}{sp mj:Sp} (i ig:Nat) (d:Ds) (hd:w.ds[i]?=some d)
  (c9:ax d.st=[.Return (some (.Call (.Name g gp) (as++[.Lambda params body scope lp]) [] cp)) rp])
  (LM:∀f fd q,c8 w.G.K q q d.st f fd->w.G.mg d.x=some (.ref f)->∃c T,fd.code=.ref c/\dC w.G c T lp (q++".<locals>."++"<lambda>"))
  (l:a0 w) (hl:l.Ok k) (S:aB ns d.ps (ag d.st)) (bn:∀q L f cd,closureFor scope (envOfC q (ag d.st) L f cd)=pure []) (tu:∀q L f cd,defaultsOf params (envOfC q (ag d.st) L f cd)=([],[]))
  (hg:aW (ag d.st) g=true) (cH:(g == ("__debug__" : Str))=false) (tK:nm.bT[ig]?=some g) (bv:a6 as=true) (has:L.of (as.map (aQ nm n ns (ag d.st)))=es)
  (SL:mi lps [] scope) (tL:lps.Nodup) (tM:∀q pm c ctv K,bE K (PySem.W.kla_fn "<lambda>" q params body scope [] pm c ctv) lps []) (ec:aQ nm nl lps scope body=el)
  (HL:∀e,Le w.G.ex e->∃ll:a0 (w.at e),ll.Ok kl/\∀ds M Q E,mj ds M Q E->ds.length=lps.length/\(el.w ll.wd nm.aj).1 (ds.map some) M (aZ Q))
  (H:∀ds M Q E,sp ds M Q E->ds.length=d.ps.length/\es.w l.wd nm.aj (start ns ds) M λvs M1=>∀e f,Le w.G.ex e->cJ (w.at e).G (kl+1) f mj->∃dX,FO (w.at e) ig k dX/\dX (vs++[.ref f]) M1 (aZ Q) X0):FO w i (k+1) sp:=by
 subst hn;obtain⟨f,fd,F⟩:=O.df i d hd;obtain⟨q,Fn⟩:=F.fn;obtain⟨c,T,hc,LK⟩:=LM f fd q Fn F.mg;obtain⟨oc,od,kV,doc,pm,TU,an,ct,ch,rfl,lk,dr⟩:=Fn.ex;obtain rfl:an=.ref c:=hc;have key:bf w.G (k+1) f (PySem.W.fnOf q q (d8 d.st) (ax d.st) (ag d.st) .none kV doc pm TU (.ref c) ct) d.ps λds M R E=>∃Q,R=aZ Q/\sp ds M Q E:=by
  refine qQ lk dr S (λds M R E ⟨Q,_,z⟩=>(H ds M Q E z).1) λA outer s M ds R E hr ⟨Q,e,z⟩=>?_;subst e;obtain⟨_,hq⟩:=H ds M Q E z;have C:bj w.nm l.wd k ns (ag d.st) (b6 w.G ns q (ag d.st) f (.ref c) A outer s E):=⟨rfl,rfl,S.nd,rfl,hr,hl.env O⟩;rw[c9];refine⟨λen τ M=>es.w l.wd w.nm.aj τ M λvs M1=>∀e f,Le w.G.ex e->cJ (w.at e).G (kl+1) f mj->∃dX,FO (w.at e) ig k dX/\dX (vs++[.ref f]) M1 en.rt X0,?_,hq⟩;refine vW fun τ z en R I hq KK=>?_;refine wpAny_Return_some ?_
  -- kP Tw def
  have ml:=tK;rw[show w.nm.bT=w.ds.map (·.x) from rfl,XJ]at ml;obtain⟨Uo,mm,rfl⟩:=Option.map_eq_some_iff.mp ml;obtain⟨VF,Kk,Fg⟩:=O.df ig Uo mm;refine Yt (ip I (C.aW hg) Fg.mg cH ?_);have pa:=i3 (X:=b6 w.G ns q (ag d.st) f (.ref c) A outer s E) (f:=aQ w.nm n ns (ag d.st)) (W:=l.wd) (m:=w.nm) bv λe _=>(i4 n C e).e;rw[has]at pa;have go:W (b6 w.G ns q (ag d.st) f (.ref c) A outer s E) (spliced (backTo cp (starEach (as++[.Lambda params body scope lp]) (b6 w.G ns q (ag d.st) f (.ref c) A outer s E).env))) (λvs s1=>w.G.K.In s1.heap/\W (b6 w.G ns q (ag d.st) f (.ref c) A outer s E) (call (.ref VF) vs) (λv s'=>R (.ret v) s') s1) z.s:=by
   refine Kh (X:=b6 w.G ns q (ag d.st) f (.ref c) A outer s E) (f:=aQ w.nm n ns (ag d.st)) (W:=l.wd) (m:=w.nm) rfl bv (λe _=>(i4 n C e).e) cp τ z _ _ I (by rw[has];exact hq) λds z1 us l1 I1 r1 q1=>?_;refine J7 (clos:=[]) I1 LK (tu _ _ _ _) (bn _ _ _ _) rfl λf' c' o' ctv z2 l2 I2 Ub h1 h2 h3=>?_;refine⟨I2.bQ,?_⟩;have lx:Le w.G.ex (aS z2.F ((b6 w.G ns q (ag d.st) f (.ref c) A outer s E).aR z2.s.heap)):=I2.bs.x.tr I2.cA;have hh:cJ (w.at (aS z2.F ((b6 w.G ns q (ag d.st) f (.ref c) A outer s E).aR z2.s.heap))).G (kl+1) f' mj:=by
    obtain⟨ll,tN,hb⟩:=HL _ lx;refine zO (I2.cA f' _ h1) rfl (Ke (m:=w.nm) (W:=ll.wd) (k:=kl) (n:=nl) (ws:=[]) (I2.cA f' _ h1) (I2.cA c' _ h2) h3 SL ⟨rfl,(by intro _ _ _ _ e;cases e),List.nodup_nil,(by intro _ _ _ e;cases e)⟩ (by simpa using tL) (tN.env (O.at _)) (by simpa using ec) λds M Q E z=>?_) (λK=>tM _ _ _ _ K);obtain⟨h1,h2⟩:=hb ds M Q E z;exact⟨h1,by simpa using h2⟩
   obtain⟨dX,FG,hs⟩:=q1 _ f' lx hh;obtain⟨tO,tP,Kl,e1,e2,e3⟩:=FG;have mo:w.ds[ig]?=some tO:=e1;rw[mm]at mo;cases mo;have e4:w.G.mg Uo.x=some (.ref tP):=e2.mg;rw[Fg.mg]at e4;cases e4;refine nZ (x:=aS z2.F ((b6 w.G ns q (ag d.st) f (.ref c) A outer s E).aR z2.s.heap)) (bc:=[]) (ds:=[]) (vs:=ds++[.ref f']) (Q:=en.rt) e3 C.room e2.b gX fB I2 Le.rfl I2.bQ ((r1.up l2.d).append (.cons (by rw[ab]) .nil)) (by rw[XO,Ub];exact hs) λd z3 u l3 I3 r3 q3=>KK.rt d τ z3 u (l1.tr (l2.tr l3)) I3 r3 q3
  cases as with
  |nil=>exact PySem.W.callWith_K (h₀:=w.G.base) I.ok.bp.fg Fg.kp go rfl rfl
  |cons a as=>
   have h':(bS a && a6 as)=true:=bv;rw[Xy]at h';exact PySem.W.callWith_K (h₀:=w.G.base) I.ok.bp.fg Fg.kp go (bF h'.1) (d7 (zP rfl h'.2))
 refine⟨d,f,_,hd,F,⟨λds M Q E z=>(H ds M Q E z).1,λA outer z args us ds Q E hr e0 hb r hs=>Y9 (key.eu A outer z args us ds (aZ Q) E hr e0 hb r ⟨Q,rfl,hs⟩) λr s q=>q.ret⟩⟩
end N
end
section
set_option maxHeartbeats 1000000
namespace N
open PySem PySem.Spec PyProof.Rows L2
theorem zQ {w:Wo} (O:w.Ok) {nm:Nm} (hn:w.nm=nm) {k kp n np j ci:Nat}{ns gj ls:List Str}{es:List Expr}{e0:Expr}{params:Arguments}{body:List Stmt}{scope:Scope}{name x g:Str}{gp zR cp rp:Pos}{b:B}{t:L}{sp:Sp}{kc:D->Sp} (i ig:Nat) (d:Ds) (hd:w.ds[i]?=some d)
  (c9:ax d.st=[.FunctionDef name params body [] none [] scope none name zR,.Return (some (.Call (.Name g gp) (e0::es) [] cp)) rp])
  (LM:∀f fd q,c8 w.G.K q q d.st f fd->w.G.mg d.x=some (.ref f)->∃c T,fd.code=.ref c/\dC w.G c T zR (q++".<locals>."++name))
  (l:a0 w) (hl:l.Ok k) (S:aB ns d.ps (ag d.st)) (hj:ns[j]?=some name) (Ko:loc (ag d.st) name=true) (Kp:ci≠j) (Kq:ns[ci]?=some x) (zU:ci<d.ps.length) (Kr:(ag d.st).names.lookup x=some .cell)
  (tz:∀q L f cd,qualnameIn (envOfC q (ag d.st) L f cd) name name=q++".<locals>."++name)
  (bn:∀q L f cd,closureFor scope (envOfC q (ag d.st) L f cd)=pure [(x,L+1)]) (Ks:∀L:Addr,(cellsFrom (L+1) (ag d.st).names []).lookup x=some (L+1)) (tx:params.defaults=[]) (mh:params.kw_defaults=[]) (ha:∀env,annTrees params none env=[])
  (hg:aW (ag d.st) g=true) (cH:(g == ("__debug__" : Str))=false) (tK:nm.bT[ig]?=some g) (bv:a6 (e0::es)=true) (has:L.of ((e0::es).map (aQ nm n ns (ag d.st)))=t)
  (SL:mi gj [x] scope) (tL:((gj++[x])++ls).Nodup) (tM:∀q clos doc pm c ctv K,bE K (PySem.W.fnX name q params body scope clos .none .none doc pm none c ctv) gj []) (ec:aF nm np ((gj++[x])++ls) scope body=b)
  (HL:∀e v,Le w.G.ex e->∃ll:a0 (w.at e),ll.Ok kp/\∀ds M Q E,kc v ds M Q E->ds.length=gj.length/\b.w ll.wd nm.aj (a9 Q) ((ds.map some++[some v])++ls.map λ_=>none) M)
  (H:∀ds M Q E,sp ds M Q E->ds.length=d.ps.length/\∀f,t.w l.wd nm.aj ((start ns ds).set j (some (.ref f))) M λvs M1=>∀e v,Le w.G.ex e->ds[ci]?=some v->cJ (w.at e).G (kp+1) f (kc v)->∃dX,FO (w.at e) ig k dX/\dX vs M1 (aZ Q) X0):FO w i (k+1) sp:=by
 subst hn;obtain⟨f,fd,F⟩:=O.df i d hd;obtain⟨q,Fn⟩:=F.fn;obtain⟨c,T,hc,LK⟩:=LM f fd q Fn F.mg;obtain⟨oc,od,kV,doc,pm,TU,an,ct,ch,rfl,lk,dr⟩:=Fn.ex;obtain rfl:an=.ref c:=hc;have key:bf w.G (k+1) f (PySem.W.fnOf q q (d8 d.st) (ax d.st) (ag d.st) .none kV doc pm TU (.ref c) ct) d.ps λds M R E=>∃Q,R=aZ Q/\sp ds M Q E:=by
  refine qQ lk dr S (λds M R E ⟨Q,_,z⟩=>(H ds M Q E z).1) λA outer s M ds R E hr ⟨Q,e,z⟩=>?_;subst e;obtain⟨hlen,hq⟩:=H ds M Q E z;have C:bj w.nm l.wd k ns (ag d.st) (b6 w.G ns q (ag d.st) f (.ref c) A outer s E):=⟨rfl,rfl,S.nd,rfl,hr,hl.env O⟩;obtain⟨v,hv⟩:∃v,ds[ci]?=some v:=⟨_,Xx (by rw[hlen];exact zU)⟩;rw[c9];refine⟨λen τ M=>τ[ci]?=some (some v)/\∀f,t.w l.wd w.nm.aj (τ.set j (some (.ref f))) M λvs M1=>∀e v,Le w.G.ex e->ds[ci]?=some v->cJ (w.at e).G (kp+1) f (kc v)->∃dX,FO (w.at e) ig k dX/\dX vs M1 en.rt X0,?_,?_,hq⟩
  case refine_2=>
   unfold start;rw[Yo (by rw[Xr,hlen];exact zU),XJ,hv];rfl
  intro τ z en R I hq KK;obtain⟨hτ,hq⟩:=hq;refine wpAny_execs_cons (J8 (clos:=[(x,s.heap.objs.size+1)]) I (by rw[show qualnameIn (b6 w.G ns q (ag d.st) f (.ref c) A outer s E).env name name=_ from tz _ _ _ _];exact LK) S.nd hj (oP Ko) (.inl rfl) tx mh (ha _) (bn _ _ _ _) rfl λf' c' o' zW ctv z1 l1 I1 Ub h1 h2 h3=>?_);have ml:=tK;rw[show w.nm.bT=w.ds.map (·.x) from rfl,XJ]at ml;obtain⟨Uo,mm,rfl⟩:=Option.map_eq_some_iff.mp ml;obtain⟨VF,Kk,Fg⟩:=O.df ig Uo mm;have pa:=i3 (X:=b6 w.G ns q (ag d.st) f (.ref c) A outer s E) (f:=aQ w.nm n ns (ag d.st)) (W:=l.wd) (m:=w.nm) bv λe _=>(i4 n C e).e;rw[has]at pa;have h':(bS e0 && a6 es)=true:=bv;rw[Xy]at h';have pr:∀Rf:Flow->Shared->Prop,(∀u s,R (.ret u) s->Rf (.ret u) s)->W (b6 w.G ns q (ag d.st) f (.ref c) A outer s E) (exec (.Return (some (.Call (.Name Uo.x gp) (e0::es) [] cp)) rp) (b6 w.G ns q (ag d.st) f (.ref c) A outer s E).env) Rf z1.s:=λRf Kt=>by
   refine wpAny_Return_some ?_;refine Yt (ip I1 (C.aW hg) Fg.mg cH ?_);refine PySem.W.callWith_K (h₀:=w.G.base) I1.ok.bp.fg Fg.kp (pa cp _ z1 _ _ I1 (by rw[Ub];exact hq f') λvs z2 us l2 I2 r2 q2=>⟨I2.bQ,?_⟩) (bF h'.1) (d7 h'.2);have lx:Le w.G.ex (aS z2.F ((b6 w.G ns q (ag d.st) f (.ref c) A outer s E).aR z2.s.heap)):=I2.bs.x.tr I2.cA;have hh:cJ (w.at (aS z2.F ((b6 w.G ns q (ag d.st) f (.ref c) A outer s E).aR z2.s.heap))).G (kp+1) f' (kc v):=by
    obtain⟨ll,tN,hb⟩:=HL _ v lx;have lE:=I2.cA f' _ (l2 f' _ h1);rw[show qualnameIn (b6 w.G ns q (ag d.st) f (.ref c) A outer s E).env name name=_ from tz _ _ _ _]at lE h3;have T2:=Kg (clos:=[(x,s.heap.objs.size+1)]) (ws:=[v]) I2 rfl (by simp) λi y a u e1 e2=>by
     cases i with
     |succ i=>cases e1
     |zero=>
      cases e1;cases e2;exact⟨Ks _,rfl,Kr,ci,Kq,by rw[List.getElem?_set_ne (YZ Kp)];exact hτ⟩
    exact zO lE rfl (Kf (m:=w.nm) (W:=ll.wd) (k:=kp) (n:=np) lE (I2.cA c' _ (l2 c' _ h2)) h3 SL T2 tL (tN.env (O.at _)) ec hb) λK=>tM _ _ _ _ _ _ K
   obtain⟨dX,FG,hs⟩:=q2 _ v lx hv hh;obtain⟨tO,tP,Kl,e1,e2,e3⟩:=FG;have mo:w.ds[ig]?=some tO:=e1;rw[mm]at mo;cases mo;have e4:w.G.mg Uo.x=some (.ref tP):=e2.mg;rw[Fg.mg]at e4;cases e4;exact nZ (x:=aS z2.F ((b6 w.G ns q (ag d.st) f (.ref c) A outer s E).aR z2.s.heap)) (bc:=[]) (ds:=[]) (Q:=en.rt) e3 C.room e2.b gX fB I2 Le.rfl I2.bQ r2 (by rw[XO];exact hs) λd z3 u l3 I3 r3 q3=>Kt _ _ (KK.rt d _ z3 u (l1.tr (l2.tr l3)) I3 r3 q3)
  exact wpAny_execs_cons (pr _ λu s h=>h)
 refine⟨d,f,_,hd,F,⟨λds M Q E z=>(H ds M Q E z).1,λA outer z args us ds Q E hr e0 hb r hs=>Y9 (key.eu A outer z args us ds (aZ Q) E hr e0 hb r ⟨Q,rfl,hs⟩) λr s q=>q.ret⟩⟩
end N
end
section
set_option maxHeartbeats 1000000
namespace N
open PySem PySem.Spec PyProof.Rows L2
set_option genInjectivity false
set_option genSizeOfSpec false
structure zX where
 g:Str
 gp:Pos
 as:List Expr
 params:Arguments
 body:Expr
 scope:Scope
 lp:Pos
 cp:Pos
 rp:Pos
structure tQ where
 name:Str
 params:Arguments
 body:List Stmt
 scope:Scope
 np:Pos
 g:Str
 gp:Pos
 es:List Expr
 cp:Pos
 rp:Pos
noncomputable def zY:Stmt->Option (Option Expr×Pos)
 |.Return e p=>some (e,p)
 |_=>none
noncomputable def zZ:Expr->Option (Expr×List Expr×Pos)
 |.Call f as _ p=>some (f,as,p)
 |_=>none
noncomputable def Ku:Expr->Option (Arguments×Expr×Scope×Pos)
 |.Lambda a b s p=>some (a,b,s,p)
 |_=>none
noncomputable def Kv:Stmt->Option (Str×Arguments×List Stmt×Scope×Pos)
 |.FunctionDef n a b _ _ _ s _ _ p=>some (n,a,b,s,p)
 |_=>none
noncomputable def Kw (b:List Stmt):Option zX:=b.head?.bind λs=>(zY s).bind λr=>r.1.bind λe=>(zZ e).bind λc=>(lT c.1).bind λg=>c.2.1.getLast?.bind λl=>(Ku l).map λq=>
 ⟨g.1,g.2,c.2.1.dropLast,q.1,q.2.1,q.2.2.1,q.2.2.2,c.2.2,r.2⟩
noncomputable def z9 (b:List Stmt):Option tQ:=b.head?.bind λd=>(Kv d).bind λq=>b.getLast?.bind λs=>(zY s).bind λr=>r.1.bind λe=>(zZ e).bind λc=>(lT c.1).map λg=>
 ⟨q.1,q.2.1,q.2.2.1,q.2.2.2.1,q.2.2.2.2,g.1,g.2,c.2.1,c.2.2,r.2⟩
end N
end
section
namespace NQ
open PySem N
open L2
inductive Kd where
 |num |word
 |row (fs:List (Str×Kd))
 |ah (k:Kd)
mutual
noncomputable def kD:Kd->D
 |.num=>.tup [.str "num"]
 |.word=>.tup [.str "word"]
 |.row fs=>.tup [.str "row",.tup (bM fs)]
 |.ah k=>.tup [.str "bag",kD k]
noncomputable def bM:List (Str×Kd)->List D
 |[]=>[]
 |(f,k)::r=>.tup [.str f,kD k]::bM r
end
inductive Qn where
 |num (i:Int) |word (s:Str) |var (x:Str) |tab (x:Str) |none (k:Kd)
 |row (fs:List (Str×Qn))
 |at (f:Str) (q:Qn)
 |add (a b:Qn) |mul (a b:Qn) |one (q:Qn) |both (a b:Qn)
 |times (i:Int) (q:Qn)
 |for (x:Str) (a b:Qn) |aL (c q:Qn) |let (x:Str) (a b:Qn)
 |same (a b:Qn) |under (a b:Qn) |and (a b:Qn) |or (a b:Qn) |not (a:Qn)
mutual
noncomputable def qD:Qn->D
 |.num i=>.tup [.str "num",.int i]
 |.word s=>.tup [.str "word",.str s]
 |.var s=>.tup [.str "var",.str s]
 |.tab s=>.tup [.str "table",.str s]
 |.none k=>.tup [.str "none",kD k]
 |.row fs=>.tup [.str "row",.tup (bG fs)]
 |.at f q=>.tup [.str "at",.str f,qD q]
 |.add a b=>.tup [.str "add",qD a,qD b]
 |.mul a b=>.tup [.str "mul",qD a,qD b]
 |.one a=>.tup [.str "one",qD a]
 |.both a b=>.tup [.str "both",qD a,qD b]
 |.times i a=>.tup [.str "times",.int i,qD a]
 |.for x a b=>.tup [.str "for",.str x,qD a,qD b]
 |.aL a b=>.tup [.str "when",qD a,qD b]
 |.let x a b=>.tup [.str "let",.str x,qD a,qD b]
 |.same a b=>.tup [.str "same",qD a,qD b]
 |.under a b=>.tup [.str "under",qD a,qD b]
 |.and a b=>.tup [.str "and",qD a,qD b]
 |.or a b=>.tup [.str "or",qD a,qD b]
 |.not a=>.tup [.str "not",qD a]
noncomputable def bG:List (Str×Qn)->List D
 |[]=>[]
 |(f,q)::r=>.tup [.str f,qD q]::bG r
end
mutual
noncomputable def nq:Qn->Nat
 |.num _=>1 |.word _=>1 |.var _=>1 |.tab _=>1 |.none _=>1
 |.row fs=>1+bO fs
 |.at _ q=>1+nq q
 |.add a b=>1+nq a+nq b
 |.mul a b=>1+nq a+nq b
 |.one a=>1+nq a
 |.both a b=>1+nq a+nq b
 |.times _ a=>1+nq a
 |.for _ a b=>1+nq a+nq b
 |.aL a b=>1+nq a+nq b
 |.let _ a b=>1+nq a+nq b
 |.same a b=>1+nq a+nq b
 |.under a b=>1+nq a+nq b
 |.and a b=>1+nq a+nq b
 |.or a b=>1+nq a+nq b
 |.not a=>1+nq a
noncomputable def bO:List (Str×Qn)->Nat
 |[]=>0
 |(_,q)::r=>nq q+bO r
end
mutual
noncomputable def kz:Kd->Nat
 |.num=>1
 |.word=>1
 |.row fs=>mq fs+1
 |.ah k=>kz k+1
noncomputable def mq:List (Str×Kd)->Nat
 |[]=>0
 |(_,k)::r=>kz k+mq r+1
end
abbrev Sc:=List (Str×Kd)
noncomputable def lk (x:Str):Sc->Option Kd
 |[]=>.none
 |(y,k)::r=>if x=y then some k else lk x r
mutual
noncomputable def kd:Kd->Nat
 |.num=>1
 |.word=>1
 |.row fs=>ke fs+3
 |.ah k=>kd k+1
noncomputable def ke:List (Str×Kd)->Nat
 |[]=>0
 |(_,k)::r=>max (kd k) (ke r)
end
mutual
noncomputable def g7:Kd->Bool
 |.num=>true
 |.word=>true
 |.row fs=>oY fs
 |.ah k=>g7 k
noncomputable def oY:List (Str×Kd)->Bool
 |[]=>true
 |(f,k)::r=>decide (f≠"table") && g7 k && oY r
end
mutual
inductive Ty (S:Str->Option Kd):Sc->Qn->Kd->Prop
 |num {G i}:Ty S G (.num i) .num
 |word {G s}:Ty S G (.word s) .word
 |var {G x k}:lk x G=some k->Ty S G (.var x) k
 |tab {G x k}:S x=some k->Ty S G (.tab x) (.ah k)
 |none {G k}:g7 k=true->kz k<900->Ty S G (.none k) (.ah k)
 |row {G fs ks}:fs.length<100->("table" : Str) ∉ ks.map (·.1)->dg S G fs ks->Ty S G (.row fs) (.row ks)
 |at {G f q ks k}:(ks.map (·.1)).Nodup->Ty S G q (.row ks)->lk f ks=some k->Ty S G (.at f q) k
 |add {G a b}:Ty S G a .num->Ty S G b .num->Ty S G (.add a b) .num
 |mul {G a b}:Ty S G a .num->Ty S G b .num->Ty S G (.mul a b) .num
 |one {G q k}:Ty S G q k->Ty S G (.one q) (.ah k)
 |both {G a b k}:kz k<900->Ty S G a (.ah k)->Ty S G b (.ah k)->Ty S G (.both a b) (.ah k)
 |times {G i a k}:Ty S G a (.ah k)->Ty S G (.times i a) (.ah k)
 |for {G x a b k l}:kd l<=20/\kz l<900->Ty S G a (.ah l)->Ty S ((x,l)::G) b (.ah k)->Ty S G (.for x a b) (.ah k)
 |aL {G c a k}:bV S G c->Ty S G a (.ah k)->Ty S G (.aL c a) (.ah k)
 |let {G x a b k l}:kd l<=20->Ty S G a l->Ty S ((x,l)::G) b k->Ty S G (.let x a b) k
inductive dg (S:Str->Option Kd):Sc->List (Str×Qn)->List (Str×Kd)->Prop
 |nil {G}:dg S G [] []
 |cons {G f q k r s}:Ty S G q k->dg S G r s->dg S G ((f,q)::r) ((f,k)::s)
inductive bV (S:Str->Option Kd):Sc->Qn->Prop
 |g8 {G a b}:Ty S G a .num->Ty S G b .num->bV S G (.same a b)
 |g9 {G a b}:Ty S G a .word->Ty S G b .word->bV S G (.same a b)
 |under {G a b}:Ty S G a .num->Ty S G b .num->bV S G (.under a b)
 |and {G a b}:bV S G a->bV S G b->bV S G (.and a b)
 |or {G a b}:bV S G a->bV S G b->bV S G (.or a b)
 |not {G a}:bV S G a->bV S G (.not a)
end
mutual
theorem gm:∀k,aG (kD k)=true
 |.num=>rfl
 |.word=>rfl
 |.row fs=>by rw[kD,aG,aO,aO,aO,aG,aG,Aa fs];rfl
 |.ah k=>by rw[kD,aG,aO,aO,aO,aG,gm k];rfl
theorem Aa:∀fs,aO (bM fs)=true
 |[]=>rfl
 |(f,k)::r=>by rw[bM,aO,aG,aO,aO,aO,aG,gm k,Aa r];rfl
end
mutual
theorem kf:∀k,a8 (kD k)<=kd k
 |.num=>by rw[kD,kd];decide
 |.word=>by rw[kD,kd];decide
 |.row fs=>by have:=Ab fs;rw[kD,a8,aT,aT,aT,a8,a8,kd];lia
 |.ah k=>by have:=kf k;rw[kD,a8,aT,aT,aT,a8,kd];lia
theorem Ab:∀fs,aT (bM fs)<=ke fs+1
 |[]=>by rw[bM,aT];lia
 |(f,k)::r=>by have:=kf k;have:=Ab r;rw[bM,aT,a8,aT,aT,aT,a8,ke];lia
end
theorem eU {a b:Str}{xs ys:List D} (h:aC (.tup (.str a::xs)) (.tup (.str b::ys))=true):a=b/\bD xs ys=true:=by
 simp only[aC,bD,qv,k8,Option.any_some,Xy,beq_iff_eq,Option.some.injEq]at h;exact⟨h.1.symm,h.2⟩
mutual
theorem oZ:∀{a b:Kd},aC (kD a) (kD b)=true->a=b
 |.num,b,h=>by cases b <;> first |rfl |(exact absurd (eU h).1 (by decide +kernel))
 |.word,b,h=>by cases b <;> first |rfl |(exact absurd (eU h).1 (by decide +kernel))
 |.row fs,b,h=>by
  cases b with
  |row gs=>
   have h:=(eU h).2;simp only[bD,aC,qv,Option.any_some,Xy]at h;rw[Ac h.1]
  |num=>exact absurd (eU h).1 (by decide +kernel)
  |word=>exact absurd (eU h).1 (by decide +kernel)
  |ah k=>exact absurd (eU h).1 (by decide +kernel)
 |.ah k,b,h=>by
  cases b with
  |ah l=>
   have h:=(eU h).2;simp only[bD,Xy]at h;rw[oZ h.1]
  |num=>exact absurd (eU h).1 (by decide +kernel)
  |word=>exact absurd (eU h).1 (by decide +kernel)
  |row k=>exact absurd (eU h).1 (by decide +kernel)
theorem Ac:∀{a b:List (Str×Kd)},bD (bM a) (bM b)=true->a=b
 |[],[],_=>rfl
 |[],(_,_)::_,h=>by simp [bM,bD]at h
 |(_,_)::_,[],h=>by simp [bM,bD]at h
 |(f,k)::r,(g,l)::s,h=>by
  rw[bM,bM,bD,Xy]at h;obtain⟨e,h1⟩:=eU h.1;simp only[bD,Xy]at h1;rw[e,oZ h1.1,Ac h.2]
end
noncomputable instance:DecidableEq Kd:=λa b=>decidable_of_iff (aC (kD a) (kD b)=true) ⟨oZ,λe=>by rw[e];exact gH _ (gm b)⟩
theorem Kx {a b:Kd}:aC (kD a) (kD b)=decide (a=b):=by
 by_cases h:a=b
 ·subst h;rw[decide_eq_true rfl];exact gH _ (gm a)
 ·rw[decide_eq_false h];cases z:aC (kD a) (kD b) with
  |false=>rfl
  |true=>exact absurd (oZ z) h
theorem o6 {k:Kd}{M:Mp}:cf (kD k) M=kD k:=by cases k <;> rfl
theorem kg {n:Bool}{a b:Kd}{M:Mp}{k:Bool->Prop} (h:kd a<=50) (q:k (decide (a=b))):ft n (kD a) (kD b) M k:=by
 refine .mk ?_ ?_
 ·rw[o6,o6];exact .inl ⟨gm a,gm b,Xz (kf a) (by lia)⟩
 ·rw[o6,o6,Kx];exact q
theorem aq {n:Bool}{a b:Str}{M:Mp}{k:Bool->Prop} (q:k (decide (a=b))):ft n (.str a) (.str b) M k:=by
 refine .mk (.inl ⟨rfl,rfl,XS _⟩) ?_;have:aC (.str a) (.str b)=decide (a=b):=by
  show (some b == some a)=decide (a=b);by_cases h:a=b
  ·subst h;simp
  ·rw[decide_eq_false h];exact beq_eq_false_iff_ne.mpr λz=>h (Yg z).symm
 exact this ▸ q
theorem br {n:Bool}{a b:Int}{M:Mp}{k:Bool->Prop} (q:k (decide (a=b))):ft n (.int a) (.int b) M k:=by
 refine .mk (.inl ⟨rfl,rfl,XS _⟩) ?_;have:aC (.int a) (.int b)=decide (a=b):=by
  show (some b == some a)=decide (a=b);by_cases h:a=b
  ·subst h;simp
  ·rw[decide_eq_false h];exact beq_eq_false_iff_ne.mpr λz=>h (Yg z).symm
 exact this ▸ q
theorem aX {c:Prop} [Decidable c] {a b:Prop} (h:c->a) (g:¬c->b):if c then a else b:=by
 split
 ·exact h ‹_›
 ·exact g ‹_›
theorem l1:1<=sizeLine:=by decide
theorem l2:2<=sizeLine:=by decide
theorem l3:3<=sizeLine:=by decide
theorem l4:4<=sizeLine:=by decide
theorem l5:5<=sizeLine:=by decide
theorem Vk {i j:Int} (h:-(2 ^ 64)<j/\j<2 ^ 64):CM i j:=.inl (.inr h)
theorem Ky {i j:Int} (h:-(2 ^ 64)<i/\i<2 ^ 64):CM i j:=.inl (.inl h)
theorem pz {n:Nat}:(0:Int)<((n+1:Nat):Int):=Int.natCast_pos.mpr (Nat.succ_pos n)
theorem o7 {n:Bool}{ds:List D}{M:Mp}{k:Bool->Prop} (q:k ds.isEmpty):ft n (.lst ds) (.lst []) M k:=by
 refine .mk (.inr ⟨rfl,rfl⟩) ?_;have:aC (.lst ds) (.lst [])=ds.isEmpty:=by
  show bD ds []=_;cases ds <;> simp [bD]
 exact this ▸ q
noncomputable def eV (sc:Sc):List D:=sc.map λp=>.tup [.str p.1,kD p.2]
noncomputable abbrev a7 (sc:Sc):D:=.lst (eV sc)
noncomputable def a4 (ms:Sc):List (Key×D):=ms.map λm=>(.inr m.1,kD m.2)
noncomputable def eW (ms:Sc):D:=.ak (ms.map λm=>.inr m.1) (ms.map λm=>kD m.2)
theorem o8 (ms:Sc):(ms.map λm=>(YO m.1:Key)).zip (ms.map λm=>kD m.2)=a4 ms:=by
 unfold a4;induction ms with
 |nil=>rfl
 |cons m ms ih=>rw[XD,XD,YM,ih,XD]
theorem Ad (ms:Sc):D.ak ((a4 ms).map (·.1)) ((a4 ms).map (·.2))=eW ms:=by
 unfold a4 eW;rw[Yv,Yv];rfl
theorem pd {x:Str}:∀{a b:Sc},lk x (a++b)=(lk x a).or (lk x b)
 |[],b=>rfl
 |(y,k)::r,b=>by
  rw[Y6,lk,lk];split
  ·rfl
  ·exact pd
theorem dV {x:Str}{k:Kd}:∀{sc:Sc},lk x sc=some k->(x,k)∈sc
 |(y,l)::r,h=>by
  rw[lk]at h;split at h
  ·rename_i e;rw[e,Yg h];exact XA
  ·exact XB _ (dV h)
theorem tR {x:Str}{k:Kd}:∀{sc:Sc},(sc.map (·.1)).Nodup->(x,k)∈sc->lk x sc=some k
 |(y,l)::r,nd,h=>by
  rw[XD,ZF]at nd;rw[lk];rcases List.mem_cons.mp h with e |h2
  ·cases e;rw[if_pos rfl]
  ·rw[if_neg,tR nd.2 h2];intro e;exact nd.1 (List.mem_map.mpr ⟨_,h2,e⟩)
theorem Ae {G G':Sc}{y:Str}{l:Kd} (g:∀x k,lk x G=some k->lk x G'=some k):∀x k,lk x ((y,l)::G)=some k->lk x ((y,l)::G')=some k:=λx k h=>by
 rw[lk]at h ⊢;split at h
 ·rename_i e;rw[if_pos e];exact h
 ·rename_i e;rw[if_neg e];exact g x k h
theorem g' {x:Str}:∀{ms:Sc},aJ (a4 ms) (.inr x)=(lk x ms).map kD
 |[]=>rfl
 |(y,l)::r=>by
  have ih:=@g' x r;unfold aJ a4 at *;rw[XD,Zr,lk];by_cases e:x=y
  ·subst e;rw[if_pos rfl];simp
  ·have e':¬(YO y:Key)=YO x:=λz=>e (ZR z).symm;rw[if_neg e];simp only[e',decide_false];exact ih
theorem ma {x:Str}:∀{sc:Sc},(lk x sc).isSome=decide (x∈sc.map (·.1))
 |[]=>rfl
 |(y,k)::r=>by
  rw[lk,XD];by_cases e:x=y
  ·subst e;simp
  ·rw[if_neg e,ma];simp [e]
theorem Af {ms:Sc}{x:Str}{k:Kd} (h:x ∉ ms.map (·.1)):aY (a4 ms) (.inr x) (kD k)=a4 (ms++[(x,k)]):=by
 unfold aY;rw[if_neg]
 ·unfold a4;simp
 ·intro z;obtain⟨kv,h1,h2⟩:=List.any_eq_true.mp z;unfold a4 at h1;obtain⟨m,hm,rfl⟩:=List.mem_map.mp h1;exact h (List.mem_map.mpr ⟨m,hm,ZR (of_decide_eq_true h2)⟩)
theorem Ag {α:Type} {xs:List α}{y:α} (h:xs.Nodup) (n:y ∉ xs):(xs++[y]).Nodup:=by
 rw[List.nodup_append];exact⟨h,by simp,λa ha b hb e=>n (by rw[List.mem_singleton.mp hb]at e;rw[<- e];exact ha)⟩
theorem Kz {ms:Sc}{ys:List (Key×D)} (h:ys.Perm (a4 ms)):∃out:Sc,ys.map dQ=eV out/\out.Perm ms:=by
 have key:∀{ys:List (Key×D)}{kvs:List (Key×D)},ys.Perm kvs->∀ms:Sc,kvs=a4 ms->∃out:Sc,ys=a4 out/\out.Perm ms:=by
  intro ys kvs p
  induction p with
  |nil=>intro ms e;exact⟨[],rfl,by cases ms with |nil=>exact .nil |cons=>cases e⟩
  |cons x p ih=>intro ms e;cases ms with
   |nil=>cases e
   |cons m ms=>cases e;obtain⟨out,rfl,h⟩:=ih ms rfl;exact⟨m::out,rfl,h.cons _⟩
  |swap x y l=>intro ms e;match ms,e with
   |m::m'::ms,e=>cases e;exact⟨m'::m::ms,rfl,.swap ..⟩
  |trans p q KC KD=>intro ms e;obtain⟨o,rfl,h⟩:=KD ms e;obtain⟨o',rfl,h'⟩:=KC o rfl;exact⟨o',rfl,h'.trans h⟩
 obtain⟨out,rfl,h1⟩:=key h ms rfl;exact⟨out,by unfold a4 eV;rw[Yv];rfl,h1⟩
theorem Ah {ms:Sc}{M M0:Mp}{q:QK}{t:DE} {τ:St} (ht:∀k,k (eW ms) M->t τ M0 k) (hl:ms.length<64) (UY:∀m∈ms,kd m.2<=50) (h:∀out:Sc,out.Perm ms->bR (eV out) M q):lQ t τ M0 q:=by
 refine ht _ ⟨by rw[Xr];exact hl,λk hk=>?_,λd hd=>?_,λys p=>?_⟩
 ·obtain⟨m,_,rfl⟩:=List.mem_map.mp hk;exact⟨_,rfl⟩
 ·obtain⟨m,hm,rfl⟩:=List.mem_map.mp hd;exact⟨gm _,Xz (kf _) (UY m hm)⟩
 ·rw[o8]at p;obtain⟨out,e,p'⟩:=Kz p;rw[e];exact h out p'
theorem ef {xs:List D}{r:Int} (h0:0<=r) (h1:r<xs.length):∃d,cG xs r=some d/\d∈xs:=by
 have hn:r.toNat<xs.length:=by lia
 refine⟨xs[r.toNat],?_,List.getElem_mem hn⟩;unfold cG fo;rw[if_pos h0,if_pos h1];exact Xx hn
theorem KG {a b:D}{c:Bool}:cG [a,b] (if c=true then 1 else 0)=some (if c=true then b else a):=by cases c <;> rfl
theorem KH {a b:Int}{c:Bool}:cG [D.int a,D.int b] (if c=true then 1 else 0)=some (.int (if c=true then b else a)):=by cases c <;> rfl
theorem Ty.all {S:Str->Option Kd}{P:Sc->Qn->Kd->Prop}{L:Sc->List (Str×Qn)->List (Str×Kd)->Prop}{C:Sc->Qn->Prop}
    (num:∀{G i},P G (.num i) .num) (word:∀{G s},P G (.word s) .word) (var:∀{G x k},lk x G=some k->P G (.var x) k) (tab:∀{G x k},S x=some k->P G (.tab x) (.ah k))
    (none:∀{G k},g7 k=true->kz k<900->P G (.none k) (.ah k)) (row:∀{G fs ks},fs.length<100->("table" : Str) ∉ ks.map (·.1)->L G fs ks->P G (.row fs) (.row ks))
    (iS:∀{G f q ks k},(ks.map (·.1)).Nodup->P G q (.row ks)->lk f ks=some k->P G (.at f q) k) (add:∀{G a b},P G a .num->P G b .num->P G (.add a b) .num) (mul:∀{G a b},P G a .num->P G b .num->P G (.mul a b) .num)
    (one:∀{G q k},P G q k->P G (.one q) (.ah k)) (both:∀{G a b k},kz k<900->P G a (.ah k)->P G b (.ah k)->P G (.both a b) (.ah k)) (times:∀{G i a k},P G a (.ah k)->P G (.times i a) (.ah k))
    (tS:∀{G x a b k l},kd l<=20/\kz l<900->P G a (.ah l)->P ((x,l)::G) b (.ah k)->P G (.for x a b) (.ah k)) (aL:∀{G c a k},C G c->P G a (.ah k)->P G (.aL c a) (.ah k)) (tT:∀{G x a b k l},kd l<=20->P G a l->P ((x,l)::G) b k->P G (.let x a b) k)
    (nil:∀{G},L G [] []) (cons:∀{G f q k r s},P G q k->L G r s->L G ((f,q)::r) ((f,k)::s))
    (g8:∀{G a b},P G a .num->P G b .num->C G (.same a b)) (g9:∀{G a b},P G a .word->P G b .word->C G (.same a b)) (under:∀{G a b},P G a .num->P G b .num->C G (.under a b))
    (and:∀{G a b},C G a->C G b->C G (.and a b)) (or:∀{G a b},C G a->C G b->C G (.or a b)) (not:∀{G a},C G a->C G (.not a)) :
    (∀{G q k},Ty S G q k->P G q k)/\(∀{G q k},dg S G q k->L G q k)/\∀{G q},bV S G q->C G q:=
  ⟨λh=>@Ty.rec S (λG q k _=>P G q k) (λG q k _=>L G q k) (λG q _=>C G q) num word var tab none (λl n _ h=>row l n h) (λn _ e h=>iS n h e) (λ_ _=>add) (λ_ _=>mul) (λ_=>one) (λz _ _=>both z) (λ_=>times) (λz _ _=>tS z) (λ_ _=>aL) (λz _ _=>tT z) nil (λ_ _=>cons) (λ_ _=>g8) (λ_ _=>g9) (λ_ _=>under) (λ_ _=>and) (λ_ _=>or) (λ_=>not) _ _ _ h,
   λh=>@dg.rec S (λG q k _=>P G q k) (λG q k _=>L G q k) (λG q _=>C G q) num word var tab none (λl n _ h=>row l n h) (λn _ e h=>iS n h e) (λ_ _=>add) (λ_ _=>mul) (λ_=>one) (λz _ _=>both z) (λ_=>times) (λz _ _=>tS z) (λ_ _=>aL) (λz _ _=>tT z) nil (λ_ _=>cons) (λ_ _=>g8) (λ_ _=>g9) (λ_ _=>under) (λ_ _=>and) (λ_ _=>or) (λ_=>not) _ _ _ h,
   λh=>@bV.rec S (λG q k _=>P G q k) (λG q k _=>L G q k) (λG q _=>C G q) num word var tab none (λl n _ h=>row l n h) (λn _ e h=>iS n h e) (λ_ _=>add) (λ_ _=>mul) (λ_=>one) (λz _ _=>both z) (λ_=>times) (λz _ _=>tS z) (λ_ _=>aL) (λz _ _=>tT z) nil (λ_ _=>cons) (λ_ _=>g8) (λ_ _=>g9) (λ_ _=>under) (λ_ _=>and) (λ_ _=>or) (λ_=>not) _ _ h⟩
def tU (G G':Sc):Prop:=∀x k,lk x G=some k->lk x G'=some k
theorem Ty.mono {S S':Str->Option Kd} (s:∀x k,S x=some k->S' x=some k) {G:Sc}{q:Qn}{k:Kd} (h:Ty S G q k) {G':Sc} (g:∀x k,lk x G=some k->lk x G'=some k):Ty S' G' q k:=
 (Ty.all (P:=λG q k=>∀G',tU G G'->Ty S' G' q k) (L:=λG q k=>∀G',tU G G'->dg S' G' q k) (C:=λG q=>∀G',tU G G'->bV S' G' q)
  (λ_ _=>.num) (λ_ _=>.word) (λh _ g=>.var (g _ _ h)) (λh _ _=>.tab (s _ _ h)) (λh z _ _=>.none h z) (λl n h _ g=>.row l n (h _ g)) (λn h e _ g=>.at n (h _ g) e) (λh e _ g=>.add (h _ g) (e _ g)) (λh e _ g=>.mul (h _ g) (e _ g)) (λh _ g=>.one (h _ g)) (λz h e _ g=>.both z (h _ g) (e _ g)) (λh _ g=>.times (h _ g))
  (λz h e _ g=>.for z (h _ g) (e _ (Ae g))) (λh e _ g=>.aL (h _ g) (e _ g)) (λz h e _ g=>.let z (h _ g) (e _ (Ae g))) (λ_ _=>.nil) (λh e _ g=>.cons (h _ g) (e _ g)) (λh e _ g=>.g8 (h _ g) (e _ g)) (λh e _ g=>.g9 (h _ g) (e _ g)) (λh e _ g=>.under (h _ g) (e _ g)) (λh e _ g=>.and (h _ g) (e _ g)) (λh e _ g=>.or (h _ g) (e _ g)) (λh _ g=>.not (h _ g))).1 h G' g
theorem Ai {M:Mp}{p:Addr}{o:MO} (h:M p=none):rm (up M p o) p=M:=funext λb=>by
 by_cases e:b=p
 ·rw[e,m7,h]
 ·rw[p6 e,az e]
theorem tV {a:Addr}{d:D}:bY a d (some (.ref a))=some d:=if_pos rfl
theorem Aj {a b:Addr}{d:D} (h:b≠a):bY a d (some (.ref b))=some (.ref b):=if_neg h
theorem Ak {P:St->Mp->Prop} {τ:St} {M:Mp}{p:Addr}{kvs:List (Key×D)} (h:M p=none) (q:dT P (τ.map (bY p (.ak (kvs.map (·.1)) (kvs.map (·.2))))) M):dT P τ (up M p (.ak kvs)):=.ak p kvs aw (by rw[Ai h];exact q)
theorem KJ {P:St->Mp->Prop} {τ:St} {M:Mp}{p:Addr}{ds:List D} (h:M p=none) (q:dT P (τ.map (bY p (.lst ds))) M):dT P τ (up M p (.lst ds)):=.lst p ds aw (by rw[Ai h];exact q)
theorem pe {A B:Mp} (h:cx A B) {p:Addr}{o:MO} (e:A p=none) (n:o.tC=true):cx A (up B p o):=⟨λa u z=>by rw[az (c5 z e)];exact h.sub a u z,λa b z q=>by
 by_cases hb:b=p
 ·subst hb;rw[aw]at q;cases q;cases n
 ·rw[az hb]at q;exact h.own a b z q⟩
theorem cx.no {A B:Mp} (h:cx A B) {p:Addr} (e:B p=none):A p=none:=by
 cases z:A p with
 |none=>rfl
 |some o=>rw[h.sub p o z]at e;cases e
theorem Al {Q:QK}{M M':Mp}{p:Addr}{ds:List D} (hs:cx M M') (hp:M p=none) (h':M' p=some (.lst ds)) (h:Q (.lst ds) M):aZ Q (.ref p) M':=⟨M,_,hs,.lst h' hp .rfl,h⟩
theorem mr {Q:QK}{M M':Mp}{d:D} (hs:cx M M') (h:Q d M):aZ Q d M':=⟨M,d,hs,.rfl,h⟩
noncomputable def i8:B->S
 |.cons s _=>s
 |.nil=>.pass
noncomputable def KL:S->B
 |.cond _ _ b=>b
 |_=>.nil
noncomputable def Am:B->B
 |.cons _ r=>r
 |.nil=>.nil
noncomputable def KN:S->B
 |.cond _ a _=>a
 |_=>.nil
theorem fC {t u:DS}{e:En} {τ:St} {M:Mp} (h:∀N:St->Mp->Prop,(∀ τ M,u e τ M->N τ M)->t { e with nx:=N } τ M):qe t u e τ M:=h _ λ_ _ z=>z
noncomputable def dD (kvs:List (Key×D)):D:=.ak (kvs.map (·.1)) (kvs.map (·.2))
theorem gn:∀kvs:List (Key×D),(kvs.map (·.1)).zip (kvs.map (·.2))=kvs
 |[]=>rfl
 |(k,d)::r=>by rw[XD,XD,YM,gn r]
theorem tW {kvs:List (Key×D)}{x:Str}{d:D}{M:Mp}{Q:QK} (h:aJ kvs (.inr x)=some d) (q:Q d M):aA (dD kvs) (.str x) M Q:=⟨d,by rw[gn];exact h,q⟩
theorem tX {kvs:List (Key×D)}{x:Str}{M:Mp}{k:Bool->Prop} (q:k (aJ kvs (.inr x)).isSome):d9 (.str x) (dD kvs) M k:=by
 refine⟨?_⟩;show k (aJ ((kvs.map (·.1)).zip (kvs.map (·.2))) (.inr x)).isSome;rw[gn];exact q
structure Wc (C:Addr) (M0:Mp) (x a b:Addr):Prop where
 hx:∃dx,M0 x=some (.ins C dx [("waiting",.ref a),("found",.ref b)])
 ne:a≠b
 xa:x≠a
 xb:x≠b
noncomputable def Wm (M0:Mp) (a b:Addr) (ws fs:List D):Mp:=up (up M0 a (.lst ws)) b (.lst fs)
theorem mu {M:Mp}{p r:Addr}{o o':MO} (h:p≠r):up (up M p o) r o'=up (up M r o') p o:=by
 funext b;unfold up;by_cases h1:b=r
 ·subst h1;rw[if_pos rfl,if_neg (YZ h),if_pos rfl]
 ·rw[if_neg h1,if_neg h1]
section
variable {C:Addr}{M0:Mp}{x a b:Addr}{ws fs:List D}
theorem Wc.gx (h:Wc C M0 x a b):∃dx,Wm M0 a b ws fs x=some (.ins C dx [("waiting",.ref a),("found",.ref b)]):=let ⟨dx,e⟩:=h.hx;⟨dx,by unfold Wm;rw[az h.xb,az h.xa];exact e⟩
theorem Wc.ga (h:Wc C M0 x a b):Wm M0 a b ws fs a=some (.lst ws):=by unfold Wm;rw[az h.ne];exact aw
theorem Wm.gb:Wm M0 a b ws fs b=some (.lst fs):=aw
theorem Wc.pa (h:Wc C M0 x a b) {cN:List D}:up (Wm M0 a b ws fs) a (.lst cN)=Wm M0 a b cN fs:=by unfold Wm;rw[mu (YZ h.ne),N.cj]
theorem Wm.pb {fs':List D}:up (Wm M0 a b ws fs) b (.lst fs')=Wm M0 a b ws fs':=N.cj
theorem bq {m:Str}{d e:D} (h1:(m == "waiting")=false) (h2:(m == "found")=false):[(("waiting" : Str),d),("found",e)].lookup m=none:=by simp [List.lookup,h1,h2]
end
theorem eh {d:D}{r:List D}:cG (d::r) 0=some d:=by
 unfold cG fo;rw[if_pos (by decide),if_pos (by rw[XG];lia)];rfl
theorem An {pre:List D}{d:D}:cG (pre++[d]) (-1)=some d:=by
 unfold cG fo;rw[if_neg (by decide)];have:(pre++[d]).length=pre.length+1:=by simp
 rw[this,if_pos (by lia)];show (pre++[d])[((pre.length+1:Nat)+(-1:Int)).toNat]?=some d;rw[show ((pre.length+1:Nat)+(-1:Int)).toNat=pre.length by lia];simp
theorem KO {M M':Mp} (h:∀c,M c≠none->M' c=M c) (g:∀c e,M' c=some (.own e)->M e≠none->M c=some (.own e)):cx M M':=⟨λc o e=>by rw[h c (by rw[e];exact Yk _)];exact e,λe c n q=>g c e q n⟩
end NQ
end
section
namespace K32
open PySem N NQ
open L2
def aa (i:Nat):Stmt:=PySem.Challenge.pw_keptnest_k32_whole_degree_falls.main.body.getD i (.Pass ⟨0,0,0,0⟩)
def nm:Nm:=⟨((["under","with_under","knots","tables","folded","unfold","fold","bound","fields_of","alike","fits","kind_of","begin_kinds","found_kind","bind","finish","plain_kind","row_kind","part_kind","number_kind","none_kind","one_kind","both_kind","last_bag_kind","same_kind","under_kind","truth_kind","difference","kind_of_rows","begin_differences"]:List Str)++(["names_some","is_none","total","both_differences","for_differences","made_for","wrap","behind_less_ahead","behind","is_even","degree","_law_seed","_law_draw","_law_key","_law_bag","_law_value","_law_kinds","_law_seen","_law_held","_law_small","_law_claim","_law_over","_law_taken","_law_asked","_law_stock","_law_names","_law_falls","law"]:List Str)),((["HAVE_MORE","NUMBER","WORD","TRUTH","FINISHED","SUMS","under","with_under","knots","tables","folded","unfold","fold","bound","fields_of","alike","fits","kind_of","begin_kinds","found_kind","bind","finish","plain_kind","row_kind","part_kind","number_kind","none_kind","one_kind","both_kind","last_bag_kind"]:List Str)++(["same_kind","under_kind","truth_kind","difference","kind_of_rows","begin_differences","names_some","is_none","total","both_differences","for_differences","made_for","wrap","behind_less_ahead","behind","is_even","degree","_law_seed","_law_draw","_law_key","_law_bag","_law_value","_law_kinds","_law_seen","_law_held","_law_small","_law_claim","_law_over","_law_taken","_law_asked"]:List Str)++(["_law_stock","_law_names","_law_falls","law"]:List Str)),((["Walk"]:List Str)),((["__init__","later","tell","take","run"]:List Str))⟩
def bh (s:Stmt) (i:Nat):Stmt:=match s with
 |.ClassDef _ _ _ b _ _ _ _ _ _ _=>b.getD i (.Pass ⟨0,0,0,0⟩)
 |_=>.Pass ⟨0,0,0,0⟩
def ei:List Ds:=([⟨"under",aa 6,["question"]⟩,⟨"with_under",aa 7,["question","parts"]⟩,⟨"knots",aa 8,["question"]⟩,⟨"tables",aa 9,["question"]⟩,⟨"folded",aa 12,["question","told_of"]⟩,⟨"unfold",aa 13,["walk","question","told_of"]⟩,⟨"fold",aa 14,["walk","question","told_of"]⟩,⟨"bound",aa 15,["names","name","meaning"]⟩,⟨"fields_of",aa 17,["row"]⟩,⟨"alike",aa 18,["one","other"]⟩,⟨"fits",aa 19,["whole","kind","rows_of"]⟩,⟨"kind_of",aa 24,["question","kinds","stock"]⟩,⟨"begin_kinds",aa 25,["walk","question","around"]⟩,⟨"found_kind",aa 27,["kinds","name","path"]⟩,⟨"bind",aa 28,["walk","question","around"]⟩,⟨"finish",aa 29,["walk","question","around"]⟩,⟨"plain_kind",aa 30,["question","below"]⟩,⟨"row_kind",aa 31,["question","below"]⟩,⟨"part_kind",aa 32,["question","below"]⟩,⟨"number_kind",aa 33,["question","below"]⟩,⟨"none_kind",aa 34,["question","below"]⟩,⟨"one_kind",aa 35,["question","below"]⟩,⟨"both_kind",aa 36,["question","below"]⟩,⟨"last_bag_kind",aa 37,["question","below"]⟩,⟨"same_kind",aa 38,["question","below"]⟩,⟨"under_kind",aa 39,["question","below"]⟩,⟨"truth_kind",aa 40,["question","below"]⟩,⟨"difference",aa 43,["question","names","kinds","stock"]⟩,⟨"kind_of_rows",aa 44,["question","kinds","stock"]⟩,⟨"begin_differences",aa 45,["walk","question","names"]⟩]:List Ds)++([⟨"names_some",aa 47,["question","names"]⟩,⟨"is_none",aa 48,["question"]⟩,⟨"total",aa 49,["parts"]⟩,⟨"both_differences",aa 50,["walk","question","names"]⟩,⟨"for_differences",aa 51,["walk","question","names"]⟩,⟨"made_for",aa 52,["name","over","inner"]⟩,⟨"wrap",aa 54,["walk","question","names"]⟩,⟨"behind_less_ahead",aa 55,["question","names"]⟩,⟨"behind",aa 56,["question","names"]⟩,⟨"is_even",aa 58,["question"]⟩,⟨"degree",aa 59,["question","names"]⟩,⟨"_law_seed",aa 62,["cell"]⟩,⟨"_law_draw",aa 63,["seed","most"]⟩,⟨"_law_key",aa 64,["value"]⟩,⟨"_law_bag",aa 65,["counts"]⟩,⟨"_law_value",aa 70,["kind","seed","deep"]⟩,⟨"_law_kinds",aa 71,[]⟩,⟨"_law_seen",aa 73,["scope"]⟩,⟨"_law_held",aa 74,["kind","scope"]⟩,⟨"_law_small",aa 75,["kind","scope","fuel","seed"]⟩,⟨"_law_claim",aa 76,["scope","fuel","seed"]⟩,⟨"_law_over",aa 77,["scope","fuel","seed"]⟩,⟨"_law_taken",aa 78,["kind","scope","fuel","seed"]⟩,⟨"_law_asked",aa 79,["kind","scope","fuel","seed"]⟩,⟨"_law_stock",aa 83,["rows"]⟩,⟨"_law_names",aa 84,["seed","mark"]⟩,⟨"_law_falls",aa 86,["asked","names","marks"]⟩,⟨"law",aa 87,["script"]⟩]:List Ds)
def pf:List Ds:=([⟨"__init__",(bh (aa 11) 0),["self"]⟩,⟨"later",(bh (aa 11) 1),["self","step","question","around"]⟩,⟨"tell",(bh (aa 11) 2),["self","result"]⟩,⟨"take",(bh (aa 11) 3),["self","many"]⟩,⟨"run",(bh (aa 11) 4),["self"]⟩]:List Ds)
noncomputable def pA:zX:=(Kw (ax (aa 18))).get (by kernel_rfl)
theorem hA:ax (aa 18)=[.Return (some (.Call (.Name pA.g pA.gp) (pA.as++[.Lambda pA.params pA.body pA.scope pA.lp]) [] pA.cp)) pA.rp]:=by kernel_rfl
noncomputable def pB:tQ:=(z9 (ax (aa 56))).get (by kernel_rfl)
noncomputable def pC:tQ:=(z9 (ax (aa 59))).get (by kernel_rfl)
def pg:List Str:=["num","word","var","table","none","at","times","for","let"]
def a' (w:Wo) (x:Str):Addr:=match w.G.mg x with
 |some (.ref f)=>f
 |_=>0
def bz:List (Str×Str):=[("num","plain_kind"),("word","plain_kind"),("row","row_kind"),("at","part_kind"),("add","number_kind"),("mul","number_kind"),("none","none_kind"),("one","one_kind"),("both","both_kind"),("times","last_bag_kind"),("for","last_bag_kind"),("when","last_bag_kind"),("same","same_kind"),("under","under_kind"),("and","truth_kind"),("or","truth_kind"),("not","truth_kind")]
def Ao (w:Wo) (t:List (Str×Str)):D:=.ak (t.map λp=>.inr p.1) (t.map λp=>.ref (a' w p.2))
structure Lw (w:Wo):Prop where
 ok:w.Ok
 hn:w.nm=nm
 hd:w.ds=ei
 hms:w.ms=pf
 g0:w.gv.getD 0 .ai=.tup (pg.map D.str)
 g1:w.gv.getD 1 .ai=kD .num
 g2:w.gv.getD 2 .ai=kD .word
 g3:w.gv.getD 3 .ai=.tup [.str "truth"]
 gt:w.gv.getD 4 .ai=Ao w bz
 gs:w.gv.getD 5 .ai=Ao w [("both","both_differences"),("for","for_differences")]
 gb:w.gv.getD 18 .ai=.ref (a' w "begin_kinds")
 gd:w.gv.getD 20 .ai=.ref (a' w "bind")
 gf:w.gv.getD 21 .ai=.ref (a' w "finish")
 VG:w.gv.getD 11 .ai=.ref (a' w "unfold")
 go:w.gv.getD 12 .ai=.ref (a' w "fold")
 gp:w.gv.getD 42 .ai=.ref (a' w "wrap")
 ga:w.gv.getD 35 .ai=.ref (a' w "begin_differences")
 fw:w.fl (w.ca 0) "waiting"
 ff:w.fl (w.ca 0) "found"
 mc:∀i,i<=4->w.mc i=w.ca 0
 UZ:∀f fd q,c8 w.G.K q q (aa 18) f fd->w.G.mg "alike"=some (.ref f)->∃c T,fd.code=.ref c/\dC w.G c T pA.lp (q++".<locals>."++"<lambda>")
 U0:∀f fd q,c8 w.G.K q q (aa 56) f fd->w.G.mg "behind"=some (.ref f)->∃c T,fd.code=.ref c/\dC w.G c T pB.np (q++".<locals>."++pB.name)
 U1:∀f fd q,c8 w.G.K q q (aa 59) f fd->w.G.mg "degree"=some (.ref f)->∃c T,fd.code=.ref c/\dC w.G c T pC.np (q++".<locals>."++pC.name)
theorem dC.at {G:Gx}{c T:Addr}{p:Pos}{q:Str} (h:dC G c T p q) {e:Fz} (l:Le G.ex e):dC { G with ex:=e } c T p q:=⟨h.cd,h.bi,h.Ux,l _ _ h.tab⟩
theorem Lw.at {w:Wo} (O:Lw w) {e:Fz} (l:Le w.G.ex e):Lw (w.at e):=
  { O with ok := O.ok.at e
           UZ:=λf fd q h1 h2=>let ⟨c,T,h3,h4⟩:=O.UZ f fd q h1 h2;⟨c,T,h3,dC.at h4 l⟩
           U0:=λf fd q h1 h2=>let ⟨c,T,h3,h4⟩:=O.U0 f fd q h1 h2;⟨c,T,h3,dC.at h4 l⟩
           U1:=λf fd q h1 h2=>let ⟨c,T,h3,h4⟩:=O.U1 f fd q h1 h2;⟨c,T,h3,dC.at h4 l⟩ }
variable {w:Wo}
def KP (a b c d:Int):MO:=.lst [.int a,.int b,.int c,.int d]
def Sd (o:MO):Prop:=∃a b c d,o=KP a b c d
def Aq:Sp:=λds M Q _=>∃p n o,ds=[.ref p,.int n]/\M p=some o/\Sd o/\0<n/\n<2 ^ 200/\∀r o',Sd o'->0<=r->r<n->Q (.int r) (up M p o')
def KQ:B:=.cons (.ret (.op .Mod (.op .FloorDiv (.v 3) (.c (.int 7))) (.v 1))) .nil
def KR:B:=.cons (.set (.one 3) (.op .Mod (.op .Mult (.op .Mod (.op .Mult (.v 3) (.v 3)) (.c (.int 2147483629))) (.c (.int 40692))) (.c (.int 2147483399)))) KQ
def KU:B:=.cons (.set (.one 3) (.op .Mod (.op .Mult (.op .Add (.op .Add (.ix (.v 0) (.c (.int 3))) (.op .Mult (.c (.int 7919)) (.ix (.v 0) (.c (.int 2))))) (.c (.int 1))) (.c (.int 48271))) (.c (.int 2147483647)))) KR
def KW:B:=.cons (.cond (.and (.cmp .Eq (.ix (.v 0) (.c (.int 1))) (.c (.int 1))) (.cmp .Gt (.ix (.v 0) (.c (.int 0))) (.c (.int 0)))) (.cons (.set (.one 2) (.op .Mod (.ix (.v 0) (.c (.int 0))) (.v 1))) (.cons (.put (.v 0) (.c (.int 0)) (.op .FloorDiv (.ix (.v 0) (.c (.int 0))) (.v 1))) (.cons (.ret (.v 2)) .nil))) .nil) KU
def KY:B:=.cons (.put (.v 0) (.c (.int 2)) (.op .Add (.ix (.v 0) (.c (.int 2))) (.c (.int 1)))) KW
theorem KZ:aB ["seed","most","found","number"] ["seed","most"] (ag (aa 63)):=⟨rfl,rfl,rfl,by decide +kernel,rfl,by decide +kernel,by decide +kernel⟩
theorem K1:aF nm 40 ["seed","most","found","number"] (ag (aa 63)) (ax (aa 63))=KY:=by kernel_rfl
def K2:B:=(.cons (.set (.one 1) (.bi .max (.cons (.v 0) (.cons (.op .Sub (.c (.int 0)) (.v 0)) .nil)))) (.cons (.ret (.lst (.cons (.v 1) (.cons (.bi .int (.cons (.cmp .GtE (.v 1) (.op .Pow (.c (.int 10)) (.c (.int 18)))) .nil)) (.cons (.c (.int 0)) (.cons (.op .Mod (.v 0) (.c (.int 1999999943))) .nil)))))) .nil))
theorem K3:aB ["cell","number"] ["cell"] (ag (aa 62)):=⟨rfl,rfl,rfl,by decide +kernel,rfl,by decide +kernel,by decide +kernel⟩
theorem K4:aF nm 40 ["cell","number"] (ag (aa 62)) (ax (aa 62))=K2:=by kernel_rfl
theorem Ar (O:Lw w):FO w 42 1 Aq:=by
 refine aI O.ok O.hn _ ⟨"_law_draw",aa 63,["seed","most"]⟩ (by rw[O.hd];rfl) {} { cs:=trivial } KZ K1 λds M Q _ h=>?_;obtain⟨p,n,o,rfl,hp,⟨a,b,c,d,rfl⟩,h0,h1,h⟩:=h;refine⟨rfl,?_⟩;refine .inl ⟨_,hp,_,rfl,.inl ⟨_,hp,_,rfl,?_⟩⟩;refine (λrest=>(.inl ⟨_,aw,_,rfl,br (aX (λe1=>.inl ⟨_,aw,_,rfl,aX (λe2=>?_) λe2=>rest⟩) λe1=>ay (by decide) rest)⟩)) ?_
 ·refine .inl ⟨_,aw,_,rfl,.inl ⟨_,aw,_,rfl,Ky (by decide),Vk (by decide),pz,Vk ?_,pz,Vk (by decide),pz,⟨by decide,by decide⟩,h0,?_⟩⟩
  ·have:=Int.emod_nonneg ((d+7919 * (c+1)+1) * 48271) (b:=2147483647) (by decide);have:=Int.emod_lt_of_pos ((d+7919 * (c+1)+1) * 48271) (b:=2147483647) (by decide);constructor <;> (dsimp only;lia)
  ·exact ar (h _ _ ⟨_,_,_,_,rfl⟩ (Int.emod_nonneg _ (by lia)) (Int.emod_lt_of_pos _ h0))
 ·refine .inl ⟨_,aw,_,rfl,h0,.inl ⟨_,aw,_,rfl,⟨h0,h1⟩,.inl ⟨_,aw,_,rfl,?_⟩⟩⟩;rw[N.cj];exact ar (h _ _ ⟨_,_,_,_,rfl⟩ (Int.emod_nonneg _ (by lia)) (Int.emod_lt_of_pos _ h0))
def As:Sp:=λds M Q _=>∃c,ds=[.int c]/\∀p o,M p=none->Sd o->Q (.ref p) (up M p o)
theorem K5 (O:Lw w):FO w 41 1 As:=by
 refine aI O.ok O.hn _ ⟨"_law_seed",aa 62,["cell"]⟩ (by rw[O.hd];rfl) {} { cs:=trivial } K3 K4 λds M Q _ h=>?_;obtain⟨c,rfl,h⟩:=h;refine⟨rfl,?_⟩;exact⟨⟨by decide,by decide,by decide⟩,pz,l4,.inr λp hp=>ar (h p _ hp ⟨_,_,_,_,rfl⟩)⟩
noncomputable def i9:Kd:=.row [("b",.word),("r",.num)]
noncomputable def i':Kd:=.row [("a",.num),("b",.word),("t",.ah .num),("z",.word)]
noncomputable def bu:Sc:=[("r",i9),("s",i9),("t",.num),("u",i'),("v",.ah .word)]
def ph:Sp:=λds M Q _=>ds=[]/\Q (eW bu) M
variable {w:Wo}
noncomputable def K6:B:=.cons (.ret (.sv (.cons (.c (.str "r")) (.cons (.c (.str "s")) (.cons (.c (.str "t")) (.cons (.c (.str "u")) (.cons (.c (.str "v")) .nil))))) (.cons (.v 0) (.cons (.v 0) (.cons (.tup (.cons (.c (.str "num")) .nil)) (.cons (.v 1) (.cons (.tup (.cons (.c (.str "bag")) (.cons (.tup (.cons (.c (.str "word")) .nil)) .nil))) .nil))))))) .nil
noncomputable def K7:B:=.cons (.set (.one 1) (.tup (.cons (.c (.str "row")) (.cons (.tup (.cons (.tup (.cons (.c (.str "a")) (.cons (.tup (.cons (.c (.str "num")) .nil)) .nil))) (.cons (.tup (.cons (.c (.str "b")) (.cons (.tup (.cons (.c (.str "word")) .nil)) .nil))) (.cons (.tup (.cons (.c (.str "t")) (.cons (.tup (.cons (.c (.str "bag")) (.cons (.tup (.cons (.c (.str "num")) .nil)) .nil))) .nil))) (.cons (.tup (.cons (.c (.str "z")) (.cons (.tup (.cons (.c (.str "word")) .nil)) .nil))) .nil))))) .nil)))) K6
noncomputable def K8:B:=.cons (.set (.one 0) (.tup (.cons (.c (.str "row")) (.cons (.tup (.cons (.tup (.cons (.c (.str "b")) (.cons (.tup (.cons (.c (.str "word")) .nil)) .nil))) (.cons (.tup (.cons (.c (.str "r")) (.cons (.tup (.cons (.c (.str "num")) .nil)) .nil))) .nil))) .nil)))) K7
theorem Au:aB ["level","deep"] [] (ag (aa 71)):=⟨rfl,rfl,rfl,by decide +kernel,rfl,by decide +kernel,by decide +kernel⟩
theorem Av:aF nm 40 ["level","deep"] (ag (aa 71)) (ax (aa 71))=K8:=by kernel_rfl
noncomputable def K9:B:=.cons (.ret (.oE (.v 1))) .nil
noncomputable def K':B:=.cons (.loop (.many [2,3]) (.seq (.v 0)) (.cons (.cond (.cmp .NotIn (.v 2) (.v 1)) (.cons (.put (.v 1) (.v 2) (.v 3)) .nil) .nil) .nil)) K9
noncomputable def La:B:=.cons (.set (.one 1) .j6) K'
theorem Lb:aB ["scope","found","name","other"] ["scope"] (ag (aa 73)):=⟨rfl,rfl,rfl,by decide +kernel,rfl,by decide +kernel,by decide +kernel⟩
theorem Lc:aF nm 40 ["scope","found","name","other"] (ag (aa 73)) (ax (aa 73))=La:=by kernel_rfl
theorem Aw:cD (a4 bu)=a4 bu:=by kernel_rfl
theorem tY (O:Lw w):FO w 46 1 ph:=by
 refine aI O.ok O.hn _ ⟨"_law_kinds",aa 71,[]⟩ (by rw[O.hd];rfl) {} { cs:=trivial } Au Av λds M Q _ h=>?_;obtain⟨rfl,h⟩:=h;refine⟨rfl,l1,l2,l1,l2,l2,l2,?_⟩;refine⟨l1,l2,l1,l2,l1,l2,l2,l1,l2,l4,l2,?_⟩;refine⟨l1,l1,l2,.inl ?_⟩;have:aZ Q (.ak ((cD (a4 bu)).map (·.1)) ((cD (a4 bu)).map (·.2))) M:=by rw[Aw,Ad];exact ar h
 exact this
def tZ:Sp:=λds M Q _=>∃sc,ds=[a7 sc]/\sc.length<64/\(∀m∈sc,kd m.2<=49)/\∀out:Sc,(∀x k,(x,k)∈out ↔ lk x sc=some k)->out.length<=sc.length->(out.map (·.1)).Nodup->Q (a7 out) M
structure Ld (ms done:Sc):Prop where
 nd:(ms.map (·.1)).Nodup
 ej:∀x k,(x,k)∈ms ↔ lk x done=some k
 len:ms.length<=done.length
theorem Lf {sc:Sc} (hk:∀m∈sc,kd m.2<=49) {x:Str}{k:Kd} (h:lk x sc=some k):kd k<=49:=hk _ (dV h)
theorem Ax (O:Lw w):FO w 47 1 tZ:=by
 refine aI O.ok O.hn _ ⟨"_law_seen",aa 73,["scope"]⟩ (by rw[O.hd];rfl) {} { cs:=trivial } Lb Lc λds M Q _ h=>?_;obtain⟨sc,rfl,hl,hk,h⟩:=h;refine⟨rfl,.inr λp hp=>?_⟩;refine dW (λxs τ M'=>∃ms done rest u v,xs=eV rest/\sc=done++rest/\Ld ms done/\τ=[some (a7 sc),some (.ref p),u,v]/\M'=up M p (.ak (a4 ms))) ?_ ?_ _ _ _ ⟨[],[],sc,none,none,rfl,rfl,⟨.nil,λx k=>by simp [lk],Xu _⟩,rfl,rfl⟩
 ·rintro τ M' ⟨ms,done,rest,u,v,e1,e2,F,rfl,rfl⟩;cases rest with
  |cons _ _=>cases e1
  |nil=>
   rw[XO]at e2;subst e2;refine⟨trivial,Ak hp (.rfl ?_)⟩;have UY:∀m∈ms,kd m.2<=50:=λm hm=>Nat.le_succ_of_le (Lf hk ((F.ej m.1 m.2).mp hm));rw[Ad];show lQ (ey 1) _ M _;refine Ah (ms:=ms) (M:=M) (λk z=>?_) (XC F.len hl) UY λout pm=>.inl (ar (h out (λx k=>(pm.mem_iff).trans (F.ej x k)) (by rw[pm.length_eq];exact F.len) ((pm.map _).nodup_iff.mpr F.nd)));show ey 1 [bY p (eW ms) (some (a7 sc)),bY p (eW ms) (some (.ref p)),_,_] M k;rw[tV];exact z
 ·rintro x xs τ M' ⟨ms,done,rest,u,v,e1,e2,F,rfl,rfl⟩;cases rest with
  |nil=>cases e1
  |cons r rest=>
   cases e1;refine⟨trivial,λN hN=>⟨rfl,⟨.inl ⟨_,aw,?_⟩⟩⟩⟩;have hs:sc=(done++[r])++rest:=(by rw[e2];simp);have eM:(aJ (a4 ms) (.inr r.1)).isSome=decide (r.1∈ms.map (·.1)):=(by rw[g',Option.isSome_map,NQ.ma]);have key:∀b:Bool,b=decide (r.1∈ms.map (·.1))->(if (!b)=true then qn nX (ey 1) (ey 2) (kD r.2) [some (a7 sc),some (.ref p),some (.str r.1),some (kD r.2)] (up M p (.ak (a4 ms))) N else N [some (a7 sc),some (.ref p),some (.str r.1),some (kD r.2)] (up M p (.ak (a4 ms)))):=by
    intro b hb;by_cases hx:r.1∈ms.map (·.1)
    ·rw[decide_eq_true hx]at hb;subst hb;refine ay (by decide) (hN _ _ ⟨ms,done++[r],rest,_,_,rfl,hs,⟨F.nd,λx k=>?_,by have:=F.len;simp;lia⟩,rfl,rfl⟩)
     rw[F.ej,pd];obtain⟨m,hm,Vg⟩:=List.mem_map.mp hx;have:=(F.ej m.1 m.2).mp hm;constructor
     ·intro z;rw[z];rfl
     ·intro z;cases y:lk x done with
      |some k'=>rw[y]at z;exact z
      |none=>
       rw[y]at z;have z:lk x [r]=some k:=z;rw[lk]at z;split at z
       ·rename_i e;rw[e,<- Vg,this]at y;cases y
       ·cases z
    ·rw[decide_eq_false hx]at hb;subst hb;refine aN rfl (.inr ⟨_,aw,?_,hN _ _ ⟨ms++[(r.1,r.2)],done++[r],rest,_,_,rfl,hs,⟨?_,λx k=>?_,by have:=F.len;simp;lia⟩,rfl,?_⟩⟩)
     ·have:=F.len;have:done.length<=sc.length:=(by rw[e2];simp);unfold a4;rw[Xr];exact XM (by lia:ms.length<64) (by decide)
     ·rw[XU];exact Ag F.nd hx
     ·rw[pd,ZG];constructor
      ·rintro (z |z)
       ·rw[(F.ej x k).mp z];rfl
       ·cases List.mem_singleton.mp z;cases y:lk r.1 done with
        |none=>show lk r.1 [r]=_;rw[lk,if_pos rfl]
        |some k'=>exact absurd (List.mem_map.mpr ⟨_,(F.ej r.1 k').mpr y,rfl⟩) hx
      ·intro z;cases y:lk x done with
       |some k'=>rw[y]at z;cases z;exact .inl ((F.ej x _).mpr y)
       |none=>
        rw[y]at z;have z:lk x [r]=some k:=z;rw[lk]at z;split at z
        ·rename_i e;cases z;subst e;exact .inr (List.mem_singleton.mpr rfl)
        ·cases z
     ·rw[_root_.N.cj,Af hx]
   exact key _ eM
variable {w:Wo}
noncomputable def Lg:B:=.cons (.ret (.call 44 (.cons (.v 4) .nil))) .nil
noncomputable def Lh:B:=.cons (.loop (.one 5) (.oF (.call 42 (.cons (.v 1) (.cons (.op .Sub (.c (.int 4)) (.v 2)) .nil)))) (.cons (.set (.one 6) (.call 45 (.cons (.ix (.v 0) (.c (.int 1))) (.cons (.v 1) (.cons (.c (.int 1)) .nil))))) (.cons (.ex (.mt .append (.v 4) (.cons (.tup (.cons (.v 6) (.cons (.ix (.lst (.cons (.c (.int 1)) (.cons (.c (.int 2)) (.cons (.neg (.c (.int 1))) (.cons (.neg (.c (.int 3))) (.cons (.op .Sub (.call 42 (.cons (.v 1) (.cons (.op .Pow (.c (.int 10)) (.c (.int 9))) .nil))) (.c (.int 3))) .nil)))))) (.call 42 (.cons (.v 1) (.cons (.c (.int 5)) .nil)))) .nil))) .nil))) .nil))) Lg
noncomputable def Li:B:=.cons (.set (.one 4) (.lst .nil)) Lh
noncomputable def Lj:B:=.cons (.cond (.cmp .Eq (.ix (.v 0) (.c (.int 0))) (.c (.str "row"))) (.cons (.ret (.tup (.cons (.c (.str "row")) (.cons (.bi .tuple (.cons (.lc 2 [2,1] (.many [0,1]) (.seq (.ix (.v 0) (.c (.int 1)))) .au (.tup (.cons (.v 0) (.cons (.call 45 (.cons (.v 1) (.cons (.v 3) (.cons (.v 2) .nil)))) .nil)))) .nil)) .nil)))) .nil) .nil) Li
noncomputable def Lk:B:=.cons (.cond (.cmp .Eq (.ix (.v 0) (.c (.int 0))) (.c (.str "word"))) (.cons (.ret (.tup (.cons (.c (.str "word")) (.cons (.ix (.lst (.cons (.c (.str "a")) (.cons (.c (.str "r")) (.cons (.c (.str "ab")) (.cons (.c (.str "dt")) .nil))))) (.call 42 (.cons (.v 1) (.cons (.c (.int 4)) .nil)))) .nil)))) .nil) .nil) Lj
noncomputable def Ll:B:=.cons (.cond (.cmp .Eq (.ix (.v 0) (.c (.int 0))) (.c (.str "num"))) (.cons (.set (.one 3) (.op .Mult (.call 42 (.cons (.v 1) (.cons (.op .Pow (.c (.int 10)) (.c (.int 9))) .nil))) (.op .Pow (.c (.int 10)) (.c (.int 20))))) (.cons (.ret (.tup (.cons (.c (.str "num")) (.cons (.ix (.lst (.cons (.op .Sub (.call 42 (.cons (.v 1) (.cons (.c (.int 5)) .nil))) (.c (.int 2))) (.cons (.v 3) .nil))) (.bi .int (.cons (.cmp .Eq (.call 42 (.cons (.v 1) (.cons (.c (.int 9)) .nil))) (.c (.int 0))) .nil))) .nil)))) .nil)) .nil) Lk
theorem Lm:aB ["kind","seed","deep","great","counts","k","value"] ["kind","seed","deep"] (ag (aa 70)):=⟨rfl,rfl,rfl,by decide +kernel,rfl,by decide +kernel,by decide +kernel⟩
theorem Ln:aF nm 40 ["kind","seed","deep","great","counts","k","value"] (ag (aa 70)) (ax (aa 70))=Ll:=by kernel_rfl
def Lo:Sp:=λds M Q _=>∃ κ p T3 o,ds=[kD κ,.ref p,T3]/\(κ=.num\/κ=.word)/\M p=some o/\Sd o/\∀q o',Sd o'->(∀S G,Ty S G q κ)->((∃i,q=.num i)\/∃s,q=.word s)->Q (qD q) (up M p o')
theorem Lq (O:Lw w):FO w 45 2 Lo:=by
 refine aI O.ok O.hn _ ⟨"_law_value",aa 70,["kind","seed","deep"]⟩ (by rw[O.hd];rfl) { cs:=[(42,Aq)] } { cs:=⟨⟨1,Xu _,Ar O⟩,trivial⟩ } Lm Ln λds M Q _ h=>?_;obtain⟨κ,p,T3,o,rfl,hκ,hp,so,h⟩:=h;rcases hκ with rfl |rfl
 ·refine⟨rfl,_,rfl,aq (aN (by decide) ⟨⟨by decide,by decide,by decide⟩,p,_,o,rfl,hp,so,by decide,by decide,λr1 o1 s1 g0 g1=>⟨⟨by decide,by decide,by decide⟩,?_⟩⟩)⟩;have g1:r1<1000000000:=g1;refine⟨.inl (.inl ⟨by lia,by lia⟩),p,_,o1,rfl,aw,s1,by decide,by decide,λr2 o2 s2 _ _=>⟨l2,.inl ?_⟩⟩;refine⟨p,_,o2,rfl,aw,s2,by decide,by decide,λr3 o3 s3 _ _=>br ⟨_,KH,l2,?_⟩⟩;rw[N.cj,N.cj];exact ar (h (.num _) o3 s3 (λ_ _=>.num) (.inl ⟨_,rfl⟩))
 ·refine⟨rfl,_,rfl,aq (ay (by decide) ⟨_,rfl,aq (aN (by decide) ⟨l4,.inl ⟨p,_,o,rfl,hp,so,by decide,by decide,λr o' s' r0 r1=>?_⟩⟩)⟩)⟩;obtain⟨d,e1,e2⟩:=ef (xs:=[.str "a",.str "r",.str "ab",.str "dt"]) r0 r1;obtain⟨s,rfl⟩:∃s,d=.str s:=by simp at e2;rcases e2 with z |z |z |z <;> exact⟨_,z⟩
  exact⟨_,e1,l2,ar (h (.word s) o' s' (λ_ _=>.word) (.inr ⟨_,rfl⟩))⟩
variable {w:Wo}
noncomputable def AK:List Kd:=[.num,.word,i9,i',.ah .num,.ah .word,.ah i9,.ah i',.ah (.ah .word)]
theorem pj {k:Kd} (h:k∈AK):kz k<900:=(by decide +kernel:∀k∈AK,kz k<900) k h
theorem eX {k:Kd} (h:k∈AK):kd k<=9:=(by decide +kernel:∀k∈AK,kd k<=9) k h
theorem Ay {k:Kd} (h:k∈AK):g7 k=true:=(by decide +kernel:∀k∈AK,g7 k=true) k h
theorem Az:∀{fs:List (Str×Kd)},oY fs=true->("table" : Str) ∉ fs.map (·.1)
 |[],_=>by simp
 |(f,k)::r,h=>by
  rw[oY,Xy,Xy]at h;exact λz=>(List.mem_cons.mp z).elim (λe=>of_decide_eq_true h.1.1 e.symm) (Az h.2)
noncomputable def AA:Kd->Bool
 |.row fs=>decide ((∀p∈fs,p.2∈AK)/\(fs.map (·.1)).Nodup/\fs.length<=4)
 |.ah k=>decide (k∈AK)
 |_=>true
theorem AB {k:Kd} (h:k∈AK):AA k=true:=(by decide +kernel:∀k∈AK,AA k=true) k h
theorem t4 {fs:List (Str×Kd)} (h:.row fs∈AK):(∀p∈fs,p.2∈AK)/\(fs.map (·.1)).Nodup/\fs.length<=4:=of_decide_eq_true (AB h)
theorem gq {k:Kd} (h:.ah k∈AK):k∈AK:=of_decide_eq_true (AB h)
noncomputable def kS (x:Str):Option Kd:=lk x bu
structure dY (sc:Sc) (m:Nat):Prop where
 Ue:∀p∈sc,p.2∈AK
 len:sc.length+m<=40
 Vl:∀p∈sc,p.1≠"w"
theorem dY.kd {sc:Sc}{m:Nat} (h:dY sc m):∀p∈sc,kd p.2<=49:=λp hp=>by have:=eX (h.Ue p hp);lia
structure Hq (κ:Kd) (sc:Sc) (q:Qn):Prop where
 ty:Ty kS sc q κ
 is:(∃x,q=.var x)\/∃f x,q=.at f (.var x)
noncomputable def Lr:B:=.cons (.ret (.v 2)) .nil
noncomputable def Ls:B:=.cons (.loop (.many [3,4]) (.seq (.call 47 (.cons (.v 1) .nil))) (.cons (.cond (.cmp .Eq (.v 4) (.v 0)) (.cons (.ex (.mt .append (.v 2) (.cons (.tup (.cons (.c (.str "var")) (.cons (.v 3) .nil))) .nil))) .nil) .nil) (.cons (.cond (.cmp .Eq (.ix (.v 4) (.c (.int 0))) (.c (.str "row"))) (.cons (.set (.one 2) (.op .Add (.v 2) (.lc 2 [0,3] (.many [0,1]) (.seq (.ix (.v 4) (.c (.int 1)))) (.cmp .Eq (.v 1) (.v 2)) (.tup (.cons (.c (.str "at")) (.cons (.v 0) (.cons (.tup (.cons (.c (.str "var")) (.cons (.v 3) .nil))) .nil))))))) .nil) .nil) .nil))) Lr
noncomputable def Lu:B:=.cons (.set (.one 2) (.lst .nil)) Ls
theorem Lv:aB ["kind","scope","ways","name","other"] ["kind","scope"] (ag (aa 74)):=⟨rfl,rfl,rfl,by decide +kernel,rfl,by decide +kernel,by decide +kernel⟩
theorem Lx:aF nm 40 ["kind","scope","ways","name","other"] (ag (aa 74)) (ax (aa 74))=Lu:=by kernel_rfl
def t6:Sp:=λds M Q _=>∃ κ sc m,ds=[kD κ,a7 sc]/\κ∈AK/\dY sc m/\∀ws:List Qn,(∀q∈ws,Hq κ sc q)->ws.length<=200->Q (.lst (ws.map qD)) M
theorem AD (O:Lw w):FO w 48 2 t6:=by
 refine aI O.ok O.hn _ ⟨"_law_held",aa 74,["kind","scope"]⟩ (by rw[O.hd];rfl) { cs:=[(47,tZ)] } { cs:=⟨⟨1,Xu _,Ax O⟩,trivial⟩ } Lv Lx λds M Q _ h=>?_;obtain⟨κ,sc,m,rfl,hκ,hs,h⟩:=h;refine⟨rfl,XS _,.inr λp hp=>?_⟩;refine⟨sc,rfl,by have:=hs.len;lia,hs.kd,λout ho lo _=>?_⟩
 refine dW (λxs τ M'=>∃rest lw ws u v,xs=eV rest/\(∀p∈rest,lk p.1 sc=some p.2)/\τ=[some (kD κ),some (a7 sc),some (.ref lw),u,v]/\M lw=none/\M' lw=some (.lst (ws.map qD))/\cx M M'/\(∀q∈ws,Hq κ sc q)/\ws.length+5 * rest.length<=200)
  ?_ ?_ _ _ _ ⟨out,p,[],none,none,rfl,λp hp=>(ho p.1 p.2).mp hp,rfl,hp,aw,tE hp rfl,λq hq=>(nomatch hq),by have:=hs.len;simp;lia⟩
 ·rintro τ M' ⟨rest,lw,ws,u,v,e1,hr,rfl,n1,n2,sb,hw,ja⟩;exact⟨trivial,.rfl (Al sb n1 n2 (h ws hw (by lia)))⟩
 ·rintro x xs τ M' ⟨rest,lw,ws,u,v,e1,hr,rfl,n1,n2,sb,hw,ja⟩;cases rest with
  |nil=>cases e1
  |cons r rest=>
   cases e1;have hlk:=hr r XA;have dh:∀p∈rest,lk p.1 sc=some p.2:=λp hp=>hr p (XB _ hp);have AC:r.2∈AK:=hs.Ue _ (dV hlk);refine⟨trivial,λN hN=>⟨rfl,?_⟩⟩;refine fC λN2 mv=>?_;have go:∀(M1:Mp) (hB:List Qn),M1 lw=some (.lst (hB.map qD))->cx M M1->(∀q∈hB,Hq κ sc q)->hB.length<=ws.length+1->N2 [some (kD κ),some (a7 sc),some (.ref lw),some (.str r.1),some (kD r.2)] M1:=by
    intro M1 hB g1 g2 g4 g5;refine mv _ _ ?_;cases hk:r.2 with
    |row fs=>
     obtain⟨f1,f2,f3⟩:=t4 (hk ▸ AC);refine⟨_,rfl,aq (aN (by decide) ⟨_,rfl,?_⟩)⟩;refine eT (λxs ys M2=>M2=M1/\∃co vs,xs=bM co/\ys=vs.map qD/\(∀p∈co,p∈fs)/\(∀q∈vs,Hq κ sc q)/\vs.length+co.length<=4) ?_ ?_ _ _ _ ⟨rfl,fs,[],rfl,rfl,λp h=>h,λq h=>(nomatch h),by simpa using f3⟩
     ·rintro ys M2 ⟨rfl,co,vs,_,rfl,h2,h3,h4⟩;refine⟨trivial,XC (by rw[Xr];lia:_<=4) (by decide),.inl ?_⟩;refine⟨_,g1,Xz (by simp at ja ⊢;lia:_<=300) (by decide),.inr λp4 AE=>?_⟩;refine hN _ _ ⟨rest,p4,hB++vs,_,_,rfl,dh,rfl,cx.no g2 AE,by rw[aw,XU],pe g2 (cx.no g2 AE) rfl,λq hq=>(List.mem_append.mp hq).elim (g4 q) (h3 q),by simp at ja ⊢;lia⟩
     ·rintro x xs ys M2 ⟨rfl,co,vs,e1,rfl,h2,h3,h4⟩;cases co with
      |nil=>cases e1
      |cons g co=>
       obtain⟨gf,gk⟩:=g;rw[bM]at e1;cases e1;have hm:=h2 _ XA;refine⟨trivial,XC (by rw[Xr];lia:_<=4) (by decide),λN4 AF=>⟨rfl,kg (by have:kd gk<=9:=eX (f1 _ hm);lia) (aX (λe=>?_) λe=>?_)⟩⟩
       ·have e:=of_decide_eq_true e;have:=AF (vs.map qD++[qD (.at gf (.var r.1))]) M2 ⟨rfl,co,vs++[.at gf (.var r.1)],rfl,by rw[XU];rfl,λp h=>h2 p (XB _ h),λq hq=>?_,by simp at h4 ⊢;lia⟩
        ·exact⟨l2,l3,this⟩
        ·rcases List.mem_append.mp hq with z |z
         ·exact h3 q z
         ·rw[List.mem_singleton.mp z];exact⟨.at f2 (.var (by rw[hlk,hk])) (by rw[tR f2 hm,e]),.inr ⟨_,_,rfl⟩⟩
       ·exact AF _ _ ⟨rfl,co,vs,rfl,rfl,λp h=>h2 p (XB _ h),h3,by simp at h4 ⊢;lia⟩
    |num=>exact⟨_,rfl,aq (ay (by decide) (hN _ _ ⟨rest,lw,hB,_,_,rfl,dh,rfl,n1,g1,g2,g4,by simp at ja;lia⟩))⟩
    |word=>exact⟨_,rfl,aq (ay (by decide) (hN _ _ ⟨rest,lw,hB,_,_,rfl,dh,rfl,n1,g1,g2,g4,by simp at ja;lia⟩))⟩
    |ah k=>exact⟨_,rfl,aq (ay (by decide) (hN _ _ ⟨rest,lw,hB,_,_,rfl,dh,rfl,n1,g1,g2,g4,by simp at ja;lia⟩))⟩
   refine kg (by have:=eX AC;lia) (aX (λe=>?_) λe=>go M' ws n2 sb hw (by lia))
   have e:=of_decide_eq_true e;refine⟨.inl ⟨rfl,_,n2⟩,l2,_,n2,XC (by simp at ja ⊢;lia:_<=200) (by decide),go _ (ws++[.var r.1]) ?_ ?_ ?_ (by simp)⟩
   ·rw[aw,XU];rfl
   ·exact pe sb n1 rfl
   ·intro q hq;rcases List.mem_append.mp hq with z |z
    ·exact hw q z
    ·rw[List.mem_singleton.mp z];exact⟨.var (by rw[hlk,e]),.inl ⟨_,rfl⟩⟩
variable {w:Wo}
def Hs (M:Mp) (p:Addr):Prop:=∃o,M p=some o/\Sd o
def Sx (M:Mp) (p:Addr) (X:Mp):Prop:=∃o,Sd o/\X=up M p o
theorem AG {M:Mp}{p:Addr}{o:MO} (h:M p=some o):up M p o=M:=funext λb=>by
 by_cases e:b=p
 ·rw[e,aw,h]
 ·rw[az e]
theorem Sx.rfl {M:Mp}{p:Addr} (h:Hs M p):Sx M p M:=let ⟨o,h1,h2⟩:=h;⟨o,h2,(AG h1).symm⟩
theorem Sx.hs {M X:Mp}{p:Addr} (h:Sx M p X):Hs X p:=let ⟨o,h1,h2⟩:=h;⟨o,by rw[h2];exact aw,h1⟩
theorem Sx.tr {M X Y:Mp}{p:Addr} (h:Sx M p X) (g:Sx X p Y):Sx M p Y:=by
 obtain⟨o,h1,rfl⟩:=h;obtain⟨o',h2,rfl⟩:=g;exact⟨o',h2,N.cj⟩
theorem Sx.ne {M X:Mp}{p a:Addr} (h:Sx M p X) (n:a≠p):X a=M a:=by obtain⟨o,_,rfl⟩:=h;exact az n
def hE:Sp:=λds M Q _=>∃p n,ds=[.ref p,.int n]/\Hs M p/\0<n/\n<2 ^ 200/\∀r X,Sx M p X->0<=r->r<n->Q (.int r) X
theorem jb (O:Lw w):FO w 42 1 hE:=(Ar O).imp λds M Q E ⟨p,n,e,⟨o,h1,h2⟩,h3,h4,h⟩=>⟨p,n,o,e,h1,h2,h3,h4,λr o' s=>h r _ ⟨o',s,rfl⟩⟩
def AH:Sp:=λds M Q _=>∃ κ p T3,ds=[kD κ,.ref p,T3]/\(κ=.num\/κ=.word)/\Hs M p/\∀q X,Sx M p X->(∀S G,Ty S G q κ)->((∃i,q=.num i)\/∃s,q=.word s)->Q (qD q) X
theorem Ly (O:Lw w):FO w 45 2 AH:=(Lq O).imp λds M Q E ⟨κ,p,T3,e,h0,⟨o,h1,h2⟩,h⟩=>⟨κ,p,T3,o,e,h0,h1,h2,λq o' s=>h q _ ⟨o',s,rfl⟩⟩
mutual
noncomputable def dq:Qn->Nat
 |.num _=>1 |.word _=>1 |.var _=>1 |.tab _=>1
 |.none k=>1+kd k
 |.row fs=>3+bZ fs
 |.at _ q=>1+dq q
 |.add a b=>1+max (dq a) (dq b)
 |.mul a b=>1+max (dq a) (dq b)
 |.one a=>1+dq a
 |.both a b=>1+max (dq a) (dq b)
 |.times _ a=>1+dq a
 |.for _ a b=>9+max (dq a) (dq b)
 |.aL a b=>1+max (dq a) (dq b)
 |.let _ a b=>1+max (dq a) (dq b)
 |.same a b=>1+max (dq a) (dq b)
 |.under a b=>1+max (dq a) (dq b)
 |.and a b=>1+max (dq a) (dq b)
 |.or a b=>1+max (dq a) (dq b)
 |.not a=>1+dq a
noncomputable def bZ:List (Str×Qn)->Nat
 |[]=>0
 |(_,q)::r=>max (dq q) (bZ r)
end
mutual
noncomputable def zk:Kd->Nat
 |.num=>2 |.word=>2
 |.row fs=>1+pk fs
 |.ah k=>1+zk k
noncomputable def pk:List (Str×Kd)->Nat
 |[]=>0
 |(_,k)::r=>zk k+pk r
end
mutual
noncomputable def T4:Kd->Nat
 |.num=>2 |.word=>2
 |.row fs=>3+pq fs
 |.ah k=>max (1+T4 k) (1+kd k)
noncomputable def pq:List (Str×Kd)->Nat
 |[]=>0
 |(_,k)::r=>max (T4 k) (pq r)
end
noncomputable def zf:Nat->Nat
 | 0=>14
 |f+1=>5 * zf f+40
noncomputable def nB (f:Int) (k:Kd):Nat:=if f<=0 then zk k else zf f.toNat
noncomputable def dB (f:Int) (k:Kd):Nat:=if f<=0 then T4 k else 9 * f.toNat+9
theorem pv {k:Kd} (h:k∈AK):2<=zk k/\zk k<=14/\2<=T4 k/\T4 k<=9/\1<=kd k:=by
 have:∀k∈AK,2<=zk k/\zk k<=14/\2<=T4 k/\T4 k<=9/\1<=kd k:=by decide +kernel
 exact this k h
theorem jc:∀f,14<=zf f
 | 0=>Xu _
 |f+1=>by have:=jc f;rw[zf];lia
theorem mw {f g:Nat} (h:f<=g):zf f<=zf g:=by
 induction h with
 |refl=>exact Xu _
 |step _ ih=>rw[zf];lia
theorem ek {f:Int}{k:Kd} (h:k∈AK):2<=nB f k/\nB f k<=zf f.toNat/\2<=dB f k/\dB f k<=9 * f.toNat+9:=by
 obtain⟨h1,h2,h3,h4,_⟩:=pv h;have:=jc f.toNat;unfold nB dB;split
 ·lia
 ·exact⟨by lia,Xu _,by lia,Xu _⟩
structure GQ (f:Int) (κ:Kd) (sc:Sc) (q:Qn):Prop where
 ty:Ty kS sc q κ
 n:nq q<=nB f κ
 d:dq q<=dB f κ
def Rk (n:Nat) (f:Int) (κ:Kd) (t:Nat):Prop:=20 * f.toNat+2 * kd κ+t<=n
noncomputable def T5:Kd->Nat
 |.ah _=>0
 |_=>2
theorem t7 {k:Kd}:T5 k<=2:=by cases k <;> simp [T5]
theorem dY.di {sc:Sc}{m k:Nat} (h:dY sc m) (hk:k<=m):dY sc k:=⟨h.Ue,by have:=h.len;lia,h.Vl⟩
def hH (n:Nat):Sp:=λds M Q _=>∃ κ sc f p,ds=[kD κ,a7 sc,.int f,.ref p]/\κ∈AK/\Rk n f κ 1/\dY sc f.toNat/\Hs M p/\∀q X,Sx M p X->GQ f κ sc q->Q (qD q) X
def eY (n:Nat):Sp:=λds M Q _=>∃ κ sc f p,ds=[kD κ,a7 sc,.int f,.ref p]/\κ∈AK/\Rk n f κ (T5 κ)/\dY sc f.toNat/\Hs M p/\∀q X,Sx M p X->GQ f κ sc q->Q (qD q) X
theorem Lz {f:Int}{k:Kd} (h:k∈AK):∀{q:Qn}{sc:Sc},GQ (f-1) k sc q->GQ f k sc q:=λ{q sc} g=>by
 have z:=mw (show (f-1).toNat<=f.toNat by lia);obtain⟨h1,h2,h3,h4,_⟩:=pv h;have LA:=jc f.toNat;refine⟨g.ty,Xz g.n ?_,Xz g.d ?_⟩
 ·unfold nB;split <;> split <;> lia
 ·unfold dB;split <;> split <;> lia
noncomputable def sB (f:Int):List (Str×Kd)->Nat
 |[]=>0
 |(_,k)::r=>nB f k+sB f r
noncomputable def mB (f:Int):List (Str×Kd)->Nat
 |[]=>0
 |(_,k)::r=>max (dB f k) (mB f r)
theorem AI {f:Int}{x:Str}{k:Kd}:∀{a:List (Str×Kd)},sB f (a++[(x,k)])=sB f a+nB f k
 |[]=>by simp [sB]
 |(_,l)::r=>by rw[Y6,sB,sB,AI];lia
theorem AJ {f:Int}{x:Str}{k:Kd}:∀{a:List (Str×Kd)},mB f (a++[(x,k)])=max (mB f a) (dB f k)
 |[]=>by simp [mB]
 |(_,l)::r=>by rw[Y6,mB,mB,AJ,Nat.max_assoc]
theorem AL {x:Str}{k:Qn}:∀{a:List (Str×Qn)},bO (a++[(x,k)])=bO a+nq k
 |[]=>by simp [bO]
 |(_,l)::r=>by rw[Y6,bO,bO,AL];lia
theorem AM {x:Str}{k:Qn}:∀{a:List (Str×Qn)},bZ (a++[(x,k)])=max (bZ a) (dq k)
 |[]=>by simp [bZ]
 |(_,l)::r=>by rw[Y6,bZ,bZ,AM,Nat.max_assoc]
theorem AN {x:Str}{k:Qn}:∀{a:List (Str×Qn)},bG (a++[(x,k)])=bG a++[.tup [.str x,qD k]]
 |[]=>by simp [bG]
 |(_,l)::r=>by rw[Y6,bG,bG,AN];rfl
theorem AO {S:Str->Option Kd}{G:Sc}{x:Str}{q:Qn}{k:Kd} (h:Ty S G q k):∀{a:List (Str×Qn)}{b:List (Str×Kd)},dg S G a b->dg S G (a++[(x,q)]) (b++[(x,k)])
 |_,_,.nil=>.cons h .nil
 |_,_,.cons t r=>.cons t (AO h r)
theorem px:∀{a:List (Str×Qn)},(bG a).length=a.length
 |[]=>by rw[bG];rfl
 |(_,_)::r=>by rw[bG,XG,XG,px]
theorem t8 {S:Str->Option Kd}{G:Sc}:∀{a:List (Str×Qn)}{b:List (Str×Kd)},dg S G a b->a.length=b.length
 |_,_,.nil=>rfl
 |_,_,.cons _ r=>by rw[XG,XG,t8 r]
theorem LB {f:Int}{fs:List (Str×Kd)} (h:.row fs∈AK):1+sB (f-1) fs<=nB f (.row fs)/\3+mB (f-1) fs<=dB f (.row fs):=by
 obtain⟨f1,_,f3⟩:=t4 h;by_cases hf:f<=0
 ·have key:∀ fs:List (Str×Kd),sB (f-1) fs=pk fs/\mB (f-1) fs=pq fs:=by
   intro fs
   induction fs with
   |nil=>exact⟨rfl,rfl⟩
   |cons p r ih=>
    obtain⟨x,k⟩:=p;rw[sB,mB,pk,pq,ih.1,ih.2];unfold nB dB;rw[if_pos (by lia),if_pos (by lia)];exact⟨rfl,rfl⟩
  unfold nB dB;rw[if_pos hf,if_pos hf,zk,T4,(key fs).1,(key fs).2];exact⟨Xu _,Xu _⟩
 ·have key:∀ fs:List (Str×Kd),(∀ p∈fs,p.2∈AK)->sB (f-1) fs<=fs.length * zf (f-1).toNat/\mB (f-1) fs<=9 * (f-1).toNat+9:=by
   intro fs
   induction fs with
   |nil=>exact λ_=>⟨by rw[sB];lia,by rw[mB];lia⟩
   |cons p r ih=>
    intro hp;obtain⟨x,k⟩:=p;have:=ih λp h=>hp p (XB _ h);have hb:=ek (f:=f-1) (k:=k) (hp (x,k) XA);rw[sB,mB,XG,Nat.succ_mul];lia
  obtain⟨k1,k2⟩:=key fs f1;have k3:fs.length * zf (f-1).toNat<=4 * zf (f-1).toNat:=YW _ f3;obtain⟨g,hg⟩:∃g:Nat,f=(g:Int)+1:=⟨(f-1).toNat,by lia⟩;subst hg;unfold nB dB;rw[if_neg hf,if_neg hf,show ((g:Int)+1).toNat=g+1 from rfl,zf];have:((g:Int)+1-1).toNat=g:=by lia
  rw[this]at k1 k2 k3;lia
theorem AP {gf:Str}{gk:Kd}:∀{fs:List (Str×Kd)},(gf,gk)∈fs->kd gk<=ke fs
 |(y,l)::r,z=>by
  rw[ke];rcases List.mem_cons.mp z with z |z
  ·cases z;lia
  ·have:=AP z;lia
noncomputable def LC:B:=.cons (.ret (.call 45 (.cons (.v 0) (.cons (.v 3) (.cons (.c (.int 1)) .nil))))) .nil
noncomputable def LD:B:=.cons (.cond (.and (.cmp .Eq (.ix (.v 0) (.c (.int 0))) (.c (.str "num"))) (.and (.cmp .Gt (.v 2) (.c (.int 0))) (.cmp .Eq (.call 42 (.cons (.v 3) (.cons (.c (.int 3)) .nil))) (.c (.int 0))))) (.cons (.set (.one 5) (.call 49 (.cons (.v 0) (.cons (.v 1) (.cons (.op .Sub (.v 2) (.c (.int 1))) (.cons (.v 3) .nil)))))) (.cons (.ret (.tup (.cons (.ix (.lst (.cons (.c (.str "add")) (.cons (.c (.str "mul")) .nil))) (.call 42 (.cons (.v 3) (.cons (.c (.int 2)) .nil)))) (.cons (.v 5) (.cons (.call 49 (.cons (.v 0) (.cons (.v 1) (.cons (.op .Sub (.v 2) (.c (.int 1))) (.cons (.v 3) .nil))))) .nil))))) .nil)) .nil) LC
noncomputable def LF:B:=.cons (.cond (.cmp .Eq (.ix (.v 0) (.c (.int 0))) (.c (.str "row"))) (.cons (.ret (.tup (.cons (.c (.str "row")) (.cons (.bi .tuple (.cons (.lc 2 [2,1,3] (.many [0,1]) (.seq (.ix (.v 0) (.c (.int 1)))) .au (.tup (.cons (.v 0) (.cons (.call 53 (.cons (.v 1) (.cons (.v 3) (.cons (.op .Sub (.v 2) (.c (.int 1))) (.cons (.v 4) .nil))))) .nil)))) .nil)) .nil)))) .nil) .nil) LD
noncomputable def LG:B:=.cons (.cond (.cmp .Eq (.ix (.v 0) (.c (.int 0))) (.c (.str "bag"))) (.cons (.ret (.call 53 (.cons (.v 0) (.cons (.v 1) (.cons (.op .Sub (.v 2) (.c (.int 1))) (.cons (.v 3) .nil)))))) .nil) .nil) LF
noncomputable def AQ:B:=.cons (.cond (.and (.cmp .NotEq (.v 4) (.lst .nil)) (.cmp .Gt (.call 42 (.cons (.v 3) (.cons (.c (.int 4)) .nil))) (.c (.int 0)))) (.cons (.ret (.ix (.v 4) (.call 42 (.cons (.v 3) (.cons (.bi .len (.cons (.v 4) .nil)) .nil))))) .nil) .nil) LG
noncomputable def LH:B:=.cons (.set (.one 4) (.call 48 (.cons (.v 0) (.cons (.v 1) .nil)))) AQ
theorem LI:aB ["kind","scope","fuel","seed","ways","one"] ["kind","scope","fuel","seed"] (ag (aa 75)):=⟨rfl,rfl,rfl,by decide +kernel,rfl,by decide +kernel,by decide +kernel⟩
theorem LJ:aF nm 40 ["kind","scope","fuel","seed","ways","one"] (ag (aa 75)) (ax (aa 75))=LH:=by kernel_rfl
noncomputable abbrev Vm (n:Nat):a0 w:={ cs:=[(48,t6),(42,hE),(53,eY n),(49,hH n),(45,AH)] }
theorem LL (O:Lw w) {n:Nat} (hs:FO w 49 (n+4) (hH n)) (ha:FO w 53 (n+4) (eY n)):FO w 49 (n+5) (hH (n+1)):=by
 refine aI O.ok O.hn _ ⟨"_law_small",aa 75,["kind","scope","fuel","seed"]⟩ (by rw[O.hd];rfl) (Vm n) { cs:=⟨⟨2,by lia,AD O⟩,⟨1,by lia,jb O⟩,⟨n+4,Xu _,ha⟩,⟨n+4,Xu _,hs⟩,⟨2,by lia,Ly O⟩,trivial⟩ } LI LJ λds M Q _ h=>?_;obtain⟨κ,sc,f,p,rfl,hκ,rk,am,hp,h⟩:=h;have nb:=ek (f:=f) hκ;have fin:∀X q,Sx M p X->GQ f κ sc q->aZ Q (qD q) X:=λX q u g=>ar (h q X u g);refine⟨rfl,κ,sc,_,rfl,hκ,am,λws hw lw=>?_⟩;show B.w (Vm (w:=w) n).wd nm.aj AQ (a9 Q) [some (kD κ),some (a7 sc),some (.int f),some (.ref p),some (.lst (ws.map qD)),none] M;refine fC λN2 mv=>?_;have go:∀X,Sx M p X->N2 [some (kD κ),some (a7 sc),some (.int f),some (.ref p),some (.lst (ws.map qD)),none] X:=by
  intro X u;refine mv _ _ ?_;cases κ with
  |ah k=>
   exact⟨_,rfl,aq (aN (by decide) ⟨.ah k,sc,f-1,p,rfl,hκ,by unfold Rk at rk ⊢;rw[T5];lia,am.di (by lia),u.hs,λq Y u2 g=>fin _ q (u.tr u2) (Lz hκ g)⟩)⟩
  |row fs=>
   obtain⟨f1,f2,f3⟩:=t4 hκ;refine⟨_,rfl,aq (ay (by decide) ⟨_,rfl,aq (aN (by decide) ⟨_,rfl,?_⟩)⟩)⟩;refine eT (λxs ys Y=>∃co qs pre,xs=bM co/\fs=pre++co/\ys=bG qs/\dg kS sc qs pre/\bO qs<=sB (f-1) pre/\bZ qs<=mB (f-1) pre/\Sx M p Y) ?_ ?_ _ _ _ ⟨fs,[],[],rfl,rfl,rfl,.nil,Xu _,Xu _,u⟩
   ·rintro ys Y ⟨co,qs,pre,e1,e2,rfl,t1,t2,t3,uY⟩;cases co with
    |cons g co=>obtain⟨gf,gk⟩:=g;rw[bM]at e1;cases e1
    |nil=>
     rw[XO]at e2;subst e2;have ln:(bG qs).length<=4:=(by rw[px,t8 t1];exact f3);obtain⟨b1,b2⟩:=LB (f:=f) hκ;refine⟨trivial,XC ln (by decide),.inl ⟨l2,fin _ (.row qs) uY ⟨.row (by rw[px]at ln;lia) (Az (by have:=Ay hκ;rw[g7]at this;exact this)) t1,by rw[nq];lia,by rw[dq];lia⟩⟩⟩
   ·rintro x xs ys Y ⟨co,qs,pre,e1,e2,rfl,t1,t2,t3,uY⟩;cases co with
    |nil=>cases e1
    |cons g co=>
     obtain⟨gf,gk⟩:=g;rw[bM]at e1;cases e1;have hm:(gf,gk)∈fs:=(by rw[e2];simp);have LN:=f1 _ hm;have ln:(bG qs).length<=4:=(by rw[px,t8 t1];rw[e2]at f3;simp at f3;lia);have kk:kd gk+3<=kd (.row fs):=by rw[kd];have:=AP hm;lia
     refine⟨trivial,XC ln (by decide),λN4 h4=>⟨rfl,gk,sc,f-1,p,rfl,LN,by have:=@t7 gk;unfold Rk at rk ⊢;lia,am.di (by lia),uY.hs,λq Z u3 g=>?_⟩⟩
     have:=h4 (bG qs++[.tup [.str gf,qD q]]) _ ⟨co,qs++[(gf,q)],pre++[(gf,gk)],rfl,by rw[e2];simp,by rw[AN],AO g.ty t1,by rw[AL,AI];have:=g.n;lia,by rw[AM,AJ];have:=g.d;lia,uY.tr u3⟩
     exact⟨l2,this⟩
  |num=>
   have gv:∀X,Sx M p X->B.w (Vm (w:=w) n).wd nm.aj (.cons (.ret (.call 45 (.cons (.v 0) (.cons (.v 3) (.cons (.c (.int 1)) .nil))))) .nil) (a9 Q) [some (kD .num),some (a7 sc),some (.int f),some (.ref p),some (.lst (ws.map qD)),none] X:=λX u=>
    ⟨.num,p,_,rfl,.inl rfl,u.hs,λq Y u2 ty lit=>fin _ q (u.tr u2) ⟨ty _ _,by rcases lit with ⟨i,rfl⟩ |⟨i,rfl⟩ <;> (rw[nq];lia),by rcases lit with ⟨i,rfl⟩ |⟨i,rfl⟩ <;> (rw[dq];lia)⟩⟩
   refine⟨_,rfl,aq (ay (by decide) ⟨_,rfl,aq (ay (by decide) ⟨_,rfl,aq (aN (by decide) (aX (λe1=>?_) λe1=>ay (by decide) (gv X u)))⟩)⟩)⟩;have fp:0<f:=of_decide_eq_true e1;refine⟨p,3,rfl,u.hs,by decide,by decide,λr1 X1 u1 _ _=>br (aX (λe2=>?_) λe2=>gv _ (u.tr u1))⟩;have AR:Rk n (f-1) .num 1:=(by unfold Rk at rk ⊢;lia);refine⟨.num,sc,f-1,p,rfl,hκ,AR,am.di (by lia),u1.hs,λqa X2 u2 ga=>?_⟩;refine⟨l2,.inl ⟨p,2,rfl,u2.hs,by decide,by decide,λr2 X3 u3 o0 kh=>?_⟩⟩;obtain⟨d,e3,e4⟩:=ef (xs:=[.str "add",.str "mul"]) o0 kh;refine⟨d,e3,?_⟩;refine⟨.num,sc,f-1,p,rfl,hκ,AR,am.di (by lia),u3.hs,λqb X4 u4 gb=>⟨l3,?_⟩⟩;have U2:1+nq qa+nq qb<=nB f .num/\1+max (dq qa) (dq qb)<=dB f .num:=by
    have h1:=ga.n;have h2:=gb.n;have h3:=ga.d;have h4:=gb.d
    have hb:=ek (f:=f-1) (k:=.num) hκ;obtain⟨g,hg⟩:∃g:Nat,f=(g:Int)+1:=⟨(f-1).toNat,by lia⟩;subst hg;rw[show ((g:Int)+1-1).toNat=g by lia]at hb;unfold nB dB;rw[if_neg (by lia),if_neg (by lia),show ((g:Int)+1).toNat=g+1 from rfl,zf];lia
   have uu:=(((u.tr u1).tr u2).tr u3).tr u4;simp only[Yh,XR,or_false]at e4;rcases e4 with rfl |rfl
   ·exact fin _ (.add qa qb) uu ⟨.add ga.ty gb.ty,by rw[nq];exact U2.1,by rw[dq];exact U2.2⟩
   ·exact fin _ (.mul qa qb) uu ⟨.mul ga.ty gb.ty,by rw[nq];exact U2.1,by rw[dq];exact U2.2⟩
  |word=>
   refine⟨_,rfl,aq (ay (by decide) ⟨_,rfl,aq (ay (by decide) ⟨_,rfl,aq (ay (by decide) ?_)⟩)⟩)⟩;exact ay (by decide) ⟨.word,p,_,rfl,.inr rfl,u.hs,λq Y u2 ty lit=>fin _ q (u.tr u2) ⟨ty _ _,by rcases lit with ⟨i,rfl⟩ |⟨i,rfl⟩ <;> (rw[nq];lia),by rcases lit with ⟨i,rfl⟩ |⟨i,rfl⟩ <;> (rw[dq];lia)⟩⟩
 refine⟨XS _,.inl (o7 (aX (λe1=>?_) λe1=>ay (by decide) (go M (.rfl hp))))⟩;have AS:0<ws.length:=by
  cases ws with
  |nil=>simp at e1
  |cons _ _=>simp
 refine⟨p,4,rfl,hp,by decide,by decide,λr1 X1 u1 _ _=>aX (λe2=>?_) λe2=>go _ u1⟩;refine⟨p,_,rfl,u1.hs,by rw[Xr];lia,?_,λr X2 u2 r0 AT=>?_⟩
 ·rw[Xr];exact Int.lt_of_le_of_lt (by lia:_<=(200:Int)) (by decide)
 rw[Xr]at AT;obtain⟨d,e3,e4⟩:=ef (xs:=ws.map qD) r0 (by rw[Xr];exact AT);obtain⟨q,hq,rfl⟩:=List.mem_map.mp e4;have hq':=hw q hq;refine⟨_,e3,fin _ q (u1.tr u2) ⟨hq'.ty,?_,?_⟩⟩
 ·rcases hq'.is with ⟨x,rfl⟩ |⟨f,x,rfl⟩
  ·rw[nq];lia
  ·rw[nq,nq];lia
 ·rcases hq'.is with ⟨x,rfl⟩ |⟨f,x,rfl⟩
  ·rw[dq];lia
  ·rw[dq,dq];lia
variable {w:Wo}
def ki (n:Nat):Sp:=λds M Q _=>∃sc f p,ds=[a7 sc,.int f,.ref p]/\0<=f/\f<=1/\f.toNat+4<=n/\dY sc 0/\Hs M p/\∀q X,Sx M p X->bV kS sc q->nq q<=8+9 * f.toNat->dq q<=7+f.toNat->Q (qD q) X
noncomputable def t9:B:=.cons (.ret (.tup (.cons (.v 6) (.cons (.v 4) (.cons (.call 49 (.cons (.v 5) (.cons (.v 0) (.cons (.c (.int 0)) (.cons (.v 2) .nil))))) .nil))))) .nil
noncomputable def LO:B:=.cons (.set (.one 6) (.ix (.lst (.cons (.c (.str "same")) (.cons (.c (.str "under")) .nil))) (.bi .int (.cons (.and (.cmp .Eq (.v 5) (.tup (.cons (.c (.str "num")) .nil))) (.cmp .Gt (.v 3) (.c (.int 3)))) .nil)))) t9
noncomputable def AU:B:=.cons (.cond (.and (.cmp .Eq (.v 5) (.tup (.cons (.c (.str "num")) .nil))) (.cmp .Eq (.call 42 (.cons (.v 2) (.cons (.c (.int 8)) .nil))) (.c (.int 0)))) (.cons (.set (.one 4) (.ix (.lst (.cons (.tup (.cons (.c (.str "at")) (.cons (.c (.str "a")) (.cons (.tup (.cons (.c (.str "row")) (.cons (.tup (.cons (.tup (.cons (.c (.str "a")) (.cons (.v 4) .nil))) (.cons (.tup (.cons (.c (.str "b")) (.cons (.tup (.cons (.c (.str "table")) (.cons (.c (.str "t")) .nil))) .nil))) .nil))) .nil))) .nil)))) (.cons (.tup (.cons (.c (.str "let")) (.cons (.c (.str "w")) (.cons (.tup (.cons (.c (.str "table")) (.cons (.c (.str "u")) .nil))) (.cons (.v 4) .nil))))) .nil))) (.op .Mod (.v 3) (.c (.int 2))))) .nil) .nil) LO
noncomputable def LP:B:=.cons (.set (.one 4) (.call 49 (.cons (.v 5) (.cons (.v 0) (.cons (.c (.int 0)) (.cons (.v 2) .nil)))))) AU
noncomputable def LQ:B:=.cons (.set (.one 5) (.ix (.lst (.cons (.tup (.cons (.c (.str "num")) .nil)) (.cons (.tup (.cons (.c (.str "num")) .nil)) (.cons (.tup (.cons (.c (.str "word")) .nil)) .nil)))) (.call 42 (.cons (.v 2) (.cons (.c (.int 3)) .nil))))) LP
noncomputable def LR:B:=.cons (.cond (.and (.cmp .Gt (.v 1) (.c (.int 0))) (.cmp .Eq (.v 3) (.c (.int 1)))) (.cons (.set (.one 4) (.call 50 (.cons (.v 0) (.cons (.op .Sub (.v 1) (.c (.int 1))) (.cons (.v 2) .nil))))) (.cons (.ret (.tup (.cons (.ix (.lst (.cons (.c (.str "and")) (.cons (.c (.str "or")) .nil))) (.call 42 (.cons (.v 2) (.cons (.c (.int 2)) .nil)))) (.cons (.v 4) (.cons (.call 50 (.cons (.v 0) (.cons (.op .Sub (.v 1) (.c (.int 1))) (.cons (.v 2) .nil)))) .nil))))) .nil)) .nil) LQ
noncomputable def AV:B:=.cons (.cond (.and (.cmp .Gt (.v 1) (.c (.int 0))) (.cmp .Eq (.v 3) (.c (.int 0)))) (.cons (.ret (.tup (.cons (.c (.str "not")) (.cons (.call 50 (.cons (.v 0) (.cons (.op .Sub (.v 1) (.c (.int 1))) (.cons (.v 2) .nil)))) .nil)))) .nil) .nil) LR
noncomputable def LS:B:=.cons (.set (.one 3) (.call 42 (.cons (.v 2) (.cons (.c (.int 6)) .nil)))) AV
theorem LU:aB ["scope","fuel","seed","way","one","kind","word"] ["scope","fuel","seed"] (ag (aa 76)):=⟨rfl,rfl,rfl,by decide +kernel,rfl,by decide +kernel,by decide +kernel⟩
theorem LV:aF nm 40 ["scope","fuel","seed","way","one","kind","word"] (ag (aa 76)) (ax (aa 76))=LS:=by kernel_rfl
noncomputable abbrev UB (n:Nat):a0 w:={ cs:=[(42,hE),(49,hH n),(50,ki n)] }
theorem LW (O:Lw w) {n:Nat} (hs:FO w 49 (n+4) (hH n)) (hc:FO w 50 (n+4) (ki n)):FO w 50 (n+5) (ki (n+1)):=by
 refine aI O.ok O.hn _ ⟨"_law_claim",aa 76,["scope","fuel","seed"]⟩ (by rw[O.hd];rfl) (UB n) { cs:=⟨⟨1,by lia,jb O⟩,⟨n+4,Xu _,hs⟩,⟨n+4,Xu _,hc⟩,trivial⟩ } LU LV λds M Q _ h=>?_;obtain⟨sc,f,p,rfl,f0,f1,rk,am,hp,h⟩:=h;have fin:∀X q,Sx M p X->bV kS sc q->nq q<=8+9 * f.toNat->dq q<=7+f.toNat->aZ Q (qD q) X:=λX q u g1 g2 g3=>ar (h q X u g1 g2 g3);refine⟨rfl,p,6,rfl,hp,by decide,by decide,λcO X u1 w0 w1=>?_⟩;show B.w (UB (w:=w) n).wd nm.aj AV (a9 Q) [some (a7 sc),some (.int f),some (.ref p),some (.int cO),none,none,none] X;refine fC λN2 mv=>?_;have g2:N2 [some (a7 sc),some (.int f),some (.ref p),some (.int cO),none,none,none] X:=by
  refine mv _ _ (fC λN3 uc=>?_);have g3:N3 [some (a7 sc),some (.int f),some (.ref p),some (.int cO),none,none,none] X:=by
   refine uc _ _ ?_;refine⟨l1,l1,l1,l3,.inl ⟨p,3,rfl,u1.hs,by decide,by decide,λr X2 u2 r0 r1=>?_⟩⟩;obtain⟨d,e3,e4⟩:=ef (xs:=[kD .num,kD .num,kD .word]) r0 r1;refine⟨d,e3,?_⟩;obtain⟨κ,rfl,hκ⟩:∃ κ,d=kD κ/\(κ=.num\/κ=.word):=by
    simp only[Yh,XR,or_false]at e4;rcases e4 with z |z |z
    ·exact⟨_,z,.inl rfl⟩
    ·exact⟨_,z,.inl rfl⟩
    ·exact⟨_,z,.inr rfl⟩
   have k1:κ∈AK/\kd κ=1/\zk κ=2/\T4 κ=2:=(by rcases hκ with rfl |rfl <;> decide +kernel);have Up:∀{q},GQ 0 κ sc q->nq q<=2/\dq q<=2:=λg=>by
    have h1:=g.n;have h2:=g.d
    unfold nB at h1;unfold dB at h2;rw[if_pos (by lia)]at h1 h2;lia
   refine⟨κ,sc,0,p,rfl,k1.1,by unfold Rk;lia,am,u2.hs,λq1 X3 u3 g=>?_⟩;show B.w (UB (w:=w) n).wd nm.aj AU (a9 Q) [some (a7 sc),some (.int f),some (.ref p),some (.int cO),some (qD q1),some (kD κ),none] X3;have uu:=(u1.tr u2).tr u3;refine fC λN4 LX=>?_;have g4:∀(X:Mp) (qa:Qn),Sx M p X->Ty kS sc qa κ->nq qa<=5->dq qa<=6->N4 [some (a7 sc),some (.int f),some (.ref p),some (.int cO),some (qD qa),some (kD κ),none] X:=by
    intro X qa u ty hn hd;refine LX _ _ ?_;have ud:∀s,(s="same"\/s="under"/\κ=.num)->B.w (UB (w:=w) n).wd nm.aj t9 (a9 Q) [some (a7 sc),some (.int f),some (.ref p),some (.int cO),some (qD qa),some (kD κ),some (.str s)] X:=by
     intro s e9;refine⟨κ,sc,0,p,rfl,k1.1,by unfold Rk;lia,am,u.hs,λqb Y u4 gb=>⟨l3,?_⟩⟩;have Tx:=Up gb;rcases e9 with rfl |⟨rfl,e⟩
     ·refine fin _ (.same qa qb) (u.tr u4) ?_ (by rw[nq];lia) (by rw[dq];lia);rcases hκ with rfl |rfl
      ·exact .g8 ty gb.ty
      ·exact .g9 ty gb.ty
     ·subst e;exact fin _ (.under qa qb) (u.tr u4) (.under ty gb.ty) (by rw[nq];lia) (by rw[dq];lia)
    refine⟨l2,.inl ⟨l1,kg (a:=κ) (b:=.num) (by lia) ?_⟩⟩;refine aX (λe=>?_) λe=>⟨.str "same",rfl,ud _ (.inl rfl)⟩;refine⟨_,KG,?_⟩;show B.w (UB (w:=w) n).wd nm.aj t9 (a9 Q) [some (a7 sc),some (.int f),some (.ref p),some (.int cO),some (qD qa),some (kD κ),some (if decide (3<cO)=true then .str "under" else .str "same")] X
    split
    ·exact ud _ (.inr ⟨rfl,of_decide_eq_true e⟩)
    ·exact ud _ (.inl rfl)
   refine⟨l1,kg (a:=κ) (b:=.num) (by lia) (aX (λe1=>?_) λe1=>ay (by decide) (g4 _ q1 uu g.ty (by have:=Up g;lia) (by have:=Up g;lia)))⟩
   have e1:=of_decide_eq_true e1;subst e1;refine⟨p,8,rfl,u3.hs,by decide,by decide,λr4 X4 u4 _ _=>br (aX (λe2=>?_) λe2=>g4 _ q1 (uu.tr u4) g.ty (by have:=Up g;lia) (by have:=Up g;lia))⟩
   refine⟨l2,l2,l2,l2,l2,l3,l2,l4,l2,.inl ?_⟩;obtain⟨d,Vn,Uq⟩:=ef (xs:=[qD (.at "a" (.row [("a",q1),("b",.tab "t")])),qD (.let "w" (.tab "u") q1)]) (Int.emod_nonneg cO (b:=2) (by decide)) (Int.emod_lt_of_pos cO (b:=2) (by decide));refine⟨(by decide:(0:Int)<2),d,Vn,?_⟩;have Xk:=Up g;rcases List.mem_cons.mp Uq with rfl |Uq
   ·exact g4 _ _ (uu.tr u4) (.at (ks:=[("a",.num),("b",.ah .num)]) (by decide +kernel) (.row (show 2<100 by decide) (by decide +kernel) (.cons g.ty (.cons (.tab (by decide +kernel)) .nil))) (by decide +kernel)) (by rw[nq,nq,bO,bO,bO,nq];lia) (by rw[dq,dq,bZ,bZ,bZ,dq];lia)
   ·cases List.mem_singleton.mp Uq;refine g4 _ _ (uu.tr u4) (.let (l:=.ah i') (by decide +kernel) (.tab (by decide +kernel)) (Ty.mono (λ_ _ z=>z) g.ty λx k hx=>?_)) (by rw[nq,nq];lia) (by rw[dq,dq];lia);rw[lk,if_neg]
    ·exact hx
    ·rintro rfl;exact am.Vl _ (dV hx) rfl
  refine aX (λe1=>br (aX (λe2=>?_) λe2=>g3)) λe1=>ay (by decide) g3;have fp:0<f:=of_decide_eq_true e1;refine⟨sc,f-1,p,rfl,by lia,by lia,by lia,am,u1.hs,λqa Xa ua ta na da=>?_⟩;refine⟨l2,.inl ⟨p,2,rfl,ua.hs,by decide,by decide,λr2 X2 u2 o0 kh=>?_⟩⟩;obtain⟨d,e3,e4⟩:=ef (xs:=[.str "and",.str "or"]) o0 kh;refine⟨d,e3,?_⟩;refine⟨sc,f-1,p,rfl,by lia,by lia,by lia,am,u2.hs,λqb Xb ub tb nb db=>⟨l3,?_⟩⟩;have uu:=((u1.tr ua).tr u2).tr ub;simp only[Yh,XR,or_false]at e4;rcases e4 with rfl |rfl
  ·exact fin _ (.and qa qb) uu (.and ta tb) (by rw[nq];lia) (by rw[dq];lia)
  ·exact fin _ (.or qa qb) uu (.or ta tb) (by rw[nq];lia) (by rw[dq];lia)
 refine aX (λe1=>br (aX (λe2=>?_) λe2=>g2)) λe1=>ay (by decide) g2;have fp:0<f:=of_decide_eq_true e1;exact⟨sc,f-1,p,rfl,by lia,by lia,by lia,am,u1.hs,λq X2 u2 ty hn hd=>⟨l2,fin _ (.not q) (u1.tr u2) (.not ty) (by rw[nq];lia) (by rw[dq];lia)⟩⟩
variable {w:Wo}
noncomputable def kj (f:Str):D:=.tup [.str f,.tup [.str "num",.int 1]]
theorem AW {sc:Sc}:∀fs:List Str,∃ps ks,bG ps=fs.map kj/\dg kS sc ps ks/\bO ps=fs.length/\bZ ps<=1/\ks.map (·.1)=fs/\ps.length=fs.length
 |[]=>⟨[],[],by rw[bG];rfl,.nil,by rw[bO];rfl,by rw[bZ];lia,rfl,rfl⟩
 |f::fs=>by
  obtain⟨ps,ks,h1,h2,h3,h4,h5,h6⟩:=AW (sc:=sc) fs;exact⟨(f,.num 1)::ps,(f,.num)::ks,by rw[bG,h1,qD];rfl,.cons .num h2,by rw[bO,nq,h3,XG];lia,by rw[bZ,dq];lia,by rw[XD,h5],by rw[XG,XG,h6]⟩
theorem tk {sc:Sc}{q:Qn} {κ:Kd} (ty:Ty kS sc q κ):∀ (fs:List Str) (j:Nat) (x:Str),fs[j]?=some x->fs.Nodup ->
  ∃ps ks,bG ps=(fs.map kj).set j (.tup [.str x,qD q])/\dg kS sc ps ks/\lk x ks=some κ/\bO ps<=fs.length+nq q/\bZ ps<=max 1 (dq q)/\ks.map (·.1)=fs/\ps.length=fs.length
 |[],_,_,h,_=>nomatch h
 |f::fs,0,x,h,_=>by
  cases h;obtain⟨ps,ks,h1,h2,h3,h4,h5,h6⟩:=AW (sc:=sc) fs;exact⟨(f,q)::ps,(f,κ)::ks,by rw[bG,h1];rfl,.cons ty h2,by rw[lk,if_pos rfl],by rw[bO,h3,XG];lia,by rw[bZ];lia,by rw[XD,h5],by rw[XG,XG,h6]⟩
 |f::fs,j+1,x,h,nd=>by
  rw[ZF]at nd;have h:fs[j]?=some x:=h;obtain⟨ps,ks,h1,h2,h3,h4,h5,h6,WG⟩:=tk ty fs j x h nd.2;refine⟨(f,.num 1)::ps,(f,.num)::ks,by rw[bG,h1,qD];rfl,.cons .num h2,?_,by rw[bO,nq,XG];lia,by rw[bZ,dq];lia,by rw[XD,h6],by rw[XG,XG,WG]⟩;rw[lk,if_neg,h3];rintro rfl;exact nd.1 (Yn h)
def pD (n:Nat):Sp:=λds M Q _=>∃ κ sc f p,ds=[kD κ,a7 sc,.int f,.ref p]/\κ∈AK/\0<f/\20 * f.toNat+1<=n/\dY sc f.toNat/\Hs M p/\∀q X,Sx M p X->GQ f κ sc q->Q (qD q) X
theorem AX {f:Int} (hf:0<f) {κ:Kd} (h:κ∈AK):nB f κ=5 * zf (f-1).toNat+40/\dB f κ=9 * (f-1).toNat+18:=by
 obtain⟨g,hg⟩:∃g:Nat,f=(g:Int)+1:=⟨(f-1).toNat,by lia⟩;subst hg;rw[show ((g:Int)+1-1).toNat=g by lia];unfold nB dB;rw[if_neg (by lia),if_neg (by lia),show ((g:Int)+1).toNat=g+1 from rfl,zf];exact⟨rfl,by lia⟩
noncomputable def LY:B:=.cons (.ret (.tup (.cons (.c (.str "at")) (.cons (.ix (.v 4) (.v 5)) (.cons (.tup (.cons (.c (.str "row")) (.cons (.bi .tuple (.cons (.v 6) .nil)) .nil))) .nil))))) .nil
noncomputable def LZ:B:=.cons (.put (.v 6) (.v 5) (.tup (.cons (.ix (.v 4) (.v 5)) (.cons (.call 53 (.cons (.v 0) (.cons (.v 1) (.cons (.op .Sub (.v 2) (.c (.int 1))) (.cons (.v 3) .nil))))) .nil)))) LY
noncomputable def L0:B:=.cons (.set (.one 6) (.lc 1 [] (.one 0) (.seq (.v 4)) .au (.tup (.cons (.v 0) (.cons (.tup (.cons (.c (.str "num")) (.cons (.c (.int 1)) .nil))) .nil))))) LZ
noncomputable def AY:B:=.cons (.set (.one 5) (.call 42 (.cons (.v 3) (.cons (.bi .len (.cons (.v 4) .nil)) .nil)))) L0
noncomputable def L3:B:=.cons (.set (.one 4) (.sl (.lst (.cons (.c (.str "a")) (.cons (.c (.str "c")) (.cons (.c (.str "t")) (.cons (.c (.str "u")) (.cons (.c (.str "w")) .nil)))))) .au (.op .Add (.c (.int 1)) (.call 42 (.cons (.v 3) (.cons (.c (.int 5)) .nil)))))) AY
theorem L4:aB ["kind","scope","fuel","seed","fields","place","parts"] ["kind","scope","fuel","seed"] (ag (aa 78)):=⟨rfl,rfl,rfl,by decide +kernel,rfl,by decide +kernel,by decide +kernel⟩
theorem L5:aF nm 40 ["kind","scope","fuel","seed","fields","place","parts"] (ag (aa 78)) (ax (aa 78))=L3:=by kernel_rfl
noncomputable abbrev VH (n:Nat):a0 w:={ cs:=[(42,hE),(53,eY n)] }
theorem L6 (O:Lw w) {n:Nat} (ha:FO w 53 (n+4) (eY n)):FO w 52 (n+5) (pD (n+1)):=by
 refine aI O.ok O.hn _ ⟨"_law_taken",aa 78,["kind","scope","fuel","seed"]⟩ (by rw[O.hd];rfl) (VH n) { cs:=⟨⟨1,by lia,jb O⟩,⟨n+4,Xu _,ha⟩,trivial⟩ } L4 L5 λds M Q _ h=>?_;obtain⟨κ,sc,f,p,rfl,hκ,f0,rk,am,hp,h⟩:=h;refine⟨rfl,l5,.inl ⟨p,5,rfl,hp,by decide,by decide,λr X1 u1 r0 r1=>.inl ?_⟩⟩;obtain⟨fs,e1,nd,nt,c1,c2⟩:∃fs:List Str,cI [.str "a",.str "c",.str "t",.str "u",.str "w"] none (some (1+r))=fs.map D.str/\fs.Nodup/\("table" : Str) ∉ fs/\1<=fs.length/\fs.length<=5:=by
  have:r=0\/r=1\/r=2\/r=3\/r=4:=by have r1:r<5:=r1;lia
  rcases this with rfl |rfl |rfl |rfl |rfl
  ·exact⟨["a"],by rfl,by decide +kernel,by decide +kernel,by decide,by decide⟩
  ·exact⟨["a","c"],by rfl,by decide +kernel,by decide +kernel,by decide,by decide⟩
  ·exact⟨["a","c","t"],by rfl,by decide +kernel,by decide +kernel,by decide,by decide⟩
  ·exact⟨["a","c","t","u"],by rfl,by decide +kernel,by decide +kernel,by decide,by decide⟩
  ·exact⟨["a","c","t","u","w"],by rfl,by decide +kernel,by decide +kernel,by decide,by decide⟩
 have key:∀d,d=fs.map D.str->B.w (VH (w:=w) n).wd nm.aj AY (a9 Q) [some (kD κ),some (a7 sc),some (.int f),some (.ref p),some (.lst d),none,none] X1:=?_
 ·exact key _ e1
 rintro _ rfl;refine⟨p,_,rfl,u1.hs,?_,?_,λj X2 u2 VI j1=>?_⟩
 ·rw[Xr];lia
 ·rw[Xr];exact Int.lt_of_le_of_lt (by lia:_<=(5:Int)) (by decide)
 rw[Xr]at j1;have WH:j.toNat<fs.length:=by lia
 have hx:fs[j.toNat]?=some fs[j.toNat]:=Xx WH;generalize fs[j.toNat]=x at hx;have AZ:cG (fs.map D.str) j=some (.str x):=by
  unfold cG fo;rw[if_pos VI,if_pos (by rw[Xr];exact j1)];show (fs.map D.str)[j.toNat]?=_;rw[XJ,hx];rfl
 refine i7 (M:=X2) D.str kj fs ?_ (XC c2 (by decide)) (λz _ N hN=>?_) ?_
 ·exact trivial
 ·exact⟨l2,l2,hN⟩
 refine .inr λl6 hO=>?_;have q6:up X2 l6 (.lst (fs.map kj)) l6=some (.lst (fs.map kj)):=aw;have hs2:=u2.hs;have Vo:p≠l6:=by obtain⟨o,e,_⟩:=hs2;exact c5 e hO
 refine⟨_,AZ,κ,sc,f-1,p,rfl,hκ,?_,am.di (by lia),?_,λq Y u7 g=>⟨l2,?_⟩⟩
 ·have:=eX hκ;have:=@t7 κ;unfold Rk;lia
 ·obtain⟨o,e,s⟩:=hs2;exact⟨o,by rw[az Vo];exact e,s⟩
 obtain⟨ps,ks,t1,t2,t3,Xl,t5,VJ,Xm⟩:=tk g.ty fs j.toNat x hx nd;have q7:Y l6=some (.lst (fs.map kj)):=by rw[u7.ne (YZ Vo)];exact aw
 refine .inl ⟨_,q7,j.toNat,?_,?_⟩
 ·unfold fo;rw[if_pos VI,if_pos (by rw[Xr];exact j1)]
 rw[<- t1];refine⟨_,AZ,_,aw,l2,l3,?_⟩;obtain⟨b1,b2⟩:=AX f0 hκ;obtain⟨g1,g2,g3,g4⟩:=ek (f:=f-1) hκ;have Xn:=g.n;have gd:=g.d;obtain⟨VL,s7,rfl⟩:=u7;refine mr (M:=up X2 p VL) ?_ (h (.at x (.row ps)) _ ((u1.tr u2).tr ⟨VL,s7,rfl⟩) ⟨.at (by rw[VJ];exact nd) (.row (by lia) (by rw[VJ];exact nt) t2) t3,by rw[nq,nq,b1];lia,by rw[dq,dq,b2];lia⟩);refine⟨λa u e=>?_,λa b e q=>?_⟩
 ·by_cases ha:a=l6
  ·subst ha;rw[az (YZ Vo),hO]at e;cases e
  ·rw[az ha];by_cases hb:a=p
   ·subst hb;rw[aw]at e ⊢;exact e
   ·rw[az hb]at e ⊢;rw[az ha];exact e
 ·by_cases hb:b=l6
  ·subst hb;rw[aw]at q;cases q
  ·rw[az hb]at q;by_cases hc:b=p
   ·subst hc;rw[aw]at q ⊢;exact q
   ·rw[az hc]at q ⊢;rw[az hb]at q;exact q
variable {w:Wo}
noncomputable def iD (v:Qn×Kd):D:=.tup [qD v.1,kD (.ah v.2)]
structure Iv (sc:Sc) (v:Qn×Kd):Prop where
 ty:Ty kS sc v.1 (.ah v.2)
 Ue:.ah v.2∈AK
 n:nq v.1<=2
 d:dq v.1<=2
def pE (n:Nat):Sp:=λds M Q _=>∃sc f p,ds=[a7 sc,.int f,.ref p]/\20 * f.toNat+1<=n/\dY sc f.toNat/\Hs M p/\∀q k X,Sx M p X->.ah k∈AK->Ty kS sc q (.ah k)->nq q<=zf f.toNat->dq q<=9 * f.toNat+9->Q (.tup [qD q,kD (.ah k)]) X
noncomputable def L7:B:=.cons (.ret (.tup (.cons (.tup (.cons (.c (.str "table")) (.cons (.v 4) .nil))) (.cons (.v 5) .nil)))) .nil
noncomputable def L8:B:=.cons (.cond (.and (.cmp .Gt (.v 1) (.c (.int 0))) (.cmp .Eq (.call 42 (.cons (.v 2) (.cons (.c (.int 4)) .nil))) (.c (.int 0)))) (.cons (.ret (.tup (.cons (.call 53 (.cons (.v 5) (.cons (.v 0) (.cons (.op .Sub (.v 1) (.c (.int 1))) (.cons (.v 2) .nil))))) (.cons (.v 5) .nil)))) .nil) .nil) L7
noncomputable def A0:B:=.cons (.cond (.and (.cmp .NotEq (.v 8) (.lst .nil)) (.cmp .Eq (.call 42 (.cons (.v 2) (.cons (.c (.int 3)) .nil))) (.c (.int 0)))) (.cons (.ret (.ix (.v 8) (.call 42 (.cons (.v 2) (.cons (.bi .len (.cons (.v 8) .nil)) .nil))))) .nil) .nil) L8
noncomputable def L9:B:=.cons (.loop (.many [6,7]) (.seq (.call 47 (.cons (.v 0) .nil))) (.cons (.cond (.cmp .Eq (.v 7) (.ix (.v 3) (.c (.str "u")))) (.cons (.ex (.mt .append (.v 8) (.cons (.tup (.cons (.tup (.cons (.c (.str "at")) (.cons (.c (.str "t")) (.cons (.tup (.cons (.c (.str "var")) (.cons (.v 6) .nil))) .nil)))) (.cons (.tup (.cons (.c (.str "bag")) (.cons (.tup (.cons (.c (.str "num")) .nil)) .nil))) .nil))) .nil))) .nil) .nil) .nil)) A0
noncomputable def L':B:=.cons (.set (.one 8) (.lc 2 [] (.many [0,1]) (.seq (.call 47 (.cons (.v 0) .nil))) (.cmp .Eq (.ix (.v 1) (.c (.int 0))) (.c (.str "bag"))) (.tup (.cons (.tup (.cons (.c (.str "var")) (.cons (.v 0) .nil))) (.cons (.v 1) .nil))))) L9
noncomputable def Ma:B:=.cons (.set (.one 5) (.tup (.cons (.c (.str "bag")) (.cons (.ix (.v 3) (.v 4)) .nil)))) L'
noncomputable def Mb:B:=.cons (.set (.one 4) (.ix (.lst (.cons (.c (.str "r")) (.cons (.c (.str "s")) (.cons (.c (.str "t")) (.cons (.c (.str "u")) (.cons (.c (.str "v")) .nil)))))) (.call 42 (.cons (.v 2) (.cons (.c (.int 5)) .nil))))) Ma
noncomputable def Mc:B:=.cons (.set (.one 3) (.call 46 .nil)) Mb
theorem Md:aB ["scope","fuel","seed","kinds","name","kind","spare","other","inner"] ["scope","fuel","seed"] (ag (aa 77)):=⟨rfl,rfl,rfl,by decide +kernel,rfl,by decide +kernel,by decide +kernel⟩
theorem Me:aF nm 40 ["scope","fuel","seed","kinds","name","kind","spare","other","inner"] (ag (aa 77)) (ax (aa 77))=Mc:=by kernel_rfl
noncomputable abbrev VM (n:Nat):a0 w:={ cs:=[(42,hE),(46,ph),(47,tZ),(53,eY n)] }
theorem Mf (O:Lw w) {n:Nat} (ha:FO w 53 (n+4) (eY n)):FO w 51 (n+5) (pE (n+1)):=by
 refine aI O.ok O.hn _ ⟨"_law_over",aa 77,["scope","fuel","seed"]⟩ (by rw[O.hd];rfl) (VM n) { cs:=⟨⟨1,by lia,jb O⟩,⟨1,by lia,tY O⟩,⟨1,by lia,Ax O⟩,⟨n+4,Xu _,ha⟩,trivial⟩ } Md Me λds M Q _ h=>?_;obtain⟨sc,f,p,rfl,rk,am,hp,h⟩:=h;refine⟨rfl,rfl,l5,.inl ⟨p,5,rfl,hp,by decide,by decide,λr X1 u1 r0 r1=>?_⟩⟩;obtain⟨d,e1,e2⟩:=ef (xs:=[.str "r",.str "s",.str "t",.str "u",.str "v"]) r0 r1;obtain⟨x,κ,rfl,hx,hκ⟩:∃x κ,d=.str x/\kS x=some κ/\.ah κ∈AK:=by
  simp only[Yh,XR,or_false]at e2;rcases e2 with z |z |z |z |z
  ·exact⟨"r",i9,z,by decide +kernel,by decide +kernel⟩
  ·exact⟨"s",i9,z,by decide +kernel,by decide +kernel⟩
  ·exact⟨"t",.num,z,by decide +kernel,by decide +kernel⟩
  ·exact⟨"u",i',z,by decide +kernel,by decide +kernel⟩
  ·exact⟨"v",.ah .word,z,by decide +kernel,by decide +kernel⟩
 refine⟨_,e1,?_⟩;have Mg:aJ ((bu.map λm=>(YO m.1:Key)).zip (bu.map λm=>kD m.2)) (.inr x)=some (kD κ):=by
  rw[o8,g'];unfold kS at hx;rw[hx];rfl
 refine⟨_,Mg,l2,?_⟩;refine⟨sc,rfl,by have:=am.len;lia,am.kd,λout ho lo _=>?_⟩
 have ls:=am.len;refine eT (λxs ys M'=>M'=X1/\∃rest vs,xs=eV rest/\ys=vs.map iD/\(∀p∈rest,lk p.1 sc=some p.2)/\(∀v∈vs,Iv sc v)/\vs.length+rest.length<=40) ?_ ?_ _ _ _ ⟨rfl,out,[],rfl,rfl,λp hp=>(ho _ _).mp hp,λv hv=>(nomatch hv),by simp;lia⟩
 ·rintro ys M' ⟨rfl,rest,vs,e1,rfl,hr,hv,hO⟩;refine⟨trivial,XC (by rw[Xr];lia:_<=40) (by decide),.inr λlw ue=>?_⟩;have A2:lw≠p:=by obtain⟨o,e,_⟩:=u1.hs;exact YZ (c5 e ue)
  have Tz:M lw=none:=by rw[<- u1.ne A2];exact ue
  refine⟨sc,rfl,by lia,am.kd,λout ho lo _=>?_⟩;refine dW (λxs τ M2=>∃rest vs u v,xs=eV rest/\(∀p∈rest,lk p.1 sc=some p.2)/\τ=[some (a7 sc),some (.int f),some (.ref p),some (eW bu),some (.str x),some (kD (.ah κ)),u,v,some (.ref lw)]/\M2=up M' lw (.lst (vs.map iD))/\(∀v∈vs,Iv sc v)/\vs.length+rest.length<=80)
   ?_ ?_ _ _ _ ⟨out,vs,none,none,rfl,λp hp=>(ho _ _).mp hp,rfl,rfl,hv,by lia⟩
  ·rintro τ M2 ⟨rest,vs,u,v,e1,hr,rfl,rfl,hv,hO⟩;refine⟨trivial,KJ ue (.rfl ?_)⟩;have key:∀ τ,τ=[some (a7 sc),some (.int f),some (.ref p),some (eW bu),some (.str x),some (kD (.ah κ)),bY lw (.lst (vs.map iD)) u,bY lw (.lst (vs.map iD)) v,some (.lst (vs.map iD))]->B.w (VM (w:=w) n).wd nm.aj A0 (a9 Q) τ M':=?_
   ·refine key _ ?_;show [_,_,bY lw (.lst (vs.map iD)) (some (.ref p)),_,_,_,_,_,bY lw (.lst (vs.map iD)) (some (.ref lw))]=_;rw[Aj (YZ A2),tV];rfl
   generalize bY lw (.lst (vs.map iD)) u=u';generalize bY lw (.lst (vs.map iD)) v=v';rintro _ rfl;refine fC λN5 Mh=>?_;have go:∀X,Sx M p X->N5 [some (a7 sc),some (.int f),some (.ref p),some (eW bu),some (.str x),some (kD (.ah κ)),u',v',some (.lst (vs.map iD))] X:=by
    intro X uX;refine Mh _ _ (fC λN6 Mi=>?_);have tb:∀X,Sx M p X->N6 [some (a7 sc),some (.int f),some (.ref p),some (eW bu),some (.str x),some (kD (.ah κ)),u',v',some (.lst (vs.map iD))] X:=by
     intro X uX;exact Mi _ _ ⟨l2,l2,ar (h (.tab x) κ X uX hκ (.tab hx) (by have:=jc f.toNat;rw[nq];lia) (by rw[dq];lia))⟩
    refine aX (λe1=>⟨p,4,rfl,uX.hs,by decide,by decide,λr4 X4 u4 _ _=>br (aX (λe2=>?_) λe2=>tb _ (uX.tr u4))⟩) λe1=>ay (by decide) (tb X uX);have fp:0<f:=of_decide_eq_true e1;refine⟨.ah κ,sc,f-1,p,rfl,hκ,?_,am.di (by lia),u4.hs,λq X6 u6 g=>⟨l2,ar (h q κ X6 ((uX.tr u4).tr u6) hκ g.ty ?_ ?_)⟩⟩
    ·have:=eX hκ;unfold Rk;rw[T5];lia
    ·have:=(ek (f:=f-1) hκ).2.1;have:=mw (show (f-1).toNat<=f.toNat by lia);exact Xz g.n (by lia)
    ·have:=(ek (f:=f-1) hκ).2.2.2;exact Xz g.d (by lia)
   refine⟨XS _,.inl (o7 (aX (λe1=>?_) λe1=>ay (by decide) (go M' u1)))⟩;have AS:0<vs.length:=by
    cases vs with
    |nil=>simp at e1
    |cons _ _=>simp
   refine⟨p,3,rfl,u1.hs,by decide,by decide,λVA X6 u6 _ _=>br (aX (λe2=>?_) λe2=>go _ (u1.tr u6))⟩;refine⟨p,_,rfl,u6.hs,by rw[Xr];lia,?_,λr7 X7 u7 Mj Ml=>?_⟩
   ·rw[Xr];exact Int.lt_of_le_of_lt (by lia:_<=(80:Int)) (by decide)
   obtain⟨d,e3,e4⟩:=ef Mj Ml;obtain⟨q,hq,rfl⟩:=List.mem_map.mp e4;have hq':=hv q hq;have:=jc f.toNat;exact⟨_,e3,ar (h q.1 q.2 X7 ((u1.tr u6).tr u7) hq'.Ue hq'.ty (by have:=hq'.n;lia) (by have:=hq'.d;lia))⟩
  ·rintro y xs τ M2 ⟨rest,vs,u,v,e1,hr,rfl,rfl,hv,hO⟩;cases rest with
   |nil=>cases e1
   |cons g rest=>
    obtain⟨gf,gk⟩:=g;cases e1;have hg:=hr _ XA;have dh:∀p∈rest,lk p.1 sc=some p.2:=λp hp=>hr p (XB _ hp);rw[XG]at hO;have A3:kd gk<=9:=eX (am.Ue _ (dV hg));have Mm:aJ ((bu.map λm=>(YO m.1:Key)).zip (bu.map λm=>kD m.2)) (.inr "u")=some (kD i'):=by
     rw[o8,g'];rfl
    refine⟨trivial,λN hN=>⟨rfl,_,Mm,kg (by show kd gk<=50;lia) (aX (λe=>?_) λe=>hN _ _ ⟨rest,vs,_,_,rfl,dh,rfl,rfl,hv,by lia⟩)⟩⟩;have e:gk=i':=of_decide_eq_true e;subst e;refine⟨.inl ⟨rfl,_,aw⟩,l2,l3,l1,l2,l2,_,aw,XC (by rw[Xr];lia:_<=80) (by decide),hN _ _ ⟨rest,vs++[(.at "t" (.var gf),.num)],_,_,rfl,dh,rfl,by rw[_root_.N.cj,XU];rfl,λv iH=>?_,by simp;lia⟩⟩;rcases List.mem_append.mp iH with z |z
    ·exact hv v z
    ·rw[List.mem_singleton.mp z];exact⟨.at (by decide +kernel) (.var hg) rfl,(by decide +kernel:Kd.ah .num∈AK),by rw[nq,nq];lia,by rw[dq,dq];lia⟩
 ·rintro y xs ys M' ⟨rfl,rest,vs,e1,rfl,hr,hv,hO⟩;cases rest with
  |nil=>cases e1
  |cons g rest=>
   obtain⟨gf,gk⟩:=g;cases e1;have hg:=hr _ XA;have dh:∀p∈rest,lk p.1 sc=some p.2:=λp hp=>hr p (XB _ hp);rw[XG]at hO;refine⟨trivial,XC (by rw[Xr];lia:_<=40) (by decide),λN hN=>⟨rfl,?_⟩⟩;cases gk with
   |ah k=>
    refine⟨_,rfl,aq (aN (by decide) ⟨l2,l2,?_⟩)⟩;have:=hN (vs.map iD++[iD (.var gf,k)]) _ ⟨rfl,rest,vs++[(.var gf,k)],rfl,by rw[XU];rfl,dh,λv iH=>?_,by simp;lia⟩
    ·exact this
    ·rcases List.mem_append.mp iH with z |z
     ·exact hv v z
     ·rw[List.mem_singleton.mp z];exact⟨.var hg,am.Ue _ (dV hg),by rw[nq];lia,by rw[dq];lia⟩
   |num=>exact⟨_,rfl,aq (ay (by decide) (hN _ _ ⟨rfl,rest,vs,rfl,rfl,dh,hv,by lia⟩))⟩
   |word=>exact⟨_,rfl,aq (ay (by decide) (hN _ _ ⟨rfl,rest,vs,rfl,rfl,dh,hv,by lia⟩))⟩
   |row fs=>exact⟨_,rfl,aq (ay (by decide) (hN _ _ ⟨rfl,rest,vs,rfl,rfl,dh,hv,by lia⟩))⟩
variable {w:Wo}
structure Wy (κ:Kd) (sc:Sc) (q:Qn):Prop where
 ty:Ty kS sc q κ
 n:nq q<=2
 d:dq q<=2
theorem Hq.WI {κ:Kd} {sc:Sc}{q:Qn} (h:Hq κ sc q):Wy κ sc q:=by
 refine⟨h.ty,?_,?_⟩
 ·rcases h.is with ⟨x,rfl⟩ |⟨f,x,rfl⟩
  ·rw[nq];lia
  ·rw[nq,nq];lia
 ·rcases h.is with ⟨x,rfl⟩ |⟨f,x,rfl⟩
  ·rw[dq];lia
  ·rw[dq,dq];lia
theorem Mn {k:Kd}{f:Int}{sc:Sc}{q:Qn} (h:.ah k∈AK) (g:GQ 0 k sc q):GQ f (.ah k) sc (.one q):=by
 have h1:=g.n;have h2:=g.d
 unfold nB at h1;unfold dB at h2;rw[if_pos (by lia)]at h1 h2;obtain⟨TY,TV,TZ,T1,_⟩:=pv (gq h);refine⟨.one g.ty,?_,?_⟩
 ·rw[nq];unfold nB;split
  ·rw[zk];lia
  ·obtain⟨g,hg⟩:∃g:Nat,f=(g:Int)+1:=⟨(f-1).toNat,by lia⟩;subst hg;have:=jc g;rw[show ((g:Int)+1).toNat=g+1 from rfl,zf];lia
 ·rw[dq];unfold dB;split
  ·rw[T4];lia
  ·lia
theorem A4 {k:Kd}{f:Int}{sc:Sc} (h:.ah k∈AK):GQ f (.ah k) sc (.none k):=by
 have:=ek (f:=f) h;have hk:=eX (gq h);refine⟨.none (by have:=Ay h;rw[g7]at this;exact this) (pj (gq h)),by rw[nq];lia,?_⟩
 rw[dq];unfold dB;split
 ·rw[T4];lia
 ·lia
noncomputable def Mo:B:=.cons (.ret (.tup (.cons (.c (.str "for")) (.cons (.v 4) (.cons (.v 10) (.cons (.call 53 (.cons (.v 0) (.cons (.op .Add (.lst (.cons (.tup (.cons (.v 4) (.cons (.ix (.v 5) (.c (.int 1))) .nil))) .nil)) (.v 1)) (.cons (.op .Sub (.v 2) (.c (.int 1))) (.cons (.v 3) .nil))))) .nil)))))) .nil
noncomputable def Mq:B:=.cons (.set (.many [10,5]) (.call 51 (.cons (.v 1) (.cons (.op .Sub (.v 2) (.c (.int 1))) (.cons (.v 3) .nil))))) Mo
noncomputable def Mr:B:=.cons (.cond (.cmp .Eq (.v 8) (.c (.int 6))) (.cons (.set (.one 5) (.ix (.lst (.cons (.tup (.cons (.c (.str "num")) .nil)) (.cons (.tup (.cons (.c (.str "bag")) (.cons (.tup (.cons (.c (.str "num")) .nil)) .nil))) .nil))) (.call 42 (.cons (.v 3) (.cons (.c (.int 2)) .nil))))) (.cons (.set (.one 9) (.call 53 (.cons (.v 5) (.cons (.v 1) (.cons (.op .Sub (.v 2) (.c (.int 2))) (.cons (.v 3) .nil)))))) (.cons (.ret (.tup (.cons (.c (.str "let")) (.cons (.v 4) (.cons (.v 9) (.cons (.call 53 (.cons (.v 0) (.cons (.op .Add (.lst (.cons (.tup (.cons (.v 4) (.cons (.v 5) .nil))) .nil)) (.v 1)) (.cons (.op .Sub (.v 2) (.c (.int 1))) (.cons (.v 3) .nil))))) .nil)))))) .nil))) .nil) Mq
noncomputable def Ms:B:=.cons (.set (.one 4) (.ix (.lst (.cons (.c (.str "t")) (.cons (.c (.str "s")) (.cons (.c (.str "z")) .nil)))) (.call 42 (.cons (.v 3) (.cons (.c (.int 3)) .nil))))) Mr
noncomputable def A5:B:=.cons (.cond (.and (.cmp .Eq (.v 8) (.c (.int 8))) (.cmp .Eq (.call 42 (.cons (.v 3) (.cons (.c (.int 2)) .nil))) (.c (.int 0)))) (.cons (.ret (.tup (.cons (.c (.str "none")) (.cons (.ix (.v 0) (.c (.int 1))) .nil)))) .nil) .nil) Ms
noncomputable def Mu:B:=.cons (.cond (.cmp .Eq (.v 8) (.c (.int 7))) (.cons (.ret (.call 52 (.cons (.v 0) (.cons (.v 1) (.cons (.v 2) (.cons (.v 3) .nil)))))) .nil) .nil) A5
noncomputable def Mv:B:=.cons (.cond (.cmp .Eq (.v 8) (.c (.int 5))) (.cons (.ret (.tup (.cons (.c (.str "one")) (.cons (.call 49 (.cons (.ix (.v 0) (.c (.int 1))) (.cons (.v 1) (.cons (.op .Sub (.v 2) (.c (.int 1))) (.cons (.v 3) .nil))))) .nil)))) .nil) .nil) Mu
noncomputable def Mw:B:=.cons (.cond (.cmp .Eq (.v 8) (.c (.int 4))) (.cons (.ret (.tup (.cons (.c (.str "when")) (.cons (.call 50 (.cons (.v 1) (.cons (.c (.int 1)) (.cons (.v 3) .nil)))) (.cons (.call 53 (.cons (.v 0) (.cons (.v 1) (.cons (.op .Sub (.v 2) (.c (.int 1))) (.cons (.v 3) .nil))))) .nil))))) .nil) .nil) Mv
noncomputable def My:B:=.cons (.cond (.cmp .Eq (.v 8) (.c (.int 3))) (.cons (.ret (.tup (.cons (.c (.str "times")) (.cons (.op .Sub (.call 42 (.cons (.v 3) (.cons (.c (.int 7)) .nil))) (.c (.int 3))) (.cons (.call 53 (.cons (.v 0) (.cons (.v 1) (.cons (.op .Sub (.v 2) (.c (.int 1))) (.cons (.v 3) .nil))))) .nil))))) .nil) .nil) Mw
noncomputable def Mz:B:=.cons (.cond (.cmp .Eq (.v 8) (.c (.int 2))) (.cons (.ret (.tup (.cons (.c (.str "both")) (.cons (.call 53 (.cons (.v 0) (.cons (.v 1) (.cons (.op .Sub (.v 2) (.c (.int 1))) (.cons (.v 3) .nil))))) (.cons (.call 53 (.cons (.v 0) (.cons (.v 1) (.cons (.op .Sub (.v 2) (.c (.int 1))) (.cons (.v 3) .nil))))) .nil))))) .nil) .nil) My
noncomputable def uf:B:=.cons (.cond (.or (.cmp .LtE (.v 2) (.c (.int 0))) (.cmp .Lt (.v 8) (.c (.int 2)))) (.cons (.cond (.and (.cmp .Eq (.v 7) (.lst .nil)) (.cmp .Eq (.call 42 (.cons (.v 3) (.cons (.c (.int 2)) .nil))) (.c (.int 0)))) (.cons (.ret (.tup (.cons (.c (.str "one")) (.cons (.call 49 (.cons (.ix (.v 0) (.c (.int 1))) (.cons (.v 1) (.cons (.c (.int 0)) (.cons (.v 3) .nil))))) .nil)))) .nil) .nil) (.cons (.cond (.cmp .Eq (.v 7) (.lst .nil)) (.cons (.ret (.tup (.cons (.c (.str "none")) (.cons (.ix (.v 0) (.c (.int 1))) .nil)))) .nil) .nil) (.cons (.ret (.ix (.v 7) (.call 42 (.cons (.v 3) (.cons (.bi .len (.cons (.v 7) .nil)) .nil))))) .nil))) .nil) Mz
noncomputable def A6:B:=.cons (.set (.one 8) (.call 42 (.cons (.v 3) (.cons (.c (.int 12)) .nil)))) uf
noncomputable def MA:B:=.cons (.set (.one 7) (.op .Add (.op .Add (.call 48 (.cons (.v 0) (.cons (.v 1) .nil))) (.v 6)) (.v 6))) A6
noncomputable def MB:B:=.cons (.set (.one 6) (.lc 2 [0] (.many [0,1]) (.seq (.oE (.call 46 .nil))) (.cmp .Eq (.tup (.cons (.c (.str "bag")) (.cons (.v 1) .nil))) (.v 2)) (.tup (.cons (.c (.str "table")) (.cons (.v 0) .nil))))) MA
noncomputable def MC:B:=.cons (.cond (.cmp .NotEq (.ix (.v 0) (.c (.int 0))) (.c (.str "bag"))) (.cons (.ret (.call 49 (.cons (.v 0) (.cons (.v 1) (.cons (.v 2) (.cons (.v 3) .nil)))))) .nil) .nil) MB
theorem MD:aB ["kind","scope","fuel","seed","name","other","named","ways","way","bound_v","over"] ["kind","scope","fuel","seed"] (ag (aa 79)):=⟨rfl,rfl,rfl,by decide +kernel,rfl,by decide +kernel,by decide +kernel⟩
theorem ME:aF nm 40 ["kind","scope","fuel","seed","name","other","named","ways","way","bound_v","over"] (ag (aa 79)) (ax (aa 79))=MC:=by kernel_rfl
noncomputable abbrev Ur (n:Nat):a0 w:={ cs:=[(42,hE),(46,ph),(48,t6),(49,hH n),(50,ki n),(51,pE n),(52,pD n),(53,eY n)] }
theorem MF (O:Lw w) {n:Nat} (hs:FO w 49 (n+4) (hH n)) (hc:FO w 50 (n+4) (ki n)) (ho:FO w 51 (n+4) (pE n)) (ht:FO w 52 (n+4) (pD n)) (ha:FO w 53 (n+4) (eY n)):FO w 53 (n+5) (eY (n+1)):=by
 refine aI O.ok O.hn _ ⟨"_law_asked",aa 79,["kind","scope","fuel","seed"]⟩ (by rw[O.hd];rfl) (Ur n) { cs:=⟨⟨1,by lia,jb O⟩,⟨1,by lia,tY O⟩,⟨2,by lia,AD O⟩,⟨n+4,Xu _,hs⟩,⟨n+4,Xu _,hc⟩,⟨n+4,Xu _,ho⟩,⟨n+4,Xu _,ht⟩,⟨n+4,Xu _,ha⟩,trivial⟩ } MD ME λds M Q _ h=>?_;obtain⟨κ,sc,f,p,rfl,hκ,rk,am,hp,h⟩:=h;have fin:∀(X:Mp) (q:Qn),Sx M p X->GQ f κ sc q->aZ Q (qD q) X:=λX q u g=>ar (h q X u g);cases κ with
 |num=>exact⟨rfl,_,rfl,aq (aN (by decide) ⟨_,sc,f,p,rfl,hκ,by unfold Rk at rk ⊢;rw[T5]at rk <;> first |lia |(intro k;exact nofun),am,hp,λq X u g=>fin X q u g⟩)⟩
 |word=>exact⟨rfl,_,rfl,aq (aN (by decide) ⟨_,sc,f,p,rfl,hκ,by unfold Rk at rk ⊢;rw[T5]at rk <;> first |lia |(intro k;exact nofun),am,hp,λq X u g=>fin X q u g⟩)⟩
 |row fs=>exact⟨rfl,_,rfl,aq (aN (by decide) ⟨_,sc,f,p,rfl,hκ,by unfold Rk at rk ⊢;rw[T5]at rk <;> first |lia |(intro k;exact nofun),am,hp,λq X u g=>fin X q u g⟩)⟩
 |ah k=>
 have hk:=gq hκ;have UY:kd (.ah k)=kd k+1:=by rw[kd]
 unfold Rk at rk;rw[T5]at rk;refine⟨rfl,_,rfl,aq (ay (by decide) ?_)⟩;show lQ (E.w (Ur (w:=w) n).wd nm.aj (.call 46 .nil)).1 [some (kD (.ah k)),some (a7 sc),some (.int f),some (.ref p),none,none,none,none,none,none,none] M _;refine Ah (ms:=bu) (M:=M) (λk z=>⟨rfl,z⟩) (by decide) (by decide +kernel) λout pm=>.inl ?_;refine eT (λxs ys M'=>M'=M/\∃rest vs,xs=eV rest/\ys=vs.map qD/\(∀p∈rest,p∈bu)/\(∀v∈vs,Wy (.ah k) sc v)/\vs.length+rest.length<=5) ?_ ?_ _ _ _ ⟨rfl,out,[],rfl,rfl,λp hp=>pm.mem_iff.mp hp,λv hv=>(nomatch hv),by have:bu.length=5:=rfl;have:=pm.length_eq;simp;lia⟩
 ·rintro ys M' ⟨rfl,rest,vs,e1,rfl,_,hv,lv⟩;refine⟨trivial,XC (by rw[Xr];lia:_<=5) (by decide),.inl ?_⟩;have TB:vs.length<=5:=by lia
  refine⟨.ah k,sc,_,rfl,hκ,am,λws hw lw=>⟨Xz (by simp;lia:_<=300) (by decide),.inl ⟨Xz (by simp;lia:_<=300) (by decide),.inl ?_⟩⟩⟩;have key:∀(d:List D) (ws:List Qn),d=ws.map qD->(∀q∈ws,Wy (.ah k) sc q)->ws.length<=300->B.w (Ur (w:=w) n).wd nm.aj A6 (a9 Q) [some (kD (.ah k)),some (a7 sc),some (.int f),some (.ref p),none,none,some (.lst (vs.map qD)),some (.lst d),none,none,none] M':=?_
  ·refine key _ (ws++vs++vs) (by rw[XU,XU]) ?_ ?_
   ·intro q hq;rcases List.mem_append.mp hq with z |z
    ·rcases List.mem_append.mp z with z |z
     ·exact (hw q z).WI
     ·exact hv q z
    ·exact hv q z
   ·simp;lia
  clear lw hw ws;rintro _ ws rfl hw lw;refine⟨p,12,rfl,hp,by decide,by decide,λcO Y u2 _ _=>?_⟩;show B.w (Ur (w:=w) n).wd nm.aj uf (a9 Q) [some (kD (.ah k)),some (a7 sc),some (.int f),some (.ref p),none,none,some (.lst (vs.map qD)),some (.lst (ws.map qD)),some (.int cO),none,none] Y;refine fC λN to=>?_;have iB:B.w (Ur (w:=w) n).wd nm.aj (KN (i8 uf)) { a9 Q with nx:=N } [some (kD (.ah k)),some (a7 sc),some (.int f),some (.ref p),none,none,some (.lst (vs.map qD)),some (.lst (ws.map qD)),some (.int cO),none,none] Y:=by
   refine fC λN3 uc=>?_;have go:∀X,Sx M' p X->N3 [some (kD (.ah k)),some (a7 sc),some (.int f),some (.ref p),none,none,some (.lst (vs.map qD)),some (.lst (ws.map qD)),some (.int cO),none,none] X:=by
    intro X uX;refine uc _ _ ⟨XS _,.inl (o7 (aX (λe=>⟨_,rfl,l2,fin _ (.none k) uX (A4 hκ)⟩) λe=>?_))⟩;have AS:0<ws.length:=by
     cases ws with
     |nil=>simp at e
     |cons _ _=>simp
    refine⟨p,_,rfl,uX.hs,by rw[Xr];lia,?_,λr X2 u3 r0 r1=>?_⟩
    ·rw[Xr];exact Int.lt_of_le_of_lt (by lia:_<=(300:Int)) (by decide)
    obtain⟨d,e3,e4⟩:=ef r0 r1;obtain⟨q,hq,rfl⟩:=List.mem_map.mp e4;have hq':=hw q hq;have nb:=ek (f:=f) hκ;exact⟨_,e3,fin _ q (uX.tr u3) ⟨hq'.ty,by have:=hq'.n;lia,by have:=hq'.d;lia⟩⟩
   refine⟨XS _,.inl (o7 (aX (λe=>⟨p,2,rfl,u2.hs,by decide,by decide,λr X3 u3 _ _=>br (aX (λe2=>?_) λe2=>go _ (u2.tr u3))⟩) λe=>ay (by decide) (go Y u2)))⟩;exact⟨_,rfl,k,sc,0,p,rfl,hk,by unfold Rk;lia,am.di (XS _),u3.hs,λq X4 u4 g=>⟨l2,fin _ (.one q) ((u2.tr u3).tr u4) (Mn hκ g)⟩⟩
  have MG:0<f->N [some (kD (.ah k)),some (a7 sc),some (.int f),some (.ref p),none,none,some (.lst (vs.map qD)),some (.lst (ws.map qD)),some (.int cO),none,none] Y:=by
   intro fp;refine to _ _ ?_;obtain⟨b1,b2⟩:=AX fp hκ;have jd:∀{κ'} {g:Int},κ'∈AK->g<=f-1->Rk n g κ' (T5 κ'):=λ{κ' g} h1 h2=>by have:=eX h1;have:=@t7 κ';unfold Rk;lia
   have ce:∀{κ' A7 q} {g:Int},κ'∈AK->g<=f-1->GQ g κ' A7 q->nq q<=zf (f-1).toNat/\dq q<=9 * (f-1).toNat+9:=λ{κ' A7 q g} h1 h2 h3=>by
    have:=ek (f:=g) h1;have:=mw (show g.toNat<=(f-1).toNat by lia);have:=h3.n;have:=h3.d
    lia
   have LA:=jc (f-1).toNat;refine br (aX (λ_=>?w2) λ_=>br (aX (λ_=>?w3) λ_=>br (aX (λ_=>?WJ) λ_=>br (aX (λ_=>?WK) λ_=>br (aX (λ_=>?w7) λ_=>?_)))))
   case w2=>
    refine⟨.ah k,sc,f-1,p,rfl,hκ,jd hκ (YG _),am.di (by lia),u2.hs,λqa Xa ua ga=>⟨.ah k,sc,f-1,p,rfl,hκ,jd hκ (YG _),am.di (by lia),ua.hs,λqb Xb ub gb=>⟨l3,fin _ (.both qa qb) ((u2.tr ua).tr ub) ⟨.both (pj (gq hκ)) ga.ty gb.ty,?_,?_⟩⟩⟩⟩
    ·have:=ce hκ (YG _) ga;have:=ce hκ (YG _) gb;rw[nq,b1];lia
    ·have:=ce hκ (YG _) ga;have:=ce hκ (YG _) gb;rw[dq,b2];lia
   case w3=>
    refine⟨p,7,rfl,u2.hs,by decide,by decide,λr X3 u3 _ _=>⟨.ah k,sc,f-1,p,rfl,hκ,jd hκ (YG _),am.di (by lia),u3.hs,λqa Xa ua ga=>⟨l3,fin _ (.times (r-3) qa) ((u2.tr u3).tr ua) ⟨.times ga.ty,?_,?_⟩⟩⟩⟩
    ·have:=ce hκ (YG _) ga;rw[nq,b1];lia
    ·have:=ce hκ (YG _) ga;rw[dq,b2];lia
   case WJ=>
    refine⟨sc,1,p,rfl,by decide,by decide,by lia,am.di (XS _),u2.hs,λc Xc VN tc VO VP=>⟨.ah k,sc,f-1,p,rfl,hκ,jd hκ (YG _),am.di (by lia),VN.hs,λqa Xa ua ga=>⟨l3,fin _ (.aL c qa) ((u2.tr VN).tr ua) ⟨.aL tc ga.ty,?_,?_⟩⟩⟩⟩
    ·have VO:nq c<=17:=VO;have:=ce hκ (YG _) ga;rw[nq,b1];lia
    ·have VP:dq c<=8:=VP;have:=ce hκ (YG _) ga;rw[dq,b2];lia
   case WK=>
    refine⟨_,rfl,k,sc,f-1,p,rfl,hk,by unfold Rk;lia,am.di (by lia),u2.hs,λqa Xa ua ga=>⟨l2,fin _ (.one qa) (u2.tr ua) ⟨.one ga.ty,?_,?_⟩⟩⟩
    ·have:=ce hk (YG _) ga;rw[nq,b1];lia
    ·have:=ce hk (YG _) ga;rw[dq,b2];lia
   case w7=>
    exact⟨.ah k,sc,f,p,rfl,hκ,fp,by lia,am,u2.hs,λqa Xa ua ga=>fin _ qa (u2.tr ua) ga⟩
   show B.w (Ur (w:=w) n).wd nm.aj A5 (a9 Q) [some (kD (.ah k)),some (a7 sc),some (.int f),some (.ref p),none,none,some (.lst (vs.map qD)),some (.lst (ws.map qD)),some (.int cO),none,none] Y;refine fC λN8 MH=>?_;have go:∀X,Sx M' p X->N8 [some (kD (.ah k)),some (a7 sc),some (.int f),some (.ref p),none,none,some (.lst (vs.map qD)),some (.lst (ws.map qD)),some (.int cO),none,none] X:=by
    intro X uX;refine MH _ _ ?_;refine⟨l3,.inl ⟨p,3,rfl,uX.hs,by decide,by decide,λr Z uZ r0 r1=>?_⟩⟩;obtain⟨d,e3,e4⟩:=ef (xs:=[.str "t",.str "s",.str "z"]) r0 r1;obtain⟨x,rfl,hx⟩:∃x:Str,d=.str x/\x≠"w":=by
     simp only[Yh,XR,or_false]at e4;rcases e4 with z |z |z
     ·exact⟨_,z,by decide +kernel⟩
     ·exact⟨_,z,by decide +kernel⟩
     ·exact⟨_,z,by decide +kernel⟩
    refine⟨_,e3,?_⟩;have A8:=uX.tr uZ;have ext:∀{κ':Kd},κ'∈AK->dY ((x,κ')::sc) (f-1).toNat:=λ{κ'} h4=>by
     refine⟨λq hq=>?_,?_,λq hq=>?_⟩
     ·rcases List.mem_cons.mp hq with rfl |hq
      ·exact h4
      ·exact am.Ue q hq
     ·have:=am.len;rw[XG];lia
     ·rcases List.mem_cons.mp hq with rfl |hq
      ·exact hx
      ·exact am.Vl q hq
    have sl:([D.tup [.str x,kD .num]].length+(eV sc).length)<=sizeLine:=Xz (by have:=am.len;unfold eV;simp;lia:_<=300) (by decide)
    refine br (aX (λ_=>?_) λ_=>?_)
    ·refine⟨l1,l1,l2,l2,.inl ⟨p,2,rfl,uZ.hs,by decide,by decide,λr X3 u3 r0 r1=>?_⟩⟩;obtain⟨d,Vn,Uq⟩:=ef (xs:=[kD .num,kD (.ah .num)]) r0 r1;obtain⟨κ',rfl,hκ'⟩:∃ κ',d=kD κ'/\κ'∈AK:=by
      simp only[Yh,XR,or_false]at Uq;rcases Uq with z |z
      ·exact⟨_,z,by decide +kernel⟩
      ·exact⟨_,z,by decide +kernel⟩
     refine⟨_,Vn,?_⟩;refine⟨κ',sc,f-2,p,rfl,hκ',jd hκ' (by lia),am.di (by lia),u3.hs,λqa Xa ua ga=>⟨l2,l1,.inl ⟨sl,.inl ⟨.ah k,(x,κ')::sc,f-1,p,rfl,hκ,jd hκ (YG _),ext hκ',ua.hs,λqb Xb ub gb=>⟨l4,fin _ (.let x qa qb) (((A8.tr u3).tr ua).tr ub) ⟨.let (Xz (eX hκ') (by decide)) ga.ty gb.ty,?_,?_⟩⟩⟩⟩⟩⟩
     ·have:=ce hκ' (by lia) ga;have:=ce hκ (YG _) gb;rw[nq,b1];lia
     ·have:=ce hκ' (by lia) ga;have:=ce hκ (YG _) gb;rw[dq,b2];lia
    ·refine⟨sc,f-1,p,rfl,by lia,am.di (by lia),uZ.hs,λqa κ' Xa ua hκ' ty TC TD=>⟨rfl,_,rfl,l2,l1,.inl ⟨sl,.inl ⟨.ah k,(x,κ')::sc,f-1,p,rfl,hκ,jd hκ (YG _),ext (gq hκ'),ua.hs,λqb Xb ub gb=>⟨l4,fin _ (.for x qa qb) ((A8.tr ua).tr ub) ⟨.for ⟨Xz (eX (gq hκ')) (by decide),pj (gq hκ')⟩ ty gb.ty,?_,?_⟩⟩⟩⟩⟩⟩
     ·have:=ce hκ (YG _) gb;rw[nq,b1];lia
     ·have:=ce hκ (YG _) gb;rw[dq,b2];lia
   refine br (aX (λ_=>⟨p,2,rfl,u2.hs,by decide,by decide,λr X3 u3 _ _=>br (aX (λ_=>⟨_,rfl,l2,fin _ (.none k) (u2.tr u3) (A4 hκ)⟩) λ_=>go _ (u2.tr u3))⟩) λ_=>ay (by decide) (go Y u2))
  exact aX (λe1=>aN rfl iB) λe1=>aX (λe2=>iB) λe2=>MG (by have:=of_decide_eq_false (Bool.eq_false_iff.mpr e1);lia)
 ·rintro y xs ys M' ⟨rfl,rest,vs,e1,rfl,hr,hv,lv⟩;cases rest with
  |nil=>cases e1
  |cons g rest=>
   obtain⟨gf,gk⟩:=g;cases e1;have hg:=hr _ XA;have dh:∀p∈rest,p∈bu:=λp hp=>hr p (XB _ hp);rw[XG]at lv;have A3:kd (.ah gk)<=50:=(by decide +kernel:∀p∈bu,kd (.ah p.2)<=50) _ hg;refine⟨trivial,XC (by rw[Xr];lia:_<=5) (by decide),λN hN=>⟨rfl,l2,kg (a:=.ah gk) (b:=.ah k) A3 (aX (λe=>⟨l2,?_⟩) λe=>hN _ _ ⟨rfl,rest,vs,rfl,rfl,dh,hv,by lia⟩)⟩⟩;have e:Kd.ah gk=.ah k:=of_decide_eq_true e;cases e;have:=hN (vs.map qD++[qD (.tab gf)]) _ ⟨rfl,rest,vs++[.tab gf],rfl,by rw[XU];rfl,dh,λv iH=>?_,by simp;lia⟩
   ·exact this
   ·rcases List.mem_append.mp iH with z |z
    ·exact hv v z
    ·rw[List.mem_singleton.mp z];exact⟨.tab (tR (by decide +kernel) hg),by rw[nq];lia,by rw[dq];lia⟩
structure MI (w:Wo) (n:Nat):Prop where
 s:FO w 49 (n+4) (hH n)
 c:FO w 50 (n+4) (ki n)
 o:FO w 51 (n+4) (pE n)
 t:FO w 52 (n+4) (pD n)
 a:FO w 53 (n+4) (eY n)
theorem A9 (O:Lw w):∀n,MI w n
 | 0=>by
  have no:∀i d sp,ei[i]?=some d->(∀ds M Q E,¬sp ds M Q E)->FO w i 4 sp:=λi d sp h g=>FO.imp (tj O.ok (by rw[O.hd];exact h) (cs:=[]) trivial) λds M Q E z=>(g ds M Q E z).elim;refine⟨no _ _ _ rfl ?_,no _ _ _ rfl ?_,no _ _ _ rfl ?_,no _ _ _ rfl ?_,no _ _ _ rfl ?_⟩
  ·rintro ds M Q E ⟨κ,sc,f,p,_,_,rk,_⟩;unfold Rk at rk;lia
  ·rintro ds M Q E ⟨sc,f,p,_,_,_,rk,_⟩;lia
  ·rintro ds M Q E ⟨sc,f,p,_,rk,_⟩;lia
  ·rintro ds M Q E ⟨κ,sc,f,p,_,_,_,rk,_⟩;lia
  ·rintro ds M Q E ⟨κ,sc,f,p,_,hκ,rk,_⟩;have:=(pv hκ).2.2.2.2;unfold Rk at rk;lia
 |n+1=>let g:=A9 O n;⟨LL O g.s g.a,LW O g.s g.c,Mf O g.a,L6 O g.a,MF O g.s g.c g.o g.t g.a⟩
variable {w:Wo}
noncomputable def us:Qn->List Qn
 |.row fs=>fs.map (·.2)
 |.at _ q=>[q]
 |.add a b=>[a,b] |.mul a b=>[a,b]
 |.one q=>[q]
 |.both a b=>[a,b]
 |.times _ q=>[q]
 |.for _ a b=>[a,b] |.aL a b=>[a,b] |.let _ a b=>[a,b]
 |.same a b=>[a,b] |.under a b=>[a,b] |.and a b=>[a,b] |.or a b=>[a,b]
 |.not q=>[q]
 |_=>[]
theorem Ba (O:Lw w) {s:Str}{b:Bool}{M:Mp}{k:Bool->Prop} (hb:cB (.str s) (pg.map D.str)=b) (h:k b):d9 (.str s) (w.gv.getD 0 .ai) M k:=by
 rw[O.g0];refine⟨⟨rfl,by decide +kernel,by decide +kernel,?_⟩⟩;rw[hb];exact h
noncomputable def MJ:B:=(.cons (.cond (.cmp .Eq (.ix (.v 0) (.c (.int 0))) (.c (.str "row"))) (.cons (.ret (.bi .tuple (.cons (.lc 2 [] (.many [0,1]) (.seq (.ix (.v 0) (.c (.int 1)))) .au (.v 1)) .nil))) .nil) .nil) (.cons (.ret (.ite (.cmp .In (.ix (.v 0) (.c (.int 0))) (.g 0)) (.sl (.v 0) (.c (.int 2)) .au) (.sl (.v 0) (.c (.int 1)) .au))) .nil))
theorem MK:aB ["question"] ["question"] (ag (aa 6)):=⟨rfl,rfl,rfl,by decide +kernel,rfl,by decide +kernel,by decide +kernel⟩
theorem ML:aF nm 40 ["question"] (ag (aa 6)) (ax (aa 6))=MJ:=by kernel_rfl
def je:Sp:=λds M Q _=>∃q,ds=[qD q]/\(us q).length<100/\Q (.tup ((us q).map qD)) M
theorem mx:∀fs:List (Str×Qn),bG fs=fs.map λp=>.tup [.str p.1,qD p.2]
 |[]=>by rw[bG];rfl
 |(f,q)::r=>by rw[bG,mx r];rfl
theorem my:∀fs:List (Str×Kd),bM fs=fs.map λp=>.tup [.str p.1,kD p.2]
 |[]=>by rw[bM];rfl
 |(f,q)::r=>by rw[bM,my r];rfl
theorem km (O:Lw w):FO w 0 1 je:=by
 refine aI O.ok O.hn _ ⟨"under",aa 6,["question"]⟩ (by rw[O.hd];rfl) {} { cs:=trivial } MK ML λds M Q _ h=>?_;obtain⟨q,rfl,hl,h⟩:=h;cases q with
 |row fs=>
  refine⟨rfl,_,rfl,aq (aN (by decide) ⟨_,rfl,?_⟩)⟩;show cX (λ_=>True) (.many [0,1]) gM _ _ _ (bG fs) [] M;rw[mx];have hl:fs.length<100:=by simpa [us] using hl
  refine i7 (λp:Str×Qn=>.tup [.str p.1,qD p.2]) (λp=>qD p.2) fs ?_ (Yp hl (by decide)) (λp _ N hN=>?_) ?_
  ·exact trivial
  ·exact⟨rfl,hN⟩
  ·refine .inl (ar ?_);rw[us,Yv]at h;exact h
 |_=>
  refine⟨rfl,_,rfl,aq (ay (by decide) ⟨_,rfl,?_⟩)⟩;dsimp only[E.w,jJ]
  first
  |exact Ba O (b:=true) (by decide +kernel) (aN rfl (ar h))
  |exact Ba O (b:=false) (by decide +kernel) (ay (by decide) (ar h))
noncomputable def MM:B:=(.cons (.ex (.mt .append (.fld (.v 0) "waiting") (.cons (.tup (.cons (.v 1) (.cons (.v 2) (.cons (.v 3) .nil)))) .nil))) .nil)
theorem MN:aB ["self","step","question","around"] ["self","step","question","around"] (ag (bh (aa 11) 1)):=⟨rfl,rfl,rfl,by decide +kernel,rfl,by decide +kernel,by decide +kernel⟩
theorem MP:aF nm 40 ["self","step","question","around"] (ag (bh (aa 11) 1)) (ax (bh (aa 11) 1))=MM:=by kernel_rfl
noncomputable def MQ:B:=(.cons (.ex (.mt .append (.fld (.v 0) "found") (.cons (.v 1) .nil))) .nil)
theorem MR:aB ["self","result"] ["self","result"] (ag (bh (aa 11) 2)):=⟨rfl,rfl,rfl,by decide +kernel,rfl,by decide +kernel,by decide +kernel⟩
theorem MS:aF nm 40 ["self","result"] (ag (bh (aa 11) 2)) (ax (bh (aa 11) 2))=MQ:=by kernel_rfl
noncomputable def MT:B:=(.cons (.set (.one 2) (.lc 1 [0] (.one 0) (.oF (.v 1)) .au (.mt .pop (.fld (.v 1) "found") .nil))) (.cons (.ret (.rev (.v 2))) .nil))
theorem MU:aB ["self","many","taken"] ["self","many"] (ag (bh (aa 11) 3)):=⟨rfl,rfl,rfl,by decide +kernel,rfl,by decide +kernel,by decide +kernel⟩
theorem MV:aF nm 40 ["self","many","taken"] (ag (bh (aa 11) 3)) (ax (bh (aa 11) 3))=MT:=by kernel_rfl
noncomputable def MW:B:=(.cons (.oH (.v 0) "waiting" (.lst .nil)) (.cons (.oH (.v 0) "found" (.lst .nil)) .nil))
theorem MX:aB ["self"] ["self"] (ag (bh (aa 11) 0)):=⟨rfl,rfl,rfl,by decide +kernel,rfl,by decide +kernel,by decide +kernel⟩
theorem MY:aF nm 40 ["self"] (ag (bh (aa 11) 0)) (ax (bh (aa 11) 0))=MW:=by kernel_rfl
def fD (w:Wo):Sp:=λds M Q _=>∃x a b dx s q r xs,ds=[.ref x,s,q,r]/\M x=some (.ins (w.ca 0) dx [("waiting",.ref a),("found",.ref b)])/\M a=some (.lst xs)/\xs.length<sizeLine/\Q .ai (up M a (.lst (xs++[.tup [s,q,r]])))
theorem jf (O:Lw w):de w 1 1 (fD w):=by
 refine i5 O.ok O.hn _ ⟨"later",(bh (aa 11) 1),["self","step","question","around"]⟩ (by rw[O.hms];rfl) {} { cs:=trivial } MN MP λds M Q _ h=>?_;obtain⟨x,a,b,dx,s,q,r,xs,rfl,hx,ha,hl,h⟩:=h;exact⟨rfl,_,_,_,hx,_,O.fw,rfl,.inl ⟨rfl,_,ha⟩,l3,_,ha,hl,ar h⟩
def eo (w:Wo):Sp:=λds M Q _=>∃x a b dx d xs,ds=[.ref x,d]/\M x=some (.ins (w.ca 0) dx [("waiting",.ref a),("found",.ref b)])/\M b=some (.lst xs)/\xs.length<sizeLine/\Q .ai (up M b (.lst (xs++[d])))
theorem jg (O:Lw w):de w 2 1 (eo w):=by
 refine i5 O.ok O.hn _ ⟨"tell",(bh (aa 11) 2),["self","result"]⟩ (by rw[O.hms];rfl) {} { cs:=trivial } MR MS λds M Q _ h=>?_;obtain⟨x,a,b,dx,d,xs,rfl,hx,hb,hl,h⟩:=h;exact⟨rfl,_,_,_,hx,_,O.ff,rfl,.inl ⟨rfl,_,hb⟩,_,hb,hl,ar h⟩
def jh (w:Wo):Sp:=λds M Q _=>∃x a b dx n fs ks,ds=[.ref x,.int n]/\M x=some (.ins (w.ca 0) dx [("waiting",.ref a),("found",.ref b)])/\M b=some (.lst (fs++ks))/\(ks.length:Int)=n/\n<1000/\Q (.lst ks) (up M b (.lst fs))
theorem kn (O:Lw w):de w 3 1 (jh w):=by
 refine i5 O.ok O.hn _ ⟨"take",(bh (aa 11) 3),["self","many"]⟩ (by rw[O.hms];rfl) {} { cs:=trivial } MU MV λds M Q _ h=>?_;obtain⟨x,a,b,dx,n,fs,ks,rfl,hx,hb,hn,hl,h⟩:=h;have MZ:x≠b:=by rintro rfl;rw[hx]at hb;cases hb
 refine⟨rfl,Int.le_trans (by decide) (by lia:0<=n),Int.lt_trans hl (by decide),?_⟩;refine eT (λxs ys M'=>xs.length<=ks.length/\M'=up M b (.lst (fs++ks.take xs.length))/\ys=(ks.drop xs.length).reverse) ?_ ?_ _ _ _ ⟨?_,?_,?_⟩
 ·rintro ys M' ⟨_,rfl,rfl⟩;refine⟨trivial,XC (by simp;lia:_<=1000) (by decide),.inl (.inl ?_)⟩;have e1:ks.drop ([]:List D).length=ks:=rfl;rw[e1,List.reverse_reverse];have e2:fs++ks.take ([]:List D).length=fs:=by simp
  rw[e2];exact ar h
 ·rintro d xs ys M' ⟨h1,rfl,rfl⟩;rw[XG]at h1 ⊢;refine⟨trivial,XC (by simp;lia:_<=1000) (by decide),λN hN=>?_⟩;have a1:xs.length<ks.length:=by lia
  refine⟨_,dx,[("waiting",.ref a),("found",.ref b)],by rw[az MZ];exact hx,.ref b,O.ff,rfl,.inl ⟨rfl,_,aw⟩,_,aw,ks[xs.length],?_,?_⟩
  ·have:(fs++ks.take (xs.length+1)).length-1=fs.length+xs.length:=(by simp;lia);rw[this,Ym (by lia),Nat.add_sub_cancel_left,List.getElem?_take,if_pos (by lia),Xx a1]
  ·have e1:(fs++ks.take (xs.length+1)).dropLast=fs++ks.take xs.length:=by
    rw[List.take_succ,Xx a1,Option.toList_some,<- Yb,List.dropLast_concat]
   rw[e1,_root_.N.cj];refine hN _ _ ⟨by lia,rfl,?_⟩;rw[ZT a1,Y1]
 ·unfold fk;simp;lia
 ·have:(fk 0 n.toNat).length=ks.length:=by unfold fk;simp;lia
  rw[this,List.take_length,AG hb]
 ·have:(fk 0 n.toNat).length=ks.length:=by unfold fk;simp;lia
  rw[this,List.drop_length];rfl
def pF (w:Wo):Sp:=λds M Q _=>∃x dx,ds=[.ref x]/\M x=some (.ins (w.ca 0) dx [])/\∀a b,M a=none->M b=none->a≠b->Q .ai (Wm (up M x (.ins (w.ca 0) dx [("waiting",.ref a),("found",.ref b)])) a b [] [])
theorem ug (O:Lw w):de w 0 1 (pF w):=by
 refine i5 O.ok O.hn _ ⟨"__init__",(bh (aa 11) 0),["self"]⟩ (by rw[O.hms];rfl) {} { cs:=trivial } MX MY λds M Q _ h=>?_;obtain⟨x,dx,rfl,hx,h⟩:=h;refine⟨rfl,XS _,.inr λa ha=>?_⟩;have na:x≠a:=c5 hx ha;refine⟨_,dx,[],by rw[az na];exact hx,O.fw,by decide,XS _,.inr λb hb=>?_⟩;have nb:x≠b:=by rintro rfl;rw[aw]at hb;cases hb
 rw[az (YZ nb)]at hb;have VQ:a≠b:=by rintro rfl;rw[aw]at hb;cases hb
 rw[az (YZ VQ)]at hb;refine⟨_,dx,[("waiting",.ref a)],by rw[az nb];exact aw,O.ff,(show 1<1000 by decide),ar ?_⟩;have e:=h a b ha hb VQ;have z:Wm (up M x (.ins (w.ca 0) dx [("waiting",.ref a),("found",.ref b)])) a b [] []=up (up (up (up M a (.lst [])) x (.ins (w.ca 0) dx [("waiting",.ref a)])) b (.lst [])) x (.ins (w.ca 0) dx [("waiting",.ref a),("found",.ref b)]):=by
  unfold Wm;rw[mu (p:=b) (r:=x) (YZ nb),_root_.N.cj,mu (p:=a) (r:=x) (YZ na)]
 rw[z]at e;exact e
variable {w:Wo}
def dj (f:Qn->List D->D->Prop):Sp:=λds M Q _=>∃q ks d,ds=[qD q,.lst ks]/\f q ks d/\Q d M
noncomputable def M4:B:=(.cons (.ret (.tup (.cons (.c (.str "bag")) (.cons (.ix (.v 0) (.c (.int 1))) .nil)))) .nil)
theorem M5:aB ["question","below"] ["question","below"] (ag (aa 34)):=⟨rfl,rfl,rfl,by decide +kernel,rfl,by decide +kernel,by decide +kernel⟩
theorem M6:aF nm 40 ["question","below"] (ag (aa 34)) (ax (aa 34))=M4:=by kernel_rfl
noncomputable def M7:B:=(.cons (.ret (.tup (.cons (.ix (.v 0) (.c (.int 0))) .nil))) .nil)
theorem M8:aB ["question","below"] ["question","below"] (ag (aa 30)):=⟨rfl,rfl,rfl,by decide +kernel,rfl,by decide +kernel,by decide +kernel⟩
theorem M9:aF nm 40 ["question","below"] (ag (aa 30)) (ax (aa 30))=M7:=by kernel_rfl
noncomputable def Na:B:=(.cons (.ret (.tup (.cons (.c (.str "bag")) (.cons (.ix (.v 1) (.c (.int 0))) .nil)))) .nil)
theorem Nb:aB ["question","below"] ["question","below"] (ag (aa 35)):=⟨rfl,rfl,rfl,by decide +kernel,rfl,by decide +kernel,by decide +kernel⟩
theorem Nc:aF nm 40 ["question","below"] (ag (aa 35)) (ax (aa 35))=Na:=by kernel_rfl
noncomputable def Nd:B:=(.cons (.ret (.g 3)) .nil)
theorem Nf:aB ["question","below"] ["question","below"] (ag (aa 40)):=⟨rfl,rfl,rfl,by decide +kernel,rfl,by decide +kernel,by decide +kernel⟩
theorem Ng:aF nm 40 ["question","below"] (ag (aa 40)) (ax (aa 40))=Nd:=by kernel_rfl
theorem Nh (O:Lw w):FO w 20 1 (dj λq _ d=>∃k,q=.none k/\d=kD (.ah k)):=by
 refine aI O.ok O.hn _ ⟨"none_kind",aa 34,["question","below"]⟩ (by rw[O.hd];rfl) {} { cs:=trivial } M5 M6 λds M Q _ h=>?_;obtain⟨q,ks,d,rfl,⟨k,rfl,rfl⟩,h⟩:=h;exact⟨rfl,_,rfl,l2,ar h⟩
theorem Ni (O:Lw w):FO w 16 1 (dj λq _ d=>(∃i,q=.num i)/\d=kD .num\/(∃s,q=.word s)/\d=kD .word):=by
 refine aI O.ok O.hn _ ⟨"plain_kind",aa 30,["question","below"]⟩ (by rw[O.hd];rfl) {} { cs:=trivial } M8 M9 λds M Q _ h=>?_;obtain⟨q,ks,d,rfl,⟨⟨i,rfl⟩,rfl⟩ |⟨⟨i,rfl⟩,rfl⟩,h⟩:=h
 ·exact⟨rfl,_,rfl,l1,ar h⟩
 ·exact⟨rfl,_,rfl,l1,ar h⟩
theorem Nj (O:Lw w):FO w 21 1 (dj λ_ ks d=>∃k,ks=[kD k]/\d=kD (.ah k)):=by
 refine aI O.ok O.hn _ ⟨"one_kind",aa 35,["question","below"]⟩ (by rw[O.hd];rfl) {} { cs:=trivial } Nb Nc λds M Q _ h=>?_;obtain⟨q,ks,d,rfl,⟨k,rfl,rfl⟩,h⟩:=h;exact⟨rfl,_,rfl,l2,ar h⟩
theorem Nk (O:Lw w):FO w 26 1 (dj λ_ _ d=>d=.tup [.str "truth"]):=by
 refine aI O.ok O.hn _ ⟨"truth_kind",aa 40,["question","below"]⟩ (by rw[O.hd];rfl) {} { cs:=trivial } Nf Ng λds M Q _ h=>?_;obtain⟨q,ks,d,rfl,rfl,h⟩:=h;refine⟨rfl,ar ?_⟩;show Q (w.gv.getD 3 .ai) M;rw[O.g3];exact h
noncomputable def Nn:B:=(.cons (.ret (.ite (.cmp .Eq (.ix (.ix (.v 1) (.neg (.c (.int 1)))) (.c (.int 0))) (.c (.str "bag"))) (.ix (.v 1) (.neg (.c (.int 1)))) (.c .ai))) .nil)
theorem Np:aB ["question","below"] ["question","below"] (ag (aa 37)):=⟨rfl,rfl,rfl,by decide +kernel,rfl,by decide +kernel,by decide +kernel⟩
theorem Nq:aF nm 40 ["question","below"] (ag (aa 37)) (ax (aa 37))=Nn:=by kernel_rfl
noncomputable def Nu:B:=(.cons (.ret (.ite (.cmp .Eq (.v 1) (.lst (.cons (.g 1) (.cons (.g 1) .nil)))) (.g 1) (.c .ai))) .nil)
theorem Nw:aB ["question","below"] ["question","below"] (ag (aa 33)):=⟨rfl,rfl,rfl,by decide +kernel,rfl,by decide +kernel,by decide +kernel⟩
theorem Nx:aF nm 40 ["question","below"] (ag (aa 33)) (ax (aa 33))=Nu:=by kernel_rfl
noncomputable def Ny:B:=(.cons (.ret (.ite (.cmp .Eq (.v 1) (.lst (.cons (.g 1) (.cons (.g 1) .nil)))) (.g 3) (.c .ai))) .nil)
theorem Nz:aB ["question","below"] ["question","below"] (ag (aa 39)):=⟨rfl,rfl,rfl,by decide +kernel,rfl,by decide +kernel,by decide +kernel⟩
theorem NA:aF nm 40 ["question","below"] (ag (aa 39)) (ax (aa 39))=Ny:=by kernel_rfl
noncomputable def NB:B:=(.cons (.ret (.ite (.cmp .In (.v 1) (.tup (.cons (.lst (.cons (.g 1) (.cons (.g 1) .nil))) (.cons (.lst (.cons (.g 2) (.cons (.g 2) .nil))) .nil)))) (.g 3) (.c .ai))) .nil)
theorem NC:aB ["question","below"] ["question","below"] (ag (aa 38)):=⟨rfl,rfl,rfl,by decide +kernel,rfl,by decide +kernel,by decide +kernel⟩
theorem ND:aF nm 40 ["question","below"] (ag (aa 38)) (ax (aa 38))=NB:=by kernel_rfl
noncomputable def NF:B:=.cons (.ret (.v 3)) .nil
noncomputable def NG:B:=.cons (.put (.v 3) (.v 1) (.v 2)) NF
noncomputable def NI:B:=.cons (.set (.one 3) (.bi .dict (.cons (.v 0) .nil))) NG
theorem NJ:aB ["names","name","meaning","more"] ["names","name","meaning"] (ag (aa 15)):=⟨rfl,rfl,rfl,by decide +kernel,rfl,by decide +kernel,by decide +kernel⟩
theorem NK:aF nm 40 ["names","name","meaning","more"] (ag (aa 15)) (ax (aa 15))=NI:=by kernel_rfl
noncomputable def NL:B:=(.cons (.ret (.lc 2 [] (.many [0,1]) (.seq (.ix (.v 0) (.c (.int 1)))) .au (.v 0))) .nil)
theorem NM:aB ["row"] ["row"] (ag (aa 17)):=⟨rfl,rfl,rfl,by decide +kernel,rfl,by decide +kernel,by decide +kernel⟩
theorem NN:aF nm 40 ["row"] (ag (aa 17)) (ax (aa 17))=NL:=by kernel_rfl
noncomputable def NO:B:=(.cons (.ret (.tup (.cons (.c (.str "row")) (.cons (.bi .tuple (.cons (.lc 2 [] (.many [0,1]) (.zip (.ix (.v 0) (.c (.int 1))) (.v 1)) .au (.tup (.cons (.ix (.v 0) (.c (.int 0))) (.cons (.v 1) .nil)))) .nil)) .nil)))) .nil)
theorem NP:aB ["question","below"] ["question","below"] (ag (aa 31)):=⟨rfl,rfl,rfl,by decide +kernel,rfl,by decide +kernel,by decide +kernel⟩
theorem NR:aF nm 40 ["question","below"] (ag (aa 31)) (ax (aa 31))=NO:=by kernel_rfl
noncomputable def NS:B:=(.cons (.cond (.cmp .NotEq (.ix (.ix (.v 1) (.c (.int 0))) (.c (.int 0))) (.c (.str "row"))) (.cons (.ret (.c .ai)) .nil) .nil) (.cons (.ret (.mt .get (.bi .dict (.cons (.ix (.ix (.v 1) (.c (.int 0))) (.c (.int 1))) .nil)) (.cons (.ix (.v 0) (.c (.int 1))) .nil))) .nil))
theorem NT:aB ["question","below"] ["question","below"] (ag (aa 32)):=⟨rfl,rfl,rfl,by decide +kernel,rfl,by decide +kernel,by decide +kernel⟩
theorem NU:aF nm 40 ["question","below"] (ag (aa 32)) (ax (aa 32))=NS:=by kernel_rfl
theorem Bb (O:Lw w):FO w 23 1 (dj λ_ ks d=>∃pre k,ks=pre++[kD (.ah k)]/\d=kD (.ah k)):=by
 refine aI O.ok O.hn _ ⟨"last_bag_kind",aa 37,["question","below"]⟩ (by rw[O.hd];rfl) {} { cs:=trivial } Np Nq λds M Q _ h=>?_;obtain⟨q,ks,d,rfl,⟨pre,k,rfl,rfl⟩,h⟩:=h;exact⟨rfl,_,An,_,rfl,aq (aN (by decide) ⟨_,An,ar h⟩)⟩
theorem Bc {n:Bool}{a b:Kd}{M:Mp}{k:Bool->Prop} (ha:kd a<=50) (hb:kd b<=50) (q:k true):ft n (.lst [kD a,kD b]) (.lst [kD a,kD b]) M k:=by
 have h1:=kf a;have h2:=kf b;have ok:aG (.lst [kD a,kD b])=true:=by rw[aG,aO,aO,aO,gm,gm];rfl
 refine .mk (.inl ⟨ok,ok,?_⟩) ?_
 ·show a8 (.lst [kD a,kD b])<=100;rw[a8,aT,aT,aT];lia
 ·show k (aC (.lst [kD a,kD b]) (.lst [kD a,kD b]));rw[gH _ ok];exact q
theorem NV (O:Lw w):FO w 19 1 (dj λ_ ks d=>ks=[kD .num,kD .num]/\d=kD .num):=by
 refine aI O.ok O.hn _ ⟨"number_kind",aa 33,["question","below"]⟩ (by rw[O.hd];rfl) {} { cs:=trivial } Nw Nx λds M Q _ h=>?_;obtain⟨q,ks,d,rfl,⟨rfl,rfl⟩,h⟩:=h;refine⟨rfl,l2,.inl ?_⟩;show ft false (.lst [kD .num,kD .num]) (.lst [w.gv.getD 1 .ai,w.gv.getD 1 .ai]) M _;rw[O.g1];refine Bc (by decide) (by decide) (aN rfl (ar ?_));show Q (w.gv.getD 1 .ai) M;rw[O.g1];exact h
theorem NW (O:Lw w):FO w 25 1 (dj λ_ ks d=>ks=[kD .num,kD .num]/\d=.tup [.str "truth"]):=by
 refine aI O.ok O.hn _ ⟨"under_kind",aa 39,["question","below"]⟩ (by rw[O.hd];rfl) {} { cs:=trivial } Nz NA λds M Q _ h=>?_;obtain⟨q,ks,d,rfl,⟨rfl,rfl⟩,h⟩:=h;refine⟨rfl,l2,.inl ?_⟩;show ft false (.lst [kD .num,kD .num]) (.lst [w.gv.getD 1 .ai,w.gv.getD 1 .ai]) M _;rw[O.g1];refine Bc (by decide) (by decide) (aN rfl (ar ?_));show Q (w.gv.getD 3 .ai) M;rw[O.g3];exact h
theorem NX (O:Lw w):FO w 24 1 (dj λ_ ks d=>(ks=[kD .num,kD .num]\/ks=[kD .word,kD .word])/\d=.tup [.str "truth"]):=by
 refine aI O.ok O.hn _ ⟨"same_kind",aa 38,["question","below"]⟩ (by rw[O.hd];rfl) {} { cs:=trivial } NC ND λds M Q _ h=>?_;obtain⟨q,ks,d,rfl,⟨hk,rfl⟩,h⟩:=h;have key:d9 (.lst ks) (.tup [.lst [kD .num,kD .num],.lst [kD .word,kD .word]]) M λb=>if b=true then aZ Q (w.gv.getD 3 .ai) M else aZ Q .ai M:=by
  refine⟨⟨?_,by decide +kernel,by decide +kernel,?_⟩⟩
  ·rcases hk with rfl |rfl <;> decide +kernel
  ·have e:cB (.lst ks) [.lst [kD .num,kD .num],.lst [kD .word,kD .word]]=true:=(by rcases hk with rfl |rfl <;> decide +kernel);rw[e];refine aN rfl (ar ?_);rw[O.g3];exact h
 refine⟨rfl,l2,.inl ⟨l2,.inl ⟨l2,?_⟩⟩⟩;show d9 (.lst ks) (.tup [.lst [w.gv.getD 1 .ai,w.gv.getD 1 .ai],.lst [w.gv.getD 2 .ai,w.gv.getD 2 .ai]]) M _;rw[O.g1,O.g2];exact key
def Bd:Sp:=λds M Q _=>∃kvs x d,ds=[dD kvs,.str x,d]/\kvs.length<1000/\Q (dD (aY kvs (.inr x) d)) M
theorem NY (O:Lw w):FO w 7 1 Bd:=by
 refine aI O.ok O.hn _ ⟨"bound",aa 15,["names","name","meaning"]⟩ (by rw[O.hd];rfl) {} { cs:=trivial } NJ NK λds M Q _ h=>?_;obtain⟨kvs,x,d,rfl,hl,h⟩:=h;refine⟨rfl,.inl (.inr λp hp=>.inr ⟨_,aw,?_,?_⟩)⟩
 ·rw[gn];exact Yp hl (by decide)
 ·rw[N.cj,gn];exact tF hp h
def Be:Sp:=λds M Q _=>∃fs,ds=[kD (.row fs)]/\fs.length<1000/\Q (.lst (fs.map λp=>.str p.1)) M
theorem NZ (O:Lw w):FO w 8 1 Be:=by
 refine aI O.ok O.hn _ ⟨"fields_of",aa 17,["row"]⟩ (by rw[O.hd];rfl) {} { cs:=trivial } NM NN λds M Q _ h=>?_;obtain⟨fs,rfl,hl,h⟩:=h;refine⟨rfl,_,rfl,?_⟩;show cX (λ_=>True) (.many [0,1]) gM _ _ _ (bM fs) [] M;rw[my];refine i7 (λp:Str×Kd=>.tup [.str p.1,kD p.2]) (λp=>.str p.1) fs ?_ (Yp hl (by decide)) (λp _ N hN=>?_) ?_
 ·exact trivial
 ·exact⟨rfl,hN⟩
 ·exact .inl (ar h)
theorem pG {α β:Type} (f:α->D) (g:β->D):∀(as:List α) (bs:List β),List.zipWith (λx y=>D.tup [x,y]) (as.map f) (bs.map g)=(as.zip bs).map λp=>.tup [f p.1,g p.2]
 |[],_=>by simp
 |_::_,[]=>by simp
 |a::as,b::bs=>by rw[XD,XD,List.zipWith_cons_cons,pG f g as bs,YM,XD]
theorem N0 (fs:List (Str×Qn)):∀ κs:List Kd,(fs.zip κs).map (λp=>(p.1.1,p.2))=(fs.map (·.1)).zip κs:=fun κs=>by
 rw[List.zip_map_left];rfl
theorem N1 (O:Lw w):FO w 17 1 (dj λq ks d=>∃fs κs,q=.row fs/\ks=κs.map kD/\κs.length=fs.length/\fs.length<100/\d=kD (.row ((fs.map (·.1)).zip κs))):=by
 refine aI O.ok O.hn _ ⟨"row_kind",aa 31,["question","below"]⟩ (by rw[O.hd];rfl) {} { cs:=trivial } NP NR λds M Q _ h=>?_;obtain⟨q,ks,d,rfl,⟨fs,κs,rfl,rfl,hl,hf,rfl⟩,h⟩:=h;refine⟨rfl,_,rfl,?_⟩;show cX (λM=>True/\True) (.many [0,1]) gM _ _ _ (List.zipWith (λx y=>D.tup [x,y]) (bG fs) (κs.map kD)) [] M;rw[mx,pG];refine i7 (λp:(Str×Qn)×Kd=>.tup [.tup [.str p.1.1,qD p.1.2],kD p.2]) (λp=>.tup [.str p.1.1,kD p.2]) (fs.zip κs) ?_ (Yp (by rw[Zg];lia:_<100) (by decide)) (λp _ N hN=>?_) ?_
 ·exact⟨trivial,trivial⟩
 ·exact⟨rfl,_,rfl,l2,hN⟩
 ·refine .inl ⟨l2,ar ?_⟩;rw[kD,my,<- N0,Yv]at h;exact h
theorem Bf:∀{fs pre:Sc},((pre++fs).map (·.1)).Nodup->(a4 fs).foldl (λal kv=>aY al kv.1 kv.2) (a4 pre)=a4 (pre++fs)
 |[],pre,_=>by rw[XO];rfl
 |(x,k)::r,pre,nd=>by
  have nx:x ∉ pre.map (·.1):=by
   rw[XU,XD]at nd;exact λz=>(List.nodup_append.mp nd).2.2 x z x XA rfl
  show (a4 r).foldl _ (aY (a4 pre) (.inr x) (kD k))=_;rw[Af nx,Bf (by simpa using nd)];simp
theorem N7 {fs:Sc} (nd:(fs.map (·.1)).Nodup):cD (a4 fs)=a4 fs:=Bf (pre:=[]) nd
theorem N9 (fs:Sc):bM fs=(a4 fs).map dQ:=by unfold a4;rw[my,Yv];rfl
theorem Oa (O:Lw w):FO w 18 1 (dj λq ks d=>∃f q' fs κ,q=.at f q'/\ks=[kD (.row fs)]/\(fs.map (·.1)).Nodup/\lk f fs=some κ/\d=kD κ):=by
 refine aI O.ok O.hn _ ⟨"part_kind",aa 32,["question","below"]⟩ (by rw[O.hd];rfl) {} { cs:=trivial } NT NU λds M Q _ h=>?_;obtain⟨q,ks,d,rfl,⟨f,q',fs,κ,rfl,rfl,nd,hk,rfl⟩,h⟩:=h;refine⟨rfl,_,rfl,_,rfl,aq (ay (by decide) ⟨_,rfl,_,rfl,.inr ⟨a4 fs,N9 fs,.inl ?_⟩⟩)⟩;refine⟨rfl,_,rfl,ar ?_⟩;rw[N7 nd,gn,g',hk];exact h
variable {w:Wo}
theorem FO.ck {i k:Nat}{sp:Sp}{d:Ds} (h:FO w i k sp) (hd:w.ds[i]?=some d):cJ w.G k (a' w d.x) sp:=by
 obtain⟨d',f,fd,h1,D,F⟩:=h;rw[hd]at h1;cases h1;have e:a' w d.x=f:=by unfold a';rw[D.mg]
 rw[e];exact⟨fd,d.ps,w.G.K,F,D.kp,D.b,λz m b o=>m.fg.keeps λa ob q=>o.fz a _ (b.b a ob q)⟩
noncomputable def wd:Qn->Str
 |.num _=>"num" |.word _=>"word" |.var _=>"var" |.tab _=>"table" |.none _=>"none" |.row _=>"row" |.at _ _=>"at"
 |.add _ _=>"add" |.mul _ _=>"mul" |.one _=>"one" |.both _ _=>"both" |.times _ _=>"times" |.for _ _ _=>"for"
 |.aL _ _=>"when" |.let _ _ _=>"let" |.same _ _=>"same" |.under _ _=>"under" |.and _ _=>"and" |.or _ _=>"or" |.not _=>"not"
theorem dE (q:Qn):∃r,qD q=.tup (.str (wd q)::r):=by cases q <;> exact⟨_,rfl⟩
noncomputable def fE:List (Str×(Qn->List D->D->Prop)):=[
 ("plain_kind",λq _ d=>(∃i,q=.num i)/\d=kD .num\/(∃s,q=.word s)/\d=kD .word),
 ("row_kind",λq ks d=>∃fs κs,q=.row fs/\ks=κs.map kD/\κs.length=fs.length/\fs.length<100/\d=kD (.row ((fs.map (·.1)).zip κs))),
 ("part_kind",λq ks d=>∃f q' fs κ,q=.at f q'/\ks=[kD (.row fs)]/\(fs.map (·.1)).Nodup/\lk f fs=some κ/\d=kD κ),
 ("number_kind",λ_ ks d=>ks=[kD .num,kD .num]/\d=kD .num),
 ("none_kind",λq _ d=>∃k,q=.none k/\d=kD (.ah k)),
 ("one_kind",λ_ ks d=>∃k,ks=[kD k]/\d=kD (.ah k)),
 ("both_kind",λ_ ks d=>∃k,kz k<900/\ks=[kD (.ah k),kD (.ah k)]/\d=kD (.ah k)),
 ("last_bag_kind",λ_ ks d=>∃pre k,ks=pre++[kD (.ah k)]/\d=kD (.ah k)),
 ("same_kind",λ_ ks d=>(ks=[kD .num,kD .num]\/ks=[kD .word,kD .word])/\d=.tup [.str "truth"]),
 ("under_kind",λ_ ks d=>ks=[kD .num,kD .num]/\d=.tup [.str "truth"]),
 ("truth_kind",λ_ _ d=>d=.tup [.str "truth"])]
def Bg (w:Wo) (f:Addr) (sp:Sp):Prop:=∃p∈fE,f=a' w p.1/\sp=dj p.2
def mz (q:Qn) (ks:List D) (d:D):Prop:=(∃ds,d=.tup ds)/\∃p∈fE,(wd q,p.1)∈bz/\p.2 q ks d
theorem uh {s g:Str}:∀{t:List (Str×Str)},(t.map (·.1)).Nodup->(s,g)∈t->aJ ((t.map λp=>(YO p.1:Key)).zip (t.map λp=>D.ref (a' w p.2))) (.inr s)=some (.ref (a' w g))
 |(x,y)::r,nd,h=>by
  rw[XD,ZF]at nd;rw[XD,XD,YM];unfold aJ;rw[Zr];rcases List.mem_cons.mp h with e |h
  ·cases e;simp
  ·have:¬x=s:=λe=>nd.1 (e ▸ List.mem_map.mpr ⟨_,h,rfl⟩);have e':¬(YO x:Key)=YO s:=λz=>this (ZR z);simp only[e',decide_false];exact uh nd.2 h
theorem Bh:(bz.map (·.1)).Nodup:=by decide +kernel
def Bj (w:Wo):Sp:=λds M Q _=>∃M0 x a b ws q r fs ks d,ds=[.ref x,qD q,r]/\M=Wm M0 a b ws (fs++ks)/\Wc (w.ca 0) M0 x a b/\ks.length=(if wd q="for" then 1 else (us q).length)/\(us q).length<100/\fs.length<1000000/\mz q ks d/\Q .ai (Wm M0 a b ws (fs++[d]))
noncomputable def Ob:B:=.cons (.ex (.aU 2 (.v 0) (.cons (.v 5) .nil))) .nil
noncomputable def Bk:B:=.cons (.cond (.cmp .Is (.v 5) (.c .ai)) (.cons .dead .nil) .nil) Ob
noncomputable def Bl:B:=.cons (.set (.one 5) (.app (.ix (.g 4) (.v 3)) (.cons (.v 1) (.cons (.aU 3 (.v 0) (.cons (.v 4) .nil)) .nil)))) Bk
noncomputable def Oc:B:=.cons (.set (.one 4) (.ite (.cmp .Eq (.v 3) (.c (.str "for"))) (.c (.int 1)) (.bi .len (.cons (.call 0 (.cons (.v 1) .nil)) .nil)))) Bl
noncomputable def Od:B:=.cons (.set (.one 3) (.ix (.v 1) (.c (.int 0)))) Oc
theorem Oe:aB ["walk","question","around","word","many","kind"] ["walk","question","around"] (ag (aa 29)):=⟨rfl,rfl,rfl,by decide +kernel,rfl,by decide +kernel,by decide +kernel⟩
theorem Of:aF nm 40 ["walk","question","around","word","many","kind"] (ag (aa 29)) (ax (aa 29))=Od:=by kernel_rfl
noncomputable abbrev U3 (w:Wo):a0 w:={ cs:=[(0,je)],ms:=[(2,eo w),(3,jh w)],ca:=Bg w }
theorem Og (O:Lw w) (hF:∀p∈fE,cJ w.G 5 (a' w p.1) (dj p.2)):FO w 15 6 (Bj w):=by
 refine aI O.ok O.hn _ ⟨"finish",aa 29,["walk","question","around"]⟩ (by rw[O.hd];rfl) (U3 w) { cs:=⟨⟨1,by decide,km O⟩,trivial⟩,ms:=⟨⟨1,by decide,jg O⟩,⟨1,by decide,kn O⟩,trivial⟩,ca:=?_ } Oe Of λds M Q _ h=>?_
 ·rintro f sp ⟨p,hp,rfl,rfl⟩;exact hF p hp
 obtain⟨M0,x,a,b,ws,q,r,fs,ks,d,rfl,rfl,W,hl,hu,eg,⟨⟨dd,No⟩,p,hp,ht,hd⟩,h⟩:=h;obtain⟨rr,e⟩:=dE q;obtain⟨dx,hx⟩:=W.gx (ws:=ws) (fs:=fs++ks);obtain⟨Bm,cQ⟩:=W.gx (ws:=ws) (fs:=fs);have hlk:ks.length<100:=by rw[hl];split <;> lia
 refine⟨rfl,?_⟩;rw[e];refine⟨_,eh,?_⟩;have go:∀n:Int,(ks.length:Int)=n->B.w (U3 w).wd nm.aj Bl (a9 Q) [some (.ref x),some (.tup (.str (wd q)::rr)),some r,some (.str (wd q)),some (.int n),none] (Wm M0 a b ws (fs++ks)):=by
  intro n hn;show aA (w.gv.getD 4 .ai) (.str (wd q)) (Wm M0 a b ws (fs++ks)) λx1 M1=>rO x1 λf=>∃sp,Bg w f sp/\L.w (U3 w).wd nm.aj (.cons (.v 1) (.cons (.aU 3 (.v 0) (.cons (.v 4) .nil)) .nil)) [some (.ref x),some (.tup (.str (wd q)::rr)),some r,some (.str (wd q)),some (.int n),none] M1 λds M2=>sp ds M2 (λd M3=>cb (.one 5) d [some (.ref x),some (.tup (.str (wd q)::rr)),some r,some (.str (wd q)),some (.int n),none] M3 (B.w (U3 w).wd nm.aj Bk (a9 Q))) X0;rw[O.gt];refine⟨_,uh Bh ht,?_⟩;refine⟨_,⟨p,hp,rfl,rfl⟩,_,dx,_,hx,(O.mc _ (by decide)).symm,bq (by decide +kernel) (by decide +kernel),x,a,b,dx,n,fs,ks,rfl,hx,Wm.gb,hn,by lia,?_⟩;rw[Wm.pb];refine⟨q,ks,d,by rw[e],hd,?_⟩;subst No;refine⟨_,Bm,_,cQ,(O.mc _ (by decide)).symm,bq (by decide +kernel) (by decide +kernel),x,a,b,Bm,_,fs,rfl,cQ,Wm.gb,Yp eg (by decide),?_⟩;rw[Wm.pb];exact ar h
 refine aq (aX (λz=>go 1 ?_) λz=>?_)
 ·have z:=of_decide_eq_true z;rw[hl,if_pos z];rfl
 ·refine⟨q,by rw[e];rfl,hu,go _ ?_⟩;have z:¬wd q="for":=λy=>z (decide_eq_true y);rw[hl,if_neg z,Xr]
noncomputable def Oh:B:=(.cons (.cond (.cmp .NotIn (.v 1) (.v 0)) (.cons .dead .nil) .nil) (.cons (.ret (.ix (.v 0) (.v 1))) .nil))
theorem Oi:aB ["kinds","name","path"] ["kinds","name","path"] (ag (aa 27)):=⟨rfl,rfl,rfl,by decide +kernel,rfl,by decide +kernel,by decide +kernel⟩
theorem Oj:aF nm 40 ["kinds","name","path"] (ag (aa 27)) (ax (aa 27))=Oh:=by kernel_rfl
theorem Ol {a:Addr}{kvs:List (Key×D)}{x:Str}{M:Mp}{k:Bool->Prop} (h:M a=some (.ak kvs)) (q:k (aJ kvs (.inr x)).isSome):d9 (.str x) (.ref a) M k:=⟨.inl ⟨_,h,q⟩⟩
def hU (v:D) (kvs:List (Key×D)) (M:Mp):Prop:=v=dD kvs\/∃p,v=.ref p/\M p=some (.ak kvs)
theorem hU.up {v:D}{kvs:List (Key×D)}{M M':Mp} (h:hU v kvs M) (l:∀a o,M a=some o->M' a=some o):hU v kvs M':=h.imp id λ⟨p,e,q⟩=>⟨p,e,l _ _ q⟩
def Bn:Sp:=λds M Q _=>∃v kvs x p d,ds=[v,.str x,p]/\hU v kvs M/\aJ kvs (.inr x)=some d/\Q d M
theorem Om (O:Lw w):FO w 13 1 Bn:=by
 refine aI O.ok O.hn _ ⟨"found_kind",aa 27,["kinds","name","path"]⟩ (by rw[O.hd];rfl) {} { cs:=trivial } Oi Oj λds M Q _ h=>?_;obtain⟨v,kvs,x,p,d,rfl,hc,hv,h⟩:=h;rcases hc with rfl |⟨a,rfl,ha⟩
 ·refine⟨rfl,tX ?_⟩;rw[hv];exact tW hv (ar h)
 ·have hs:(aJ kvs (.inr x)).isSome=true:=by rw[hv];rfl
  refine⟨rfl,Ol ha ?_⟩;rw[hs];exact .inr ⟨_,ha,d,hv,ar h⟩
noncomputable def ba (w:Wo) (i:Nat) (q:Qn) (r:D):D:=.tup [w.gv.getD i .ai,qD q,r]
noncomputable def a5 (K:List (Key×D)) (S:D) (ps:List D):D:=.tup [dD K,S,.tup ps]
noncomputable def Bo:B:=.cons (.ex (.aU 1 (.v 0) (.cons (.g 18) (.cons (.ix (.v 1) (.c (.int 3))) (.cons (.tup (.cons (.call 7 (.cons (.v 3) (.cons (.ix (.v 1) (.c (.int 1))) (.cons (.v 6) .nil)))) (.cons (.v 4) (.cons (.op .Add (.v 5) (.tup (.cons (.c (.int 1)) .nil))) .nil)))) .nil))))) .nil
noncomputable def Oo:B:=.cons (.cond (.cmp .Eq (.ix (.v 1) (.c (.int 0))) (.c (.str "for"))) (.cons (.cond (.cmp .NotEq (.ix (.v 6) (.c (.int 0))) (.c (.str "bag"))) (.cons .dead .nil) .nil) (.cons (.set (.one 6) (.ix (.v 6) (.c (.int 1)))) (.cons (.ex (.aU 1 (.v 0) (.cons (.g 21) (.cons (.v 1) (.cons (.v 2) .nil))))) .nil))) .nil) Bo
noncomputable def Oq:B:=.cons (.set (.one 6) (.ix (.aU 3 (.v 0) (.cons (.c (.int 1)) .nil)) (.c (.int 0)))) Oo
noncomputable def Ot:B:=.cons (.set (.many [3,4,5]) (.v 2)) Oq
theorem Ou:aB ["walk","question","around","kinds","stock","path","kind"] ["walk","question","around"] (ag (aa 28)):=⟨rfl,rfl,rfl,by decide +kernel,rfl,by decide +kernel,by decide +kernel⟩
theorem Ov:aF nm 40 ["walk","question","around","kinds","stock","path","kind"] (ag (aa 28)) (ax (aa 28))=Ot:=by kernel_rfl
def Bp (w:Wo):Sp:=λds M Q _=>∃ M0 x a b ws fs K S ps q y qa qb k,ds=[.ref x,qD q,a5 K S ps]/\ps.length<1000000/\ws.length<1000000/\K.length<1000/\Wc (w.ca 0) M0 x a b /\
  ((q=.for y qa qb/\M=Wm M0 a b ws (fs++[kD (.ah k)])/\Q .ai (Wm M0 a b (ws++[ba w 21 q (a5 K S ps),ba w 18 qb (a5 (aY K (.inr y) (kD k)) S (ps++[.int 1]))]) fs)) \/
   (q=.let y qa qb/\M=Wm M0 a b ws (fs++[kD k])/\Q .ai (Wm M0 a b (ws++[ba w 18 qb (a5 (aY K (.inr y) (kD k)) S (ps++[.int 1]))]) fs)))
noncomputable abbrev UI (w:Wo):a0 w:={ cs:=[(7,Bd)],ms:=[(1,fD w),(3,jh w)] }
theorem Ow (O:Lw w):FO w 14 2 (Bp w):=by
 refine aI O.ok O.hn _ ⟨"bind",aa 28,["walk","question","around"]⟩ (by rw[O.hd];rfl) (UI w) { cs:=⟨⟨1,by decide,NY O⟩,trivial⟩,ms:=⟨⟨1,by decide,jf O⟩,⟨1,by decide,kn O⟩,trivial⟩ } Ou Ov λds M Q _ h=>?_;obtain⟨M0,x,a,b,ws,fs,K,S,ps,q,y,qa,qb,k,rfl,hp,hw,f7,W,h⟩:=h;have m4:w.ca 0=w.mc 3:=(O.mc _ (by decide)).symm;have m2:w.ca 0=w.mc 1:=(O.mc _ (by decide)).symm;have tail:∀ (d:D) (cN:List D),cN.length<1000001->Q .ai (Wm M0 a b (cN++[ba w 18 qb (a5 (aY K (.inr y) d) S (ps++[.int 1]))]) fs)->∀ z z2 q', q'=.tup [z,.str y,z2,qD qb] ->
   B.w (UI w).wd nm.aj Bo (a9 Q) [some (.ref x),some q',some (a5 K S ps),some (dD K),some S,some (.tup ps),some d] (Wm M0 a b cN fs):=by
  rintro d cN NE h z z2 q' rfl;obtain⟨dx,hx⟩:=W.gx (ws:=cN) (fs:=fs);refine⟨_,dx,_,hx,m2,bq (by decide +kernel) (by decide +kernel),_,rfl,_,rfl,K,y,d,rfl,f7,l1,Xz (by simp;lia:_<=1000001) (by decide),l3,?_⟩;refine⟨x,a,b,dx,_,_,_,cN,rfl,hx,W.ga,XM NE (by decide),?_⟩;rw[W.pa];exact ar h
 rcases h with ⟨rfl,rfl,h⟩ |⟨rfl,rfl,h⟩
 ·obtain⟨dx,hx⟩:=W.gx (ws:=ws) (fs:=fs++[kD (.ah k)]);obtain⟨dy,hy⟩:=W.gx (ws:=ws) (fs:=fs);refine⟨rfl,rfl,_,dx,_,hx,m4,bq (by decide +kernel) (by decide +kernel),x,a,b,dx,1,fs,[kD (.ah k)],rfl,hx,Wm.gb,rfl,by decide,?_⟩;rw[Wm.pb];refine⟨_,rfl,_,rfl,aq (aN (by decide) ⟨_,rfl,aq (ay (by decide) ⟨_,rfl,?_⟩)⟩)⟩;refine⟨_,dy,_,hy,m2,bq (by decide +kernel) (by decide +kernel),x,a,b,dy,_,_,_,ws,rfl,hy,W.ga,XM hw (by decide),?_⟩;rw[W.pa];refine tail (kD k) _ (by simp;lia) ?_ _ _ _ rfl;rw[Yb];exact h
 ·obtain⟨dx,hx⟩:=W.gx (ws:=ws) (fs:=fs++[kD k]);refine⟨rfl,rfl,_,dx,_,hx,m4,bq (by decide +kernel) (by decide +kernel),x,a,b,dx,1,fs,[kD k],rfl,hx,Wm.gb,rfl,by decide,?_⟩;rw[Wm.pb];refine⟨_,rfl,_,rfl,aq (ay (by decide) ?_)⟩;exact tail (kD k) ws (by lia) h _ _ _ rfl
variable {w:Wo}
noncomputable def dk (w:Wo) (K:List (Key×D)) (S:D) (ps:List D):Nat->List Qn->List D
 |_,[]=>[]
 |i,q::r=>ba w 18 q (a5 K S (ps++[.int i]))::dk w K S ps (i+1) r
theorem ui {K:List (Key×D)}{S:D}{ps:List D}:∀{r:List Qn}{i:Nat},(dk w K S ps i r).length=r.length
 |[],_=>by rw[dk];rfl
 |q::r,i=>by rw[dk,XG,XG,ui]
structure Pl (q:Qn):Prop where
 v:∀y,q≠.var y
 t:∀y,q≠.tab y
 f:wd q≠"for"
 l:wd q≠"let"
def Bq (w:Wo):Sp:=λds M Q _=>∃ M0 x a b ws fs K S ps q,ds=[.ref x,qD q,a5 K S ps]/\M=Wm M0 a b ws fs/\Wc (w.ca 0) M0 x a b/\ps.length<1000000/\ws.length<1000000/\fs.length<1000000/\(us q).length<100 /\
  ((∃y d,q=.var y/\aJ K (.inr y)=some d/\Q .ai (Wm M0 a b ws (fs++[d]))) \/
   (∃y d,q=.tab y/\(∃kvs,hU S kvs (Wm M0 a b ws fs)/\aJ kvs (.inr y)=some d)/\Q .ai (Wm M0 a b ws (fs++[.tup [.str "bag",d]]))) \/
   (∃y qa qb,(q=.for y qa qb\/q=.let y qa qb)/\Q .ai (Wm M0 a b (ws++[ba w 20 q (a5 K S ps),ba w 18 qa (a5 K S (ps++[.int 0]))]) fs)) \/
   (Pl q/\Q .ai (Wm M0 a b (ws++[ba w 21 q (a5 K S ps)]++(dk w K S ps 0 (us q)).reverse) fs)))
theorem Ox {q:Qn} (h:∀y,q≠.var y):wd q≠"var":=by cases q <;> first |exact absurd rfl (h _) |(rw[wd];decide)
theorem uj {q:Qn} (h:∀y,q≠.tab y):wd q≠"table":=by cases q <;> first |exact absurd rfl (h _) |(rw[wd];decide)
theorem Oy {q:Qn} (h1:wd q≠"for") (h2:wd q≠"let"):cB (.str (wd q)) [D.str "for",D.str "let"]=false:=by
 cases q <;> first |exact absurd rfl h1 |exact absurd rfl h2 |(rw[wd];decide +kernel)
theorem bw {z y:Str}{p r:Prop} (n:z≠y) (h:r):if decide (z=y)=true then p else r:=by
 rw[if_neg];exact h;exact λe=>n (of_decide_eq_true e)
theorem Br {s:Str}{M:Mp}{k:Bool->Prop}{b:Bool} (hb:cB (.str s) [D.str "for",D.str "let"]=b) (q:k b):d9 (.str s) (.tup [.str "for",.str "let"]) M k:=by
 refine⟨⟨rfl,rfl,by decide +kernel,?_⟩⟩;rw[hb];exact q
theorem Bt {ds:List D}{d:D}:gG (ds++[d])=gG ds++[.tup [.int ds.length,d]]:=by
 unfold gG;rw[List.mapIdx_append];simp
noncomputable def uk:B:=(.cons (.set (.many [3,4,5]) (.v 2)) (.cons (.cond (.cmp .Eq (.ix (.v 1) (.c (.int 0))) (.c (.str "var"))) (.cons (.ex (.aU 2 (.v 0) (.cons (.call 13 (.cons (.v 3) (.cons (.ix (.v 1) (.c (.int 1))) (.cons (.v 5) .nil)))) .nil))) .nil) (.cons (.cond (.cmp .Eq (.ix (.v 1) (.c (.int 0))) (.c (.str "table"))) (.cons (.ex (.aU 2 (.v 0) (.cons (.tup (.cons (.c (.str "bag")) (.cons (.call 13 (.cons (.v 4) (.cons (.ix (.v 1) (.c (.int 1))) (.cons (.v 5) .nil)))) .nil))) .nil))) .nil) (.cons (.cond (.cmp .In (.ix (.v 1) (.c (.int 0))) (.tup (.cons (.c (.str "for")) (.cons (.c (.str "let")) .nil)))) (.cons (.ex (.aU 1 (.v 0) (.cons (.g 20) (.cons (.v 1) (.cons (.v 2) .nil))))) (.cons (.ex (.aU 1 (.v 0) (.cons (.g 18) (.cons (.ix (.v 1) (.c (.int 2))) (.cons (.tup (.cons (.v 3) (.cons (.v 4) (.cons (.op .Add (.v 5) (.tup (.cons (.c (.int 0)) .nil))) .nil)))) .nil))))) .nil)) (.cons (.ex (.aU 1 (.v 0) (.cons (.g 21) (.cons (.v 1) (.cons (.v 2) .nil))))) (.cons (.loop (.many [6,7]) (.oG (.sx (.call 0 (.cons (.v 1) .nil)))) (.cons (.ex (.aU 1 (.v 0) (.cons (.g 18) (.cons (.v 7) (.cons (.tup (.cons (.v 3) (.cons (.v 4) (.cons (.op .Add (.v 5) (.tup (.cons (.v 6) .nil))) .nil)))) .nil))))) .nil)) .nil))) .nil)) .nil)) .nil))
theorem Oz:aB ["walk","question","around","kinds","stock","path","place","part"] ["walk","question","around"] (ag (aa 25)):=⟨rfl,rfl,rfl,by decide +kernel,rfl,by decide +kernel,by decide +kernel⟩
theorem OA:aF nm 40 ["walk","question","around","kinds","stock","path","place","part"] (ag (aa 25)) (ax (aa 25))=uk:=by kernel_rfl
noncomputable abbrev Vp (w:Wo):a0 w:={ cs:=[(0,je),(13,Bn)],ms:=[(1,fD w),(2,eo w)] }
theorem OB (O:Lw w):FO w 12 2 (Bq w):=by
  refine aI O.ok O.hn _ ⟨"begin_kinds",aa 25,["walk","question","around"]⟩ (by rw[O.hd];rfl) (Vp w) { cs:=⟨⟨1,by decide,km O⟩,⟨1,by decide,Om O⟩,trivial⟩,ms:=⟨⟨1,by decide,jf O⟩,⟨1,by decide,jg O⟩,trivial⟩ } Oz OA λds M Q _ h=>?_;obtain⟨M0,x,a,b,ws,fs,K,S,ps,q,rfl,rfl,W,jY,ko,eg,hu,h⟩:=h;have m3:w.ca 0=w.mc 2:=(O.mc _ (by decide)).symm;have m2:w.ca 0=w.mc 1:=(O.mc _ (by decide)).symm;obtain⟨dx,hx⟩:=W.gx (ws:=ws) (fs:=fs);rcases h with ⟨y,d,rfl,hv,h⟩ |⟨y,d,rfl,⟨kvs,hc,hv⟩,h⟩ |⟨y,qa,qb,hq,h⟩ |⟨pl,h⟩
  · refine⟨rfl,rfl,_,rfl,aq (aN (by decide) ⟨_,dx,_,hx,m3,bq (by decide +kernel) (by decide +kernel),_,rfl,_,K,y,_,d,rfl,.inl rfl,hv,x,a,b,dx,d,fs,rfl,hx,Wm.gb,Yp eg (by decide),?_⟩)⟩;rw[Wm.pb];exact ar h
  · refine⟨rfl,rfl,_,rfl,aq (ay (by decide) ⟨_,rfl,aq (aN (by decide) ⟨_,dx,_,hx,m3,bq (by decide +kernel) (by decide +kernel),_,rfl,_,kvs,y,_,d,rfl,hc,hv,l2,x,a,b,dx,_,fs,rfl,hx,Wm.gb,Yp eg (by decide),?_⟩)⟩)⟩;rw[Wm.pb];exact ar h
  · have go : ∀ z, z = .tup [.str (wd q), .str y, qD qa, qD qb] → (wd q = "for" ∨ wd q = "let") → Q .ai (Wm M0 a b (ws ++ [.tup [w.gv.getD 20 .ai, z, a5 K S ps], ba w 18 qa (a5 K S (ps ++ [.int 0]))]) fs) →
        ([D.ref x,z,a5 K S ps]).length=3/\B.w (Vp w).wd nm.aj uk (a9 Q) [some (.ref x),some z,some (a5 K S ps),none,none,none,none,none] (Wm M0 a b ws fs):=by
      rintro z rfl hz h;have nv:wd q≠"var":=(by rcases hz with e |e <;> rw[e] <;> decide);have nt:wd q≠"table":=(by rcases hz with e |e <;> rw[e] <;> decide);have WL:cB (.str (wd q)) [D.str "for",D.str "let"]=true:=(by rcases hz with e |e <;> rw[e] <;> decide +kernel);refine⟨rfl,rfl,_,rfl,aq (bw nv ⟨_,rfl,aq (bw nt ⟨_,rfl,l2,Br WL (aN rfl ?_)⟩)⟩)⟩;refine⟨_,dx,_,hx,m2,bq (by decide +kernel) (by decide +kernel),x,a,b,dx,_,_,_,ws,rfl,hx,W.ga,Yp ko (by decide),?_⟩;rw[W.pa];obtain⟨dy,hy⟩:=W.gx (ws:=ws++[.tup [w.gv.getD 20 .ai,.tup [.str (wd q),.str y,qD qa,qD qb],a5 K S ps]]) (fs:=fs);refine⟨_,dy,_,hy,m2,bq (by decide +kernel) (by decide +kernel),_,rfl,l1,Xz (by simp;lia:_<=1000001) (by decide),l3,?_⟩;refine⟨x,a,b,dy,_,_,_,_,rfl,hy,W.ga,XC (by simp;lia:_<=1000001) (by decide),?_⟩;rw[W.pa,Yb];exact ar h
    rcases hq with rfl |rfl
    · exact go _ rfl (.inl rfl) h
    · exact go _ rfl (.inr rfl) h
  · obtain⟨r,e⟩:=dE q;have nf:=Oy pl.f pl.l;have nl:(us q).length<sizeLine:=Yp hu (by decide);have go:∀ z,z=qD q->([D.ref x,z,a5 K S ps]).length=3/\B.w (Vp w).wd nm.aj uk (a9 Q) [some (.ref x),some z,some (a5 K S ps),none,none,none,none,none] (Wm M0 a b ws fs):=by
      intro z hz;have hz':z=.tup (.str (wd q)::r):=hz.trans e;subst hz';refine⟨rfl,rfl,_,eh,aq (bw (Ox pl.v) ⟨_,eh,aq (bw (uj pl.t) ⟨_,eh,l2,Br nf (ay (by decide) ?_)⟩)⟩)⟩;refine⟨_,dx,_,hx,m2,bq (by decide +kernel) (by decide +kernel),x,a,b,dx,_,_,_,ws,rfl,hx,W.ga,Yp ko (by decide),?_⟩;rw[W.pa];have Op:D.tup [w.gv.getD 21 .ai,.tup (.str (wd q)::r),a5 K S ps]=ba w 21 q (a5 K S ps):=(by unfold ba;rw[e]);refine⟨q,by rw[e];rfl,hu,by simpa using nl,.inl ?_⟩;refine dW (λxs τ M'=>∃ rest done v6 v7,us q=rest++done/\xs=(gG (rest.map qD)).reverse/\τ=[some (.ref x),some (.tup (.str (wd q)::r)),some (a5 K S ps),some (dD K),some S,some (.tup ps),v6,v7] /\
        M'=Wm M0 a b (ws++[ba w 21 q (a5 K S ps)]++(dk w K S ps rest.length done).reverse) fs/\done.length<100) ?_ ?_ _ _ _ ⟨us q,[],none,none,by simp,rfl,rfl,?_,by simp⟩
      · rintro τ M' ⟨rest,done,v6,v7,e1,e2,rfl,rfl,_⟩;have:rest=[]:=by
          rcases ZI rest with z |⟨r',q',z⟩
          · exact z
          · subst z;rw[Zm,XU,XD,YN,Bt,List.reverse_append]at e2;simp at e2
        subst this;rw[List.nil_append]at e1;rw[e1]at h;exact⟨trivial,.rfl (ar h)⟩
      · rintro y xs τ M' ⟨rest,done,v6,v7,e1,e2,rfl,rfl,hd⟩;refine⟨trivial,?_⟩;rcases ZI rest with z | ⟨r',q',z⟩
        · subst z;cases e2
        subst z;rw[Zm]at e1 e2;rw[Zm];rw[XU,XD,YN,Bt,List.reverse_append]at e2;cases e2;have hlen:(us q).length=r'.length+1+done.length:=(by rw[e1];simp;lia);obtain⟨dy,hy⟩:=W.gx (ws:=ws++[ba w 21 q (a5 K S ps)]++(dk w K S ps (r'++[q']).length done).reverse) (fs:=fs);refine λN hN=>⟨rfl,_,dy,_,hy,m2,bq (by decide +kernel) (by decide +kernel),l1,Xz (by simp;lia:_<=1000001) (by decide),l3,?_⟩;refine⟨x,a,b,dy,_,_,_,_,rfl,hy,W.ga,XC (?_:_<=2000000) (by decide),hN _ _ ⟨r',q'::done,_,_,by rw[e1];simp,rfl,rfl,?_,by rw[XG];lia⟩⟩
        · rw[XI,XI,Zs,ui];simp;lia
        · rw[W.pa];have WM:dk w K S ps r'.length (q'::done)=ba w 18 q' (a5 K S (ps++[.int r'.length]))::dk w K S ps (r'.length+1) done:=(by rw[dk]);rw[WM,Y1,<- Yb,XI,Xr];rfl
      · rw[<- Op,dk,List.reverse_nil,XO];rfl
    exact go _ rfl
variable {w:Wo}
noncomputable def OD:B:=.cons (.ret (.c (.bl true))) .nil
noncomputable def Bu:B:=.cons (.j7 (.v 3) (.cons (.set (.many [4,5]) (.mt .pop (.v 3) .nil)) (.cons (.cond (.cmp .NotEq (.ix (.v 4) (.c (.int 0))) (.ix (.v 5) (.c (.int 0)))) (.cons (.ret (.c (.bl false))) .nil) .nil) (.cons (.cond (.cmp .Eq (.ix (.v 4) (.c (.int 0))) (.c (.str "row"))) (.cons (.cond (.cmp .NotEq (.call 8 (.cons (.v 4) .nil)) (.call 8 (.cons (.v 5) .nil))) (.cons (.ret (.c (.bl false))) .nil) .nil) (.cons (.ex (.mt .extend (.v 3) (.cons (.lc 2 [] (.many [0,1]) (.zip (.ix (.v 4) (.c (.int 1))) (.ix (.v 5) (.c (.int 1)))) .au (.tup (.cons (.ix (.v 0) (.c (.int 1))) (.cons (.ix (.v 1) (.c (.int 1))) .nil)))) .nil))) .nil)) .nil) (.cons (.cond (.cmp .Eq (.ix (.v 4) (.c (.int 0))) (.c (.str "bag"))) (.cons (.ex (.mt .extend (.v 3) (.cons (.lc 1 [5] (.one 0) (.seq (.app (.v 2) (.cons (.v 4) .nil))) .au (.tup (.cons (.v 0) (.cons (.ix (.v 1) (.c (.int 1))) .nil)))) .nil))) .nil) .nil) .nil))))) OD
noncomputable def OE:B:=.cons (.set (.one 3) (.lst (.cons (.tup (.cons (.v 0) (.cons (.v 1) .nil))) .nil))) Bu
theorem OF:aB ["whole","kind","rows_of","waiting","part","wanted"] ["whole","kind","rows_of"] (ag (aa 19)):=⟨rfl,rfl,rfl,by decide +kernel,rfl,by decide +kernel,by decide +kernel⟩
theorem OG:aF nm 40 ["whole","kind","rows_of","waiting","part","wanted"] (ag (aa 19)) (ax (aa 19))=OE:=by kernel_rfl
def um:Sp:=λas M Q _=>∃x y,as=[.tup [x,y]]/\Q (.lst [y]) M
def OH (f:Addr):Sp:=λds M Q _=>∃k,ds=[kD k,kD k,.ref f]/\kz k<1000/\Q (.bl true) M
noncomputable abbrev Vq (w:Wo) (f:Addr):a0 w:={ cs:=[(8,Be)],ca:=λg sp=>g=f/\sp=um }
noncomputable def pr (k:Kd):D:=.tup [kD k,kD k]
noncomputable def bW:List Kd->Nat
 |[]=>0
 |k::r=>kz k+bW r
theorem pH:∀{a b:List Kd},bW (a++b)=bW a+bW b
 |[],b=>by rw[List.nil_append,bW];lia
 |k::a,b=>by rw[Y6,bW,bW,pH];lia
theorem OI (k:Kd):1<=kz k:=by cases k <;> (rw[kz];try lia)
theorem uo:∀a:List Kd,a.length<=bW a
 |[]=>XS _
 |k::r=>by have:=OI k;have:=uo r;rw[bW,XG];lia
theorem uq:∀fs:List (Str×Kd),bW (fs.map (·.2))+fs.length=mq fs
 |[]=>by rw[mq];rfl
 |(_,k)::r=>by have:=uq r;rw[XD,bW,mq,XG];show kz k+_+_=_;lia
theorem OJ {fs:List (Str×Kd)} (h:kz (.row fs)<1000):fs.length<1000:=by
 have:=uq fs;rw[kz]at h;lia
noncomputable def ur:S->B
 |.j7 _ b=>b
 |_=>.nil
theorem Bv:∀fs:List (Str×Kd),aO (fs.map λp=>D.str p.1)=true/\aT (fs.map λp=>D.str p.1)=0
 |[]=>⟨rfl,rfl⟩
 |(x,k)::r=>by obtain⟨h1,h2⟩:=Bv r;rw[XD,aO,aT,h1,h2];exact⟨rfl,rfl⟩
theorem OL {n:Bool}{fs:List (Str×Kd)}{M:Mp}{k:Bool->Prop} (q:k true):ft n (.lst (fs.map λp=>D.str p.1)) (.lst (fs.map λp=>D.str p.1)) M k:=by
 obtain⟨h1,h2⟩:=Bv fs;have ok:aG (.lst (fs.map λp=>D.str p.1))=true:=by rw[aG];exact h1
 refine .mk (.inl ⟨ok,ok,?_⟩) ?_
 ·show a8 (.lst _)<=100;rw[a8,h2];decide
 ·show k (aC (.lst _) (.lst _));rw[gH _ ok];exact q
theorem Bw (O:Lw w) {e:En}{wa f:Addr}{T7 d1:D}{M0:Mp} (hn:∀ v4 v5 ws,e.nx [some T7,some d1,some (.ref f),some (.ref wa),v4,v5] (up M0 wa (.lst ws))) :
  ∀(n:Nat) (ws:List Kd) v4 v5,bW ws<n->bW ws<1000->ir (E.w (Vq w f).wd nm.aj (.v 3)).2 (B.w (Vq w f).wd nm.aj (ur (i8 Bu))) e n [some T7,some d1,some (.ref f),some (.ref wa),v4,v5] (up M0 wa (.lst (ws.map pr)))
 | 0,ws,v4,v5,h,_=>by lia
 |n+1,ws,v4,v5,h,hz=>by
  rcases ZI ws with z |⟨r,k,z⟩
  ·subst z;exact .inl ⟨_,aw,hn _ _ _⟩
  subst z;rw[Zm]at h hz ⊢;rw[pH,bW,bW]at h hz;have cP:(!((r++[k]).map pr).isEmpty)=true:=by simp
  refine .inl ⟨_,aw,?_⟩;rw[cP];refine⟨.inl ⟨rfl,_,aw⟩,_,aw,pr k,by simp,rfl,?_⟩;have e1:up (up M0 wa (.lst ((r++[k]).map pr))) wa (.lst ((r++[k]).map pr).dropLast)=up M0 wa (.lst (r.map pr)):=by rw[_root_.N.cj,XU,XD,YN,List.dropLast_concat]
  rw[e1];have fin:=λ(rr:List Kd) v4 v5 (h1:bW rr+1<=kz k+bW r)=>Bw O hn n rr v4 v5 (by lia) (by lia);cases k with
  |num=>exact⟨_,rfl,_,rfl,aq (ay (by decide) ⟨_,rfl,aq (ay (by decide) ⟨_,rfl,aq (ay (by decide) (fin r _ _ (by rw[kz];lia)))⟩)⟩)⟩
  |word=>exact⟨_,rfl,_,rfl,aq (ay (by decide) ⟨_,rfl,aq (ay (by decide) ⟨_,rfl,aq (ay (by decide) (fin r _ _ (by rw[kz];lia)))⟩)⟩)⟩
  |ah k'=>
   refine⟨_,rfl,_,rfl,aq (ay (by decide) ⟨_,rfl,aq (ay (by decide) ⟨_,rfl,aq (aN (by decide) ?_)⟩)⟩)⟩;refine⟨.inl ⟨rfl,_,aw⟩,_,⟨rfl,rfl⟩,_,_,rfl,trivial,by decide,_,rfl,l2,trivial,(by show 1<sizeLine;decide),.inl ⟨_,aw,?_,?_⟩⟩
   ·have:=uo r;refine Xz (?_:_<=2000) (by decide);simp;lia
   ·have:=fin (r++[k']) (some (kD (.ah k'))) (some (kD (.ah k'))) (by rw[pH,bW,bW,kz];lia);rw[XU]at this;rw[_root_.N.cj];exact this
  |row fs=>
   have hl:=OJ (fs:=fs) (by lia);refine⟨_,rfl,_,rfl,aq (ay (by decide) ⟨_,rfl,aq (aN (by decide) ⟨fs,rfl,hl,fs,rfl,hl,OL (ay (by decide) ?_)⟩)⟩)⟩;refine⟨.inl ⟨rfl,_,aw⟩,_,rfl,_,rfl,?_⟩;show cX (λM=>True/\True) (.many [0,1]) gM _ _ _ (List.zipWith (λx y=>D.tup [x,y]) (bM fs) (bM fs)) [] _;rw[my,pG];refine i7 (λp:(Str×Kd)×(Str×Kd)=>.tup [.tup [.str p.1.1,kD p.1.2],.tup [.str p.2.1,kD p.2.2]]) (λp=>.tup [kD p.1.2,kD p.2.2]) (fs.zip fs) ?_ (Yp (by rw[Zg];lia:_<1000) (by decide)) (λp _ N hN=>?_) ?_
   ·exact⟨trivial,trivial⟩
   ·exact⟨rfl,_,rfl,_,rfl,l2,hN⟩
   ·refine .inl ⟨_,aw,?_,?_⟩
    ·have:=uo r;refine Xz (?_:_<=3000) (by decide);simp;lia
    ·have e2:(fs.zip fs).map (λp=>D.tup [kD p.1.2,kD p.2.2])=(fs.map (·.2)).map pr:=by
      clear fin e1 cP h hz hl
      induction fs with
      |nil=>rfl
      |cons g fs ih=>rw[YM,XD,ih];rfl
     rw[e2,_root_.N.cj,<- XU];exact⟨_,rfl,aq (ay (by decide) (fin (r++fs.map (·.2)) _ _ (by have:=uq fs;rw[pH,kz];lia)))⟩
theorem OO (O:Lw w) {f:Addr} (hf:cJ w.G 1 f um):FO w 10 2 (OH f):=by
 refine aI O.ok O.hn _ ⟨"fits",aa 19,["whole","kind","rows_of"]⟩ (by rw[O.hd];rfl) (Vq w f) { cs:=⟨⟨1,by decide,NZ O⟩,trivial⟩,ca:=?_ } OF OG λds M Q _ h=>?_
 ·rintro g sp ⟨rfl,rfl⟩;exact hf
 obtain⟨k,rfl,hz,h⟩:=h;refine⟨rfl,l2,l1,.inr λwa OP=>⟨1000,?_⟩⟩;refine Bw O (λv4 v5 ws=>?_) 1000 [k] none none (by rw[bW,bW];lia) (by rw[bW,bW];lia);exact zH OP rfl h
theorem OQ:aB ["one","other"] ["one","other"] (ag (aa 18)):=⟨rfl,rfl,rfl,by decide +kernel,rfl,by decide +kernel,by decide +kernel⟩
def Bx:Sp:=λds M Q _=>∃k,ds=[kD k,kD k]/\kz k<1000/\Q (.bl true) M
theorem OR (O:Lw w):FO w 9 3 Bx:=by
 refine Kj O.ok O.hn (kl:=0) (n:=30) (nl:=30) (ns:=["one","other"]) (lps:=["bag"]) (es:=.cons (.v 0) (.cons (.v 1) .nil)) (el:=.lst (.cons (.ix (.v 0) (.c (.int 1))) .nil)) (mj:=um) 9 10 ⟨"alike",aa 18,["one","other"]⟩ (by rw[O.hd];rfl) hA (λf fd q=>O.UZ f fd q) {} { cs:=trivial } OQ
  (λ_ _ _ _=>rfl) (λ_ _ _ _=>rfl) (by kernel_rfl) (by kernel_rfl) (by kernel_rfl) (by kernel_rfl) (by kernel_rfl) ⟨by kernel_rfl,by kernel_rfl,by kernel_rfl,by decide +kernel,by decide +kernel,by decide +kernel,by decide +kernel⟩ (by decide +kernel) (λq pm c ctv K=>bE.all λus h=>?_) (by kernel_rfl) (λe l=>⟨{},{ cs:=trivial },λds M Q E hs=>?_⟩) λds M Q E hs=>?_
 ·match us,h with
  |[_],_=>rfl
 ·obtain⟨x,y,rfl,q⟩:=hs;exact⟨rfl,_,rfl,(by show 1<=sizeLine;decide),.inl (ar q)⟩
 ·obtain⟨k,rfl,hz,q⟩:=hs;exact⟨rfl,λe f l hh=>⟨_,OO (O.at l) hh,k,rfl,hz,ar q⟩⟩
noncomputable def OU:B:=(.cons (.ret (.ite (.call 9 (.cons (.ix (.v 1) (.c (.int 0))) (.cons (.ix (.v 1) (.c (.int 1))) .nil))) (.call 23 (.cons (.v 0) (.cons (.v 1) .nil))) (.c .ai))) .nil)
theorem OV:aB ["question","below"] ["question","below"] (ag (aa 36)):=⟨rfl,rfl,rfl,by decide +kernel,rfl,by decide +kernel,by decide +kernel⟩
theorem OW:aF nm 40 ["question","below"] (ag (aa 36)) (ax (aa 36))=OU:=by kernel_rfl
noncomputable abbrev OX (w:Wo):a0 w:={ cs:=[(9,Bx),(23,dj λ_ ks d=>∃pre k,ks=pre++[kD (.ah k)]/\d=kD (.ah k))] }
theorem OY (O:Lw w):FO w 22 4 (dj λ_ ks d=>∃k,kz k<900/\ks=[kD (.ah k),kD (.ah k)]/\d=kD (.ah k)):=by
 refine aI O.ok O.hn _ ⟨"both_kind",aa 36,["question","below"]⟩ (by rw[O.hd];rfl) (OX w) { cs:=⟨⟨3,by decide,OR O⟩,⟨1,by decide,Bb O⟩,trivial⟩ } OV OW λds M Q _ h=>?_;obtain⟨q,ks,d,rfl,⟨k,hz,rfl,rfl⟩,h⟩:=h;exact⟨rfl,_,rfl,_,rfl,.ah k,rfl,by rw[kz];lia,q,_,_,rfl,⟨[kD (.ah k)],k,rfl,rfl⟩,ar h⟩
theorem OZ (O:Lw w):∀p∈fE,cJ w.G 5 (a' w p.1) (dj p.2):=by
 intro p hp;unfold fE at hp;simp only[Yh,XR,or_false]at hp;rcases hp with rfl |rfl |rfl |rfl |rfl |rfl |rfl |rfl |rfl |rfl |rfl
 ·exact FO.ck ((Ni O).mono (by decide)) (d:=⟨"plain_kind",aa 30,["question","below"]⟩) (by rw[O.hd];rfl)
 ·exact FO.ck ((N1 O).mono (by decide)) (d:=⟨"row_kind",aa 31,["question","below"]⟩) (by rw[O.hd];rfl)
 ·exact FO.ck ((Oa O).mono (by decide)) (d:=⟨"part_kind",aa 32,["question","below"]⟩) (by rw[O.hd];rfl)
 ·exact FO.ck ((NV O).mono (by decide)) (d:=⟨"number_kind",aa 33,["question","below"]⟩) (by rw[O.hd];rfl)
 ·exact FO.ck ((Nh O).mono (by decide)) (d:=⟨"none_kind",aa 34,["question","below"]⟩) (by rw[O.hd];rfl)
 ·exact FO.ck ((Nj O).mono (by decide)) (d:=⟨"one_kind",aa 35,["question","below"]⟩) (by rw[O.hd];rfl)
 ·exact FO.ck ((OY O).mono (by decide)) (d:=⟨"both_kind",aa 36,["question","below"]⟩) (by rw[O.hd];rfl)
 ·exact FO.ck ((Bb O).mono (by decide)) (d:=⟨"last_bag_kind",aa 37,["question","below"]⟩) (by rw[O.hd];rfl)
 ·exact FO.ck ((NX O).mono (by decide)) (d:=⟨"same_kind",aa 38,["question","below"]⟩) (by rw[O.hd];rfl)
 ·exact FO.ck ((NW O).mono (by decide)) (d:=⟨"under_kind",aa 39,["question","below"]⟩) (by rw[O.hd];rfl)
 ·exact FO.ck ((Nk O).mono (by decide)) (d:=⟨"truth_kind",aa 40,["question","below"]⟩) (by rw[O.hd];rfl)
variable {w:Wo}
noncomputable def By:B:=(.cons (.j7 (.fld (.v 0) "waiting") (.cons (.set (.many [1,2,3]) (.mt .pop (.fld (.v 0) "waiting") .nil)) (.cons (.ex (.app (.v 1) (.cons (.v 0) (.cons (.v 2) (.cons (.v 3) .nil))))) .nil))) (.cons (.ret (.mt .pop (.fld (.v 0) "found") .nil)) .nil))
theorem uv:aB ["self","step","question","around"] ["self"] (ag (bh (aa 11) 4)):=⟨rfl,rfl,rfl,by decide +kernel,rfl,by decide +kernel,by decide +kernel⟩
theorem uw:aF nm 40 ["self","step","question","around"] (ag (bh (aa 11) 4)) (ax (bh (aa 11) 4))=By:=by kernel_rfl
noncomputable abbrev UC (w:Wo) (ca:Addr->Sp->Prop):a0 w:={ ca:=ca }
def Lp (w:Wo) (ca:Addr->Sp->Prop) (e:En) (n:Nat) (x:Addr) (M:Mp):Prop:=∀u v z,ir (E.w (UC w ca).wd nm.aj (.fld (.v 0) "waiting")).2 (B.w (UC w ca).wd nm.aj (ur (i8 By))) e n [some (.ref x),u,v,z] M
theorem b0 (O:Lw w) {ca:Addr->Sp->Prop}{e:En}{n:Nat}{M0:Mp}{x a b:Addr}{ws fs:List D}{f:Addr}{sp:Sp}{qd r:D} (hc:ca f sp) (W:Wc (w.ca 0) M0 x a b)
  (h:∀Q:QK,(∀d M',Lp w ca e n x M'->Q d M')->sp [.ref x,qd,r] (Wm M0 a b ws fs) Q X0):Lp w ca e (n+1) x (Wm M0 a b (ws++[.tup [.ref f,qd,r]]) fs):=by
 intro u v z;obtain⟨dx,hx⟩:=W.gx (ws:=ws++[.tup [.ref f,qd,r]]) (fs:=fs);refine⟨_,dx,_,hx,.ref a,O.fw,rfl,.inl ⟨_,W.ga,?_⟩⟩;have cP:(!(ws++[D.tup [.ref f,qd,r]]).isEmpty)=true:=by simp
 rw[cP];refine⟨_,dx,_,hx,.ref a,O.fw,rfl,.inl ⟨rfl,_,W.ga⟩,_,W.ga,.tup [.ref f,qd,r],by simp,rfl,sp,hc,?_⟩;rw[List.dropLast_concat,W.pa];exact h _ λd M' z=>z _ _ _
theorem ux (O:Lw w) {ca:Addr->Sp->Prop}{e:En}{n:Nat}{M0:Mp}{x a b:Addr}{fs:List D} (W:Wc (w.ca 0) M0 x a b) (h:∀u v z,e.nx [some (.ref x),u,v,z] (Wm M0 a b [] fs)):Lp w ca e (n+1) x (Wm M0 a b [] fs):=by
 intro u v z;obtain⟨dx,hx⟩:=W.gx (ws:=[]) (fs:=fs);exact⟨_,dx,_,hx,.ref a,O.fw,rfl,.inl ⟨_,W.ga,h u v z⟩⟩
mutual
noncomputable def Nt:Qn->Nat
 |.var _=>1 |.tab _=>1
 |.for _ a b=>3+Nt a+Nt b
 |.let _ a b=>2+Nt a+Nt b
 |.row fs=>2+Nr fs
 |.at _ q=>2+Nt q
 |.add a b=>2+Nt a+Nt b
 |.mul a b=>2+Nt a+Nt b
 |.one q=>2+Nt q
 |.both a b=>2+Nt a+Nt b
 |.times _ q=>2+Nt q
 |.aL a b=>2+Nt a+Nt b
 |.same a b=>2+Nt a+Nt b
 |.under a b=>2+Nt a+Nt b
 |.and a b=>2+Nt a+Nt b
 |.or a b=>2+Nt a+Nt b
 |.not q=>2+Nt q
 |.num _=>2 |.word _=>2 |.none _=>2
noncomputable def Nr:List (Str×Qn)->Nat
 |[]=>0
 |(_,q)::r=>Nt q+Nr r
end
noncomputable def Nl:List Qn->Nat
 |[]=>0
 |q::r=>Nt q+Nl r
theorem Bz:∀fs:List (Str×Qn),Nl (fs.map (·.2))=Nr fs
 |[]=>by rw[Nr];rfl
 |(x,q)::r=>by rw[Nr,<- Bz r];rfl
theorem O0 {q:Qn} (h1:∀y,q≠.var y) (h2:∀y,q≠.tab y) (h3:wd q≠"for") (h4:wd q≠"let"):Nt q=2+Nl (us q):=by
 cases q with
 |var y=>exact absurd rfl (h1 y)
 |tab y=>exact absurd rfl (h2 y)
 | «for»=>exact absurd rfl h3
 | «let»=>exact absurd rfl h4
 |row fs=>rw[Nt,us,Bz]
 |_=>simp [Nt,us,Nl] <;> lia
theorem fF {a k:Key}{v:D}{r:List (Key×D)}:aJ ((a,v)::r) k=if a=k then some v else aJ r k:=by
 unfold aJ;rw[Zr];by_cases h:a=k
 ·simp [h]
 ·simp [h]
theorem uy {k k':Key}{d:D} (h:k'≠k):∀r:List (Key×D),aJ (r.map λkv=>if kv.1=k then (kv.1,d) else kv) k'=aJ r k'
 |[]=>rfl
 |(a,v)::r=>by
  rw[XD];by_cases e:a=k
  ·rw[if_pos e,fF,fF,if_neg (λz=>h (by rw[<- z,e])),if_neg (λz=>h (by rw[<- z,e])),uy h r]
  ·rw[if_neg e,fF,fF,uy h r]
theorem BA {k:Key}{d:D}:∀r:List (Key×D),(r.any λkv=>decide (kv.1=k))=true->aJ (r.map λkv=>if kv.1=k then (kv.1,d) else kv) k=some d
 |[],h=>by cases h
 |(a,v)::r,h=>by
  rw[XD];by_cases e:a=k
  ·rw[if_pos e,fF,if_pos e]
  ·rw[if_neg e,fF,if_neg e];rw[Y2,decide_eq_false e,Bool.false_or]at h;exact BA r h
theorem BB {kvs:List (Key×D)}{k k':Key}{d:D}:aJ (aY kvs k d) k'=if k'=k then some d else aJ kvs k':=by
 unfold aY;by_cases h:(kvs.any λkv=>decide (kv.1=k))=true
 ·rw[if_pos h];by_cases e:k'=k
  ·subst e;rw[if_pos rfl,BA kvs h]
  ·rw[if_neg e,uy e]
 ·rw[if_neg h]
  induction kvs with
  |nil=>
   rw[List.nil_append,fF];by_cases e:k'=k
   ·rw[if_pos e,if_pos e.symm]
   ·rw[if_neg e,if_neg (YZ e)]
  |cons p r ih=>
   obtain⟨a,v⟩:=p;have h':¬a=k/\¬(r.any λkv=>decide (kv.1=k))=true:=by
    rw[Y2]at h;exact⟨λz=>h (by simp [z]),λz=>h (by rw[z,Bool.or_true])⟩
   rw[Y6,fF,fF,ih h'.2];by_cases e:k'=k
   ·subst e;rw[if_neg h'.1,if_pos rfl,if_pos rfl]
   ·rw[if_neg e,if_neg e]
theorem BC {kvs:List (Key×D)}{k:Key}{d:D}:(aY kvs k d).length<=kvs.length+1:=by
 unfold aY;split <;> simp
mutual
noncomputable def dn:Qn->Nat
 |.var _=>1 |.tab _=>1 |.num _=>1 |.word _=>1 |.none _=>1
 |.for _ a b=>1+max (dn a) (dn b)
 |.let _ a b=>1+max (dn a) (dn b)
 |.row fs=>1+kq fs
 |.at _ q=>1+dn q
 |.add a b=>1+max (dn a) (dn b)
 |.mul a b=>1+max (dn a) (dn b)
 |.one q=>1+dn q
 |.both a b=>1+max (dn a) (dn b)
 |.times _ q=>1+dn q
 |.aL a b=>1+max (dn a) (dn b)
 |.same a b=>1+max (dn a) (dn b)
 |.under a b=>1+max (dn a) (dn b)
 |.and a b=>1+max (dn a) (dn b)
 |.or a b=>1+max (dn a) (dn b)
 |.not q=>1+dn q
noncomputable def kq:List (Str×Qn)->Nat
 |[]=>0
 |(_,q)::r=>max (dn q) (kq r)
end
noncomputable def fG:List Qn->Nat
 |[]=>0
 |q::r=>max (dn q) (fG r)
theorem BD:∀fs:List (Str×Qn),fG (fs.map (·.2))=kq fs
 |[]=>by rw[kq];rfl
 |(x,q)::r=>by rw[kq,<- BD r];rfl
theorem uz (q:Qn):dn q=1+fG (us q):=by
 cases q with
 |row fs=>rw[dn,us,BD]
 |_=>simp [dn,us,fG]
mutual
inductive Tk (S:Str->Option Kd):Sc->Qn->D->Prop
 |var {G y k}:lk y G=some k->Tk S G (.var y) (kD k)
 |tab {G y k}:S y=some k->Tk S G (.tab y) (kD (.ah k))
 |for {G y a b k l}:Tk S G a (kD (.ah l))->Tk S ((y,l)::G) b (kD (.ah k))->Tk S G (.for y a b) (kD (.ah k))
 |let {G y a b l d}:Tk S G a (kD l)->Tk S ((y,l)::G) b d->Tk S G (.let y a b) d
 |cY {G q ks d}:Pl q->hV S G (us q) ks->mz q ks d->(us q).length<100->Tk S G q d
inductive hV (S:Str->Option Kd):Sc->List Qn->List D->Prop
 |nil {G}:hV S G [] []
 |cons {G q r d s}:Tk S G q d->hV S G r s->hV S G (q::r) (d::s)
end
theorem hV.len {S:Str->Option Kd}:∀{G:Sc}{qs:List Qn}{ks:List D},hV S G qs ks->ks.length=qs.length
 |_,_,_,.nil=>rfl
 |_,_,_,.cons _ r=>by rw[XG,XG,r.len]
def gr (K:List (Key×D)) (G:Sc):Prop:=∀y k,lk y G=some k->aJ K (.inr y)=some (kD k)
def kr (v:D) (S:Str->Option Kd) (M:Mp):Prop:=∀y k,S y=some k->∃kvs,hU v kvs M/\aJ kvs (.inr y)=some (kD k)
def uA (v:D) (S:Str->Option Kd) (M0:Mp) (a b:Addr):Prop:=∀ws fs,kr v S (Wm M0 a b ws fs)
theorem gr.put {K:List (Key×D)}{G:Sc}{y:Str}{l:Kd} (h:gr K G):gr (aY K (.inr y) (kD l)) ((y,l)::G):=λz k e=>by
 rw[BB];rw[lk]at e;by_cases c:z=y
 ·rw[if_pos c]at e;cases e;rw[if_pos (by rw[c])]
 ·rw[if_neg c]at e;rw[if_neg (λx=>c (ZR x))];exact h z k e
structure VR (n m:Nat) (ps ws fs:List D) (K:List (Key×D)):Prop where
 p:ps.length+(n+103 * m)<1000000
 w:ws.length+(n+103 * m)<1000000
 f:fs.length+(n+103 * m)<1000000
 k:K.length+m<1000
theorem mC (O:Lw w) {q:Qn}{r:D}:ba w 18 q r=.tup [.ref (a' w "begin_kinds"),qD q,r]:=by unfold ba;rw[O.gb]
theorem fN (O:Lw w) {q:Qn}{r:D}:ba w 20 q r=.tup [.ref (a' w "bind"),qD q,r]:=by unfold ba;rw[O.gd]
theorem O3 (O:Lw w) {q:Qn}{r:D}:ba w 21 q r=.tup [.ref (a' w "finish"),qD q,r]:=by unfold ba;rw[O.gf]
def ji (w:Wo) (f:Addr) (sp:Sp):Prop:=(f=a' w "begin_kinds"/\sp=Bq w)\/(f=a' w "bind"/\sp=Bp w)\/(f=a' w "finish"/\sp=Bj w)
theorem O4 {y:Str}{a b:Qn}{k:Kd}:mz (.for y a b) [kD (.ah k)] (kD (.ah k)):=by
 have hm:((("last_bag_kind" : Str),λ(_:Qn) (ks:List D) (d:D)=>∃pre k,ks=pre++[kD (.ah k)]/\d=kD (.ah k)):Str×(Qn->List D->D->Prop))∈fE:=by
  unfold fE
  iterate 7 refine XB _ ?_
  exact XA
 exact⟨⟨_,rfl⟩,_,hm,(by decide +kernel:(("for" : Str),("last_bag_kind" : Str))∈bz),[],k,rfl,rfl⟩
section
variable {e:En}{n:Nat}{M0:Mp}{x a b:Addr}{ws fs:List D}{K:List (Key×D)}{S':D}{ps:List D}
theorem BE (O:Lw w) {ks:List D}{q:Qn}{r d:D} (W:Wc (w.ca 0) M0 x a b) (hk:ks.length=if wd q="for" then 1 else (us q).length) (hu:(us q).length<100) (hf:fs.length<1000000) (F:mz q ks d)
  (k:Lp w (ji w) e n x (Wm M0 a b ws (fs++[d]))):Lp w (ji w) e (n+1) x (Wm M0 a b (ws++[ba w 21 q r]) (fs++ks)):=by
 rw[O3 O];exact b0 O (.inr (.inr ⟨rfl,rfl⟩)) W λQ hQ=>⟨M0,x,a,b,ws,q,r,fs,ks,d,rfl,rfl,W,hk,hu,hf,F,hQ _ _ k⟩
end
def BF (w:Wo) (S:Str->Option Kd) (G:Sc) (q:Qn) (d:D):Prop:=∀ {e:En}{n:Nat}{M0:Mp}{x a b:Addr}{ws fs:List D}{K:List (Key×D)}{S':D}{ps:List D},Wc (w.ca 0) M0 x a b->gr K G->uA S' S M0 a b->VR 0 (dn q) ps ws fs K ->
  Lp w (ji w) e n x (Wm M0 a b ws (fs++[d]))->Lp w (ji w) e (n+Nt q) x (Wm M0 a b (ws++[ba w 18 q (a5 K S' ps)]) fs)
def O5 (w:Wo) (S:Str->Option Kd) (G:Sc) (qs:List Qn) (ks:List D):Prop:=∀ {e:En}{n i:Nat}{M0:Mp}{x a b:Addr}{ws fs:List D}{K:List (Key×D)}{S':D}{ps:List D},Wc (w.ca 0) M0 x a b->gr K G->uA S' S M0 a b->VR (1+qs.length) (fG qs) ps ws fs K ->
  Lp w (ji w) e n x (Wm M0 a b ws (fs++ks))->Lp w (ji w) e (n+Nl qs) x (Wm M0 a b (ws++(dk w K S' ps i qs).reverse) fs)
theorem O6 (O:Lw w) {S:Str->Option Kd}{G:Sc}{q:Qn}{d:D} (t:Tk S G q d):BF w S G q d:=by
 refine @Tk.rec S (λG q d _=>BF w S G q d) (λG qs ks _=>O5 w S G qs ks) ?_ ?_ ?_ ?_ ?_ ?_ ?_ _ _ _ t
 ·intro G y k h e n M0 x a b ws fs K S' ps W rg rs B k';rw[Nt];have b1:=B.p;have b2:=B.w;have TX:=B.f
  rw[mC O];exact b0 O (.inl ⟨rfl,rfl⟩) W λQ hQ=>⟨M0,x,a,b,ws,fs,K,S',ps,_,rfl,rfl,W,by lia,by lia,by lia,(by decide:0<100),.inl ⟨y,_,rfl,rg _ _ h,hQ _ _ k'⟩⟩
 ·intro G y k h e n M0 x a b ws fs K S' ps W rg rs B k';rw[Nt];have b1:=B.p;have b2:=B.w;have TX:=B.f
  rw[mC O];exact b0 O (.inl ⟨rfl,rfl⟩) W λQ hQ=>⟨M0,x,a,b,ws,fs,K,S',ps,_,rfl,rfl,W,by lia,by lia,by lia,(by decide:0<100),.inr (.inl ⟨y,_,rfl,rs _ _ _ _ h,hQ _ _ k'⟩)⟩
 ·intro G y qa qb k l _ _ t1 t2 e n M0 x a b ws fs K S' ps W rg rs B k';have b1:=B.p;have b2:=B.w;have TX:=B.f;have b4:=B.k
  rw[Nt];rw[dn]at b1 b2 TX b4;rw[mC O,show n+(3+Nt qa+Nt qb)=(n+1+Nt qb+1+Nt qa)+1 by lia];refine b0 O (.inl ⟨rfl,rfl⟩) W λQ hQ=>⟨M0,x,a,b,ws,fs,K,S',ps,_,rfl,rfl,W,by lia,by lia,by lia,(by decide:2<100),.inr (.inr (.inl ⟨y,qa,qb,.inl rfl,hQ _ _ ?_⟩))⟩;rw[show ws++[ba w 20 (.for y qa qb) (a5 K S' ps),ba w 18 qa (a5 K S' (ps++[.int 0]))]=(ws++[ba w 20 (.for y qa qb) (a5 K S' ps)])++[ba w 18 qa (a5 K S' (ps++[.int 0]))] by simp];refine t1 W rg rs ⟨by simp;lia,by simp;lia,by lia,by lia⟩ ?_;rw[fN O];have pl:=@BC K (.inr y) (kD l);refine b0 O (.inr (.inl ⟨rfl,rfl⟩)) W λQ hQ=>⟨M0,x,a,b,ws,fs,K,S',ps,_,y,qa,qb,l,rfl,by lia,by lia,by lia,W,.inl ⟨rfl,rfl,hQ _ _ ?_⟩⟩;rw[show ws++[ba w 21 (.for y qa qb) (a5 K S' ps),ba w 18 qb (a5 (aY K (.inr y) (kD l)) S' (ps++[.int 1]))]=(ws++[ba w 21 (.for y qa qb) (a5 K S' ps)])++[ba w 18 qb (a5 (aY K (.inr y) (kD l)) S' (ps++[.int 1]))] by simp];refine t2 W rg.put rs ⟨by simp;lia,by simp;lia,by lia,by lia⟩ ?_;exact BE O W (by rw[if_pos (show wd (.for y qa qb)="for" from rfl)];rfl) (by decide:2<100) (by lia) O4 k'
 ·intro G y qa qb l d _ _ t1 t2 e n M0 x a b ws fs K S' ps W rg rs B k';have b1:=B.p;have b2:=B.w;have TX:=B.f;have b4:=B.k
  rw[Nt];rw[dn]at b1 b2 TX b4;rw[mC O,show n+(2+Nt qa+Nt qb)=(n+Nt qb+1+Nt qa)+1 by lia];refine b0 O (.inl ⟨rfl,rfl⟩) W λQ hQ=>⟨M0,x,a,b,ws,fs,K,S',ps,_,rfl,rfl,W,by lia,by lia,by lia,(by decide:2<100),.inr (.inr (.inl ⟨y,qa,qb,.inr rfl,hQ _ _ ?_⟩))⟩;rw[show ws++[ba w 20 (.let y qa qb) (a5 K S' ps),ba w 18 qa (a5 K S' (ps++[.int 0]))]=(ws++[ba w 20 (.let y qa qb) (a5 K S' ps)])++[ba w 18 qa (a5 K S' (ps++[.int 0]))] by simp];refine t1 W rg rs ⟨by simp;lia,by simp;lia,by lia,by lia⟩ ?_;rw[fN O];have pl:=@BC K (.inr y) (kD l);refine b0 O (.inr (.inl ⟨rfl,rfl⟩)) W λQ hQ=>⟨M0,x,a,b,ws,fs,K,S',ps,_,y,qa,qb,l,rfl,by lia,by lia,by lia,W,.inr ⟨rfl,rfl,hQ _ _ ?_⟩⟩;exact t2 W rg.put rs ⟨by simp;lia,by lia,by lia,by lia⟩ k'
 ·intro G q ks d p ht F hu t e n M0 x a b ws fs K S' ps W rg rs B k';have hN:=O0 p.v p.t p.f p.l;have hb:=uz q;have b1:=B.p;have b2:=B.w;have TX:=B.f;have b4:=B.k
  rw[hN];rw[hb]at b1 b2 TX b4;rw[mC O,show n+(2+Nl (us q))=(n+1+Nl (us q))+1 by lia];refine b0 O (.inl ⟨rfl,rfl⟩) W λQ hQ=>⟨M0,x,a,b,ws,fs,K,S',ps,q,rfl,rfl,W,by lia,by lia,by lia,hu,.inr (.inr (.inr ⟨p,hQ _ _ ?_⟩))⟩;refine t W rg rs ⟨by lia,by simp;lia,by lia,by lia⟩ ?_;exact BE O W (by rw[if_neg p.f,ht.len]) hu (by lia) F k'
 ·intro G e n i M0 x a b ws fs K S' ps W rg rs B k';rw[dk,List.reverse_nil,XO];rw[XO]at k';exact k'
 ·intro G q r d s _ TF t ts e n i M0 x a b ws fs K S' ps W rg rs B k';have b1:=B.p;have b2:=B.w;have TX:=B.f;have b4:=B.k
  rw[Nl];rw[fG,XG]at b1 b2 TX;rw[fG]at b4;have TH:(dk w K S' ps (i+1) r).length=r.length:=ui;rw[dk,Y1,<- Yb,show n+(Nt q+Nl r)=n+Nl r+Nt q by lia];refine t W rg rs ⟨by simp;lia,by simp;lia,by lia,by lia⟩ ?_;refine ts W rg rs ⟨by lia,by lia,by simp;lia,by lia⟩ ?_;rw[Yb];exact k'
def BG (w:Wo):Sp:=λds M Q _=>∃M0 x a b K S' S G q d,ds=[.ref x]/\M=Wm M0 a b [ba w 18 q (a5 K S' [])] []/\Wc (w.ca 0) M0 x a b/\gr K G/\uA S' S M0 a b/\Tk S G q d/\dn q<500/\K.length<500/\Q d (Wm M0 a b [] [])
theorem O7 (O:Lw w):de w 4 7 (BG w):=by
 refine i5 O.ok O.hn _ ⟨"run",(bh (aa 11) 4),["self"]⟩ (by rw[O.hms];rfl) (UC w (ji w)) { cs:=trivial,ca:=?_ } uv uw λds M Q _ h=>?_
 ·rintro f sp (⟨rfl,rfl⟩ |⟨rfl,rfl⟩ |⟨rfl,rfl⟩)
  ·exact FO.ck ((OB O).mono (by decide)) (d:=⟨"begin_kinds",aa 25,["walk","question","around"]⟩) (by rw[O.hd];rfl)
  ·exact FO.ck ((Ow O).mono (by decide)) (d:=⟨"bind",aa 28,["walk","question","around"]⟩) (by rw[O.hd];rfl)
  ·exact FO.ck (Og O (OZ O)) (d:=⟨"finish",aa 29,["walk","question","around"]⟩) (by rw[O.hd];rfl)
 obtain⟨M0,x,a,b,K,S',S,G,q,d,rfl,rfl,W,rg,rs,t,hn,f7,h⟩:=h;refine⟨rfl,1+Nt q,?_⟩;refine O6 O t (ws:=[]) (fs:=[]) (n:=1) W rg rs ⟨by simp;lia,by simp;lia,by simp;lia,by lia⟩ (ux O W λ_ _ _=>?_) _ _ _;obtain⟨dx,hx⟩:=W.gx (ws:=[]) (fs:=[]++[d]);refine⟨_,dx,_,hx,.ref b,O.ff,rfl,.inl ⟨rfl,_,Wm.gb⟩,_,Wm.gb,d,rfl,?_⟩;rw[Wm.pb];exact ar h
theorem pI {C x dx a b:Addr}{M:Mp}{U4 i1:List (Str×D)}{ws fs:List D} (h1:M x=none) (h2:M dx=none) (h3:up (up M dx (.own x)) x (.ins C dx U4) a=none) (h4:up (up M dx (.own x)) x (.ins C dx U4) b=none) (n1:dx≠x) (n2:a≠b):cx M (Wm (up (up (up M dx (.own x)) x (.ins C dx U4)) x (.ins C dx i1)) a b ws fs)/\Wc C (up (up (up M dx (.own x)) x (.ins C dx U4)) x (.ins C dx [("waiting",.ref a),("found",.ref b)])) x a b:=by
 have xa:x≠a:=by rintro rfl;rw[aw]at h3;cases h3
 have xb:x≠b:=by rintro rfl;rw[aw]at h4;cases h4
 have da:dx≠a:=by rintro rfl;rw[az n1,aw]at h3;cases h3
 have db:dx≠b:=by rintro rfl;rw[az n1,aw]at h4;cases h4
 rw[az (YZ xa),az (YZ da)]at h3;rw[az (YZ xb),az (YZ db)]at h4;refine⟨KO (λc hc=>?_) λc e q cP=>?_,⟨dx,aw⟩,n2,xa,xb⟩
 ·unfold Wm;rw[az,az,az,az,az]
  ·rintro rfl;exact hc h2
  ·rintro rfl;exact hc h1
  ·rintro rfl;exact hc h1
  ·rintro rfl;exact hc h3
  ·rintro rfl;exact hc h4
 ·unfold Wm at q;by_cases VS:c=b
  ·subst VS;rw[aw]at q;cases q
  rw[az VS]at q;by_cases ca:c=a
  ·subst ca;rw[aw]at q;cases q
  rw[az ca]at q;by_cases Vr:c=x
  ·subst Vr;rw[aw]at q;cases q
  rw[az Vr,az Vr]at q;by_cases cd:c=dx
  ·subst cd;rw[aw]at q;cases q;exact absurd h1 cP
  rw[az cd]at q;exact q
noncomputable def O8:B:=.cons (.ret (.aU 4 (.v 3) .nil)) .nil
noncomputable def O9:B:=.cons (.ex (.aU 1 (.v 3) (.cons (.g 18) (.cons (.v 0) (.cons (.tup (.cons (.v 1) (.cons (.v 2) (.cons (.tup .nil) .nil)))) .nil))))) O8
noncomputable def Pa:B:=.cons (.set (.one 3) (.new 0 .nil)) O9
theorem Pb:aB ["question","kinds","stock","walk"] ["question","kinds","stock"] (ag (aa 24)):=⟨rfl,rfl,rfl,by decide +kernel,rfl,by decide +kernel,by decide +kernel⟩
theorem Pc:aF nm 40 ["question","kinds","stock","walk"] (ag (aa 24)) (ax (aa 24))=Pa:=by kernel_rfl
def BH:Sp:=λds M Q _=>∃K S' S G q d,ds=[qD q,dD K,S']/\gr K G/\kr S' S M/\Tk S G q d/\dn q<500/\K.length<500/\Q d M
noncomputable abbrev WN (w:Wo):a0 w:={ ms:=[(1,fD w),(4,BG w)],ci:=[(0,0,pF w)] }
theorem Pd (O:Lw w):FO w 11 8 BH:=by
 refine aI O.ok O.hn _ ⟨"kind_of",aa 24,["question","kinds","stock"]⟩ (by rw[O.hd];rfl) (WN w) { cs:=trivial,ms:=⟨⟨1,by decide,jf O⟩,⟨7,by decide,O7 O⟩,trivial⟩,ci:=⟨⟨O.mc _ (by decide),by rw[O.hms];rfl,1,by decide,ug O⟩,trivial⟩ } Pb Pc λds M Q _ h=>?_;obtain⟨K,S',S,G,q,d,rfl,rg,rs,t,hn,f7,h⟩:=h;have m2:w.ca 0=w.mc 1:=(O.mc _ (by decide)).symm;have m5:w.ca 0=w.mc 4:=(O.mc _ (by decide)).symm;refine⟨rfl,λx dx hx kt nd=>⟨x,dx,rfl,aw,λa b ha hb ne=>⟨rfl,?_⟩⟩⟩;obtain⟨sb,W⟩:=pI (i1:=[("waiting",.ref a),("found",.ref b)]) (ws:=[]) (fs:=[]) hx kt ha hb nd ne;obtain⟨dy,hy⟩:=W.gx (ws:=[]) (fs:=[]);refine⟨_,dy,_,hy,m2,bq (by decide +kernel) (by decide +kernel),XS _,l3,x,a,b,dy,_,_,_,[],rfl,hy,W.ga,by decide,?_⟩;rw[W.pa];obtain⟨UD,hz⟩:=W.gx (ws:=[]++[.tup [w.gv.getD 18 .ai,qD q,.tup [dD K,S',.tup []]]]) (fs:=[]);exact⟨_,UD,_,hz,m5,bq (by decide +kernel) (by decide +kernel),_,x,a,b,K,S',S,G,q,d,rfl,rfl,W,rg,λws fs y k e=>let ⟨kvs,h1,h2⟩:=rs y k e;⟨kvs,h1.up (pI (ws:=ws) (fs:=fs) hx kt ha hb nd ne).1.sub,h2⟩,t,hn,f7,mr sb h⟩
variable {w:Wo}
noncomputable def tD:D:=.tup [.str "truth"]
section
variable {S:Str->Option Kd}{G:Sc}
theorem Pe {i:Nat}{p:Str×(Qn->List D->D->Prop)} (h:fE[i]?=some p):p∈fE:=Yn h
theorem bT {q:Qn}{ks ds:List D} (i:Nat) {p:Str×(Qn->List D->D->Prop)} (h:fE[i]?=some p) (hp:p.2 q ks (.tup ds)) (ht:bz.any (λx=>decide (x=(wd q,p.1)))=true:=by rw[wd];decide +kernel):mz q ks (.tup ds):=by
 refine⟨⟨ds,rfl⟩,p,Pe h,?_,hp⟩;obtain⟨x,hx,e⟩:=List.any_eq_true.mp ht;rw[<- of_decide_eq_true e];exact hx
theorem pl {q:Qn} (h:wd q≠"var":=by rw[wd];decide) (h2:wd q≠"table":=by rw[wd];decide) (h3:wd q≠"for":=by rw[wd];decide) (h4:wd q≠"let":=by rw[wd];decide):Pl q:=⟨λy e=>h (by rw[e];rfl),λy e=>h2 (by rw[e];rfl),h3,h4⟩
theorem n0:0<100:=by decide
theorem n1:1<100:=by decide
theorem n2:2<100:=by decide
theorem Pf {i:Int}:Tk S G (.num i) (kD .num):=.cY pl .nil (bT 0 rfl (.inl ⟨⟨i,rfl⟩,rfl⟩)) n0
theorem Pg {i:Str}:Tk S G (.word i) (kD .word):=.cY pl .nil (bT 0 rfl (.inr ⟨⟨i,rfl⟩,rfl⟩)) n0
theorem Ph {k:Kd}:Tk S G (.none k) (kD (.ah k)):=.cY pl .nil (bT 4 rfl ⟨k,rfl,rfl⟩) n0
theorem Pj {q:Qn}{k:Kd} (h:Tk S G q (kD k)):Tk S G (.one q) (kD (.ah k)):=.cY pl (.cons h .nil) (bT 5 rfl ⟨k,rfl,rfl⟩) n1
theorem Pk {a b:Qn}{k:Kd} (hz:kz k<900) (h:Tk S G a (kD (.ah k))) (h':Tk S G b (kD (.ah k))):Tk S G (.both a b) (kD (.ah k)):=.cY pl (.cons h (.cons h' .nil)) (bT 6 rfl ⟨k,hz,rfl,rfl⟩) n2
theorem Pm {i:Int}{q:Qn}{k:Kd} (h:Tk S G q (kD (.ah k))):Tk S G (.times i q) (kD (.ah k)):=.cY pl (.cons h .nil) (bT 7 rfl ⟨[],k,rfl,rfl⟩) n1
theorem Pn {a b:Qn}{k:Kd} (h:Tk S G a tD) (h':Tk S G b (kD (.ah k))):Tk S G (.aL a b) (kD (.ah k)):=.cY pl (.cons h (.cons h' .nil)) (bT 7 rfl ⟨[tD],k,rfl,rfl⟩) n2
theorem Po {a b:Qn} (h:Tk S G a (kD .num)) (h':Tk S G b (kD .num)):Tk S G (.add a b) (kD .num):=.cY pl (.cons h (.cons h' .nil)) (bT 3 rfl ⟨rfl,rfl⟩) n2
theorem Pp {a b:Qn} (h:Tk S G a (kD .num)) (h':Tk S G b (kD .num)):Tk S G (.mul a b) (kD .num):=.cY pl (.cons h (.cons h' .nil)) (bT 3 rfl ⟨rfl,rfl⟩) n2
theorem BI {a b:Qn}{k:Kd} (hk:k=.num\/k=.word) (h:Tk S G a (kD k)) (h':Tk S G b (kD k)):Tk S G (.same a b) tD:=.cY pl (.cons h (.cons h' .nil)) (bT 8 rfl ⟨hk.imp (λe=>by rw[e]) (λe=>by rw[e]),rfl⟩) n2
theorem Pq {a b:Qn} (h:Tk S G a (kD .num)) (h':Tk S G b (kD .num)):Tk S G (.under a b) tD:=.cY pl (.cons h (.cons h' .nil)) (bT 9 rfl ⟨rfl,rfl⟩) n2
theorem Pr {a b:Qn} (h:Tk S G a tD) (h':Tk S G b tD):Tk S G (.and a b) tD:=.cY pl (.cons h (.cons h' .nil)) (bT 10 rfl rfl) n2
theorem Pt {a b:Qn} (h:Tk S G a tD) (h':Tk S G b tD):Tk S G (.or a b) tD:=.cY pl (.cons h (.cons h' .nil)) (bT 10 rfl rfl) n2
theorem Pu {a:Qn} (h:Tk S G a tD):Tk S G (.not a) tD:=.cY pl (.cons h .nil) (bT 10 rfl rfl) n1
theorem Pw {f:Str}{q:Qn}{fs:List (Str×Kd)}{k:Kd} (nd:(fs.map (·.1)).Nodup) (hf:lk f fs=some k) (h:Tk S G q (kD (.row fs))):Tk S G (.at f q) (kD k):=by
 have key:∀x,x=kD k->Tk S G (.at f q) x:=by
  intro x hx;obtain⟨ds,e⟩:∃ds,x=.tup ds:=by rw[hx];cases k <;> exact⟨_,by rw[kD]⟩
  subst e;exact .cY pl (.cons h .nil) (bT 2 rfl ⟨f,q,fs,k,rfl,rfl,nd,hf,hx⟩) (by show 1<100;decide)
 exact key _ rfl
theorem Px {fs:List (Str×Qn)} {κs:List Kd} (hl:fs.length<100) (hk:κs.length=fs.length) (h:hV S G (fs.map (·.2)) (κs.map kD)):Tk S G (.row fs) (kD (.row ((fs.map (·.1)).zip κs))):=by
 rw[kD];exact .cY pl h (bT 1 rfl ⟨fs,κs,rfl,rfl,hk,hl,by rw[kD]⟩) (by show (fs.map (·.2)).length<100;simpa using hl)
end
section
variable {S:Str->Option Kd}
theorem Py {G:Sc}{q:Qn}{k:Kd}:Ty S G q k->Tk S G q (kD k):=
 (Ty.all (P:=λG q k=>Tk S G q (kD k)) (L:=λG fs ks=>∃ κs:List Kd,κs.length=fs.length/\ks=(fs.map (·.1)).zip κs/\hV S G (fs.map (·.2)) (κs.map kD)) (C:=λG q=>Tk S G q tD)
  Pf Pg .var .tab (λ_ _=>Ph) (λl _ h=>by
   obtain⟨κs,e1,e2,e3⟩:=h;rw[e2];exact Px l e1 e3) (λn h e=>Pw n e h) Po Pp Pj Pk Pm (λ_=>.for) Pn (λ_=>.let) ⟨[],rfl,rfl,.nil⟩ (λ{_ _ _ k _ _} h e=>by
   obtain⟨κs,e1,e2,e3⟩:=e;exact⟨k::κs,by rw[XG,XG,e1],by rw[e2];rfl,.cons h e3⟩)
  (BI (.inl rfl)) (BI (.inr rfl)) Pq Pr Pt Pu).1
end
theorem j1 {m a:Nat} (h:m<=a):1+m<=1+a:=Nat.add_le_add_left h 1
theorem UE {m n a b:Nat} (h:m<=a) (e:n<=b):max m n<=max a b:=Nat.max_le.mpr ⟨Xz h (YU ..),Xz e (YC ..)⟩
theorem j2 {m n a b:Nat} (h:m<=a) (e:n<=b):1+max m n<=1+max a b:=j1 (UE h e)
mutual
theorem bC:∀q:Qn,dn q<=dq q
 |.row fs=>Nat.add_le_add (by decide) (BJ fs)
 |.at _ a=>j1 (bC a) |.one a=>j1 (bC a) |.times _ a=>j1 (bC a) |.not a=>j1 (bC a)
 |.add a b=>j2 (bC a) (bC b) |.mul a b=>j2 (bC a) (bC b) |.both a b=>j2 (bC a) (bC b) |.for _ a b=>Nat.add_le_add (by decide) (UE (bC a) (bC b)) |.aL a b=>j2 (bC a) (bC b) |.let _ a b=>j2 (bC a) (bC b)
 |.same a b=>j2 (bC a) (bC b) |.under a b=>j2 (bC a) (bC b) |.and a b=>j2 (bC a) (bC b) |.or a b=>j2 (bC a) (bC b)
 |.num _=>Xu _ |.word _=>Xu _ |.var _=>Xu _ |.tab _=>Xu _ |.none _=>XX ..
theorem BJ:∀fs:List (Str×Qn),kq fs<=bZ fs
 |[]=>Xu _
 |(_,q)::r=>UE (bC q) (BJ r)
end
variable {w:Wo}
mutual
noncomputable def aD:Qn->List Str
 |.tab x=>[x]
 |.row fs=>ku fs
 |.at _ q=>aD q
 |.one q=>aD q
 |.times _ q=>aD q
 |.not q=>aD q
 |.add a b=>aD a++aD b
 |.mul a b=>aD a++aD b
 |.both a b=>aD a++aD b
 |.for _ a b=>aD a++aD b
 |.aL a b=>aD a++aD b
 |.let _ a b=>aD a++aD b
 |.same a b=>aD a++aD b
 |.under a b=>aD a++aD b
 |.and a b=>aD a++aD b
 |.or a b=>aD a++aD b
 |.num _=>[] |.word _=>[] |.var _=>[] |.none _=>[]
noncomputable def ku:List (Str×Qn)->List Str
 |[]=>[]
 |(_,q)::r=>aD q++ku r
end
mutual
def wq:Qn->Prop
 |.row fs=>fs.length<100/\mD fs
 |.at _ q=>wq q
 |.one q=>wq q
 |.times _ q=>wq q
 |.not q=>wq q
 |.add a b=>wq a/\wq b
 |.mul a b=>wq a/\wq b
 |.both a b=>wq a/\wq b
 |.for _ a b=>wq a/\wq b
 |.aL a b=>wq a/\wq b
 |.let _ a b=>wq a/\wq b
 |.same a b=>wq a/\wq b
 |.under a b=>wq a/\wq b
 |.and a b=>wq a/\wq b
 |.or a b=>wq a/\wq b
 |.num _=>True |.word _=>True |.var _=>True |.none _=>True |.tab _=>True
def mD:List (Str×Qn)->Prop
 |[]=>True
 |(_,q)::r=>wq q/\mD r
end
noncomputable def bA:List Qn->Nat
 |[]=>0
 |q::r=>nq q+bA r
theorem uB:∀{a b:List Qn},bA (a++b)=bA a+bA b
 |[],b=>by rw[List.nil_append,bA];lia
 |q::r,b=>by rw[Y6,bA,bA,uB];lia
theorem BK:∀fs:List (Str×Qn),bA (fs.map (·.2))=bO fs
 |[]=>by rw[bO];rfl
 |(x,q)::r=>by rw[bO,<- BK r];rfl
theorem fH (q:Qn):nq q=1+bA (us q):=by
 cases q with
 |row fs=>rw[nq,us,BK]
 |_=>simp [nq,us,bA,Nat.add_assoc]
theorem BL:∀fs:List (Str×Qn),(fs.map (·.2)).flatMap aD=ku fs
 |[]=>by rw[ku];rfl
 |(x,q)::r=>by rw[ku,<- BL r];rfl
theorem Pz {q:Qn} (h:∀x,q≠.tab x):aD q=(us q).flatMap aD:=by
 cases q with
 |tab x=>exact absurd rfl (h x)
 |row fs=>rw[aD,us,BL]
 |_=>simp [aD,us]
theorem BM:∀fs:List (Str×Qn),mD fs->∀p∈fs.map (·.2),wq p
 |[],_,p,h=>by cases h
 |(x,q)::r,hw,p,h=>by
  rw[mD]at hw;rcases List.mem_cons.mp h with e |h
  ·rw[e];exact hw.1
  ·exact BM r hw.2 p h
theorem kx {q:Qn} (h:wq q):(us q).length<100/\∀p∈us q,wq p:=by
 cases q with
 |row fs=>rw[wq]at h;rw[us];exact⟨by simpa using h.1,BM fs h.2⟩
 |_=>simp [us] <;> simpa [wq] using h
structure Fq (S:Str->Option Kd) (q:Qn):Prop where
 w:wq q
 t:∀x∈aD q,∃l,S x=some l
section
variable {S:Str->Option Kd}
theorem f2 {a b:Qn} (h:Fq S a) (e:Fq S b):(wq a/\wq b)/\∀x∈aD a++aD b,∃l,S x=some l:=⟨⟨h.w,e.w⟩,λx z=>(List.mem_append.mp z).elim (h.t x) (e.t x)⟩
theorem eZ {q a b:Qn} (hw:wq q=(wq a/\wq b)) (ht:aD q=aD a++aD b) (h:Fq S a) (e:Fq S b):Fq S q:=⟨hw ▸ (f2 h e).1,ht ▸ (f2 h e).2⟩
theorem mE {G:Sc}{q:Qn}{k:Kd}:Ty S G q k->Fq S q:=
 (Ty.all (P:=λ_ q _=>Fq S q) (L:=λ_ fs _=>mD fs/\∀x∈ku fs,∃l,S x=some l) (C:=λ_ q=>Fq S q)
  ⟨ZO,λ_ z=>nomatch z⟩ ⟨ZO,λ_ z=>nomatch z⟩ (λ_=>⟨ZO,λ_ z=>nomatch z⟩) (λh=>⟨ZO,λx z=>by rw[List.mem_singleton.mp z];exact⟨_,h⟩⟩) (λ_ _=>⟨ZO,λ_ z=>nomatch z⟩) (λl _ h=>⟨⟨l,h.1⟩,h.2⟩) (λ_ h _=>⟨h.w,h.t⟩)
  (eZ rfl rfl) (eZ rfl rfl) (λh=>⟨h.w,h.t⟩) (λ_=>eZ rfl rfl) (λh=>⟨h.w,h.t⟩) (λ_=>eZ rfl rfl) (eZ rfl rfl) (λ_=>eZ rfl rfl) ⟨ZO,λ_ z=>nomatch z⟩ (λh e=>⟨⟨h.w,e.1⟩,λx z=>(List.mem_append.mp z).elim (h.t x) (e.2 x)⟩)
  (eZ rfl rfl) (eZ rfl rfl) (eZ rfl rfl) (eZ rfl rfl) (eZ rfl rfl) (λh=>⟨h.w,h.t⟩)).1
end
theorem pJ {x:Str}{p:Qn}:x∈aD p ↔ (p=.tab x\/x∈(us p).flatMap aD):=by
 by_cases h:∃y,p=.tab y
 ·obtain⟨y,rfl⟩:=h;simp [aD,us,eq_comm]
 ·rw[Pz λy e=>h ⟨y,e⟩];exact⟨.inr,λz=>z.elim (λe=>absurd ⟨x,e⟩ h) id⟩
theorem uC:∀l:List Qn,l.length<=bA l
 |[]=>Xu _
 |q::r=>by have:=uC r;rw[bA,fH,XG];lia
inductive Kn:Qn->Qn->Prop
 |rfl {q:Qn}:Kn q q
 |sub {p r q:Qn}:r∈us q->Kn p r->Kn p q
theorem uD {p q:Qn}:Kn p q ↔ p=q\/∃r∈us q,Kn p r:=⟨λh=>by
 cases h with
 |rfl=>exact .inl rfl
 |sub a b=>exact .inr ⟨_,a,b⟩,λh=>by
 rcases h with rfl |⟨r,a,b⟩
 ·exact .rfl
 ·exact .sub a b⟩
def e5 (p:Qn) (ws:List Qn):Prop:=∃r∈ws,Kn p r
theorem BN {p:Qn}{a b:List Qn}:e5 p (a++b) ↔ e5 p a\/e5 p b:=by
 unfold e5;constructor
 ·rintro⟨r,h,k⟩;rcases List.mem_append.mp h with h |h
  ·exact .inl ⟨r,h,k⟩
  ·exact .inr ⟨r,h,k⟩
 ·rintro (⟨r,h,k⟩ |⟨r,h,k⟩)
  ·exact⟨r,YV _ h,k⟩
  ·exact⟨r,List.mem_append_right _ h,k⟩
theorem PB {p q:Qn}:e5 p [q] ↔ p=q\/e5 p (us q):=by
 rw[show e5 p (us q) ↔ ∃r∈us q,Kn p r from Iff.rfl,<- uD];unfold e5;simp
theorem BO:∀{l:List Qn}{r:Qn},r∈l->nq r<=bA l
 |q::l,r,h=>by
  rw[bA];rcases List.mem_cons.mp h with e |h
  ·rw[e];exact XX ..
  ·exact Xz (BO h) (Nat.le_add_left ..)
theorem uE {q r:Qn} (h:r∈us q):nq r<nq q:=by
 rw[fH q];have:=BO h;lia
theorem uF {x:Str}:∀(n:Nat) (q:Qn),nq q<=n->(Kn (.tab x) q ↔ x∈aD q)
 | 0,q,h=>by rw[fH]at h;lia
 |n+1,q,h=>by
  rw[uD,pJ];refine or_congr eq_comm ⟨?_,?_⟩
  ·rintro⟨r,a,b⟩;exact List.mem_flatMap.mpr ⟨r,a,(uF n r (by have:=uE a;lia)).mp b⟩
  ·intro z;obtain⟨r,a,b⟩:=List.mem_flatMap.mp z;exact⟨r,a,(uF n r (by have:=uE a;lia)).mpr b⟩
noncomputable def PC:B:=.cons (.ret (.v 1)) .nil
noncomputable def BP:B:=.cons (.j7 (.v 2) (.cons (.set (.one 3) (.mt .pop (.v 2) .nil)) (.cons (.ex (.mt .append (.v 1) (.cons (.v 3) .nil))) (.cons (.ex (.mt .extend (.v 2) (.cons (.call 0 (.cons (.v 3) .nil)) .nil))) .nil)))) PC
noncomputable def PD:B:=.cons (.set (.one 2) (.lst (.cons (.v 0) .nil))) BP
noncomputable def PH:B:=.cons (.set (.one 1) (.lst .nil)) PD
theorem PJ:aB ["question","found","waiting","part"] ["question"] (ag (aa 8)):=⟨rfl,rfl,rfl,by decide +kernel,rfl,by decide +kernel,by decide +kernel⟩
theorem PK:aF nm 40 ["question","found","waiting","part"] (ag (aa 8)) (ax (aa 8))=PH:=by kernel_rfl
def uG:Sp:=λds M Q _=>∃q,ds=[qD q]/\wq q/\nq q<1000000/\∀kl:List Qn,(∀p,p∈kl ↔ Kn p q)->kl.length<=nq q->Q (.lst (kl.map qD)) M
noncomputable abbrev uH (w:Wo):a0 w:={ cs:=[(0,je)] }
theorem PM {M:Mp}{q0:Qn}{a b:Addr}{e:En} (hq:nq q0<1000000) (ne:a≠b) (h:∀ v (kl:List Qn),(∀ p,p∈kl ↔ Kn p q0)->kl.length<=nq q0->e.nx [some (qD q0),some (.ref a),some (.ref b),v] (Wm M a b (kl.map qD) [])) :
  ∀(n:Nat) (ws kl:List Qn) v,bA ws=n->(∀p∈ws,wq p)->(∀p,(p∈kl\/e5 p ws) ↔ Kn p q0)->kl.length+n<=nq q0 ->
   ir (E.w (uH w).wd nm.aj (.v 2)).2 (B.w (uH w).wd nm.aj (ur (i8 BP))) e (n+1) [some (qD q0),some (.ref a),some (.ref b),v] (Wm M a b (kl.map qD) (ws.map qD)):=by
 have ga:∀{ws fs:List D},Wm M a b ws fs a=some (.lst ws):=by intro ws fs;unfold Wm;rw[az ne];exact aw
 have pa:∀{ws fs cN:List D},up (Wm M a b ws fs) a (.lst cN)=Wm M a b cN fs:=by intro ws fs cN;unfold Wm;rw[mu (YZ ne),_root_.N.cj]
 intro n
 induction n with
 |zero=>
  intro ws kl v e1 hw ht hl;have:ws=[]:=by
   cases ws with
   |nil=>rfl
   |cons p r=>rw[bA,fH]at e1;lia
  subst this;exact .inl ⟨_,Wm.gb,h v kl (λx=>by have:=ht x;simpa [e5] using this) (by lia)⟩
 |succ n ih=>
  intro ws kl v e1 hw ht hl;rcases ZI ws with rfl |⟨init,p,rfl⟩
  ·cases e1
  rw[Zm]at e1 hw ht ⊢;have wp:=kx (hw p (by simp));rw[uB,bA,bA,fH p]at e1;have hn:(!((init++[p]).map qD).isEmpty)=true:=by simp
  refine .inl ⟨_,Wm.gb,?_⟩;rw[hn];have bl:=uC (us p);have bi:=uC init;refine⟨.inl ⟨rfl,_,Wm.gb⟩,_,Wm.gb,qD p,by simp,?_⟩;rw[Wm.pb,XU,XD,YN,List.dropLast_concat];refine⟨.inl ⟨rfl,_,ga⟩,_,ga,XC (by rw[Xr];lia:_<=1000000) (by decide),?_⟩;rw[pa];refine⟨.inl ⟨rfl,_,Wm.gb⟩,p,rfl,wp.1,_,Wm.gb,Xz (by rw[Xr,Xr];lia:_<=2000000) (by decide),?_⟩;have Ui:kl.map qD++[qD p]=(kl++[p]).map qD:=by simp
  rw[Wm.pb,<- XU,Ui];refine ih (init++us p) (kl++[p]) _ (by rw[uB];lia) (λr hr=>?_) (λx=>?_) (by rw[XI,ZH];lia)
  ·rcases List.mem_append.mp hr with z |z
   ·exact hw r (YV _ z)
   ·exact wp.2 r z
  ·rw[<- ht x,BN,BN,ZG,List.mem_singleton,PB];constructor
   ·rintro ((z |z) |z |z)
    ·exact .inl z
    ·exact .inr (.inr (.inl z))
    ·exact .inr (.inl z)
    ·exact .inr (.inr (.inr z))
   ·rintro (z |z |z |z)
    ·exact .inl (.inl z)
    ·exact .inr (.inl z)
    ·exact .inl (.inr z)
    ·exact .inr (.inr z)
theorem BQ (O:Lw w):FO w 2 2 uG:=by
 refine aI O.ok O.hn _ ⟨"knots",aa 8,["question"]⟩ (by rw[O.hd];rfl) (uH w) { cs:=⟨⟨1,by decide,km O⟩,trivial⟩ } PJ PK λds M Q _ h=>?_;obtain⟨q,rfl,hw,hn,h⟩:=h;refine⟨rfl,XS _,.inr λa ha=>⟨l1,.inr λb hb=>⟨nq q+1,?_⟩⟩⟩;have ne:a≠b:=by rintro rfl;rw[aw]at hb;cases hb
 rw[az (YZ ne)]at hb;refine PM (M:=M) hn ne ?_ (nq q) [q] [] _ (by rw[bA,bA];lia) (λp hp=>by rw[List.mem_singleton.mp hp];exact hw) (λx=>by simp [e5]) (by simp);intro v kl e2 e3;refine Al (M:=M) ?_ ha (by unfold Wm;rw[az ne];exact aw) (h kl e2 e3);exact pe (pe .rfl ha rfl) hb rfl
noncomputable def tn:Qn->Option Str
 |.tab x=>some x
 |_=>none
theorem BR {kl:List Qn}{x:Str}:x∈kl.filterMap tn ↔ Qn.tab x∈kl:=by
 rw[List.mem_filterMap];constructor
 ·rintro⟨g,h1,h2⟩;cases g <;> cases h2;exact h1
 ·exact λh=>⟨_,h,rfl⟩
noncomputable def PN:B:=(.cons (.ret (.sset (.lc 1 [] (.one 0) (.seq (.call 2 (.cons (.v 0) .nil))) (.cmp .Eq (.ix (.v 0) (.c (.int 0))) (.c (.str "table"))) (.ix (.v 0) (.c (.int 1)))))) .nil)
theorem PQ:aB ["question"] ["question"] (ag (aa 9)):=⟨rfl,rfl,rfl,by decide +kernel,rfl,by decide +kernel,by decide +kernel⟩
theorem PR:aF nm 40 ["question"] (ag (aa 9)) (ax (aa 9))=PN:=by kernel_rfl
def uJ:Sp:=λds M Q _=>∃(q:Qn) (N:List Str),ds=[qD q]/\wq q/\nq q<1000000/\N.length<64/\(∀x∈aD q,x∈N)/\∀ys:List Str,ys.Nodup->(∀x,x∈ys ↔ x∈aD q)->Q (.lst (ys.map D.str)) M
theorem BS (O:Lw w):FO w 3 3 uJ:=by
 refine aI O.ok O.hn _ ⟨"tables",aa 9,["question"]⟩ (by rw[O.hd];rfl) { cs:=[(2,uG)] } { cs:=⟨⟨2,by decide,BQ O⟩,trivial⟩ } PQ PR λds M Q _ h=>?_;obtain⟨q,N,rfl,hw,hn,hN,hs,h⟩:=h;refine⟨rfl,q,rfl,hw,hn,λkl mh hl=>?_⟩;have hk:∀x,Qn.tab x∈kl ↔ x∈aD q:=λx=>(mh _).trans (uF _ q (Xu _));refine eT (λxs ys M'=>M'=M/\∃rest pre,xs=rest.map qD/\kl=pre++rest/\ys=(pre.filterMap tn).map D.str) ?_ ?_ _ _ _ ⟨rfl,kl,[],rfl,rfl,rfl⟩
 ·rintro ys M' ⟨rfl,rest,pre,e1,e2,rfl⟩;have:rest=[]:=by simpa using e1.symm
  subst this;rw[XO]at e2;subst e2;have ln:(kl.filterMap tn).length<=kl.length:=Y5 ..;exact⟨trivial,XC (by rw[Xr];lia:_<=1000000) (by decide),.inl ⟨kl.filterMap tn,N,rfl,hN,λx hx=>hs x ((hk x).mp (BR.mp hx)),λys nd hy _=>.inl (ar (h ys nd λx=>(hy x).trans (BR.trans (hk x))))⟩⟩
 ·rintro x xs ys M' ⟨rfl,rest,pre,e1,e2,rfl⟩;cases rest with
  |nil=>cases e1
  |cons g rest=>
   cases e1;have ln:(pre.filterMap tn).length<=pre.length:=Y5 ..;have lp:pre.length<=kl.length:=(by rw[e2];simp);refine⟨trivial,XC (by rw[Xr];lia:_<=1000000) (by decide),λN' e6=>?_⟩;by_cases hg:∃x,g=.tab x
   ·obtain⟨x,rfl⟩:=hg;exact⟨_,rfl,aq (aN (by decide) ⟨_,rfl,e6 _ _ ⟨rfl,rest,pre++[.tab x],rfl,by rw[e2];simp,by rw[List.filterMap_append,XU];rfl⟩⟩)⟩
   ·obtain⟨r,hr⟩:=dE g;have hd:=uj λx e=>hg ⟨x,e⟩;have ht:tn g=none:=by cases g <;> first |rfl |exact absurd ⟨_,rfl⟩ hg
    rw[hr];exact⟨_,eh,aq (bw hd (e6 _ _ ⟨rfl,rest,pre++[g],rfl,by rw[e2];simp,by rw[List.filterMap_append,Zt,ht,List.filterMap_nil,XO]⟩))⟩
abbrev Nv:=List (Str×Str)
noncomputable def aK (nv:Nv):List (Key×D):=nv.map λp=>(.inr p.1,.str p.2)
noncomputable def bB (x:Str):Nv->Option Str
 |[]=>none
 |(y,z)::r=>if y=x then some z else bB x r
theorem ky {x:Str}:∀{nv:Nv},aJ (aK nv) (.inr x)=(bB x nv).map D.str
 |[]=>rfl
 |(y,z)::r=>by
  show aJ ((.inr y,.str z)::aK r) (.inr x)=_;rw[fF,bB];by_cases e:y=x
  ·rw[if_pos (by rw[e]),if_pos e];rfl
  ·rw[if_neg (λh=>e (ZR h)),if_neg e,ky]
noncomputable def hs (nv:Nv) (q:Qn):Bool:=(aD q).any λx=>(bB x nv).isSome
noncomputable def PU:B:=(.cons (.ret (.bi .any (.cons (.lc 1 [1] (.one 0) (.seq (.call 3 (.cons (.v 0) .nil))) .au (.cmp .In (.v 0) (.v 1))) .nil))) .nil)
theorem PV:aB ["question","names"] ["question","names"] (ag (aa 47)):=⟨rfl,rfl,rfl,by decide +kernel,rfl,by decide +kernel,by decide +kernel⟩
theorem PX:aF nm 40 ["question","names"] (ag (aa 47)) (ax (aa 47))=PU:=by kernel_rfl
def BU:Sp:=λds M Q _=>∃(q:Qn) (N:List Str) (nv:Nv),ds=[qD q,dD (aK nv)]/\wq q/\nq q<1000000/\N.length<64/\(∀x∈aD q,x∈N)/\Q (.bl (hs nv q)) M
theorem BV:∀{ys N:List Str},ys.Nodup->(∀x∈ys,x∈N)->ys.length<=N.length
 |[],N,_,_=>XS _
 |y::ys,N,nd,h=>by
  rw[ZF]at nd;have hy:=h y XA;have:=BV (N:=N.erase y) nd.2 λx hx=>(List.mem_erase_of_ne (by rintro rfl;exact nd.1 hx)).mpr (h x (XB _ hx));rw[List.length_erase_of_mem hy]at this;have:=List.length_pos_of_mem hy;rw[XG];lia
theorem PY (O:Lw w):FO w 30 4 BU:=by
 refine aI O.ok O.hn _ ⟨"names_some",aa 47,["question","names"]⟩ (by rw[O.hd];rfl) { cs:=[(3,uJ)] } { cs:=⟨⟨3,by decide,BS O⟩,trivial⟩ } PV PX λds M Q _ h=>?_;obtain⟨q,N,nv,rfl,hw,hn,hN,ht,h⟩:=h;refine⟨rfl,q,N,rfl,hw,hn,hN,ht,λys nd hy=>?_⟩;have ly:=BV nd (N:=N) λx hx=>ht x ((hy x).mp hx);refine i7 (M:=M) D.str (λx=>D.bl (bB x nv).isSome) ys ?_ (XC (by lia:_<=64) (by decide)) (λy _ N' e6=>?_) ?_
 ·exact trivial
 ·refine tX ?_;rw[ky,Option.isSome_map];exact e6
 ·refine .inl (.inl ⟨ys.map λx=>(bB x nv).isSome,by rw[Yv];rfl,ar ?_⟩);have:((ys.map λx=>(bB x nv).isSome).any id)=hs nv q:=by
   rw[List.any_map];unfold hs;rw[YT,List.any_eq_true,List.any_eq_true];constructor
   ·rintro⟨x,h1,h2⟩;exact⟨x,(hy x).mp h1,h2⟩
   ·rintro⟨x,h1,h2⟩;exact⟨x,(hy x).mpr h1,h2⟩
  show Q (.bl ((ys.map λx=>(bB x nv).isSome).any id)) M;rw[this];exact h
variable {w:Wo}
noncomputable def oD:Option Qn->D
 |none=>.ai
 |some q=>qD q
noncomputable def mF:Qn->Bool
 |.none _=>true
 |_=>false
noncomputable def mG:Option Qn->Bool
 |none=>true
 |some q=>mF q
noncomputable def PZ:Option Qn->Qn->Qn
 |none,q=>q
 |some s,q=>.both s q
noncomputable def cy:Option Qn->List (Option Qn)->Option Qn
 |s,[]=>s
 |s,none::r=>cy s r
 |s,some q::r=>cy (some (PZ s q)) r
noncomputable def mf (x:Str):Option Qn->Option Qn->Option Qn
 |some a,some b=>if mF a ||mF b then none else some (.for x a b)
 |_,_=>none
theorem P0 (q:Qn):mF q=decide (wd q="none"):=by
 cases q with
 |none k=>rfl
 |_=>exact (decide_eq_false (by rw[wd];decide +kernel)).symm
noncomputable def P1:B:=(.cons (.ret (.or (.cmp .Is (.v 0) (.c .ai)) (.cmp .Eq (.ix (.v 0) (.c (.int 0))) (.c (.str "none"))))) .nil)
theorem P2:aB ["question"] ["question"] (ag (aa 48)):=⟨rfl,rfl,rfl,by decide +kernel,rfl,by decide +kernel,by decide +kernel⟩
theorem P4:aF nm 40 ["question"] (ag (aa 48)) (ax (aa 48))=P1:=by kernel_rfl
def BW:Sp:=λds M Q _=>∃o,ds=[oD o]/\Q (.bl (mG o)) M
theorem P5 (O:Lw w):FO w 31 1 BW:=by
 refine aI O.ok O.hn _ ⟨"is_none",aa 48,["question"]⟩ (by rw[O.hd];rfl) {} { cs:=trivial } P2 P4 λds M Q _ h=>?_;obtain⟨o,rfl,h⟩:=h;cases o with
 |none=>exact⟨rfl,ar h⟩
 |some q=>
  have h:Q (.bl (mF q)) M:=h;rw[P0]at h;obtain⟨r,hr⟩:=dE q;have e:oD (some q)=.tup (.str (wd q)::r):=hr;rw[e];exact⟨rfl,_,eh,aq (ar h)⟩
noncomputable def P6:B:=.cons (.ret (.v 1)) .nil
noncomputable def P7:B:=.cons (.loop (.one 2) (.seq (.lc 1 [] (.one 0) (.seq (.v 0)) (.cmp .IsNot (.v 0) (.c .ai)) (.v 0))) (.cons (.set (.one 1) (.ite (.cmp .Is (.v 1) (.c .ai)) (.v 2) (.tup (.cons (.c (.str "both")) (.cons (.v 1) (.cons (.v 2) .nil)))))) .nil)) P6
noncomputable def P8:B:=.cons (.set (.one 1) (.c .ai)) P7
theorem P9:aB ["parts","summed","part"] ["parts"] (ag (aa 49)):=⟨rfl,rfl,rfl,by decide +kernel,rfl,by decide +kernel,by decide +kernel⟩
theorem P':aF nm 40 ["parts","summed","part"] (ag (aa 49)) (ax (aa 49))=P8:=by kernel_rfl
def uK:Sp:=λds M Q _=>∃ps:List (Option Qn),ds=[.lst (ps.map oD)]/\ps.length<100/\Q (oD (cy none ps)) M
theorem uL:∀{ps:List (Option Qn)}{s:Option Qn},cy s ps=cy s ((ps.filterMap id).map some)
 |[],s=>rfl
 |none::r,s=>by rw[cy,Zt];exact uL
 |some q::r,s=>by rw[cy,Zt];show _=cy s (some q::_);rw[cy];exact uL
theorem BX (O:Lw w):FO w 32 1 uK:=by
 refine aI O.ok O.hn _ ⟨"total",aa 49,["parts"]⟩ (by rw[O.hd];rfl) {} { cs:=trivial } P9 P' λds M Q _ h=>?_;obtain⟨ps,rfl,hl,h⟩:=h;rw[uL]at h;have ln:(ps.filterMap id).length<=ps.length:=Y5 ..;refine⟨rfl,?_⟩;refine eT (λxs ys M'=>M'=M/\∃rest pre,xs=rest.map oD/\ps=pre++rest/\ys=(pre.filterMap id).map qD) ?_ ?_ _ _ _ ⟨rfl,ps,[],rfl,rfl,rfl⟩
 ·rintro ys M' ⟨rfl,rest,pre,e1,e2,rfl⟩;have:rest=[]:=by simpa using e1.symm
  subst this;rw[XO]at e2;subst e2;refine⟨trivial,XC (by rw[Xr];lia:_<=100) (by decide),.inl ?_⟩;generalize ps.filterMap id=qs at h;refine dW (λxs τ X=>X=M'/\∃(rest:List Qn) (s:Option Qn) (v:Option D),xs=rest.map qD/\τ=[some (.lst (ps.map oD)),some (oD s),v]/\Q (oD (cy s (rest.map some))) M') ?_ ?_ _ _ _ ⟨rfl,qs,none,_,rfl,rfl,h⟩
  ·rintro τ X ⟨rfl,rest,s,v,e1,rfl,h⟩;have:rest=[]:=(by simpa using e1.symm);subst this;exact⟨trivial,.rfl (ar h)⟩
  ·rintro x xs τ X ⟨rfl,rest,s,v,e1,rfl,h⟩;cases rest with
   |nil=>cases e1
   |cons q rest=>
    cases e1;refine⟨trivial,λN hN=>?_⟩;cases s with
    |none=>exact hN _ _ ⟨rfl,rest,some q,_,rfl,rfl,h⟩
    |some t=>
     obtain⟨r,hr⟩:=dE t;have fin:N [some (.lst (ps.map oD)),some (oD (some (.both t q))),some (qD q)] X:=hN _ _ ⟨rfl,rest,some (.both t q),_,rfl,rfl,h⟩;have e:oD (some t)=.tup (.str (wd t)::r):=hr;have e2:oD (some (.both t q))=.tup [.str "both",.tup (.str (wd t)::r),qD q]:=(by rw[<- hr];rfl);rw[e2]at fin;rw[e];exact⟨l3,fin⟩
 ·rintro x xs ys M' ⟨rfl,rest,pre,e1,e2,rfl⟩;cases rest with
  |nil=>cases e1
  |cons o rest=>
   cases e1;have TJ:(pre.filterMap id).length<=pre.length:=Y5 ..;have lp:pre.length<=ps.length:=(by rw[e2];simp);refine⟨trivial,XC (by rw[Xr];lia:_<=100) (by decide),λN hN=>?_⟩;cases o with
   |none=>exact hN _ _ ⟨rfl,rest,pre++[none],rfl,by rw[e2];simp,by simp⟩
   |some t=>
    obtain⟨r,hr⟩:=dE t;have fin:N ((pre.filterMap id).map qD++[qD t]) M':=hN _ _ ⟨rfl,rest,pre++[some t],rfl,by rw[e2];simp,by simp⟩;have e:oD (some t)=.tup (.str (wd t)::r):=hr;rw[hr]at fin;rw[e];exact fin
noncomputable def Qa:B:=(.cons (.ret (.ite (.or (.call 31 (.cons (.v 1) .nil)) (.call 31 (.cons (.v 2) .nil))) (.c .ai) (.tup (.cons (.c (.str "for")) (.cons (.v 0) (.cons (.v 1) (.cons (.v 2) .nil))))))) .nil)
theorem Qb:aB ["name","over","inner"] ["name","over","inner"] (ag (aa 52)):=⟨rfl,rfl,rfl,by decide +kernel,rfl,by decide +kernel,by decide +kernel⟩
theorem Qc:aF nm 40 ["name","over","inner"] (ag (aa 52)) (ax (aa 52))=Qa:=by kernel_rfl
def BY:Sp:=λds M Q _=>∃x a b,ds=[.str x,oD a,oD b]/\Q (oD (mf x a b)) M
theorem BZ {x:Str}{a b:Option Qn} (h:mG a=true\/mG b=true):mf x a b=none:=by
 cases a with
 |none=>rfl
 |some a=>
  cases b with
  |none=>rfl
  |some b=>rw[mf,if_pos];simpa [mG] using h
theorem Qd (O:Lw w):FO w 35 2 BY:=by
 refine aI O.ok O.hn _ ⟨"made_for",aa 52,["name","over","inner"]⟩ (by rw[O.hd];rfl) { cs:=[(31,BW)] } { cs:=⟨⟨1,by decide,P5 O⟩,trivial⟩ } Qb Qc λds M Q _ h=>?_;obtain⟨x,a,b,rfl,h⟩:=h;refine⟨rfl,a,rfl,aX (λe=>?_) λe=>⟨b,rfl,?_⟩⟩
 ·rw[BZ (.inl e)]at h;exact aN rfl (ar h)
 ·refine aX (λe'=>?_) λe'=>?_
  ·rw[BZ (.inr e')]at h;exact ar h
  ·cases a with
   |none=>exact absurd rfl e
   |some a=>
    cases b with
    |none=>exact absurd rfl e'
    |some b=>
     rw[mf,if_neg (by simp only[mG]at e e';simp [e,e'])]at h;exact⟨l4,ar h⟩
noncomputable def Qe:B:=(.cons (.ex (.aU 2 (.v 0) (.cons (.call 32 (.cons (.aU 3 (.v 0) (.cons (.c (.int 2)) .nil)) .nil)) .nil))) .nil)
theorem Qf:aB ["walk","question","names"] ["walk","question","names"] (ag (aa 50)):=⟨rfl,rfl,rfl,by decide +kernel,rfl,by decide +kernel,by decide +kernel⟩
theorem Qg:aF nm 40 ["walk","question","names"] (ag (aa 50)) (ax (aa 50))=Qe:=by kernel_rfl
noncomputable def Qh:B:=.cons (.ex (.aU 2 (.v 0) (.cons (.call 32 (.cons (.lst (.cons (.call 35 (.cons (.v 3) (.cons (.v 6) (.cons (.v 5) .nil)))) (.cons (.call 35 (.cons (.v 3) (.cons (.v 4) (.cons (.v 7) .nil)))) (.cons (.call 35 (.cons (.v 3) (.cons (.v 6) (.cons (.v 7) .nil)))) .nil)))) .nil)) .nil))) .nil
noncomputable def Qi:B:=.cons (.set (.many [6,7]) (.aU 3 (.v 0) (.cons (.c (.int 2)) .nil))) Qh
noncomputable def Qj:B:=.cons (.set (.many [3,4,5]) (.sl (.v 1) (.c (.int 1)) .au)) Qi
theorem Qk:aB ["walk","question","names","name","over","inner","more_over","more_inner"] ["walk","question","names"] (ag (aa 51)):=⟨rfl,rfl,rfl,by decide +kernel,rfl,by decide +kernel,by decide +kernel⟩
theorem Ql:aF nm 40 ["walk","question","names","name","over","inner","more_over","more_inner"] (ag (aa 51)) (ax (aa 51))=Qj:=by kernel_rfl
noncomputable def Qm:B:=(.cons (.set (.one 3) (.ix (.aU 3 (.v 0) (.cons (.c (.int 1)) .nil)) (.c (.int 0)))) (.cons (.ex (.aU 2 (.v 0) (.cons (.ite (.cmp .Is (.v 3) (.c .ai)) (.c .ai) (.op .Add (.sl (.v 1) .au (.neg (.c (.int 1)))) (.tup (.cons (.v 3) .nil)))) .nil))) .nil))
theorem Qo:aB ["walk","question","names","inner"] ["walk","question","names"] (ag (aa 54)):=⟨rfl,rfl,rfl,by decide +kernel,rfl,by decide +kernel,by decide +kernel⟩
theorem Qp:aF nm 40 ["walk","question","names","inner"] (ag (aa 54)) (ax (aa 54))=Qm:=by kernel_rfl
def B0 (w:Wo):Sp:=λds M Q _=>∃M0 x a b ws fs p q qd nr,ds=[.ref x,qd,nr]/\M=Wm M0 a b ws (fs++[oD p,oD q])/\Wc (w.ca 0) M0 x a b/\fs.length<1000000/\Q .ai (Wm M0 a b ws (fs++[oD (cy none [p,q])]))
theorem Qq (O:Lw w):FO w 33 2 (B0 w):=by
 refine aI O.ok O.hn _ ⟨"both_differences",aa 50,["walk","question","names"]⟩ (by rw[O.hd];rfl) { cs:=[(32,uK)],ms:=[(2,eo w),(3,jh w)] } { cs:=⟨⟨1,by decide,BX O⟩,trivial⟩,ms:=⟨⟨1,by decide,jg O⟩,⟨1,by decide,kn O⟩,trivial⟩ } Qf Qg λds M Q _ h=>?_;obtain⟨M0,x,a,b,ws,fs,p,q,qd,nr,rfl,rfl,W,eg,h⟩:=h;have m3:w.ca 0=w.mc 2:=(O.mc _ (by decide)).symm;have m4:w.ca 0=w.mc 3:=(O.mc _ (by decide)).symm;obtain⟨dx,hx⟩:=W.gx (ws:=ws) (fs:=fs++[oD p,oD q]);obtain⟨dy,hy⟩:=W.gx (ws:=ws) (fs:=fs);refine⟨rfl,_,dx,_,hx,m3,bq (by decide +kernel) (by decide +kernel),_,dx,_,hx,m4,bq (by decide +kernel) (by decide +kernel),x,a,b,dx,2,fs,[oD p,oD q],rfl,hx,Wm.gb,rfl,by decide,?_⟩;rw[Wm.pb];refine⟨[p,q],rfl,(by decide:2<100),x,a,b,dy,_,fs,rfl,hy,Wm.gb,Yp eg (by decide),?_⟩;rw[Wm.pb];exact ar h
def B1 (w:Wo):Sp:=λds M Q _=>∃M0 x a b ws fs y qa qb p q nr,ds=[.ref x,qD (.for y qa qb),nr]/\M=Wm M0 a b ws (fs++[oD p,oD q])/\Wc (w.ca 0) M0 x a b/\fs.length<1000000/\Q .ai (Wm M0 a b ws (fs++[oD (cy none [mf y p (some qb),mf y (some qa) q,mf y p q])]))
theorem Qr (O:Lw w):FO w 34 3 (B1 w):=by
 refine aI O.ok O.hn _ ⟨"for_differences",aa 51,["walk","question","names"]⟩ (by rw[O.hd];rfl) { cs:=[(32,uK),(35,BY)],ms:=[(2,eo w),(3,jh w)] } { cs:=⟨⟨1,by decide,BX O⟩,⟨2,by decide,Qd O⟩,trivial⟩,ms:=⟨⟨1,by decide,jg O⟩,⟨1,by decide,kn O⟩,trivial⟩ } Qk Ql λds M Q _ h=>?_;obtain⟨M0,x,a,b,ws,fs,y,qa,qb,p,q,nr,rfl,rfl,W,eg,h⟩:=h;have m3:w.ca 0=w.mc 2:=(O.mc _ (by decide)).symm;have m4:w.ca 0=w.mc 3:=(O.mc _ (by decide)).symm;obtain⟨dx,hx⟩:=W.gx (ws:=ws) (fs:=fs++[oD p,oD q]);obtain⟨dy,hy⟩:=W.gx (ws:=ws) (fs:=fs);refine⟨rfl,rfl,_,dx,_,hx,m4,bq (by decide +kernel) (by decide +kernel),x,a,b,dx,2,fs,[oD p,oD q],rfl,hx,Wm.gb,rfl,by decide,?_⟩;rw[Wm.pb];refine⟨rfl,_,dy,_,hy,m3,bq (by decide +kernel) (by decide +kernel),y,p,some qb,rfl,y,some qa,q,rfl,y,p,q,rfl,l3,.inl ⟨[mf y p (some qb),mf y (some qa) q,mf y p q],rfl,(by decide:3<100),x,a,b,dy,_,fs,rfl,hy,Wm.gb,Yp eg (by decide),?_⟩⟩;rw[Wm.pb];exact ar h
def Wr (q:Qn) (f:Qn->Qn):Prop:=(∃i r,q=.times i r/\f=.times i)\/(∃c r,q=.aL c r/\f=.aL c)\/∃y r s,q=.let y r s/\f=.let y r
def B2 (w:Wo):Sp:=λds M Q _=>∃M0 x a b ws fs q f o nr,ds=[.ref x,qD q,nr]/\Wr q f/\M=Wm M0 a b ws (fs++[oD o])/\Wc (w.ca 0) M0 x a b/\fs.length<1000000/\Q .ai (Wm M0 a b ws (fs++[oD (o.map f)]))
theorem Qs (O:Lw w):FO w 36 2 (B2 w):=by
 refine aI O.ok O.hn _ ⟨"wrap",aa 54,["walk","question","names"]⟩ (by rw[O.hd];rfl) { cs:=[],ms:=[(2,eo w),(3,jh w)] } { cs:=trivial,ms:=⟨⟨1,by decide,jg O⟩,⟨1,by decide,kn O⟩,trivial⟩ } Qo Qp λds M Q _ h=>?_;obtain⟨M0,x,a,b,ws,fs,q,f,o,nr,rfl,wr,rfl,W,eg,h⟩:=h;have m3:w.ca 0=w.mc 2:=(O.mc _ (by decide)).symm;have m4:w.ca 0=w.mc 3:=(O.mc _ (by decide)).symm;obtain⟨dx,hx⟩:=W.gx (ws:=ws) (fs:=fs++[oD o]);obtain⟨dy,hy⟩:=W.gx (ws:=ws) (fs:=fs);refine⟨rfl,_,dx,_,hx,m4,bq (by decide +kernel) (by decide +kernel),x,a,b,dx,1,fs,[oD o],rfl,hx,Wm.gb,rfl,by decide,?_⟩;rw[Wm.pb];refine⟨_,rfl,_,dy,_,hy,m3,bq (by decide +kernel) (by decide +kernel),?_⟩;have fin:∀d,d=oD (o.map f)->eo w [.ref x,d] (Wm M0 a b ws fs) (λ_ M1=>(a9 Q).nx [some (.ref x),some (qD q),some nr,some (oD o)] M1) X0:=by
  rintro d rfl;refine⟨x,a,b,dy,_,fs,rfl,hy,Wm.gb,Yp eg (by decide),?_⟩;rw[Wm.pb];exact ar h
 cases o with
 |none=>exact fin .ai rfl
 |some t=>
  obtain⟨r,hr⟩:=dE t;have e:oD (some t)=.tup (.str (wd t)::r):=hr;have fin:∀d,d=qD (f t)->eo w [.ref x,d] (Wm M0 a b ws fs) (λ_ M1=>(a9 Q).nx [some (.ref x),some (qD q),some nr,some (oD (some t))] M1) X0:=fin;rw[e]at fin ⊢;rcases wr with ⟨i,s,rfl,rfl⟩ |⟨c,s,rfl,rfl⟩ |⟨y,s,u,rfl,rfl⟩
  ·exact⟨l1,l3,fin _ (by rw[qD,hr];rfl)⟩
  ·exact⟨l1,l3,fin _ (by rw[qD,hr];rfl)⟩
  ·exact⟨l1,l4,fin _ (by rw[qD,hr];rfl)⟩
variable {w:Wo}
mutual
noncomputable def aH (nv:Nv):Qn->Qn
 |.tab x=>match bB x nv with
  |some y=>.both (.tab x) (.tab y)
  |none=>.tab x
 |.row fs=>.row (fI nv fs)
 |.at f q=>.at f (aH nv q)
 |.one q=>.one (aH nv q)
 |.times i q=>.times i (aH nv q)
 |.not q=>.not (aH nv q)
 |.add a b=>.add (aH nv a) (aH nv b)
 |.mul a b=>.mul (aH nv a) (aH nv b)
 |.both a b=>.both (aH nv a) (aH nv b)
 |.for y a b=>.for y (aH nv a) (aH nv b)
 |.aL a b=>.aL (aH nv a) (aH nv b)
 |.let y a b=>.let y (aH nv a) (aH nv b)
 |.same a b=>.same (aH nv a) (aH nv b)
 |.under a b=>.under (aH nv a) (aH nv b)
 |.and a b=>.and (aH nv a) (aH nv b)
 |.or a b=>.or (aH nv a) (aH nv b)
 |.num i=>.num i |.word s=>.word s |.var s=>.var s |.none k=>.none k
noncomputable def fI (nv:Nv):List (Str×Qn)->List (Str×Qn)
 |[]=>[]
 |(f,q)::r=>(f,aH nv q)::fI nv r
end
noncomputable def hW (nv:Nv) (q:Qn):Qn:=.both (aH nv q) (.times (-1) q)
theorem uM (nv:Nv):∀fs:List (Str×Qn),fI nv fs=fs.map λp=>(p.1,aH nv p.2)
 |[]=>by rw[fI];rfl
 |(f,q)::r=>by rw[fI,uM nv r];rfl
theorem z0:decide (((0:Nat):Int)=0)=true:=rfl
theorem z1:¬decide (((1:Nat):Int)=0)=true:=by decide
theorem z2:¬decide (((2:Nat):Int)=0)=true:=by decide
noncomputable def Qt:B:=.cons (.ret (.op .Add (.sl (.v 0) .au (.neg (.bi .len (.cons (.v 1) .nil)))) (.bi .tuple (.cons (.v 1) .nil)))) .nil
noncomputable def Qu:B:=.cons (.cond (.cmp .Eq (.bi .len (.cons (.v 1) .nil)) (.c (.int 0))) (.cons (.ret (.v 0)) .nil) .nil) Qt
noncomputable def Qv:B:=.cons (.cond (.cmp .Eq (.ix (.v 0) (.c (.int 0))) (.c (.str "row"))) (.cons (.ret (.tup (.cons (.c (.str "row")) (.cons (.bi .tuple (.cons (.lc 2 [] (.many [0,1]) (.zip (.ix (.v 0) (.c (.int 1))) (.v 1)) .au (.tup (.cons (.ix (.v 0) (.c (.int 0))) (.cons (.v 1) .nil)))) .nil)) .nil)))) .nil) .nil) Qu
theorem Qw:aB ["question","parts"] ["question","parts"] (ag (aa 7)):=⟨rfl,rfl,rfl,by decide +kernel,rfl,by decide +kernel,by decide +kernel⟩
theorem Qx:aF nm 40 ["question","parts"] (ag (aa 7)) (ax (aa 7))=Qv:=by kernel_rfl
def pK:Sp:=λds M Q _=>∃q nv,ds=[qD q,.lst (((us q).map (aH nv)).map qD)]/\(∀x,q=.tab x->bB x nv=none)/\(us q).length<100/\Q (qD (aH nv q)) M
theorem Qy (O:Lw w):FO w 1 1 pK:=by
 refine aI O.ok O.hn _ ⟨"with_under",aa 7,["question","parts"]⟩ (by rw[O.hd];rfl) {} { cs:=trivial } Qw Qx λds M Q _ h=>?_;obtain⟨q,nv,rfl,ht,hl,h⟩:=h;cases q with
 |row fs=>
  refine⟨rfl,_,rfl,aq (aN (by decide) ⟨_,rfl,?_⟩)⟩;have e:(((us (.row fs)).map (aH nv)).map qD)=fs.map λp=>qD (aH nv p.2):=by rw[us,Yv,Yv];rfl
  have hf:fs.length<100:=by simpa [us] using hl
  rw[aH,qD,uM,mx,Yv]at h;have key:∀ds,ds=(fs.map λp=>qD (aH nv p.2))->cX (λM=>True/\True) (.many [0,1]) gM (E.w ({}:a0 w).wd nm.aj (.tup (.cons (.ix (.v 0) (.c (.int 0))) (.cons (.v 1) .nil)))).1 [none,none] (λys M2=>bR ys M2 λd M3=>qZ [d] M3 λd WO=>2<=sizeLine/\aZ Q (.tup [.str "row",d]) WO) (List.zipWith (λx y=>D.tup [x,y]) (bG fs) ds) [] M:=by
   rintro _ rfl;rw[mx,pG];have Ud:fs.zip fs=fs.map λp=>(p,p):=by
    clear h hf hl e ht
    induction fs with
    |nil=>rfl
    |cons p r ih=>rw[YM,ih];rfl
   rw[Ud,Yv];refine i7 (λp:Str×Qn=>.tup [.tup [.str p.1,qD p.2],qD (aH nv p.2)]) (λp=>.tup [.str p.1,qD (aH nv p.2)]) fs ⟨trivial,trivial⟩ (Yp hf (by decide)) (λp _ N hN=>?_) ?_
   ·exact⟨rfl,_,rfl,l2,hN⟩
   ·exact .inl ⟨l2,ar h⟩
  exact key _ e
 |tab x=>
  have hx:=ht x rfl;have e:aH nv (.tab x)=.tab x:=by rw[aH,hx]
  rw[e]at h;exact⟨rfl,_,rfl,aq (ay (by decide) (br (aN z0 (ar h))))⟩
 |num i=>exact⟨rfl,_,rfl,aq (ay (by decide) (br (aN z0 (ar h))))⟩
 |word s=>exact⟨rfl,_,rfl,aq (ay (by decide) (br (aN z0 (ar h))))⟩
 |var s=>exact⟨rfl,_,rfl,aq (ay (by decide) (br (aN z0 (ar h))))⟩
 |none k=>exact⟨rfl,_,rfl,aq (ay (by decide) (br (aN z0 (ar h))))⟩
 | «at» f q=>exact⟨rfl,_,rfl,aq (ay (by decide) (br (ay z1 ⟨l3,ar h⟩)))⟩
 |one q=>exact⟨rfl,_,rfl,aq (ay (by decide) (br (ay z1 ⟨l2,ar h⟩)))⟩
 |times i q=>exact⟨rfl,_,rfl,aq (ay (by decide) (br (ay z1 ⟨l3,ar h⟩)))⟩
 |not q=>exact⟨rfl,_,rfl,aq (ay (by decide) (br (ay z1 ⟨l2,ar h⟩)))⟩
 | «for» y a b=>exact⟨rfl,_,rfl,aq (ay (by decide) (br (ay z2 ⟨l4,ar h⟩)))⟩
 | «let» y a b=>exact⟨rfl,_,rfl,aq (ay (by decide) (br (ay z2 ⟨l4,ar h⟩)))⟩
 |_=>exact⟨rfl,_,rfl,aq (ay (by decide) (br (ay z2 ⟨l3,ar h⟩)))⟩
noncomputable def uN:B:=(.cons (.cond (.and (.cmp .Eq (.ix (.v 0) (.c (.int 0))) (.c (.str "table"))) (.cmp .In (.ix (.v 0) (.c (.int 1))) (.v 2))) (.cons (.ret (.tup (.cons (.c (.str "both")) (.cons (.v 0) (.cons (.tup (.cons (.c (.str "table")) (.cons (.ix (.v 2) (.ix (.v 0) (.c (.int 1)))) .nil))) .nil))))) .nil) .nil) (.cons (.ret (.call 1 (.cons (.v 0) (.cons (.v 1) .nil)))) .nil))
def Qz (v:D):Sp:=λds M Q _=>∃q nv,v=dD (aK nv)/\ds=[qD q,.lst (((us q).map (aH nv)).map qD)]/\(us q).length<100/\Q (qD (aH nv q)) M
theorem QA {q:Qn}{nv:Nv}{M:Mp}{Q:QK} (hl:(us q).length<100) (h:Q (qD (aH nv q)) M):B.w ({ cs:=[(1,pK)] }:a0 w).wd nm.aj uN (a9 Q) [some (qD q),some (.lst (((us q).map (aH nv)).map qD)),some (dD (aK nv))] M:=by
 by_cases hq:∃x,q=.tab x
 ·obtain⟨x,rfl⟩:=hq;refine⟨_,rfl,aq (aN (by decide) ⟨_,rfl,tX ?_⟩)⟩;rw[ky,Option.isSome_map];cases e:bB x nv with
  |none=>exact⟨.tab x,nv,rfl,λy z=>by cases z;exact e,hl,ar h⟩
  |some y=>
   rw[aH,e]at h;exact⟨_,rfl,tW (d:=.str y) (by rw[ky,e];rfl) ⟨l2,l3,ar h⟩⟩
 ·obtain⟨r,e⟩:=dE q;have hd:=uj λx z=>hq ⟨x,z⟩;have key:∀ z,z=qD q->B.w ({ cs:=[(1,pK)] }:a0 w).wd nm.aj uN (a9 Q) [some z,some (.lst (((us q).map (aH nv)).map qD)),some (dD (aK nv))] M:=by
   intro z hz;have hz':=hz.trans e;subst hz';exact⟨_,eh,aq (bw hd ⟨q,nv,by rw[e];rfl,λy z=>absurd ⟨y,z⟩ hq,hl,ar h⟩)⟩
  exact key _ rfl
noncomputable def uI (w:Wo) (q:Qn) (r:D):D:=.tup [w.gv.getD 11 .ai,qD q,r]
noncomputable def UG (w:Wo) (q:Qn) (r:D):D:=.tup [w.gv.getD 12 .ai,qD q,r]
noncomputable def QB:B:=(.cons (.ex (.aU 1 (.v 0) (.cons (.g 12) (.cons (.v 1) (.cons (.v 2) .nil))))) (.cons (.loop (.one 3) (.oG (.call 0 (.cons (.v 1) .nil))) (.cons (.ex (.aU 1 (.v 0) (.cons (.g 11) (.cons (.v 3) (.cons (.v 2) .nil))))) .nil)) .nil))
theorem QC:aB ["walk","question","told_of","part"] ["walk","question","told_of"] (ag (aa 13)):=⟨rfl,rfl,rfl,by decide +kernel,rfl,by decide +kernel,by decide +kernel⟩
theorem QD:aF nm 40 ["walk","question","told_of","part"] (ag (aa 13)) (ax (aa 13))=QB:=by kernel_rfl
noncomputable def QE:B:=(.cons (.ex (.aU 2 (.v 0) (.cons (.app (.v 2) (.cons (.v 1) (.cons (.aU 3 (.v 0) (.cons (.bi .len (.cons (.call 0 (.cons (.v 1) .nil)) .nil)) .nil)) .nil))) .nil))) .nil)
theorem QF:aB ["walk","question","told_of"] ["walk","question","told_of"] (ag (aa 14)):=⟨rfl,rfl,rfl,by decide +kernel,rfl,by decide +kernel,by decide +kernel⟩
theorem QG:aF nm 40 ["walk","question","told_of"] (ag (aa 14)) (ax (aa 14))=QE:=by kernel_rfl
noncomputable def QH:B:=.cons (.ret (.aU 4 (.v 2) .nil)) .nil
noncomputable def QI:B:=.cons (.ex (.aU 1 (.v 2) (.cons (.g 11) (.cons (.v 0) (.cons (.v 1) .nil))))) QH
noncomputable def QJ:B:=.cons (.set (.one 2) (.new 0 .nil)) QI
theorem QL:aB ["question","told_of","walk"] ["question","told_of"] (ag (aa 12)):=⟨rfl,rfl,rfl,by decide +kernel,rfl,by decide +kernel,by decide +kernel⟩
theorem QO:aF nm 40 ["question","told_of","walk"] (ag (aa 12)) (ax (aa 12))=QJ:=by kernel_rfl
def B3 (w:Wo):Sp:=λds M Q _=>∃M0 x a b ws fs q r,ds=[.ref x,qD q,r]/\M=Wm M0 a b ws fs/\Wc (w.ca 0) M0 x a b/\ws.length<1000000/\(us q).length<100/\Q .ai (Wm M0 a b (ws++[UG w q r]++((us q).map λp=>uI w p r).reverse) fs)
theorem QP (O:Lw w):FO w 5 2 (B3 w):=by
 refine aI O.ok O.hn _ ⟨"unfold",aa 13,["walk","question","told_of"]⟩ (by rw[O.hd];rfl) { cs:=[(0,je)],ms:=[(1,fD w)] } { cs:=⟨⟨1,by decide,km O⟩,trivial⟩,ms:=⟨⟨1,by decide,jf O⟩,trivial⟩ } QC QD λds M Q _ h=>?_;obtain⟨M0,x,a,b,ws,fs,q,r,rfl,rfl,W,ko,hu,h⟩:=h;have m2:w.ca 0=w.mc 1:=(O.mc _ (by decide)).symm;obtain⟨dx,hx⟩:=W.gx (ws:=ws) (fs:=fs);refine⟨rfl,_,dx,_,hx,m2,bq (by decide +kernel) (by decide +kernel),x,a,b,dx,_,_,_,ws,rfl,hx,W.ga,Yp ko (by decide),?_⟩;rw[W.pa];refine⟨q,rfl,hu,?_⟩;refine dW (λxs τ M'=>∃rest done v,us q=rest++done/\xs=(rest.map qD).reverse/\τ=[some (.ref x),some (qD q),some r,v]/\M'=Wm M0 a b (ws++[UG w q r]++(done.map λp=>uI w p r).reverse) fs) ?_ ?_ _ _ _ ⟨us q,[],none,by simp,rfl,rfl,by rw[YN,List.reverse_nil,XO];rfl⟩
 ·rintro τ M' ⟨rest,done,v,e1,e2,rfl,rfl⟩;have:rest=[]:=by
   have:=congrArg ZX e2;simpa using this.symm
  subst this;rw[List.nil_append]at e1;rw[e1]at h;exact⟨trivial,.rfl (ar h)⟩
 ·rintro y xs τ M' ⟨rest,done,v,e1,e2,rfl,rfl⟩;refine⟨trivial,?_⟩;rcases ZI rest with z |⟨r',q',z⟩
  ·subst z;cases e2
  subst z;rw[Zm]at e1 e2;rw[XU,XD,YN,List.reverse_append]at e2;cases e2;have hlen:(us q).length=r'.length+1+done.length:=by rw[e1];simp;lia
  obtain⟨dy,hy⟩:=W.gx (ws:=ws++[UG w q r]++(done.map λp=>uI w p r).reverse) (fs:=fs);refine λN hN=>⟨_,dy,_,hy,m2,bq (by decide +kernel) (by decide +kernel),x,a,b,dy,_,_,_,_,rfl,hy,W.ga,XC (by simp;lia:_<=2000000) (by decide),hN _ _ ⟨r',q'::done,_,by rw[e1];simp,rfl,rfl,?_⟩⟩;rw[W.pa,XD,Y1,<- Yb];rfl
def Gd (g:Qn->D) (P:Sp):Prop:=∀{q:Qn}{M:Mp}{Q:QK}{E:XQ},(us q).length<100->Q (g q) M->P [qD q,.lst ((us q).map g)] M Q E
def B4 (w:Wo) (f:Addr) (g:Qn->D):Sp:=λds M Q _=>∃M0 x a b ws fs q,ds=[.ref x,qD q,.ref f]/\M=Wm M0 a b ws (fs++(us q).map g)/\Wc (w.ca 0) M0 x a b/\fs.length<1000000/\(us q).length<100/\Q .ai (Wm M0 a b ws (fs++[g q]))
theorem QQ (O:Lw w) {f:Addr}{g:Qn->D}{P:Sp} (hf:cJ w.G 2 f P) (hg:Gd g P):FO w 6 3 (B4 w f g):=by
 refine aI O.ok O.hn _ ⟨"fold",aa 14,["walk","question","told_of"]⟩ (by rw[O.hd];rfl) { cs:=[(0,je)],ms:=[(2,eo w),(3,jh w)],ca:=λh sp=>h=f/\sp=P } { cs:=⟨⟨1,by decide,km O⟩,trivial⟩,ms:=⟨⟨1,by decide,jg O⟩,⟨1,by decide,kn O⟩,trivial⟩,ca:=?_ } QF QG λds M Q _ h=>?_
 ·rintro _ sp ⟨rfl,rfl⟩;exact hf
 obtain⟨M0,x,a,b,ws,fs,q,rfl,rfl,W,eg,hu,h⟩:=h;have m3:w.ca 0=w.mc 2:=(O.mc _ (by decide)).symm;have m4:w.ca 0=w.mc 3:=(O.mc _ (by decide)).symm;obtain⟨dx,hx⟩:=W.gx (ws:=ws) (fs:=fs++(us q).map g);obtain⟨dy,hy⟩:=W.gx (ws:=ws) (fs:=fs);refine⟨rfl,_,dx,_,hx,m3,bq (by decide +kernel) (by decide +kernel),_,⟨rfl,rfl⟩,_,dx,_,hx,m4,bq (by decide +kernel) (by decide +kernel),q,rfl,hu,x,a,b,dx,_,fs,(us q).map g,rfl,hx,Wm.gb,by simp,by simp;lia,?_⟩;rw[Wm.pb];refine hg hu ⟨x,a,b,dy,_,fs,rfl,hy,Wm.gb,Yp eg (by decide),?_⟩;rw[Wm.pb];exact ar h
def mH (w:Wo) (f:Addr) (g:Qn->D) (h:Addr) (sp:Sp):Prop:=(h=a' w "unfold"/\sp=B3 w)\/(h=a' w "fold"/\sp=B4 w f g)
theorem QR (O:Lw w) {q:Qn}{r:D}:uI w q r=.tup [.ref (a' w "unfold"),qD q,r]:=by unfold uI;rw[O.VG]
theorem QT (O:Lw w) {q:Qn}{r:D}:UG w q r=.tup [.ref (a' w "fold"),qD q,r]:=by unfold UG;rw[O.go]
theorem B5 (O:Lw w) {f:Addr}{g:Qn->D}{M0:Mp}{x a b:Addr} (W:Wc (w.ca 0) M0 x a b) {e:En}:∀ (m:Nat) (q:Qn),nq q<=m->wq q->∀ {n:Nat}{ws fs:List D},ws.length+110 * dn q<900000->fs.length+110 * dn q<900000 ->
  Lp w (mH w f g) e n x (Wm M0 a b ws (fs++[g q]))->Lp w (mH w f g) e (n+2 * nq q) x (Wm M0 a b (ws++[uI w q (.ref f)]) fs)
 | 0,q,h,_,_,_,_,_,_,_=>by rw[fH]at h;lia
 |m+1,q,h,hw,n,ws,fs,lw,lf,k=>by
  obtain⟨hu,ko⟩:=kx hw;have hd:=uz q;rw[fH]at h ⊢;rw[show n+2 * (1+bA (us q))=(n+1+2 * bA (us q))+1 by lia,QR O];refine b0 O (.inl ⟨rfl,rfl⟩) W λQ hQ=>⟨M0,x,a,b,ws,fs,q,_,rfl,rfl,W,by lia,hu,hQ _ _ ?_⟩;have list:∀ (qs:List Qn),bA qs<=m->(∀ p∈qs,wq p)->∀ {n:Nat}{ws fs:List D},ws.length+qs.length+110 * fG qs<900000->fs.length+qs.length+110 * fG qs<900000 ->
    Lp w (mH w f g) e n x (Wm M0 a b ws (fs++qs.map g))->Lp w (mH w f g) e (n+2 * bA qs) x (Wm M0 a b (ws++(qs.map λp=>uI w p (.ref f)).reverse) fs):=by
   intro qs
   induction qs with
   |nil=>intro _ _ n ws fs _ _ k;rw[YN,XO]at k;rw[YN,List.reverse_nil,XO];exact k
   |cons p r ih=>
    intro hm B6 n ws fs lw lf k;rw[bA]at hm;rw[fG,XG]at lw lf;have n1:=fH p;rw[XD,Y1,<- Yb,bA,show n+2 * (nq p+bA r)=(n+2 * bA r)+2 * nq p by lia];refine B5 O W m p (by lia) (B6 p XA) (by simp;lia) (by lia) ?_;refine ih (by lia) (λz hz=>B6 z (XB _ hz)) (by lia) (by simp;lia) ?_;rw[Yb];exact k
  refine list (us q) (by lia) ko (by simp;lia) (by lia) ?_;rw[QT O];exact b0 O (.inr ⟨rfl,rfl⟩) W λQ hQ=>⟨M0,x,a,b,ws,fs,q,rfl,rfl,W,by lia,hu,hQ _ _ k⟩
def B7 (w:Wo) (f:Addr) (g:Qn->D):Sp:=λds M Q _=>∃M0 x a b q,ds=[.ref x]/\M=Wm M0 a b [uI w q (.ref f)] []/\Wc (w.ca 0) M0 x a b/\wq q/\dn q<500/\Q (g q) (Wm M0 a b [] [])
theorem QU (O:Lw w) {f:Addr}{g:Qn->D}{P:Sp} (hf:cJ w.G 2 f P) (hg:Gd g P):de w 4 4 (B7 w f g):=by
 refine i5 O.ok O.hn _ ⟨"run",(bh (aa 11) 4),["self"]⟩ (by rw[O.hms];rfl) (UC w (mH w f g)) { cs:=trivial,ca:=?_ } uv uw λds M Q _ h=>?_
 ·rintro _ sp (⟨rfl,rfl⟩ |⟨rfl,rfl⟩)
  ·exact FO.ck ((QP O).mono (by decide)) (d:=⟨"unfold",aa 13,["walk","question","told_of"]⟩) (by rw[O.hd];rfl)
  ·exact FO.ck (QQ O hf hg) (d:=⟨"fold",aa 14,["walk","question","told_of"]⟩) (by rw[O.hd];rfl)
 obtain⟨M0,x,a,b,q,rfl,rfl,W,hw,hd,h⟩:=h;refine⟨rfl,1+2 * nq q,?_⟩;refine B5 O W (nq q) q (Xu _) hw (ws:=[]) (fs:=[]) (n:=1) (by simp;lia) (by simp;lia) (ux O W λ_ _ _=>?_) _ _ _;obtain⟨dx,hx⟩:=W.gx (ws:=[]) (fs:=[]++[g q]);refine⟨_,dx,_,hx,.ref b,O.ff,rfl,.inl ⟨rfl,_,Wm.gb⟩,_,Wm.gb,g q,rfl,?_⟩;rw[Wm.pb];exact ar h
def QV (f:Addr) (g:Qn->D):Sp:=λds M Q _=>∃q,ds=[qD q,.ref f]/\wq q/\dn q<500/\Q (g q) M
theorem B8 (O:Lw w) {f:Addr}{g:Qn->D}{P:Sp} (hf:cJ w.G 2 f P) (hg:Gd g P):FO w 4 5 (QV f g):=by
 refine aI O.ok O.hn _ ⟨"folded",aa 12,["question","told_of"]⟩ (by rw[O.hd];rfl) { ms:=[(1,fD w),(4,B7 w f g)],ci:=[(0,0,pF w)] } { cs:=trivial,ms:=⟨⟨1,by decide,jf O⟩,⟨4,by decide,QU O hf hg⟩,trivial⟩,ci:=⟨⟨O.mc _ (by decide),by rw[O.hms];rfl,1,by decide,ug O⟩,trivial⟩ } QL QO λds M Q _ h=>?_;obtain⟨q,rfl,hw,hd,h⟩:=h;have m2:w.ca 0=w.mc 1:=(O.mc _ (by decide)).symm;have m5:w.ca 0=w.mc 4:=(O.mc _ (by decide)).symm;refine⟨rfl,λx dx hx kt nd=>⟨x,dx,rfl,aw,λa b ha hb ne=>⟨rfl,?_⟩⟩⟩;obtain⟨sb,W⟩:=pI (i1:=[("waiting",.ref a),("found",.ref b)]) (ws:=[]) (fs:=[]) hx kt ha hb nd ne;obtain⟨dy,hy⟩:=W.gx (ws:=[]) (fs:=[]);refine⟨_,dy,_,hy,m2,bq (by decide +kernel) (by decide +kernel),x,a,b,dy,_,_,_,[],rfl,hy,W.ga,by decide,?_⟩;rw[W.pa];obtain⟨UD,hz⟩:=W.gx (ws:=[]++[.tup [w.gv.getD 11 .ai,qD q,.ref f]]) (fs:=[]);exact⟨_,UD,_,hz,m5,bq (by decide +kernel) (by decide +kernel),_,x,a,b,q,rfl,rfl,W,hw,hd,mr sb h⟩
noncomputable def QW:Expr:=pB.es.headD (.Name "" ⟨0,0,0,0⟩)
theorem QX:ax (aa 56)=[.FunctionDef pB.name pB.params pB.body [] none [] pB.scope none pB.name pB.np,.Return (some (.Call (.Name pB.g pB.gp) (QW::pB.es.tail) [] pB.cp)) pB.rp]:=by kernel_rfl
theorem QY:aB ["question","names","put"] ["question","names"] (ag (aa 56)):=⟨rfl,rfl,rfl,by decide +kernel,rfl,by decide +kernel,by decide +kernel⟩
def B9:Sp:=λds M Q _=>∃q nv,ds=[qD q,dD (aK nv)]/\wq q/\dn q<500/\Q (qD (aH nv q)) M
theorem QZ (O:Lw w):FO w 38 6 B9:=by
 refine zQ O.ok O.hn (kp:=1) (n:=40) (np:=40) (j:=2) (ci:=1) (ns:=["question","names","put"]) (gj:=["part","below"]) (ls:=[]) (x:="names") (b:=uN) (t:=.cons (.v 0) (.cons (.v 2) .nil)) (kc:=Qz) 38 4 ⟨"behind",aa 56,["question","names"]⟩ (by rw[O.hd];rfl) QX (λf fd q=>O.U0 f fd q) {} { cs:=trivial } QY (by kernel_rfl) (by kernel_rfl) (by decide) rfl (by decide) (by kernel_rfl)
  (λ_ _ _ _=>rfl) (λ_ _ _ _=>rfl) (λ_=>rfl) (by kernel_rfl) (by kernel_rfl) (λ_=>by kernel_rfl) (by kernel_rfl) (by kernel_rfl) (by kernel_rfl) (by kernel_rfl) (by kernel_rfl) ⟨by kernel_rfl,by kernel_rfl,by kernel_rfl,by decide +kernel,by decide +kernel,by decide +kernel,by decide +kernel⟩ (by decide +kernel) (λq clos doc pm c ctv K=>bE.all λus h=>?_) (by kernel_rfl) (λe v l=>⟨{ cs:=[(1,pK)] },{ cs:=⟨⟨1,by decide,Qy (O.at l)⟩,trivial⟩ },λds M Q E hs=>?_⟩) λds M Q E hs=>?_
 ·match us,h with
  |[_,_],_=>rfl
 ·obtain⟨q,nv,rfl,rfl,hu,h⟩:=hs;exact⟨rfl,QA (w:=w.at e) hu h⟩
 ·obtain⟨q,nv,rfl,hw,hd,h⟩:=hs;exact⟨rfl,λf e v l ev hh=>by
   cases ev;exact⟨_,B8 (g:=λq=>qD (aH nv q)) (O.at l) hh (λ{q M Q E} hu h=>⟨q,nv,rfl,by rw[Yv];rfl,hu,h⟩),q,rfl,hw,hd,ar h⟩⟩
noncomputable def Q3:B:=(.cons (.ret (.tup (.cons (.c (.str "both")) (.cons (.call 38 (.cons (.v 0) (.cons (.v 1) .nil))) (.cons (.tup (.cons (.c (.str "times")) (.cons (.neg (.c (.int 1))) (.cons (.v 0) .nil)))) .nil))))) .nil)
theorem Q4:aB ["question","names"] ["question","names"] (ag (aa 55)):=⟨rfl,rfl,rfl,by decide +kernel,rfl,by decide +kernel,by decide +kernel⟩
theorem Q5:aF nm 40 ["question","names"] (ag (aa 55)) (ax (aa 55))=Q3:=by kernel_rfl
def B':Sp:=λds M Q _=>∃q nv,ds=[qD q,dD (aK nv)]/\wq q/\dn q<500/\Q (qD (hW nv q)) M
theorem Q6 (O:Lw w):FO w 37 7 B':=by
 refine aI O.ok O.hn _ ⟨"behind_less_ahead",aa 55,["question","names"]⟩ (by rw[O.hd];rfl) { cs:=[(38,B9)] } { cs:=⟨⟨6,by decide,QZ O⟩,trivial⟩ } Q4 Q5 λds M Q _ h=>?_;obtain⟨q,nv,rfl,hw,hd,h⟩:=h;exact⟨rfl,q,nv,rfl,hw,hd,l3,l3,ar h⟩
variable {w:Wo}
theorem Cb {W:Wd}{mn:List Str}{s:S}{r:B}{e:En} {τ:St} {M:Mp} (h:S.w W mn s { e with nx:=B.w W mn r e } τ M):B.w W mn (.cons s r) e τ M:=by cases r <;> exact h
section
variable {e:En} {τ:St} {M0:Mp}{x a b:Addr}{ws fs:List D}
theorem uO (O:Lw w) {c:a0 w} (hm:gh c.ms 2=some (eo w)) {f:E}{r:B}{d:D} (W:Wc (w.ca 0) M0 x a b) (h0:∀ k:QK,k (.ref x) (Wm M0 a b ws fs)->ey 0 τ (Wm M0 a b ws fs) k) (hl:fs.length<1000000) (hf:∀ k:QK,k d (Wm M0 a b ws fs)->(f.w c.wd nm.aj).1 τ (Wm M0 a b ws fs) k) (h:B.w c.wd nm.aj r e τ (Wm M0 a b ws (fs++[d]))) :
  B.w c.wd nm.aj (.cons (.ex (.aU 2 (.v 0) (.cons f .nil))) r) e τ (Wm M0 a b ws fs):=by
 refine Cb ?_;show nj (sA ((gh c.ms 2).map λsp=>(w.mc 2,sp)) (nm.aj.getD 2 "") (ey 0) (fh (f.w c.wd nm.aj).1 ez)) { e with nx:=B.w c.wd nm.aj r e } τ (Wm M0 a b ws fs);rw[hm];obtain⟨dx,hx⟩:=W.gx (ws:=ws) (fs:=fs);refine h0 (λo M1=>cC o M1 λ_ C' _ fs=>C'=w.mc 2/\fs.lookup (nm.aj.getD 2 "")=none/\fh (f.w c.wd nm.aj).1 ez τ M1 λds M2=>eo w (o::(ds++[])) M2 (λ_ M3=>B.w c.wd nm.aj r e τ M3) X0) ⟨_,dx,_,hx,(O.mc _ (by decide)).symm,bq (by decide +kernel) (by decide +kernel),hf _ ⟨x,a,b,dx,d,fs,rfl,hx,Wm.gb,Yp hl (by decide),?_⟩⟩;rw[Wm.pb];exact h
theorem er (O:Lw w) {c:a0 w} (hm:gh c.ms 1=some (fD w)) {f g i:E}{rr:B}{d s r:D} (W:Wc (w.ca 0) M0 x a b) (h0:∀ k:QK,k (.ref x) (Wm M0 a b ws fs)->ey 0 τ (Wm M0 a b ws fs) k) (hl:ws.length<1000010) (hf:∀ k:QK,k d (Wm M0 a b ws fs)->(f.w c.wd nm.aj).1 τ (Wm M0 a b ws fs) k) (hg:∀ k:QK,k s (Wm M0 a b ws fs)->(g.w c.wd nm.aj).1 τ (Wm M0 a b ws fs) k) (hi:∀ k:QK,k r (Wm M0 a b ws fs)->(i.w c.wd nm.aj).1 τ (Wm M0 a b ws fs) k)
  (h:B.w c.wd nm.aj rr e τ (Wm M0 a b (ws++[.tup [d,s,r]]) fs)):B.w c.wd nm.aj (.cons (.ex (.aU 1 (.v 0) (.cons f (.cons g (.cons i .nil))))) rr) e τ (Wm M0 a b ws fs):=by
 refine Cb ?_;show nj (sA ((gh c.ms 1).map λsp=>(w.mc 1,sp)) (nm.aj.getD 1 "") (ey 0) (fh (f.w c.wd nm.aj).1 (fh (g.w c.wd nm.aj).1 (fh (i.w c.wd nm.aj).1 ez)))) { e with nx:=B.w c.wd nm.aj rr e } τ (Wm M0 a b ws fs);rw[hm];obtain⟨dx,hx⟩:=W.gx (ws:=ws) (fs:=fs);refine h0 (λo M1=>cC o M1 λ_ C' _ fs=>C'=w.mc 1/\fs.lookup (nm.aj.getD 1 "")=none/\fh (f.w c.wd nm.aj).1 (fh (g.w c.wd nm.aj).1 (fh (i.w c.wd nm.aj).1 ez)) τ M1 λds M2=>fD w (o::(ds++[])) M2 (λ_ M3=>B.w c.wd nm.aj rr e τ M3) X0) ⟨_,dx,_,hx,(O.mc _ (by decide)).symm,bq (by decide +kernel) (by decide +kernel),hf _ (hg _ (hi _ ⟨x,a,b,dx,d,s,r,ws,rfl,hx,W.ga,Yp hl (by decide),?_⟩))⟩;rw[W.pa];exact h
end
def Wl (nv:Nv) (q:Qn) (f:Qn->Qn) (r:Qn):Prop:=(∃i,q=.times i r/\f=.times i)\/(∃c,q=.aL c r/\f=.aL c)\/∃y s,q=.let y s r/\f=.let y s/\hs nv s=false
noncomputable def uP:B:=(.cons (.set (.one 3) (.ix (.v 1) (.c (.int 0)))) (.cons (.cond (.not (.call 30 (.cons (.v 1) (.cons (.v 2) .nil)))) (.cons (.ex (.aU 2 (.v 0) (.cons (.c .ai) .nil))) .nil) (.cons (.cond (.cmp .Eq (.v 3) (.c (.str "table"))) (.cons (.ex (.aU 2 (.v 0) (.cons (.tup (.cons (.c (.str "table")) (.cons (.ix (.v 2) (.ix (.v 1) (.c (.int 1)))) .nil))) .nil))) .nil) (.cons (.cond (.cmp .In (.v 3) (.tup (.cons (.c (.str "both")) (.cons (.c (.str "for")) .nil)))) (.cons (.ex (.aU 1 (.v 0) (.cons (.ix (.g 5) (.v 3)) (.cons (.v 1) (.cons (.v 2) .nil))))) (.cons (.ex (.aU 1 (.v 0) (.cons (.g 35) (.cons (.ix (.v 1) (.neg (.c (.int 1)))) (.cons (.v 2) .nil))))) (.cons (.ex (.aU 1 (.v 0) (.cons (.g 35) (.cons (.ix (.v 1) (.neg (.c (.int 2)))) (.cons (.v 2) .nil))))) .nil))) (.cons (.cond (.or (.cmp .In (.v 3) (.tup (.cons (.c (.str "times")) (.cons (.c (.str "when")) .nil)))) (.and (.cmp .Eq (.v 3) (.c (.str "let"))) (.not (.call 30 (.cons (.ix (.v 1) (.c (.int 2))) (.cons (.v 2) .nil)))))) (.cons (.ex (.aU 1 (.v 0) (.cons (.g 42) (.cons (.v 1) (.cons (.v 2) .nil))))) (.cons (.ex (.aU 1 (.v 0) (.cons (.g 35) (.cons (.ix (.v 1) (.neg (.c (.int 1)))) (.cons (.v 2) .nil))))) .nil)) (.cons (.ex (.aU 2 (.v 0) (.cons (.call 37 (.cons (.v 1) (.cons (.v 2) .nil))) .nil))) .nil)) .nil)) .nil)) .nil)) .nil))
theorem Q7:aB ["walk","question","names","word"] ["walk","question","names"] (ag (aa 45)):=⟨rfl,rfl,rfl,by decide +kernel,rfl,by decide +kernel,by decide +kernel⟩
theorem Q8:aF nm 40 ["walk","question","names","word"] (ag (aa 45)) (ax (aa 45))=uP:=by kernel_rfl
noncomputable def bU (w:Wo) (q:Qn) (nv:Nv):D:=.tup [w.gv.getD 35 .ai,qD q,dD (aK nv)]
def pL (nv:Nv) (q:Qn):Prop:=wd q≠"table"/\wd q≠"both"/\wd q≠"for"/\wd q≠"times"/\wd q≠"when"/\(wd q≠"let"\/∃y a b,q=.let y a b/\hs nv a=true)
structure Wt (ws fs:List D) (q:Qn) (N:List Str):Prop where
 lw:ws.length+3 * dn q<900000
 lf:fs.length+3 * dn q<900000
 wd:wq q
 n:nq q<1000000
 d:dn q<500
 lN:N.length<64
 t:∀x∈aD q,x∈N
def Cc (w:Wo) (nv:Nv) (q:Qn) (ws fs:List D) (K:List D->List D->Prop):Prop:=
  (hs nv q=false/\K ws (fs++[.ai])) \/
   (hs nv q=true/\((∃y z,q=.tab y/\bB y nv=some z/\K ws (fs++[qD (.tab z)])) \/
    (∃f r s,(q=.both r s/\f=a' w "both_differences"\/∃y,q=.for y r s/\f=a' w "for_differences")/\K (ws++[.tup [.ref f,qD q,dD (aK nv)],bU w s nv,bU w r nv]) fs) \/
    (∃f r,Wl nv q f r/\K (ws++[.tup [w.gv.getD 42 .ai,qD q,dD (aK nv)],bU w r nv]) fs) \/
    (pL nv q/\K ws (fs++[qD (hW nv q)]))))
def Cd (w:Wo):Sp:=λds M Q _=>∃M0 x a b ws fs q nv N,ds=[.ref x,qD q,dD (aK nv)]/\M=Wm M0 a b ws fs/\Wc (w.ca 0) M0 x a b/\Wt ws fs q N/\Cc w nv q ws fs λcN fs'=>Q .ai (Wm M0 a b cN fs')
noncomputable abbrev cm (w:Wo):a0 w:={ cs:=[(30,BU),(37,B')],ms:=[(1,fD w),(2,eo w)] }
theorem Ce {s t z:Str} (h:z≠s) (h':z≠t):cB (.str z) [D.str s,D.str t]=false:=by
 have e:∀u:Str,z≠u->aC (.str u) (.str z)=false:=λu hu=>by
  show (some z == some u)=false;exact beq_eq_false_iff_ne.mpr λq=>hu (Yg q)
 unfold cB;rw[Y2,Y2,List.any_nil,e s h,e t h'];rfl
theorem fJ {s t z:Str}{M:Mp}{k:Bool->Prop}{b:Bool} (hb:cB (.str z) [D.str s,D.str t]=b) (q:k b):d9 (.str z) (.tup [.str s,.str t]) M k:=by
 refine⟨⟨rfl,rfl,by rw[aT,aT,aT,a8,a8];decide,?_⟩⟩;rw[hb];exact q
theorem Cf:(([("both","both_differences"),("for","for_differences")]:List (Str×Str)).map (·.1)).Nodup:=by decide +kernel
theorem Q9 (O:Lw w):FO w 29 8 (Cd w):=by
 refine aI O.ok O.hn _ ⟨"begin_differences",aa 45,["walk","question","names"]⟩ (by rw[O.hd];rfl) (cm w) { cs:=⟨⟨4,by decide,PY O⟩,⟨7,by decide,Q6 O⟩,trivial⟩,ms:=⟨⟨1,by decide,jf O⟩,⟨1,by decide,jg O⟩,trivial⟩ } Q7 Q8 λds M Q _ h=>?_;obtain⟨M0,x,a,b,ws,fs,q,nv,N,rfl,rfl,W,C,h⟩:=h;have lf:fs.length<1000000:=by have:=C.lf;lia
 have lw:=C.lw;obtain⟨r,e⟩:=dE q;have start:∀ z,z=qD q->(hs nv q=true->B.w (cm w).wd nm.aj (KL (i8 (Am uP))) (a9 Q) [some (.ref x),some z,some (dD (aK nv)),some (.str (wd q))] (Wm M0 a b ws fs))->(hs nv q=false->B.w (cm w).wd nm.aj (.cons (.ex (.aU 2 (.v 0) (.cons (.c .ai) .nil))) .nil) (a9 Q) [some (.ref x),some z,some (dD (aK nv)),some (.str (wd q))] (Wm M0 a b ws fs)) ->
   [D.ref x,z,dD (aK nv)].length=3/\B.w (cm w).wd nm.aj uP (a9 Q) [some (.ref x),some z,some (dD (aK nv)),none] (Wm M0 a b ws fs):=by
  intro z hz h1 h2;have hz':=hz.trans e;subst hz';refine⟨rfl,_,eh,q,N,nv,by rw[e];rfl,C.wd,C.n,C.lN,C.t,?_⟩;cases hh:hs nv q with
  |true=>exact h1 hh
  |false=>exact h2 hh
 rcases h with ⟨hf,h⟩ |⟨ht,⟨y,z,rfl,hz,h⟩ |⟨f,p,s,hq,h⟩ |⟨f,p,hq,h⟩ |⟨hq,h⟩⟩
 ·exact start _ rfl (λz=>by rw[hf]at z;cases z) λ_=>uO (c:=cm w) O rfl W (λ_ z=>z) lf (λ_ z=>z) (ar h)
 ·refine start _ rfl (λ_=>aq (aN (by rw[wd];decide +kernel) ?_)) λz=>by rw[ht]at z;cases z
  exact uO (c:=cm w) O rfl W (λ_ z=>z) lf (d:=qD (.tab z)) (λk hk=>⟨_,rfl,tW (d:=.str z) (by rw[ky,hz];rfl) ⟨l2,hk⟩⟩) (ar h)
 ·have no:hs nv q=false->False:=λz=>by rw[ht]at z;cases z
  have VT:∀{s g:Str} (Mx:Mp) (k:QK),(s,g)∈([("both","both_differences"),("for","for_differences")]:List (Str×Str))->k (.ref (a' w g)) Mx->aA (w.gv.getD 5 .ai) (.str s) Mx k:=λ{s g} Mx k hm z=>by
   rw[O.gs];exact⟨_,uh Cf hm,z⟩
  rcases hq with ⟨rfl,rfl⟩ |⟨y,rfl,rfl⟩
  ·refine start _ rfl (λ_=>aq (bw (by rw[wd];decide +kernel) ⟨l2,fJ (b:=true) (by rw[wd];decide +kernel) (aN rfl ?_)⟩)) λz=>(no z).elim;refine er (c:=cm w) O rfl W (λ_ z=>z) (by lia) (λk hk=>VT (s:="both") _ k XA hk) (λk hk=>hk) (λk hk=>hk) ?_;refine er (c:=cm w) O rfl W (λ_ z=>z) (by simp;lia) (λk hk=>hk) (λk hk=>⟨_,rfl,hk⟩) (λk hk=>hk) ?_;refine er (c:=cm w) O rfl W (λ_ z=>z) (by simp;lia) (λk hk=>hk) (λk hk=>⟨_,rfl,hk⟩) (λk hk=>hk) (ar ?_);rw[Yb,Yb];exact h
  ·refine start _ rfl (λ_=>aq (bw (by rw[wd];decide +kernel) ⟨l2,fJ (b:=true) (by rw[wd];decide +kernel) (aN rfl ?_)⟩)) λz=>(no z).elim;refine er (c:=cm w) O rfl W (λ_ z=>z) (by lia) (λk hk=>VT (s:="for") _ k (XB _ XA) hk) (λk hk=>hk) (λk hk=>hk) ?_;refine er (c:=cm w) O rfl W (λ_ z=>z) (by simp;lia) (λk hk=>hk) (λk hk=>⟨_,rfl,hk⟩) (λk hk=>hk) ?_;refine er (c:=cm w) O rfl W (λ_ z=>z) (by simp;lia) (λk hk=>hk) (λk hk=>⟨_,rfl,hk⟩) (λk hk=>hk) (ar ?_);rw[Yb,Yb];exact h
 ·have no:hs nv q=false->False:=λz=>by rw[ht]at z;cases z
  rcases hq with ⟨i,rfl,rfl⟩ |⟨c,rfl,rfl⟩ |⟨y,s,rfl,rfl,e9⟩
  ·refine start _ rfl (λ_=>aq (bw (by rw[wd];decide +kernel) ⟨l2,fJ (b:=false) (by rw[wd];decide +kernel) (ay (by decide) ⟨l2,fJ (b:=true) (by rw[wd];decide +kernel) (aN rfl ?_)⟩)⟩)) λz=>(no z).elim;refine er (c:=cm w) O rfl W (λ_ z=>z) (by lia) (λk hk=>hk) (λk hk=>hk) (λk hk=>hk) ?_;refine er (c:=cm w) O rfl W (λ_ z=>z) (by simp;lia) (λk hk=>hk) (λk hk=>⟨_,rfl,hk⟩) (λk hk=>hk) (ar ?_);rw[Yb];exact h
  ·refine start _ rfl (λ_=>aq (bw (by rw[wd];decide +kernel) ⟨l2,fJ (b:=false) (by rw[wd];decide +kernel) (ay (by decide) ⟨l2,fJ (b:=true) (by rw[wd];decide +kernel) (aN rfl ?_)⟩)⟩)) λz=>(no z).elim;refine er (c:=cm w) O rfl W (λ_ z=>z) (by lia) (λk hk=>hk) (λk hk=>hk) (λk hk=>hk) ?_;refine er (c:=cm w) O rfl W (λ_ z=>z) (by simp;lia) (λk hk=>hk) (λk hk=>⟨_,rfl,hk⟩) (λk hk=>hk) (ar ?_);rw[Yb];exact h
  ·have n2:=C.n;have w2:=C.wd;have t2:=C.t
   rw[nq]at n2;rw[wq]at w2;rw[aD]at t2;refine start _ rfl (λ_=>aq (bw (by rw[wd];decide +kernel) ⟨l2,fJ (b:=false) (by rw[wd];decide +kernel) (ay (by decide) ⟨l2,fJ (b:=false) (by rw[wd];decide +kernel) (ay (by decide) (aq (aN (by rw[wd];decide +kernel) ⟨_,rfl,s,N,nv,rfl,w2.1,by lia,C.lN,λx z=>t2 x (YV _ z),?_⟩)))⟩)⟩)) λz=>(no z).elim;rw[e9];refine er (c:=cm w) O rfl W (λ_ z=>z) (by lia) (λk hk=>hk) (λk hk=>hk) (λk hk=>hk) ?_;refine er (c:=cm w) O rfl W (λ_ z=>z) (by simp;lia) (λk hk=>hk) (λk hk=>⟨_,rfl,hk⟩) (λk hk=>hk) (ar ?_);rw[Yb];exact h
 ·have no:hs nv q=false->False:=λz=>by rw[ht]at z;cases z
  obtain⟨h1,h2,h3,h4,h5,h6⟩:=hq;have fin:∀z,z=qD q->B.w (cm w).wd nm.aj (.cons (.ex (.aU 2 (.v 0) (.cons (.call 37 (.cons (.v 1) (.cons (.v 2) .nil))) .nil))) .nil) (a9 Q) [some (.ref x),some z,some (dD (aK nv)),some (.str (wd q))] (Wm M0 a b ws fs):=by
   rintro z rfl;exact uO (c:=cm w) O rfl W (λ_ z=>z) lf (d:=qD (hW nv q)) (λk hk=>⟨q,nv,rfl,C.wd,C.d,hk⟩) (ar h)
  refine start _ rfl (λ_=>aq (bw h1 ⟨l2,fJ (Ce h2 h3) (ay (by decide) ⟨l2,fJ (Ce h4 h5) (ay (by decide) ?_)⟩)⟩)) λz=>(no z).elim;rcases h6 with h6 |⟨y,p,s,rfl,hp⟩
  ·exact aq (bw h6 (fin _ rfl))
  ·have n2:=C.n;have w2:=C.wd;have t2:=C.t
   rw[nq]at n2;rw[wq]at w2;rw[aD]at t2;refine aq (aN (by rw[wd];decide +kernel) ⟨_,rfl,p,N,nv,rfl,w2.1,by lia,C.lN,λx z=>t2 x (YV _ z),?_⟩);rw[hp];exact fin _ rfl
variable {w:Wo}
noncomputable def dF (nv:Nv) (q:Qn):Option Qn:=if hs nv q=true then some (hW nv q) else none
noncomputable def av (nv:Nv):Qn->Option Qn
 |.tab x=>if hs nv (.tab x)=true then (bB x nv).map .tab else none
 |.both a b=>if hs nv (.both a b)=true then cy none [av nv a,av nv b] else none
 |.for y a b=>if hs nv (.for y a b)=true then cy none [mf y (av nv a) (some b),mf y (some a) (av nv b),mf y (av nv a) (av nv b)] else none
 |.times i a=>if hs nv (.times i a)=true then (av nv a).map (.times i) else none
 |.aL c a=>if hs nv (.aL c a)=true then (av nv a).map (.aL c) else none
 |.let y a b=>if hs nv (.let y a b)=true then (if hs nv a=true then some (hW nv (.let y a b)) else (av nv b).map (.let y a)) else none
 |q=>dF nv q
def mI (w:Wo) (f:Addr) (sp:Sp):Prop:=(f=a' w "begin_differences"/\sp=Cd w)\/(f=a' w "both_differences"/\sp=B0 w)\/(f=a' w "for_differences"/\sp=B1 w)\/(f=a' w "wrap"/\sp=B2 w)
theorem mJ (O:Lw w) {e:En}{n:Nat}{M0:Mp}{x a b:Addr}{ws fs:List D}{q:Qn}{nv:Nv}{N:List Str} (W:Wc (w.ca 0) M0 x a b) (T:Wt ws fs q N) (h:Cc w nv q ws fs λcN fs'=>Lp w (mI w) e n x (Wm M0 a b cN fs')):Lp w (mI w) e (n+1) x (Wm M0 a b (ws++[bU w q nv]) fs):=by
 unfold bU;rw[O.ga];refine b0 O (.inl ⟨rfl,rfl⟩) W λQ hQ=>⟨M0,x,a,b,ws,fs,q,nv,N,rfl,rfl,W,T,?_⟩;rcases h with ⟨h1,h⟩ |⟨h1,⟨y,z,e1,e2,h⟩ |⟨f,r,s,e1,h⟩ |⟨f,r,e1,h⟩ |⟨e1,h⟩⟩
 ·exact .inl ⟨h1,hQ _ _ h⟩
 ·exact .inr ⟨h1,.inl ⟨y,z,e1,e2,hQ _ _ h⟩⟩
 ·exact .inr ⟨h1,.inr (.inl ⟨f,r,s,e1,hQ _ _ h⟩)⟩
 ·exact .inr ⟨h1,.inr (.inr (.inl ⟨f,r,e1,hQ _ _ h⟩))⟩
 ·exact .inr ⟨h1,.inr (.inr (.inr ⟨e1,hQ _ _ h⟩))⟩
def gu (w:Wo) (nv:Nv) (N:List Str) (q:Qn) (m:Nat):Prop:=∀ {e:En}{n:Nat}{M0:Mp}{x a b:Addr}{ws fs:List D},Wc (w.ca 0) M0 x a b->Wt ws fs q N ->
  Lp w (mI w) e n x (Wm M0 a b ws (fs++[oD (av nv q)]))->Lp w (mI w) e (n+m) x (Wm M0 a b (ws++[bU w q nv]) fs)
theorem jj (O:Lw w) {nv:Nv}{N:List Str}{q:Qn} (h:hs nv q=false) (e:av nv q=none):gu w nv N q 1:=λW T K=>by
 rw[e]at K;exact mJ O W T (.inl ⟨h,K⟩)
theorem Cg (O:Lw w) {nv:Nv}{N:List Str}{q:Qn} (h:hs nv q=true) (hq:pL nv q) (e:av nv q=some (hW nv q)):gu w nv N q 1:=λW T K=>by
 rw[e]at K;exact mJ O W T (.inr ⟨h,.inr (.inr (.inr ⟨hq,K⟩))⟩)
theorem Ci (O:Lw w) {nv:Nv}{N:List Str}{q r s:Qn}{f:Addr}{m1 m2:Nat} (h:hs nv q=true) (hq:q=.both r s/\f=a' w "both_differences"\/∃y,q=.for y r s/\f=a' w "for_differences") (h1:gu w nv N r m1) (h2:gu w nv N s m2):gu w nv N q (m1+m2+2):=by
 intro e n M0 x a b ws fs W T K;have hu:us q=[r,s]:=by rcases hq with ⟨rfl,_⟩ |⟨y,rfl,_⟩ <;> rfl
 have hd:=uz q;rw[hu]at hd;have hd:dn q=1+max (dn r) (max (dn s) 0):=hd;have hn:=fH q;rw[hu]at hn;have hn:nq q=1+(nq r+(nq s+0)):=hn;obtain⟨_,hw⟩:=kx T.wd;rw[hu]at hw;have ht:∀p∈us q,∀x∈aD p,x∈N:=λp hp x hx=>T.t x (pJ.mpr (.inr (List.mem_flatMap.mpr ⟨p,hp,hx⟩)));rw[hu]at ht;have lw:=T.lw;have lf:=T.lf;have Ra:=T.n;have td:=T.d
 rw[show n+(m1+m2+2)=(n+1+m2+m1)+1 by lia];refine mJ O W T (.inr ⟨h,.inr (.inl ⟨f,r,s,hq,?_⟩)⟩);rw[show ws++[.tup [.ref f,qD q,dD (aK nv)],bU w s nv,bU w r nv]=(ws++[.tup [.ref f,qD q,dD (aK nv)],bU w s nv])++[bU w r nv] by simp];refine h1 W ⟨by simp;lia,by lia,hw r (by simp),by lia,by lia,T.lN,ht r (by simp)⟩ ?_;rw[show ws++[.tup [.ref f,qD q,dD (aK nv)],bU w s nv]=(ws++[.tup [.ref f,qD q,dD (aK nv)]])++[bU w s nv] by simp];refine h2 W ⟨by simp;lia,by simp;lia,hw s (by simp),by lia,by lia,T.lN,ht s (by simp)⟩ ?_;rw[show fs++[oD (av nv r)]++[oD (av nv s)]=fs++[oD (av nv r),oD (av nv s)] by simp];rcases hq with ⟨rfl,rfl⟩ |⟨y,rfl,rfl⟩
 ·rw[av,if_pos h]at K;exact b0 O (.inr (.inl ⟨rfl,rfl⟩)) W λQ hQ=>⟨M0,x,a,b,ws,fs,av nv r,av nv s,_,_,rfl,rfl,W,by lia,hQ _ _ K⟩
 ·rw[av,if_pos h]at K;exact b0 O (.inr (.inr (.inl ⟨rfl,rfl⟩))) W λQ hQ=>⟨M0,x,a,b,ws,fs,y,r,s,av nv r,av nv s,_,rfl,rfl,W,by lia,hQ _ _ K⟩
theorem uQ (O:Lw w) {nv:Nv}{N:List Str}{q r:Qn}{f:Qn->Qn}{m:Nat} (h:hs nv q=true) (hq:Wl nv q f r) (e1:av nv q=(av nv r).map f) (hd:dn r+1<=dn q) (hn:nq r<=nq q) (hr:r∈us q) (h1:gu w nv N r m):gu w nv N q (m+2):=by
 intro e n M0 x a b ws fs W T K;obtain⟨_,hw⟩:=kx T.wd;have ht:∀x∈aD r,x∈N:=λx hx=>T.t x (pJ.mpr (.inr (List.mem_flatMap.mpr ⟨r,hr,hx⟩)));have lw:=T.lw;have lf:=T.lf;have Ra:=T.n;have td:=T.d
 rw[show n+(m+2)=(n+1+m)+1 by lia];refine mJ O W T (.inr ⟨h,.inr (.inr (.inl ⟨f,r,hq,?_⟩))⟩);rw[show ws++[.tup [w.gv.getD 42 .ai,qD q,dD (aK nv)],bU w r nv]=(ws++[.tup [w.gv.getD 42 .ai,qD q,dD (aK nv)]])++[bU w r nv] by simp];refine h1 W ⟨by simp;lia,by lia,hw r hr,by lia,by lia,T.lN,ht⟩ ?_;rw[O.gp];rw[e1]at K;have wr:Wr q f:=by
  rcases hq with ⟨i,rfl,rfl⟩ |⟨c,rfl,rfl⟩ |⟨y,s,rfl,rfl,_⟩
  ·exact .inl ⟨_,_,rfl,rfl⟩
  ·exact .inr (.inl ⟨_,_,rfl,rfl⟩)
  ·exact .inr (.inr ⟨_,_,_,rfl,rfl⟩)
 exact b0 O (.inr (.inr (.inr ⟨rfl,rfl⟩))) W λQ hQ=>⟨M0,x,a,b,ws,fs,q,f,av nv r,_,rfl,wr,rfl,W,by lia,hQ _ _ K⟩
theorem dG {nv:Nv}{q:Qn} (h:(["table","both","for","times","when","let"]:List Str).all (λs=>decide (wd q≠s))=true):pL nv q:=by
 have g:=λs hs=>of_decide_eq_true (List.all_eq_true.mp h s hs);exact⟨g _ (by simp),g _ (by simp),g _ (by simp),g _ (by simp),g _ (by simp),.inl (g _ (by simp))⟩
theorem dH (O:Lw w) {nv:Nv}{N:List Str}{q:Qn} (hq:pL nv q) (e:av nv q=dF nv q):∃m,gu w nv N q m:=by
 cases h:hs nv q with
 |true=>exact⟨_,Cg O h hq (by rw[e,dF,if_pos h])⟩
 |false=>exact⟨_,jj O h (by rw[e,dF,if_neg (by rw[h];decide)])⟩
theorem hY (O:Lw w) {nv:Nv}{N:List Str}:∀ q,∃ m,gu w nv N q m
  | .tab y=>by
    cases h:hs nv (.tab y) with
    |false=>exact⟨_,jj O h (by rw[av,if_neg (by rw[h];decide)])⟩
    | true=>
      refine⟨1,λW T K=>?_⟩;cases hz:bB y nv with
      | none => have : hs nv (.tab y) = false := by simp [hs, aD, hz]
                rw[h]at this;cases this
      | some z=>
        rw[av,if_pos h,hz]at K;exact mJ O W T (.inr ⟨h,.inl ⟨y,z,rfl,hz,K⟩⟩)
  | .both a b=>by
    cases h:hs nv (.both a b) with
    |false=>exact⟨_,jj O h (by rw[av,if_neg (by rw[h];decide)])⟩
    | true=>
      obtain⟨m1,h1⟩:=hY O a;obtain⟨m2,h2⟩:=hY O b;exact⟨_,Ci O h (.inl ⟨rfl,rfl⟩) h1 h2⟩
  | .for y a b=>by
    cases h:hs nv (.for y a b) with
    |false=>exact⟨_,jj O h (by rw[av,if_neg (by rw[h];decide)])⟩
    | true=>
      obtain⟨m1,h1⟩:=hY O a;obtain⟨m2,h2⟩:=hY O b;exact⟨_,Ci O h (.inr ⟨y,rfl,rfl⟩) h1 h2⟩
  | .times i a=>by
    cases h:hs nv (.times i a) with
    |false=>exact⟨_,jj O h (by rw[av,if_neg (by rw[h];decide)])⟩
    | true=>
      obtain⟨m1,h1⟩:=hY O a;exact⟨_,uQ O h (.inl ⟨i,rfl,rfl⟩) (by rw[av,if_pos h]) (by rw[dn];lia) (by rw[nq];lia) (by simp [us]) h1⟩
  | .aL c a=>by
    cases h:hs nv (.aL c a) with
    |false=>exact⟨_,jj O h (by rw[av,if_neg (by rw[h];decide)])⟩
    | true=>
      obtain⟨m1,h1⟩:=hY O a;exact⟨_,uQ O h (.inr (.inl ⟨c,rfl,rfl⟩)) (by rw[av,if_pos h]) (by rw[dn];lia) (by rw[nq];lia) (by simp [us]) h1⟩
  | .let y a b=>by
    cases h:hs nv (.let y a b) with
    |false=>exact⟨_,jj O h (by rw[av,if_neg (by rw[h];decide)])⟩
    | true=>
      cases h':hs nv a with
      |true=>exact⟨_,Cg O h ⟨by rw[wd];decide +kernel,by rw[wd];decide +kernel,by rw[wd];decide +kernel,by rw[wd];decide +kernel,by rw[wd];decide +kernel,.inr ⟨y,a,b,rfl,h'⟩⟩ (by rw[av,if_pos h,if_pos h'])⟩
      | false=>
        obtain⟨m1,h1⟩:=hY O b;exact⟨_,uQ O h (.inr (.inr ⟨y,a,rfl,rfl,h'⟩)) (by rw[av,if_pos h,if_neg (by rw[h'];decide)]) (by rw[dn];lia) (by rw[nq];lia) (by simp [us]) h1⟩
  |.num _=>dH O (dG (by rw[wd];decide +kernel)) rfl
  |.word _=>dH O (dG (by rw[wd];decide +kernel)) rfl
  |.var _=>dH O (dG (by rw[wd];decide +kernel)) rfl
  |.none _=>dH O (dG (by rw[wd];decide +kernel)) rfl
  |.row _=>dH O (dG (by rw[wd];decide +kernel)) rfl
  |.at _ _=>dH O (dG (by rw[wd];decide +kernel)) rfl
  |.add _ _=>dH O (dG (by rw[wd];decide +kernel)) rfl
  |.mul _ _=>dH O (dG (by rw[wd];decide +kernel)) rfl
  |.one _=>dH O (dG (by rw[wd];decide +kernel)) rfl
  |.same _ _=>dH O (dG (by rw[wd];decide +kernel)) rfl
  |.under _ _=>dH O (dG (by rw[wd];decide +kernel)) rfl
  |.and _ _=>dH O (dG (by rw[wd];decide +kernel)) rfl
  |.or _ _=>dH O (dG (by rw[wd];decide +kernel)) rfl
  |.not _=>dH O (dG (by rw[wd];decide +kernel)) rfl
def Cj (w:Wo):Sp:=λds M Q _=>∃(M0:Mp) (x a b:Addr) (q:Qn) (nv:Nv) (N:List Str),ds=[.ref x]/\M=Wm M0 a b [bU w q nv] []/\Wc (w.ca 0) M0 x a b/\wq q/\nq q<1000000/\dn q<500/\N.length<64/\(∀x∈aD q,x∈N)/\Q (oD (av nv q)) (Wm M0 a b [] [])
theorem Rb (O:Lw w):de w 4 9 (Cj w):=by
 refine i5 O.ok O.hn _ ⟨"run",(bh (aa 11) 4),["self"]⟩ (by rw[O.hms];rfl) (UC w (mI w)) { cs:=trivial,ca:=?_ } uv uw λds M Q _ h=>?_
 ·rintro f sp (⟨rfl,rfl⟩ |⟨rfl,rfl⟩ |⟨rfl,rfl⟩ |⟨rfl,rfl⟩)
  ·exact FO.ck (Q9 O) (d:=⟨"begin_differences",aa 45,["walk","question","names"]⟩) (by rw[O.hd];rfl)
  ·exact FO.ck ((Qq O).mono (by decide)) (d:=⟨"both_differences",aa 50,["walk","question","names"]⟩) (by rw[O.hd];rfl)
  ·exact FO.ck ((Qr O).mono (by decide)) (d:=⟨"for_differences",aa 51,["walk","question","names"]⟩) (by rw[O.hd];rfl)
  ·exact FO.ck ((Qs O).mono (by decide)) (d:=⟨"wrap",aa 54,["walk","question","names"]⟩) (by rw[O.hd];rfl)
 obtain⟨M0,x,a,b,q,nv,N,rfl,rfl,W,hw,hn,hd,hN,ht,h⟩:=h;obtain⟨m,R⟩:=hY (nv:=nv) (N:=N) O q;refine⟨rfl,1+m,?_⟩;refine R (ws:=[]) (fs:=[]) (n:=1) W ⟨by simp;lia,by simp;lia,hw,hn,hd,hN,ht⟩ (ux O W λ_ _ _=>?_) _ _ _;obtain⟨dx,hx⟩:=W.gx (ws:=[]) (fs:=[]++[oD (av nv q)]);refine⟨_,dx,_,hx,.ref b,O.ff,rfl,.inl ⟨rfl,_,Wm.gb⟩,_,Wm.gb,oD (av nv q),rfl,?_⟩;rw[Wm.pb];exact ar h
noncomputable def Rc:B:=.cons (.ret (.ix (.v 3) (.c (.int 1)))) .nil
noncomputable def Rd:B:=.cons (.cond (.cmp .NotEq (.ix (.v 3) (.c (.int 0))) (.c (.str "bag"))) (.cons .dead .nil) .nil) Rc
noncomputable def Rg:B:=.cons (.cond (.c (.bl true)) (.cons (.set (.one 3) (.call 11 (.cons (.v 0) (.cons (.v 1) (.cons (.v 2) .nil))))) .nil) .nil) Rd
theorem Rh:aB ["question","kinds","stock","kind","fault"] ["question","kinds","stock"] (ag (aa 44)):=⟨rfl,rfl,rfl,by decide +kernel,rfl,by decide +kernel,by decide +kernel⟩
theorem Ri:aF nm 40 ["question","kinds","stock","kind","fault"] (ag (aa 44)) (ax (aa 44))=Rg:=by kernel_rfl
def Ck:Sp:=λds M Q _=>∃K S' S G q k,ds=[qD q,dD K,S']/\gr K G/\kr S' S M/\Ty S G q (.ah k)/\dn q<500/\K.length<500/\Q (kD k) M
theorem Rj (O:Lw w):FO w 28 9 Ck:=by
 refine aI O.ok O.hn _ ⟨"kind_of_rows",aa 44,["question","kinds","stock"]⟩ (by rw[O.hd];rfl) { cs:=[(11,BH)] } { cs:=⟨⟨8,by decide,Pd O⟩,trivial⟩ } Rh Ri λds M Q _ h=>?_;obtain⟨K,S',S,G,q,k,rfl,rg,rs,t,hd,hk,h⟩:=h;exact⟨rfl,K,S',S,G,q,_,rfl,rg,rs,Py t,hd,hk,_,rfl,aq (ay (by decide) ⟨_,rfl,ar h⟩)⟩
noncomputable def Rl:B:=.cons (.ret (.ite (.cmp .Is (.v 6) (.c .ai)) (.tup (.cons (.c (.str "none")) (.cons (.v 4) .nil))) (.v 6))) .nil
noncomputable def Rm:B:=.cons (.set (.one 6) (.aU 4 (.v 5) .nil)) Rl
noncomputable def Rn:B:=.cons (.ex (.aU 1 (.v 5) (.cons (.g 35) (.cons (.v 0) (.cons (.v 1) .nil))))) Rm
noncomputable def Ro:B:=.cons (.set (.one 5) (.new 0 .nil)) Rn
noncomputable def Rp:B:=.cons (.set (.one 4) (.call 28 (.cons (.v 0) (.cons (.v 2) (.cons (.v 3) .nil))))) Ro
theorem Rq:aB ["question","names","kinds","stock","row_kind","walk","told"] ["question","names","kinds","stock"] (ag (aa 43)):=⟨rfl,rfl,rfl,by decide +kernel,rfl,by decide +kernel,by decide +kernel⟩
theorem Rr:aF nm 40 ["question","names","kinds","stock","row_kind","walk","told"] (ag (aa 43)) (ax (aa 43))=Rp:=by kernel_rfl
def Cm:Sp:=λds M Q _=>∃(nv:Nv) (K:List (Key×D)) (S':D) (S:Str->Option Kd) (G:Sc) (q:Qn) (k:Kd) (N:List Str),ds=[qD q,dD (aK nv),dD K,S']/\gr K G/\kr S' S M/\Ty S G q (.ah k)/\dn q<500/\nq q<1000000/\K.length<500/\N.length<64/\(∀x∈aD q,x∈N)/\Q (qD ((av nv q).getD (.none k))) M
noncomputable abbrev Rt (w:Wo):a0 w:={ cs:=[(28,Ck)],ms:=[(1,fD w),(4,Cj w)],ci:=[(0,0,pF w)] }
theorem Ru (O:Lw w):FO w 27 10 Cm:=by
 refine aI O.ok O.hn _ ⟨"difference",aa 43,["question","names","kinds","stock"]⟩ (by rw[O.hd];rfl) (Rt w) { cs:=⟨⟨9,by decide,Rj O⟩,trivial⟩,ms:=⟨⟨1,by decide,jf O⟩,⟨9,by decide,Rb O⟩,trivial⟩,ci:=⟨⟨O.mc _ (by decide),by rw[O.hms];rfl,1,by decide,ug O⟩,trivial⟩ } Rq Rr λds M Q _ h=>?_;obtain⟨nv,K,S',S,G,q,kk,N,rfl,rg,rs,t,hd,hn,f7,hN,ht,h⟩:=h;have m2:w.ca 0=w.mc 1:=(O.mc _ (by decide)).symm;have m5:w.ca 0=w.mc 4:=(O.mc _ (by decide)).symm;have hw:=(mE t).w;refine⟨rfl,K,S',S,G,q,kk,rfl,rg,rs,t,hd,f7,λx dx hx kt nd=>⟨x,dx,rfl,aw,λa b ha hb ne=>⟨rfl,?_⟩⟩⟩;obtain⟨sb,W⟩:=pI (i1:=[("waiting",.ref a),("found",.ref b)]) (ws:=[]) (fs:=[]) hx kt ha hb nd ne;obtain⟨dy,hy⟩:=W.gx (ws:=[]) (fs:=[]);refine⟨_,dy,_,hy,m2,bq (by decide +kernel) (by decide +kernel),x,a,b,dy,_,_,_,[],rfl,hy,W.ga,by decide,?_⟩;rw[W.pa];obtain⟨UD,hz⟩:=W.gx (ws:=[]++[.tup [w.gv.getD 35 .ai,qD q,dD (aK nv)]]) (fs:=[]);refine⟨_,UD,_,hz,m5,bq (by decide +kernel) (by decide +kernel),_,x,a,b,q,nv,N,rfl,rfl,W,hw,hn,hd,hN,ht,?_⟩;cases hq:av nv q with
 |none=>rw[hq]at h;exact⟨l2,mr sb h⟩
 |some p=>
  rw[hq]at h;have h:Q (qD p) M:=h;obtain⟨r,hr⟩:=dE p;have e:oD (some p)=.tup (.str (wd p)::r):=hr;rw[hr]at h;rw[e];exact mr sb h
variable {w:Wo}
theorem uR {a b c:Nat} (h:a<=c) (e:b<=c):max a b<=c:=Nat.max_le.mpr ⟨h,e⟩
theorem i1 {m a:Nat} (h:m<=a+1):1+m<=1+a+1:=by rw[Nat.add_assoc];exact Nat.add_le_add_left h 1
theorem WQ {m n a b:Nat} (h:m<=a+1) (e:n<=b+1):9+max m n<=9+max a b+1:=by rw[Nat.add_assoc];exact Nat.add_le_add_left (uR (Xz h (Zl (YU ..))) (Xz e (Zl (YC ..)))) 9
theorem i2 {m n a b:Nat} (h:m<=a+1) (e:n<=b+1):1+max m n<=1+max a b+1:=i1 (uR (Xz h (Zl (YU ..))) (Xz e (Zl (YC ..))))
mutual
theorem bH {nv:Nv}:∀q,dq (aH nv q)<=dq q+1
 |.tab x=>by
  rw[aH];cases bB x nv with
  |none=>exact Y' _
  |some y=>exact Xu _
 |.num _=>Y' _ |.word _=>Y' _ |.var _=>Y' _ |.none _=>Y' _
 |.row fs=>by rw[aH,dq,dq,Nat.add_assoc];exact Nat.add_le_add_left (Cn fs) 3
 |.at _ a=>i1 (bH a) |.one a=>i1 (bH a) |.times _ a=>i1 (bH a) |.not a=>i1 (bH a)
 |.add a b=>i2 (bH a) (bH b) |.mul a b=>i2 (bH a) (bH b) |.both a b=>i2 (bH a) (bH b) |.aL a b=>i2 (bH a) (bH b) |.same a b=>i2 (bH a) (bH b)
 |.under a b=>i2 (bH a) (bH b) |.and a b=>i2 (bH a) (bH b) |.or a b=>i2 (bH a) (bH b) |.for _ a b=>WQ (bH a) (bH b) |.let _ a b=>i2 (bH a) (bH b)
theorem Cn {nv:Nv}:∀fs,bZ (fI nv fs)<=bZ fs+1
 |[]=>XS _
 |(f,q)::r=>by rw[fI,bZ,bZ];exact uR (Xz (bH q) (Zl (YU ..))) (Xz (Cn r) (Zl (YC ..)))
end
noncomputable def fs:Qn->Nat
 |.for _ a b=>1+max (fs a) (fs b)
 |.both a b=>max (fs a) (fs b)
 |.times _ a=>fs a
 |.aL _ a=>fs a
 |.let _ _ b=>fs b
 |_=>0
theorem hZ:∀q,9 * fs q+1<=dq q
 |.for _ a b=>by have:=hZ a;have:=hZ b;rw[fs,dq];lia
 |.both a b=>by have:=hZ a;have:=hZ b;rw[fs,dq];lia
 |.times _ a=>Xz (hZ a) (Nat.le_add_left ..)
 |.aL c a=>Xz (hZ a) (Xz (YC (dq c) _) (Nat.le_add_left ..))
 |.let _ a b=>Xz (hZ b) (Xz (YC (dq a) _) (Nat.le_add_left ..))
 |.num _=>Xu _ |.word _=>Xu _ |.var _=>Xu _ |.tab _=>Xu _
 |.none _=>XX .. |.row _=>Xz (by decide:1<=3) (XX ..)
 |.at _ _=>XX .. |.one _=>XX .. |.not _=>XX .. |.add _ _=>XX .. |.mul _ _=>XX ..
 |.same _ _=>XX .. |.under _ _=>XX .. |.and _ _=>XX .. |.or _ _=>XX ..
theorem h7 {nv:Nv}:∀q,fs (aH nv q)<=fs q
 |.for _ a b=>j1 (UE (h7 a) (h7 b))
 |.both a b=>UE (h7 a) (h7 b)
 |.times _ a=>h7 a
 |.aL _ a=>h7 a
 |.let _ _ b=>h7 b
 |.tab x=>by
  rw[aH];cases bB x nv with
  |none=>exact Xu _
  |some y=>exact Xu _
 |.num _=>Xu _ |.word _=>Xu _ |.var _=>Xu _ |.none _=>Xu _ |.row _=>Xu _
 |.at _ _=>Xu _ |.one _=>Xu _ |.not _=>Xu _ |.add _ _=>Xu _ |.mul _ _=>Xu _
 |.same _ _=>Xu _ |.under _ _=>Xu _ |.and _ _=>Xu _ |.or _ _=>Xu _
theorem mK {m a:Nat} (h:m<=3 * a):1+m<=3 * (1+a):=by lia
theorem fK {m n a b:Nat} (h:m<=3 * a) (e:n<=3 * b):1+m+n<=3 * (1+a+b):=by lia
mutual
theorem bI {nv:Nv}:∀q,nq (aH nv q)<=3 * nq q
 |.tab x=>by
  rw[aH];cases bB x nv with
  |none=>exact (by decide:1<=3)
  |some y=>exact (by decide:3<=3)
 |.num _=>(by decide:1<=3) |.word _=>(by decide:1<=3) |.var _=>(by decide:1<=3) |.none _=>(by decide:1<=3)
 |.row fs=>mK (Co fs)
 |.at _ a=>mK (bI a) |.one a=>mK (bI a) |.times _ a=>mK (bI a) |.not a=>mK (bI a)
 |.add a b=>fK (bI a) (bI b) |.mul a b=>fK (bI a) (bI b) |.both a b=>fK (bI a) (bI b) |.aL a b=>fK (bI a) (bI b) |.same a b=>fK (bI a) (bI b)
 |.under a b=>fK (bI a) (bI b) |.and a b=>fK (bI a) (bI b) |.or a b=>fK (bI a) (bI b) |.for _ a b=>fK (bI a) (bI b) |.let _ a b=>fK (bI a) (bI b)
theorem Co {nv:Nv}:∀fs,bO (fI nv fs)<=3 * bO fs
 |[]=>Xu _
 |(f,q)::r=>by rw[fI,bO,bO,Zw];exact Nat.add_le_add (bI q) (Co r)
end
def OT (T:Qn->Prop) (o:Option Qn):Prop:=∀p,o=some p->T p
theorem OT.so {T:Qn->Prop}{p:Qn} (h:T p):OT T (some p):=λ_ e=>Yg e ▸ h
theorem OT.no {T:Qn->Prop}:OT T none:=λ_ e=>nomatch e
theorem OT.im {T T':Qn->Prop}{o:Option Qn} (h:OT T o) (f:∀p,T p->T' p):OT T' o:=λp e=>f p (h p e)
theorem OT.map {T T':Qn->Prop}{o:Option Qn}{f:Qn->Qn} (h:OT T o) (g:∀p,T p->T' (f p)):OT T' (o.map f):=λp e=>by
 obtain⟨q,h1,rfl⟩:=Option.map_eq_some_iff.mp e;exact g q (h q h1)
theorem gw {A B T:Qn->Prop}{a b:Option Qn} (ha:OT A a) (hb:OT B b) (f:∀x,A x->T x) (g:∀x,B x->T x) (k:∀x y,A x->B y->T (.both x y)):OT T (cy none [a,b]):=by
 cases a with
 |none=>cases b with
  |none=>exact .no
  |some b=>exact .so (g b (hb b rfl))
 |some a=>cases b with
  |none=>exact .so (f a (ha a rfl))
  |some b=>exact .so (k a b (ha a rfl) (hb b rfl))
theorem uS {a b c:Option Qn}:cy none [a,b,c]=cy none [cy none [a,b],c]:=by
 cases a <;> cases b <;> rfl
theorem gy {A B T:Qn->Prop}{x:Str}{a b:Option Qn} (ha:OT A a) (hb:OT B b) (k:∀p q,A p->B q->T (.for x p q)):OT T (mf x a b):=by
 cases a with
 |none=>exact .no
 |some a=>cases b with
  |none=>exact .no
  |some b=>
   rw[mf];split
   ·exact .no
   ·exact .so (k a b (ha a rfl) (hb b rfl))
noncomputable def gA:Nat->Nat
 | 0=>6
 |n+1=>2 * gA n+1
theorem mL:∀n,6<=gA n
 | 0=>Xu _
 |n+1=>by have:=mL n;rw[gA];lia
theorem Rv {m n:Nat} (h:m<=n):gA m<=gA n:=by
 induction h with
 |refl=>exact Xu _
 |step _ ih=>rw[gA];lia
structure Gr (dd ff k:Nat) (p:Qn):Prop where
 d:dq p<=dd+2 * ff+3
 f:fs p<=ff
 n:nq p<=gA ff * k
theorem Gr.up {d f k d' f' k':Nat}{p:Qn} (h:Gr d f k p) (h1:d<=d') (h2:f<=f') (h3:k<=k'):Gr d' f' k' p:=⟨Xz h.d (by lia),Xz h.f h2,Xz h.n (Nat.mul_le_mul (Rv h2) h3)⟩
theorem Rw (q:Qn):1<=nq q:=by rw[fH];exact XX ..
theorem Cp {nv:Nv}{q:Qn}:Gr (dq q) (fs q) (nq q) (hW nv q):=by
 have h1:=bH (nv:=nv) q;have h2:=h7 (nv:=nv) q;have h3:=bI (nv:=nv) q;have h4:=Rw q;have h5:=YW (nq q) (mL (fs q));refine⟨?_,Nat.max_le.mpr ⟨h2,Xu _⟩,?_⟩
 ·show 1+max (dq (aH nv q)) (1+dq q)<=_;lia
 ·show 1+nq (aH nv q)+(1+nq q)<=_;lia
theorem dI {nv:Nv}{q:Qn}:OT (Gr (dq q) (fs q) (nq q)) (dF nv q):=by
 unfold dF;split
 ·exact .so Cp
 ·exact .no
theorem Gr.one {d f k c:Nat}{g:Qn->Qn} (h1:∀p,dq (g p)<=1+max c (dq p)) (h2:∀p,fs (g p)=fs p) (m:Nat) (h3:∀p,nq (g p)=m+nq p):∀p,Gr d f k p->Gr (1+max c d) f (m+k) (g p):=λp h=>by
 refine⟨?_,by rw[h2];exact h.f,?_⟩
 ·have:=h1 p;have:=h.d;lia
 ·rw[h3,Zw];exact Nat.add_le_add (ZA _ (XM (by decide:0<6) (mL f))) h.n
theorem h8 {nv:Nv}:∀q,OT (Gr (dq q) (fs q) (nq q)) (av nv q)
 |.tab x=>by
  rw[av];split
  ·cases bB x nv with
   |none=>exact .no
   |some y=>exact .so ⟨XX ..,Xu _,by show 1<=6 * 1;decide⟩
  ·exact .no
 |.both a b=>by
  rw[av];split
  ·have ha:OT (Gr (dq a) (max (fs a) (fs b)) (nq a)) (av nv a):=(h8 a).im λp h=>h.up (Xu _) (YU ..) (Xu _);have hb:OT (Gr (dq b) (max (fs a) (fs b)) (nq b)) (av nv b):=(h8 b).im λp h=>h.up (Xu _) (YC ..) (Xu _);have g6:=mL (max (fs a) (fs b));refine gw ha hb (λp h=>h.up ?_ (Xu _) ?_) (λp h=>h.up ?_ (Xu _) ?_) λx y h e=>⟨?_,Nat.max_le.mpr ⟨h.f,e.f⟩,?_⟩
   ·rw[dq];lia
   ·rw[nq];lia
   ·rw[dq];lia
   ·rw[nq];lia
   ·have:=h.d;have:=e.d;rw[dq,dq];show _<=1+max (dq a) (dq b)+2 * max (fs a) (fs b)+3;lia
   ·have:=h.n;have:=e.n
    show 1+nq x+nq y<=gA (max (fs a) (fs b)) * (1+nq a+nq b);rw[Zw,Zw];lia
  ·exact .no
 |.for y a b=>by
  rw[av];split
  ·have ha:OT (Gr (dq a) (max (fs a) (fs b)) (nq a)) (av nv a):=(h8 a).im λp h=>h.up (Xu _) (YU ..) (Xu _);have hb:OT (Gr (dq b) (max (fs a) (fs b)) (nq b)) (av nv b):=(h8 b).im λp h=>h.up (Xu _) (YC ..) (Xu _);have g6:=mL (max (fs a) (fs b));have la:fs a<=max (fs a) (fs b):=YU ..;have lb:fs b<=max (fs a) (fs b):=YC ..;have da:dq a<=max (dq a) (dq b):=YU ..;have db:dq b<=max (dq a) (dq b):=YC ..;show OT (Gr (9+max (dq a) (dq b)) (1+max (fs a) (fs b)) (1+nq a+nq b)) _
   revert ha hb g6 la lb da db
   generalize max (fs a) (fs b)=f;generalize max (dq a) (dq b)=m;intro ha hb g6 la lb da db;generalize e:gA f=g at g6
   -- kP TK TL
   have h1:OT (λp=>dq p<=9+m+2 * f+3/\fs p<=1+f/\nq p<=1+g * nq a+nq b) (mf y (av nv a) (some b)):=gy ha (B:=λq=>q=b) (.so rfl) λp q h z=>by
    subst z;have:=h.d;have:=h.f;have:=h.n;rw[e]at this
    exact⟨by rw[dq];lia,by rw[fs];lia,by rw[nq];lia⟩
   have h2:OT (λp=>dq p<=9+m+2 * f+3/\fs p<=1+f/\nq p<=1+nq a+g * nq b) (mf y (some a) (av nv b)):=gy (A:=λq=>q=a) (.so rfl) hb λp q z h=>by
    subst z;have:=h.d;have:=h.f;have:=h.n;rw[e]at this
    exact⟨by rw[dq];lia,by rw[fs];lia,by rw[nq];lia⟩
   have h3:OT (λp=>dq p<=9+m+2 * f+3/\fs p<=1+f/\nq p<=1+g * nq a+g * nq b) (mf y (av nv a) (av nv b)):=gy ha hb λp q h z=>by
    have:=h.d;have:=h.f;have:=h.n;have:=z.d;have:=z.f;have:=z.n;rw[e]at *
    exact⟨by rw[dq];lia,by rw[fs];lia,by rw[nq];lia⟩
   have h12:=gw h1 h2 (T:=λp=>dq p<=9+m+2 * f+4/\fs p<=1+f/\nq p<=3+(g+1) * nq a+(g+1) * nq b) (λp h=>⟨by lia,h.2.1,by rw[YL,YL];lia⟩) (λp h=>⟨by lia,h.2.1,by rw[YL,YL];lia⟩) λp q h z=>⟨by rw[dq];lia,by rw[fs];lia,by rw[nq,YL,YL];lia⟩;have fin:∀{n:Nat},n<=5+(2 * g+1) * nq a+(2 * g+1) * nq b->n<=gA (1+f) * (1+nq a+nq b):=λ{n} h=>by
    rw[Nat.add_comm 1 f,gA,e,Zw,Zw];lia
   have e2:∀k,(2 * g+1) * k=(g+1) * k+g * k:=λk=>(by rw[<- YL];congr 1;lia);rw[uS];refine gw h12 h3 (λp h=>⟨by lia,h.2.1,fin ?_⟩) (λp h=>⟨by lia,h.2.1,fin ?_⟩) λp q h z=>⟨by rw[dq];lia,by rw[fs];lia,fin ?_⟩
   ·rw[e2,e2];lia
   ·rw[e2,e2,YL,YL];lia
   ·rw[nq,e2,e2];lia
  ·exact .no
 |.times i a=>by
  rw[av];split
  ·refine (h8 a).map λp h=>?_;have:=Gr.one (d:=dq a) (f:=fs a) (k:=nq a) (c:=0) (g:=Qn.times i) (λp=>by rw[dq];lia) (λp=>rfl) 1 (λp=>rfl) p h;exact this.up (by rw[dq];lia) (Xu _) (Xu _)
  ·exact .no
 |.aL c a=>by
  rw[av];split
  ·exact (h8 a).map (Gr.one (c:=dq c) (g:=Qn.aL c) (λp=>by rw[dq];lia) (λp=>rfl) (1+nq c) (λp=>rfl))
  ·exact .no
 |.let y a b=>by
  rw[av];split
  ·split
   ·exact .so Cp
   ·exact (h8 b).map (Gr.one (c:=dq a) (g:=Qn.let y a) (λp=>by rw[dq];lia) (λp=>rfl) (1+nq a) (λp=>rfl))
  ·exact .no
 |.num _=>dI |.word _=>dI |.var _=>dI |.none _=>dI |.row _=>dI |.at _ _=>dI |.add _ _=>dI |.mul _ _=>dI |.one _=>dI |.same _ _=>dI |.under _ _=>dI |.and _ _=>dI |.or _ _=>dI |.not _=>dI
structure jk (S S':Str->Option Kd) (nv:Nv):Prop where
 le:∀x k,S x=some k->S' x=some k
 nv:∀x y k,bB x nv=some y->S x=some k->S' y=some k
 kz:∀x k,S x=some k->kz k<900
section
variable {S S':Str->Option Kd}{nv:Nv}
theorem Rx (s:jk S S' nv) {G:Sc}{q:Qn}{k:Kd}:Ty S G q k->Ty S' G (aH nv q) k:=
 (Ty.all (P:=λG q k=>Ty S' G (aH nv q) k) (L:=λG fs ks=>dg S' G (fI nv fs) ks) (C:=λG q=>bV S' G (aH nv q))
  .num .word .var (λ{_ x _} h=>by
   rw[aH];cases e:bB x nv with
   |none=>exact .tab (s.le _ _ h)
   |some y=>exact .both (s.kz _ _ h) (.tab (s.le _ _ h)) (.tab (s.nv _ _ _ e h))) .none (λl n h=>.row (by rw[uM,Xr];exact l) n h) (λn h e=>.at n h e)
  .add .mul .one .both .times .for .aL .let .nil .cons .g8 .g9 .under .and .or .not).1
theorem Ty.le (s:jk S S' nv) {G:Sc}{q:Qn}{k:Kd} (h:Ty S G q k):Ty S' G q k:=h.mono s.le λ_ _ z=>z
theorem Cq (s:jk S S' nv) {G:Sc}{q:Qn}{k:Kd} (h:Ty S G q (.ah k)) (z:kz k<900):Ty S' G (hW nv q) (.ah k):=.both z (Rx s h) (.times (Ty.le s h))
theorem dJ (s:jk S S' nv) {G:Sc}{q:Qn}{k:Kd} (h:Ty S G q (.ah k)) (z:kz k<900):OT (λp=>Ty S' G p (.ah k)) (dF nv q):=by
 unfold dF;split
 ·exact .so (Cq s h z)
 ·exact .no
theorem bV.le (s:jk S S' nv) {G:Sc}{q:Qn}:bV S G q->bV S' G q:=
 (Ty.all (P:=Ty S') (L:=dg S') (C:=bV S') .num .word .var (λh=>.tab (s.le _ _ h)) .none .row .at .add .mul .one .both .times .for .aL .let .nil .cons .g8 .g9 .under .and .or .not).2.2
theorem ia (s:jk S S' nv):∀(q:Qn) {G:Sc}{k:Kd},Ty S G q (.ah k)->kz k<900->OT (λp=>Ty S' G p (.ah k)) (av nv q)
 |.tab x,G,k,h,z=>by
  rw[av];split
  ·cases h with
   |tab h=>
    cases e:bB x nv with
    |none=>exact .no
    |some y=>exact .so (.tab (s.nv _ _ _ e h))
  ·exact .no
 |.both a b,G,k,h,z=>by
  rw[av];split
  ·cases h with
   |both _ h e=>exact gw (ia s a h z) (ia s b e z) (λ_ z=>z) (λ_ z=>z) λ_ _=>.both z
  ·exact .no
 |.for y a b,G,k,h,z=>by
  rw[av];split
  ·cases h with
   | «for» l h e=>
    have da:=ia s a h l.2;have db:=ia s b e z;rw[uS];refine gw (gw (gy da (B:=λq=>q=b) (.so rfl) ?_) (gy (A:=λq=>q=a) (.so rfl) db ?_) (λ_ z=>z) (λ_ z=>z) λ_ _=>.both z) (gy da db λ_ _=>.for l) (λ_ z=>z) (λ_ z=>z) λ_ _=>.both z
    ·rintro p _ hp rfl;exact .for l hp (Ty.le s e)
    ·rintro _ p rfl hp;exact .for l (Ty.le s h) hp
  ·exact .no
 |.times i a,G,k,h,z=>by
  rw[av];split
  ·cases h with
   |times h=>exact (ia s a h z).map λ_=>.times
  ·exact .no
 |.aL c a,G,k,h,z=>by
  rw[av];split
  ·cases h with
   |aL c h=>exact (ia s a h z).map λ_=>.aL (bV.le s c)
  ·exact .no
 |.let y a b,G,k,h,z=>by
  rw[av];split
  ·split
   ·exact .so (Cq s h z)
   ·cases h with
    | «let» l h e=>exact (ia s b e z).map λ_=>.let l (Ty.le s h)
  ·exact .no
 |.num _,G,k,h,z=>dJ s h z |.word _,G,k,h,z=>dJ s h z |.var _,G,k,h,z=>dJ s h z |.none _,G,k,h,z=>dJ s h z |.row _,G,k,h,z=>dJ s h z |.at _ _,G,k,h,z=>dJ s h z
 |.add _ _,G,k,h,z=>dJ s h z |.mul _ _,G,k,h,z=>dJ s h z |.one _,G,k,h,z=>dJ s h z |.same _ _,G,k,h,z=>dJ s h z |.under _ _,G,k,h,z=>dJ s h z |.and _ _,G,k,h,z=>dJ s h z
 |.or _ _,G,k,h,z=>dJ s h z |.not _,G,k,h,z=>dJ s h z
end
noncomputable def bJ:List Str:=["d","e","f","g"]
noncomputable def ib:Sc:=bu++bJ.flatMap λm=>bu.map λp=>(m++p.1,p.2)
noncomputable def kN:List Str:=bu.map (·.1)
noncomputable def FS (x:Str):Option Kd:=lk x ib
theorem Ry {x:Str}{k:Kd} (h:FS x=some k):kz k<900:=(by decide +kernel:∀p∈ib,kz p.2<900) _ (dV h)
theorem mM {x:Str}{k:Kd} (h:kS x=some k):FS x=some k:=by
 unfold FS ib;rw[pd];unfold kS at h;rw[h];rfl
theorem uT {m x:Str} (hm:m∈bJ) (hx:x∈kN):FS (m++x)=kS x:=(by decide +kernel:∀m∈bJ,∀x∈kN,FS (m++x)=kS x) m hm x hx
theorem Rz {m x:Str} (hm:m∈bJ) (hx:x∈kN):kS (m++x)=none:=(by decide +kernel:∀m∈bJ,∀x∈kN,kS (m++x)=none) m hm x hx
structure e7 (nv:Nv) (m:Str):Prop where
 nd:(nv.map (·.1)).Nodup
 sub:∀p∈nv,p.1∈kN/\p.2=m++p.1
 len:nv.length<=5
structure ic (K:List (Key×D)) (n:Nat):Prop where
 UH:∀z d,aJ K (.inr z)=some d->∃k,FS z=some k/\d=kD k
 len:K.length<=n
noncomputable def Sk (K:List (Key×D)) (z:Str):Option Kd:=if (aJ K (.inr z)).isSome=true then FS z else none
theorem ic.jI {K:List (Key×D)}{n:Nat} (h:ic K n) {v:D}{M:Mp} (hc:hU v K M):kr v (Sk K) M:=λy k e=>by
 refine⟨K,hc,?_⟩;unfold Sk at e;split at e
 ·rename_i z;obtain⟨d,hd⟩:=Option.isSome_iff_exists.mp z;obtain⟨k',h1,rfl⟩:=h.UH y d hd;rw[h1]at e;cases e;exact hd
 ·cases e
theorem pM {K:List (Key×D)}{z:Str}{k:Kd}:Sk K z=some k ↔ (aJ K (.inr z)).isSome=true/\FS z=some k:=by
 unfold Sk;split
 ·rename_i h;simp [h]
 ·rename_i h;simp [h]
theorem ic.bu:ic (a4 bu) 5:=⟨λz d h=>by
 rw[g']at h;obtain⟨k,h1,rfl⟩:=Option.map_eq_some_iff.mp h;exact⟨k,mM h1,rfl⟩,Xu _⟩
theorem uU {K:List (Key×D)}{y z:Str}{v:D}:aJ (aY K (.inr y) v) (.inr z)=if z=y then some v else aJ K (.inr z):=by
 have:=@BB K (.inr y) (.inr z) v;rw[this];by_cases e:z=y
 ·rw[if_pos e,if_pos (by rw[e])]
 ·rw[if_neg e,if_neg λh=>e (ZR h)]
theorem ic.put {K:List (Key×D)}{n:Nat} (h:ic K n) {y:Str}{k:Kd} (e:FS y=some k):ic (aY K (.inr y) (kD k)) (n+1):=⟨λz d hd=>by
 rw[uU]at hd;split at hd
 ·rename_i Ud;cases hd;exact⟨k,Ud ▸ e,rfl⟩
 ·exact h.UH z d hd,Xz (qC _ _ _) (Zl h.len)⟩
theorem uV {K:List (Key×D)}{y z:Str}{k:Kd}{v:D} (h:Sk K z=some k):Sk (aY K (.inr y) v) z=some k:=by
 rw[pM]at h ⊢;refine⟨?_,h.2⟩;rw[uU];split
 ·rfl
 ·exact h.1
theorem RA {K:List (Key×D)}{y:Str}{k:Kd}{v:D} (h:FS y=some k):Sk (aY K (.inr y) v) y=some k:=by
 rw[pM];refine⟨?_,h⟩;rw[uU,if_pos rfl];rfl
variable {w:Wo}
theorem RB {ms:Sc}{x:Str}{k:Kd}{M:Mp}{Q:QK} (h:lk x ms=some k) (q:Q (kD k) M):aA (eW ms) (.str x) M Q:=⟨kD k,by rw[o8,g',h];rfl,q⟩
def Cr:Sp:=λds M Q _=>ds=[]/\∀p,M p=none->Q (.ref p) (up M p (.ak (a4 bu)))
theorem RC (O:Lw w):FO w 46 1 Cr:=by
 refine aI O.ok O.hn _ ⟨"_law_kinds",aa 71,[]⟩ (by rw[O.hd];rfl) {} { cs:=trivial } Au Av λds M Q _ h=>?_;obtain⟨rfl,h⟩:=h;refine⟨rfl,l1,l2,l1,l2,l2,l2,?_⟩;refine⟨l1,l2,l1,l2,l1,l2,l2,l1,l2,l4,l2,?_⟩;refine⟨l1,l1,l2,.inr λp hp=>?_⟩;have:aZ Q (.ref p) (up M p (.ak (cD (a4 bu)))):=by rw[Aw];exact ar (h p hp)
 exact this
theorem uW {x:Str} (h:x∈kN):∃k,kS x=some k:=by
 have:(lk x bu).isSome=true:=by rw[NQ.ma];exact decide_eq_true h
 exact Option.isSome_iff_exists.mp this
theorem Cs {nv:Nv}{x y:Str} (h:x ∉ nv.map (·.1)):aY (aK nv) (.inr x) (.str y)=aK (nv++[(x,y)]):=by
 unfold aY;rw[if_neg]
 ·unfold aK;simp
 ·intro z;obtain⟨kv,h1,h2⟩:=List.any_eq_true.mp z;unfold aK at h1;obtain⟨m,hm,rfl⟩:=List.mem_map.mp h1;exact h (List.mem_map.mpr ⟨m,hm,ZR (of_decide_eq_true h2)⟩)
theorem Ct {x y:Str}:∀{nv:Nv},(nv.map (·.1)).Nodup->(x,y)∈nv->bB x nv=some y
 |(a,b)::r,nd,h=>by
  rw[XD,ZF]at nd;rw[bB];rcases List.mem_cons.mp h with e |h
  ·cases e;rw[if_pos rfl]
  ·rw[if_neg,Ct nd.2 h];intro e;exact nd.1 (e ▸ List.mem_map.mpr ⟨_,h,rfl⟩)
theorem pN {x y:Str}:∀{nv:Nv},bB x nv=some y->(x,y)∈nv
 |(a,b)::r,h=>by
  rw[bB]at h;split at h
  ·rename_i e;cases h;rw[e];exact XA
  ·exact XB _ (pN h)
structure RD (nv:Nv) (m:Str) (pre:List Str):Prop where
 nd:(nv.map (·.1)).Nodup
 sub:∀p∈nv,p.1∈pre/\p.2=m++p.1
 len:nv.length<=pre.length
def Cu:Sp:=λds M Q _=>∃p m,ds=[.ref p,.str m]/\m∈bJ/\Hs M p/\∀nv X,Sx M p X->e7 nv m->Q (dD (aK nv)) X
theorem Cw {m x:Str} (hm:m∈bJ) (hx:x∈kN):m.length+x.length<=sizeLine:=Xz ((by decide +kernel:∀m∈bJ,∀x∈kN,m.length+x.length<=100) m hm x hx) (by decide)
noncomputable def RE:B:=.cons (.ret (.v 2)) .nil
noncomputable def RF:B:=.cons (.loop (.one 3) (.seq (.lst (.cons (.c (.str "r")) (.cons (.c (.str "s")) (.cons (.c (.str "t")) (.cons (.c (.str "u")) (.cons (.c (.str "v")) .nil))))))) (.cons (.cond (.cmp .Gt (.call 42 (.cons (.v 0) (.cons (.c (.int 4)) .nil))) (.c (.int 0))) (.cons (.put (.v 2) (.v 3) (.op .Add (.v 1) (.v 3))) .nil) .nil) .nil)) RE
noncomputable def RG:B:=.cons (.set (.one 2) .j6) RF
theorem RH:aB ["seed","mark","names","name"] ["seed","mark"] (ag (aa 84)):=⟨rfl,rfl,rfl,by decide +kernel,rfl,by decide +kernel,by decide +kernel⟩
theorem RI:aF nm 40 ["seed","mark","names","name"] (ag (aa 84)) (ax (aa 84))=RG:=by kernel_rfl
noncomputable abbrev RJ (w:Wo):a0 w:={ cs:=[(42,hE)] }
theorem RK (O:Lw w):FO w 55 2 Cu:=by
 refine aI O.ok O.hn _ ⟨"_law_names",aa 84,["seed","mark"]⟩ (by rw[O.hd];rfl) (RJ w) { cs:=⟨⟨1,by decide,jb O⟩,trivial⟩ } RH RI λds M Q _ h=>?_;obtain⟨p,m,rfl,hm,hp,h⟩:=h;have VU:kN.Nodup:=by decide +kernel
 refine⟨rfl,.inr λpn Ch=>⟨l5,.inl ?_⟩⟩;have ul:pn≠p:=by obtain⟨o,e,_⟩:=hp;exact YZ (c5 e Ch)
 refine dW (λxs τ M'=>∃rest pre nv u X,xs=rest.map D.str/\kN=pre++rest/\RD nv m pre/\τ=[some (.ref p),some (.str m),some (.ref pn),u]/\Sx M p X/\M'=up X pn (.ak (aK nv))) ?_ ?_ _ _ _ ⟨kN,[],[],none,M,rfl,rfl,⟨.nil,(λ_ z=>nomatch z),Xu _⟩,rfl,.rfl hp,rfl⟩
 ·rintro τ M' ⟨rest,pre,nv,u,X,e1,e2,hv,rfl,s,rfl⟩;have:rest=[]:=by simpa using e1.symm
  subst this;rw[XO]at e2;refine⟨trivial,.rfl ?_⟩;exact tF (by rw[s.ne ul];exact Ch) (h nv X s ⟨hv.nd,λp hp=>⟨by rw[e2];exact (hv.sub p hp).1,(hv.sub p hp).2⟩,by have:=hv.len;rw[<- e2]at this;exact this⟩)
 ·rintro y xs τ M' ⟨rest,pre,nv,u,X,e1,e2,hv,rfl,s,rfl⟩;cases rest with
  |nil=>cases e1
  |cons x rest=>
   cases e1;have hx:x∈kN:=(by rw[e2];simp);have nx:x ∉ pre:=λz=>(by rw[e2]at VU;exact (List.nodup_append.mp VU).2.2 x z x XA rfl);have Cy:x ∉ nv.map (·.1):=λz=>by obtain⟨q,hq,e⟩:=List.mem_map.mp z;have e:q.1=x:=e;exact nx (e ▸ (hv.sub q hq).1)
   have pl:pre.length<=5:=by have:=congrArg ZX e2;rw[XI]at this;have:kN.length=5:=rfl;lia
   have hl:=hv.len;have hs:Hs (up X pn (.ak (aK nv))) p:=(by obtain⟨o,e,so⟩:=s.hs;exact⟨o,by rw[az (YZ ul)];exact e,so⟩);have i6:kN=(pre++[x])++rest:=(by rw[e2];simp);refine⟨trivial,λN hN=>⟨p,4,rfl,hs,by decide,by decide,λr Y u2 _ _=>?_⟩⟩;obtain⟨o2,Ps,rfl⟩:=u2;have s2:Sx M p (up X p o2):=s.tr ⟨o2,Ps,rfl⟩;rw[mu ul];refine aX (λ_=>?_) λ_=>?_
   ·refine⟨Cw hm hx,.inr ⟨_,aw,XC (by unfold aK;rw[Xr];lia:_<=5) (by decide),hN _ _ ⟨rest,pre++[x],nv++[(x,m++x)],_,_,rfl,i6,⟨?_,λq hq=>?_,?_⟩,rfl,s2,?_⟩⟩⟩
    ·rw[XU];exact Ag hv.nd Cy
    ·rcases List.mem_append.mp hq with z |z
     ·exact⟨YV _ (hv.sub q z).1,(hv.sub q z).2⟩
     ·rw[List.mem_singleton.mp z];exact⟨by simp,rfl⟩
    ·simp;lia
    ·rw[_root_.N.cj,Cs Cy]
   ·exact hN _ _ ⟨rest,pre++[x],nv,_,_,rfl,i6,⟨hv.nd,λq hq=>⟨YV _ (hv.sub q hq).1,(hv.sub q hq).2⟩,by simp;lia⟩,rfl,s2,rfl⟩
structure fL (rows:List Nv) (nv:Nv) (K:List (Key×D)) (n:Nat):Prop where
 k:ic K n
 s:∀x k,kS x=some k->Sk K x=some k
 r:∀nv∈rows,∀q∈nv,∀k,kS q.1=some k->Sk K q.2=some k
 l:∀q∈nv,∀k,kS q.1=some k->Sk K q.2=some k
theorem fL.put {rows:List Nv}{nv:Nv}{K:List (Key×D)}{n:Nat} (h:fL rows nv K n) {x y:Str}{k:Kd} (e:kS x=some k) (f:FS y=some k):fL rows (nv++[(x,y)]) (aY K (.inr y) (kD k)) (n+1):=
 ⟨h.k.put f,λz l e=>uV (h.s z l e),λnv hn q hq l e=>uV (h.r nv hn q hq l e),λq hq l z=>by
  rcases List.mem_append.mp hq with hq |hq
  ·exact uV (h.l q hq l z)
  ·rw[List.mem_singleton.mp hq]at z ⊢;have z:kS x=some l:=z;rw[e]at z;cases z;exact RA f⟩
def Cz (rows:List Nv):Prop:=rows.length<=4/\∀nv∈rows,∃m∈bJ,e7 nv m
noncomputable def cn (rows:List Nv):List D:=rows.map λnv=>dD (aK nv)
def CA:Sp:=λds M Q _=>∃rows pr,ds=[.ref pr]/\M pr=some (.lst (cn rows))/\Cz rows/\∀K,fL rows [] K 25->Q (dD K) M
noncomputable def RL:B:=.cons (.ret (.v 1)) .nil
noncomputable def RM:B:=.cons (.loop (.one 2) (.seq (.v 0)) (.cons (.loop (.one 3) (.seq (.v 2)) (.cons (.put (.v 1) (.ix (.v 2) (.v 3)) (.ix (.v 1) (.v 3))) .nil)) .nil)) RL
noncomputable def RN:B:=.cons (.set (.one 1) (.call 46 .nil)) RM
theorem RO:aB ["rows","stock","names","name"] ["rows"] (ag (aa 83)):=⟨rfl,rfl,rfl,by decide +kernel,rfl,by decide +kernel,by decide +kernel⟩
theorem RP:aF nm 40 ["rows","stock","names","name"] (ag (aa 83)) (ax (aa 83))=RN:=by kernel_rfl
noncomputable abbrev RQ (w:Wo):a0 w:={ cs:=[(46,Cr)] }
theorem RS (O:Lw w):FO w 54 2 CA:=by
 refine aI O.ok O.hn _ ⟨"_law_stock",aa 83,["rows"]⟩ (by rw[O.hd];rfl) (RQ w) { cs:=⟨⟨1,by decide,RC O⟩,trivial⟩ } RO RP λds M Q _ h=>?_;obtain⟨rows,pr,rfl,fv,⟨hr,ge⟩,h⟩:=h;refine⟨rfl,rfl,λps jY=>?_⟩;have gj:pr≠ps:=c5 fv jY;have ut:∀{o:MO},up M ps o pr=some (.lst (cn rows)):=λ{o}=>by rw[az gj];exact fv
 refine⟨_,ut,?_⟩;refine dW (λxs τ M'=>∃rest pre K u v,xs=cn rest/\rows=pre++rest/\fL pre [] K (5+5 * pre.length)/\τ=[some (.ref pr),some (.ref ps),u,v]/\M'=up M ps (.ak K)) ?_ ?_ _ _ _ ⟨rows,[],a4 bu,none,none,rfl,rfl,⟨.bu,λx k e=>pM.mpr ⟨by rw[g'];unfold kS at e;rw[e];rfl,mM e⟩,λ_ z=>(nomatch z),λ_ z=>(nomatch z)⟩,rfl,rfl⟩
 ·rintro τ M' ⟨rest,pre,K,u,v,e1,e2,st,rfl,rfl⟩;have:rest=[]:=by unfold cn at e1;simpa using e1.symm
  subst this;rw[XO]at e2;refine⟨ut,.rfl (tF jY (h K ⟨⟨st.k.UH,Xz st.k.len (by rw[<- e2];lia)⟩,st.s,by rw[e2];exact st.r,st.l⟩))⟩
 ·rintro y xs τ M' ⟨rest,pre,K,u,v,e1,e2,st,rfl,rfl⟩;cases rest with
  |nil=>cases e1
  |cons nv rest=>
   cases e1;obtain⟨m,hm,hv⟩:=ge nv (by rw[e2];simp);have pl:pre.length<=4:=by have:=congrArg ZX e2;rw[XI]at this;lia
   refine⟨ut,λN hN=>?_⟩;refine dW (λxs τ M'=>∃ie jl K v,xs=ie.map (λp=>D.str p.1)/\nv=jl++ie/\fL pre jl K (5+5 * pre.length+jl.length)/\τ=[some (.ref pr),some (.ref ps),some (dD (aK nv)),v]/\M'=up M ps (.ak K)) ?_ ?_ _ _ _ ⟨nv,[],K,v,by rw[gn];unfold aK;rw[Yv];rfl,rfl,st,rfl,rfl⟩
   ·rintro τ M' ⟨ie,jl,K,v,e3,e4,st,rfl,rfl⟩;have:ie=[]:=(by simpa using e3.symm);subst this;rw[XO]at e4;refine⟨trivial,.rfl (hN _ _ ⟨rest,pre++[nv],K,_,_,rfl,by rw[e2];simp,⟨⟨st.k.UH,Xz st.k.len (by have:=hv.len;rw[<- e4,XI,ZH];lia)⟩,st.s,λmN h'=>?_,λ_ z=>(nomatch z)⟩,rfl,rfl⟩)⟩
    rcases List.mem_append.mp h' with z |z
    ·exact st.r mN z
    ·rw[List.mem_singleton.mp z,e4];exact st.l
   ·rintro d xs τ M' ⟨ie,jl,K,v,e3,e4,st,rfl,rfl⟩;cases ie with
    |nil=>cases e3
    |cons q ie=>
     obtain⟨x,y⟩:=q;cases e3;have hq:(x,y)∈nv:=(by rw[e4];simp);obtain⟨h1,h2⟩:=hv.sub _ hq;have h2:y=m++x:=h2;obtain⟨k,hk⟩:=uW h1;have p2:jl.length<=5:=by have:=congrArg ZX e4;rw[XI]at this;have:=hv.len;lia
     have sl:=st.k.len;have hK:=(pM.mp (st.s x k hk)).1;obtain⟨d,hd⟩:=Option.isSome_iff_exists.mp hK;obtain⟨k',f1,rfl⟩:=st.k.UH x d hd;rw[mM hk]at f1;cases f1;refine⟨trivial,λXo Re=>.inr ⟨K,aw,kD k,hd,.str y,by rw[gn,ky,Ct hv.nd hq];rfl,.inr ⟨K,aw,XC (by lia:_<=100) (by decide),Re _ _ ⟨ie,jl++[(x,y)],aY K (.inr y) (kD k),_,rfl,by rw[e4];simp,?_,rfl,by rw[_root_.N.cj]⟩⟩⟩⟩;have:=st.put hk (y:=y) (by rw[h2,uT hm h1];exact hk);rw[XI,ZH,<- Nat.add_assoc];exact this
noncomputable def Sr (rows:List Nv) (z:Str):Option Kd:=if (kN.contains z ||rows.any λnv=>nv.any λq=>decide (q.2=z))=true then FS z else none
theorem kA {rows:List Nv}{z:Str}{k:Kd}:Sr rows z=some k ↔ (z∈kN\/∃nv∈rows,∃q∈nv,q.2=z)/\FS z=some k:=by
 unfold Sr;have:(kN.contains z ||rows.any λnv=>nv.any λq=>decide (q.2=z))=true ↔ (z∈kN\/∃nv∈rows,∃q∈nv,q.2=z):=by
  rw[Bool.or_eq_true,List.contains_iff_mem,List.any_eq_true];refine or_congr Iff.rfl (exists_congr λnv=>and_congr Iff.rfl ?_);rw[List.any_eq_true];exact exists_congr λq=>and_congr Iff.rfl decide_eq_true_iff
 split
 ·rename_i h;exact⟨λe=>⟨this.mp h,e⟩,λe=>e.2⟩
 ·rename_i h;exact⟨λe=>(nomatch e),λe=>absurd (this.mpr e.1) h⟩
theorem CC {x:Str}{k:Kd} (h:kS x=some k):x∈kN:=List.mem_map.mpr ⟨_,dV h,rfl⟩
theorem CD {x:Str} (h:x∈kN):FS x=kS x:=by
 obtain⟨k,e⟩:=uW h;rw[e];exact mM e
theorem CE {pre:List Nv}{nv:Nv}{m:Str} (hm:m∈bJ) (hv:e7 nv m):jk (Sr pre) (Sr (pre++[nv])) nv where
 le x k h:=by
  rw[kA]at h ⊢;exact⟨h.1.imp id λ⟨nv,a,b⟩=>⟨nv,YV _ a,b⟩,h.2⟩
 nv x y k e h:=by
  have hq:=pN e;obtain⟨h1,h2⟩:=hv.sub _ hq;have h2:y=m++x:=h2;rw[kA]at h ⊢;refine⟨.inr ⟨nv,by simp,_,hq,rfl⟩,?_⟩;rw[h2,uT hm h1,<- CD h1];exact h.2
 kz x k h:=Ry (kA.mp h).2
theorem fL.sr {rows:List Nv}{l:Nv}{K:List (Key×D)}{n:Nat} (h:fL rows l K n) (hr:∀nv∈rows,∃m∈bJ,e7 nv m) {z:Str}{k:Kd} (e:Sr rows z=some k):Sk K z=some k:=by
 obtain⟨a,f⟩:=kA.mp e;rcases a with a |⟨nv,hn,q,hq,rfl⟩
 ·exact h.s z k (by rw[<- CD a];exact f)
 ·obtain⟨m,hm,hv⟩:=hr nv hn;obtain⟨h1,h2⟩:=hv.sub q hq;rw[h2,uT hm h1]at f;exact h.r nv hn q hq k f
theorem fL.jI {rows:List Nv}{l:Nv}{K:List (Key×D)}{n:Nat} (h:fL rows l K n) (hr:∀nv∈rows,∃m∈bJ,e7 nv m) {v:D}{M:Mp} (hc:hU v K M):kr v (Sr rows) M:=λy k e=>h.k.jI hc y k (h.sr hr e)
noncomputable def Ap:Qn->Option Qn
 |.one q=>some q
 |.at _ q=>some q
 |.let _ a _=>some a
 |_=>none
def Ev (q:Qn):Prop:=∀p,Kn p q->∀r,Ap p=some r->aD r=[]
theorem Ev.sub {q r:Qn} (h:Ev q) (hr:r∈us q):Ev r:=λp k=>h p (.sub hr k)
theorem Ev.aa {q r:Qn} (h:Ev q) (e:Ap q=some r):aD r=[]:=h q .rfl r e
theorem Ev.pO {q:Qn} (h:∀r∈us q,Ev r) (t:∀r,Ap q=some r->aD r=[]):Ev q:=λp k=>by
 rcases uD.mp k with rfl |⟨r,a,b⟩
 ·exact t
 ·exact h r a p b
theorem Ev.CF {q:Qn} (h:us q=[]) (e:Ap q=none):Ev q:=.pO (by rw[h];exact λ_ z=>(nomatch z)) (by rw[e];exact λ_ z=>(nomatch z))
theorem Ev.dS {q a b:Qn} (h:us q=[a,b]) (e:Ap q=none) (ha:Ev a) (hb:Ev b):Ev q:=.pO (by
 rw[h];intro r hr;rcases List.mem_cons.mp hr with rfl |hr
 ·exact ha
 ·rw[List.mem_singleton.mp hr];exact hb) (by rw[e];exact λ_ z=>(nomatch z))
theorem mO {a b:Qn}:a∈[a,b]:=XA
theorem mP {a b:Qn}:b∈[a,b]:=XB _ XA
noncomputable def ao (ns:List Str):Qn->Nat
 |.tab x=>if x∈ns then 1 else 0
 |.both a b=>max (ao ns a) (ao ns b)
 |.for _ a b=>ao ns a+ao ns b
 |.times _ a=>ao ns a
 |.aL _ a=>ao ns a
 |.let _ _ b=>ao ns b
 |_=>0
structure pP (ns:List Str) (nv:Nv):Prop where
 k:∀x y,bB x nv=some y->x∈ns
 v:∀x y,bB x nv=some y->y ∉ ns
noncomputable def cc:Nat->Nat
 | 0=>1
 | 1=>1
 |d+2=>2 * cc (d+1)+3
theorem gz:∀d,1<=cc d
 | 0=>Xu _
 | 1=>Xu _
 |d+2=>by have:=gz (d+1);rw[cc];lia
theorem RT:∀d,cc d<=cc (d+1)
 | 0=>Xu _
 |d+1=>by rw[show cc (d+1+1)=2 * cc (d+1)+3 from rfl];lia
theorem pQ {d e:Nat} (h:d<=e):cc d<=cc e:=by
 induction h with
 |refl=>exact Xu _
 |step _ ih=>exact Xz ih (RT _)
theorem CG {d e:Nat} (h:1<=d) (l:d<e):2 * cc d+3<=cc e:=by
 obtain⟨d,rfl⟩:∃d',d=d'+1:=⟨d-1,by lia⟩;exact Xz (Xu (cc (d+2))) (pQ l)
structure Fl (ns:List Str) (d k:Nat) (p:Qn):Prop where
 g:ao ns p+1<=d
 e:Ev p
 n:nq p<=cc d * k
theorem Fl.up {ns:List Str}{d k d' k':Nat}{p:Qn} (h:Fl ns d k p) (h1:d<=d') (h2:k<=k'):Fl ns d' k' p:=⟨Xz h.g h1,h.e,Xz h.n (Nat.mul_le_mul (pQ h1) h2)⟩
theorem CH {nv:Nv}{q:Qn} (h:aD q=[]):hs nv q=false:=by unfold hs;rw[h];rfl
theorem pR {nv:Nv}{q:Qn} (h:aD q=[]):dF nv q=none:=by unfold dF;rw[CH h];rfl
theorem Fl.one {ns:List Str}{d k m:Nat}{g:Qn->Qn} (h1:∀p,ao ns (g p)=ao ns p) (h2:∀p,Ev p->Ev (g p)) (h3:∀p,nq (g p)=m+nq p):∀p,Fl ns d k p->Fl ns d (m+k) (g p):=λp h=>by
 refine⟨by rw[h1];exact h.g,h2 p h.e,?_⟩;rw[h3,Zw];exact Nat.add_le_add (ZA _ (gz d)) h.n
section
variable {ns:List Str}{nv:Nv}{S:Str->Option Kd}
theorem RU {y:Str}{a b:Qn} (ea:Ev a) (eb:Ev b) (ha:OT (Fl ns (ao ns a) (nq a)) (av nv a)) (hb:OT (Fl ns (ao ns b) (nq b)) (av nv b)) :
  OT (Fl ns (ao ns a+ao ns b) (1+nq a+nq b)) (cy none [mf y (av nv a) (some b),mf y (some a) (av nv b),mf y (av nv a) (av nv b)]):=by
 have c1:=gz (ao ns a+ao ns b);have la:=pQ (show ao ns a<=ao ns a+ao ns b by lia);have lb:=pQ (show ao ns b<=ao ns a+ao ns b by lia);have sa:1<=ao ns a->1<=ao ns b->2 * cc (ao ns a)+3<=cc (ao ns a+ao ns b):=λh1 h2=>CG h1 (by lia);have sb:1<=ao ns a->1<=ao ns b->2 * cc (ao ns b)+3<=cc (ao ns a+ao ns b):=λh1 h2=>CG h2 (by lia)
 revert ha hb c1 la lb sa sb
 generalize Uk:ao ns a=i;generalize WR:ao ns b=j;generalize hcc:cc (i+j)=c;generalize hx:cc i=x;generalize hz:cc j=z;generalize hm:nq a=m;generalize hn:nq b=n;intro ha hb c1 la lb sa sb
 -- TM with c,by TN c is at TP
 have P:∀{t:Nat},(t<=1+x * m+n\/t<=1+m+z * n\/(1<=i/\1<=j/\t<=5+(2 * x+1) * m+(2 * z+1) * n))->t<=c * (1+m+n):=λ{t} h=>by
  have k1:=YW m la;have k2:=YW n lb;have k3:=YW m c1;have k4:=YW n c1;rw[Zw,Zw];rcases h with h |h |⟨h1,h2,h⟩
  ·lia
  ·lia
  ·have k5:=YW m (sa h1 h2);have WS:=YW n (sb h1 h2);have s:=sa h1 h2;have x1:1<=x:=hx ▸ gz i;rw[YL]at h k5 WS;rw[YL]at h;lia
 have t1:OT (λp=>1<=i/\ao ns p+1<=i+j/\Ev p/\nq p<=1+x * m+n) (mf y (av nv a) (some b)):=gy ha (B:=λq=>q=b) (.so rfl) λp q h e=>by
  subst e;have h1:=h.g;have h2:=h.n;rw[hx]at h2
  exact⟨by lia,by rw[ao,WR];lia,.dS rfl rfl h.e eb,by rw[nq,hn];lia⟩
 have t2:OT (λp=>1<=j/\ao ns p+1<=i+j/\Ev p/\nq p<=1+m+z * n) (mf y (some a) (av nv b)):=gy (A:=λq=>q=a) (.so rfl) hb λp q e h=>by
  subst e;have h1:=h.g;have h2:=h.n;rw[hz]at h2
  exact⟨by lia,by rw[ao,Uk];lia,.dS rfl rfl ea h.e,by rw[nq,hm];lia⟩
 have t3:OT (λp=>(1<=i/\1<=j)/\ao ns p+1<=i+j/\Ev p/\nq p<=1+x * m+z * n) (mf y (av nv a) (av nv b)):=gy ha hb λp q h e=>by
  have h1:=h.g;have h2:=h.n;rw[hx]at h2
  have g1:=e.g;have g2:=e.n;rw[hz]at g2
  exact⟨⟨by lia,by lia⟩,by rw[ao];lia,.dS rfl rfl h.e e.e,by rw[nq];lia⟩
 have RV:=gw t1 t2 (T:=λp=>ao ns p+1<=i+j/\Ev p/\(nq p<=1+x * m+n\/nq p<=1+m+z * n\/(1<=i/\1<=j/\nq p<=3+(x+1) * m+(z+1) * n))) (λp h=>⟨h.2.1,h.2.2.1,.inl h.2.2.2⟩) (λp h=>⟨h.2.1,h.2.2.1,.inr (.inl h.2.2.2)⟩) λp q h e=>
  ⟨by rw[ao];lia,.dS rfl rfl h.2.2.1 e.2.2.1,.inr (.inr ⟨h.1,e.1,by rw[nq,YL,YL];lia⟩)⟩
 have e2:∀u k:Nat,(2 * u+1) * k=2 * (u * k)+k:=λu k=>by rw[YL,Nat.mul_assoc,Nat.one_mul]
 have x1:m<=x * m:=ZA _ (hx ▸ gz i);have z1:n<=z * n:=ZA _ (hz ▸ gz j);have fin:∀{p:Qn},ao ns p+1<=i+j->Ev p->(nq p<=1+x * m+n\/nq p<=1+m+z * n\/(1<=i/\1<=j/\nq p<=5+(2 * x+1) * m+(2 * z+1) * n))->Fl ns (i+j) (1+m+n) p:=λh3 h4 h5=>⟨h3,h4,by rw[hcc];exact P h5⟩;rw[uS];refine gw RV t3 (λp h=>fin h.1 h.2.1 ?_) (λp h=>fin h.2.1 h.2.2.1 (.inr (.inr ⟨h.1.1,h.1.2,?_⟩))) λp q h e=>fin (by rw[ao];have:=h.1;have:=e.2.1;lia) (.dS rfl rfl h.2.1 e.2.2.1) (.inr (.inr ⟨e.1.1,e.1.2,?_⟩))
 ·rcases h.2.2 with h |h |⟨h1,h2,h⟩
  ·exact .inl h
  ·exact .inr (.inl h)
  ·refine .inr (.inr ⟨h1,h2,?_⟩);rw[YL,YL]at h;rw[e2,e2];lia
 ·have:=h.2.2.2;rw[e2,e2];lia
 ·have h3:=e.2.2.2;rw[nq,e2,e2];rcases h.2.2 with h |h |⟨_,_,h⟩
  ·lia
  ·lia
  ·rw[YL,YL]at h;lia
theorem gB (hn:pP ns nv):∀(q:Qn) {G:Sc}{k:Kd},Ty S G q (.ah k)->Ev q->OT (Fl ns (ao ns q) (nq q)) (av nv q)
 |.tab x,G,k,_,_=>by
  rw[av];split
  ·cases e:bB x nv with
   |none=>exact .no
   |some y=>
    have d1:ao ns (.tab x)=1:=if_pos (hn.k _ _ e);have T7:ao ns (.tab y)=0:=if_neg (hn.v _ _ e);exact .so ⟨by rw[d1,T7];exact Xu _,.CF rfl rfl,by rw[d1];exact (by decide:1<=1 * 1)⟩
  ·exact .no
 |.both a b,G,k,t,h=>by
  cases t with
  |both z ta tb=>
  rw[av];split
  ·have ha:OT (Fl ns (max (ao ns a) (ao ns b)) (nq a)) (av nv a):=(gB hn a ta (h.sub mO)).im λp h=>h.up (YU ..) (Xu _);have hb:OT (Fl ns (max (ao ns a) (ao ns b)) (nq b)) (av nv b):=(gB hn b tb (h.sub mP)).im λp h=>h.up (YC ..) (Xu _);refine gw ha hb (λp h=>h.up (Xu _) (by rw[nq];lia)) (λp h=>h.up (Xu _) (by rw[nq];lia)) λp q h e=>⟨?_,.dS rfl rfl h.e e.e,?_⟩
   ·have:=h.g;have:=e.g
    show max (ao ns p) (ao ns q)+1<=max (ao ns a) (ao ns b);lia
   ·have h1:=h.n;have h2:=e.n;have h3:=gz (max (ao ns a) (ao ns b))
    show 1+nq p+nq q<=cc (max (ao ns a) (ao ns b)) * (1+nq a+nq b);rw[Zw,Zw];lia
  ·exact .no
 |.for y a b,G,k,t,h=>by
  cases t with
  | «for» z ta tb=>
  rw[av];split
  ·exact RU (h.sub mO) (h.sub mP) (gB hn a ta (h.sub mO)) (gB hn b tb (h.sub mP))
  ·exact .no
 |.times i a,G,k,t,h=>by
  cases t with
  |times ta=>
  rw[av];split
  ·exact (gB hn a ta (h.sub (List.mem_singleton.mpr rfl))).map (Fl.one (g:=Qn.times i) (m:=1) (λ_=>rfl) (λp e=>.pO (λr hr=>by rw[List.mem_singleton.mp hr];exact e) λ_ z=>(nomatch z)) λ_=>rfl)
  ·exact .no
 |.aL c a,G,k,t,h=>by
  cases t with
  |aL tc ta=>
  rw[av];split
  ·exact (gB hn a ta (h.sub mP)).map (Fl.one (g:=Qn.aL c) (m:=1+nq c) (λ_=>rfl) (λp e=>.dS rfl rfl (h.sub mO) e) λ_=>rfl)
  ·exact .no
 |.let y a b,G,k,t,h=>by
  cases t with
  | «let» z ta tb=>
  have na:aD a=[]:=h.aa rfl;rw[av];split
  ·rw[if_neg (by rw[CH na];decide)];exact (gB hn b tb (h.sub mP)).map (Fl.one (g:=Qn.let y a) (m:=1+nq a) (λ_=>rfl) (λp e=>.pO (λr hr=>by
    rcases List.mem_cons.mp hr with rfl |hr
    ·exact h.sub mO
    ·rw[List.mem_singleton.mp hr];exact e) λr z=>by cases z;exact na) λ_=>rfl)
  ·exact .no
 |.one q,G,k,t,h=>by rw[show av nv (.one q)=dF nv (.one q) from rfl,pR (q:=.one q) (Ev.aa h (r:=q) rfl)];exact .no
 |.at f q,G,k,t,h=>by rw[show av nv (.at f q)=dF nv (.at f q) from rfl,pR (q:=.at f q) (Ev.aa h (r:=q) rfl)];exact .no
 |.var x,G,k,t,h=>by rw[show av nv (.var x)=dF nv (.var x) from rfl,pR rfl];exact .no
 |.none l,G,k,t,h=>by rw[show av nv (.none l)=dF nv (.none l) from rfl,pR rfl];exact .no
 |.num _,G,k,t,h=>by cases t
 |.word _,G,k,t,h=>by cases t
 |.row _,G,k,t,h=>by cases t
 |.add _ _,G,k,t,h=>by cases t
 |.mul _ _,G,k,t,h=>by cases t
 |.same _ _,G,k,t,h=>by cases t
 |.under _ _,G,k,t,h=>by cases t
 |.and _ _,G,k,t,h=>by cases t
 |.or _ _,G,k,t,h=>by cases t
 |.not _,G,k,t,h=>by cases t
end
variable {w:Wo}
theorem kB {s t u z:Str}{M:Mp}{k:Bool->Prop}{b:Bool} (hb:cB (.str z) [D.str s,D.str t,D.str u]=b) (q:k b):d9 (.str z) (.tup [.str s,.str t,.str u]) M k:=by
 refine⟨⟨rfl,rfl,by rw[aT,aT,aT,aT,a8,a8,a8];decide,?_⟩⟩;rw[hb];exact q
theorem Kn.wq {p q:Qn} (h:Kn p q):NQ.nq p<=NQ.nq q/\(K32.wq q->K32.wq p)/\∀x∈aD p,x∈aD q:=by
 induction h with
 |rfl=>exact⟨Xu _,id,λ_ z=>z⟩
 |sub hr _ ih=>exact⟨Xz ih.1 (Nat.le_of_lt (uE hr)),λz=>ih.2.1 ((kx z).2 _ hr),λx z=>pJ.mpr (.inr (List.mem_flatMap.mpr ⟨_,hr,ih.2.2 x z⟩))⟩
theorem Kn.tr {p q r:Qn} (h:Kn q r) (g:Kn p q):Kn p r:=by
 induction h with
 |rfl=>exact g
 |sub hr _ ih=>exact .sub hr ih
theorem RW {p r:Qn} (h:Ap p=some r):∃s,us p=r::s:=by
 cases p <;> cases h <;> exact⟨_,rfl⟩
theorem RX (p:Qn):cB (.str (wd p)) [D.str "one",D.str "at",D.str "let"]=(Ap p).isSome:=by
 cases p <;> (rw[wd];first |(show _=true;decide +kernel) |(show _=false;decide +kernel))
noncomputable def RY:B:=(.cons (.set (.one 1) (.lc 1 [] (.one 0) (.seq (.call 2 (.cons (.v 0) .nil))) (.cmp .In (.ix (.v 0) (.c (.int 0))) (.tup (.cons (.c (.str "one")) (.cons (.c (.str "at")) (.cons (.c (.str "let")) .nil))))) (.ix (.call 0 (.cons (.v 0) .nil)) (.c (.int 0))))) (.cons (.ret (.not (.bi .any (.cons (.lc 1 [] (.one 0) (.seq (.v 1)) .au (.call 3 (.cons (.v 0) .nil))) .nil)))) .nil))
theorem RZ:aB ["question","apart"] ["question"] (ag (aa 58)):=⟨rfl,rfl,rfl,by decide +kernel,rfl,by decide +kernel,by decide +kernel⟩
theorem R0:aF nm 40 ["question","apart"] (ag (aa 58)) (ax (aa 58))=RY:=by kernel_rfl
def u9:Sp:=λds M Q _=>∃(q:Qn) (N:List Str),ds=[qD q]/\wq q/\nq q<1000000/\N.length<64/\(∀x∈aD q,x∈N)/\∀e:Bool,(e=true ↔ Ev q)->Q (.bl e) M
noncomputable abbrev R1 (w:Wo):a0 w:={ cs:=[(0,je),(2,uG),(3,uJ)] }
theorem CI (O:Lw w):FO w 39 4 u9:=by
 refine aI O.ok O.hn _ ⟨"is_even",aa 58,["question"]⟩ (by rw[O.hd];rfl) (R1 w) { cs:=⟨⟨1,by decide,km O⟩,⟨2,by decide,BQ O⟩,⟨3,by decide,BS O⟩,trivial⟩ } RZ R0 λds M Q _ h=>?_;obtain⟨q,N,rfl,hw,hn,hN,hs,h⟩:=h;refine⟨rfl,q,rfl,hw,hn,λkl hk hl=>?_⟩;refine eT (λxs ys M'=>M'=M/\∃rest pre,xs=rest.map qD/\kl=pre++rest/\ys=(pre.filterMap Ap).map qD) ?_ ?_ _ _ _ ⟨rfl,kl,[],rfl,rfl,rfl⟩
 ·rintro ys M' ⟨rfl,rest,pre,e1,e2,rfl⟩;have:rest=[]:=by simpa using e1.symm
  subst this;rw[XO]at e2;subst e2;have ln:(kl.filterMap Ap).length<=kl.length:=Y5 ..;have gL:(1000000:Nat)<sizeLine:=by decide
  refine⟨trivial,XC (by rw[Xr];lia:_<=1000000) gL,.inl ?_⟩;have am:∀p∈kl.filterMap Ap,Kn p q:=λp hp=>by
   obtain⟨g,h1,h2⟩:=List.mem_filterMap.mp hp;obtain⟨s,e⟩:=RW h2;exact ((hk g).mp h1).tr (.sub (by rw[e];exact XA) .rfl)
  refine eT (λxs ys M1=>M1=M'/\∃(rest pre:List Qn) (ls:List (List D)),xs=rest.map qD/\kl.filterMap Ap=pre++rest/\ys=ls.map D.lst/\ls.length=pre.length/\((ls.any λl=>!l.isEmpty)=false ↔ ∀p∈pre,aD p=[])) ?_ ?_ _ _ _ ⟨rfl,kl.filterMap Ap,[],[],rfl,rfl,rfl,rfl,by simp⟩
  ·rintro ys M1 ⟨rfl,rest,pre,ls,e1,e2,rfl,e3,ej⟩;have:rest=[]:=(by simpa using e1.symm);subst this;rw[XO]at e2;rw[<- e2]at ej e3;refine⟨trivial,XC (by rw[Xr];lia:_<=1000000) gL,.inl (.inr ⟨ls,rfl,ar (h _ ?_)⟩)⟩;rw[Bool.not_eq_true',ej];constructor
   ·intro z p hp r hr;exact z r (List.mem_filterMap.mpr ⟨p,(hk p).mpr hp,hr⟩)
   ·intro z r hr;obtain⟨p,h1,h2⟩:=List.mem_filterMap.mp hr;exact z p ((hk p).mp h1) r h2
  ·rintro x xs ys M1 ⟨rfl,rest,pre,ls,e1,e2,rfl,e3,ej⟩;cases rest with
   |nil=>cases e1
   |cons g rest=>
    cases e1;have Uw:=am g (by rw[e2];simp);obtain⟨w1,w2,w3⟩:=Uw.wq;have lp:pre.length<=(kl.filterMap Ap).length:=(by rw[e2];simp);refine⟨trivial,XC (by rw[Xr];lia:_<=1000000) gL,λN' e6=>⟨g,N,rfl,w2 hw,by lia,hN,λx z=>hs x (w3 x z),λzs nd hz=>e6 _ _ ⟨rfl,rest,pre++[g],ls++[zs.map D.str],rfl,by rw[e2];simp,by rw[XU];rfl,by simp [e3],?_⟩⟩⟩;have Ud:(zs.map D.str).isEmpty=true ↔ aD g=[]:=by
     rw[List.isEmpty_iff,List.map_eq_nil_iff];constructor
     ·intro e;subst e;exact List.eq_nil_iff_forall_not_mem.mpr λx hx=>(XR ((hz x).mpr hx))
     ·intro e;exact List.eq_nil_iff_forall_not_mem.mpr λx hx=>by have:=(hz x).mp hx;rw[e]at this;exact XR this
    rw[List.any_append,Bool.or_eq_false_iff,ej,Y2,List.any_nil,Bool.or_false,Bool.not_eq_false',Ud];constructor
    ·rintro⟨a,b⟩ p hp;rcases List.mem_append.mp hp with z |z
     ·exact a p z
     ·rw[List.mem_singleton.mp z];exact b
    ·exact λz=>⟨λp hp=>z p (YV _ hp),z g (by simp)⟩
 ·rintro x xs ys M' ⟨rfl,rest,pre,e1,e2,rfl⟩;cases rest with
  |nil=>cases e1
  |cons g rest=>
   cases e1;have ln:(pre.filterMap Ap).length<=pre.length:=Y5 ..;have lp:pre.length<=kl.length:=(by rw[e2];simp);have Uw:Kn g q:=(hk g).mp (by rw[e2];simp);have hu:=(kx (Uw.wq.2.1 hw)).1;refine⟨trivial,XC (by rw[Xr];lia:_<=1000000) (by decide),λN' e6=>?_⟩;have put:∀{r:Qn},Ap g=some r->N' ((pre.filterMap Ap).map qD++[qD r]) M':=λ{r} e=>e6 _ _ ⟨rfl,rest,pre++[g],rfl,by rw[e2];simp,by rw[List.filterMap_append,XU,Zt,e];rfl⟩;cases ea:Ap g with
   |some r=>
    cases g <;> cases ea
    all_goals exact⟨_,rfl,l3,kB (b:=true) (by decide +kernel) (aN rfl ⟨_,rfl,hu,_,rfl,put rfl⟩)⟩
   |none=>
    have no:N' ((pre.filterMap Ap).map qD) M':=e6 _ _ ⟨rfl,rest,pre++[g],rfl,by rw[e2];simp,by rw[List.filterMap_append,Zt,ea,List.filterMap_nil,XO]⟩;have hi:=RX g;rw[ea]at hi;obtain⟨r,hr⟩:=dE g;rw[hr];exact⟨_,eh,l3,kB hi (ay (by decide) no)⟩
noncomputable def vc:B:=(.cons (.set (.one 3) (.ix (.v 0) (.c (.int 0)))) (.cons (.cond (.cmp .Eq (.v 3) (.c (.str "table"))) (.cons (.ret (.ite (.cmp .In (.ix (.v 0) (.c (.int 1))) (.v 2)) (.c (.int 1)) (.c (.int 0)))) .nil) .nil) (.cons (.cond (.cmp .Eq (.v 3) (.c (.str "both"))) (.cons (.ret (.bi .max (.cons (.v 1) .nil))) .nil) .nil) (.cons (.cond (.cmp .Eq (.v 3) (.c (.str "for"))) (.cons (.ret (.bi .sum (.cons (.v 1) .nil))) .nil) .nil) (.cons (.cond (.cmp .In (.v 3) (.tup (.cons (.c (.str "times")) (.cons (.c (.str "when")) (.cons (.c (.str "let")) .nil))))) (.cons (.ret (.ix (.v 1) (.neg (.c (.int 1))))) .nil) .nil) (.cons (.ret (.c (.int 0))) .nil))))))
noncomputable def bX (ns:List Str) (q:Qn):D:=.int (ao ns q:Nat)
def R2 (v:D):Sp:=λds M Q _=>∃(ns:List Str) (q:Qn),v=.lst (ns.map D.str)/\ds=[qD q,.lst ((us q).map (bX ns))]/\(us q).length<100/\Q (bX ns q) M
theorem vd {x:Str}:∀{ns:List Str},cB (.str x) (ns.map D.str)=decide (x∈ns)
 |[]=>rfl
 |y::ns=>by
  have ih:=@vd x ns;unfold cB at ih ⊢;rw[XD,Y2,ih];have:aC (.str y) (.str x)=decide (x=y):=by show (some x == some y)=_;by_cases e:x=y <;> simp [e]
  rw[this];simp [Bool.decide_or]
theorem pS:∀{ns:List Str},aO (ns.map D.str)=true/\aT (ns.map D.str)=0
 |[]=>⟨rfl,rfl⟩
 |y::ns=>by rw[XD,aO,aT,(pS (ns:=ns)).1,(pS (ns:=ns)).2];exact⟨rfl,rfl⟩
theorem R3 {x:Str}{ns:List Str}{M:Mp}{k:Bool->Prop} (h:k (decide (x∈ns))):d9 (.str x) (.lst (ns.map D.str)) M k:=⟨⟨rfl,pS.1,by rw[pS.2];exact XS _,by rw[vd];exact h⟩⟩
theorem R4 {ns:List Str}{q:Qn} (h:(["table","both","for","times","when","let"]:List Str).all (λs=>decide (wd q≠s))=true) (e:ao ns q=0) {M:Mp}{Q:QK} (hq:Q (bX ns q) M) :
  B.w ({}:a0 w).wd nm.aj vc (a9 Q) [some (qD q),some (.lst ((us q).map (bX ns))),some (.lst (ns.map D.str)),none] M:=by
 have g:=λs hs=>of_decide_eq_true (List.all_eq_true.mp h s hs);have g1:=g "table" (by simp);have g2:=g "both" (by simp);have g3:=g "for" (by simp)
 have g4:cB (.str (wd q)) [D.str "times",D.str "when",D.str "let"]=false:=by
  have:=@vd (wd q) ["times","when","let"];rw[show ([D.str "times",D.str "when",D.str "let"]:List D)=(["times","when","let"]:List Str).map D.str from rfl,this];refine decide_eq_false λz=>?_;simp only[Yh,XR,or_false]at z;rcases z with z |z |z
  ·exact g "times" (by simp) z
  ·exact g "when" (by simp) z
  ·exact g "let" (by simp) z
 have hq:Q (.int 0) M:=by unfold bX at hq;rw[e]at hq;exact hq
 obtain⟨r,hr⟩:=dE q;rw[hr];exact⟨_,eh,aq (bw g1 (aq (bw g2 (aq (bw g3 ⟨l3,kB g4 (ay (by decide) (ar hq))⟩)))))⟩
theorem R5 {ns:List Str}{q:Qn}{M:Mp}{Q:QK} (h:Q (bX ns q) M):B.w ({}:a0 w).wd nm.aj vc (a9 Q) [some (qD q),some (.lst ((us q).map (bX ns))),some (.lst (ns.map D.str)),none] M:=by
 cases q with
 |tab x=>
  refine⟨_,rfl,aq (aN (by decide) ⟨_,rfl,R3 (aX (λz=>?_) λz=>?_)⟩)⟩
  ·have e:ao ns (.tab x)=1:=if_pos (of_decide_eq_true z);unfold bX at h;rw[e]at h;exact ar h
  ·have e:ao ns (.tab x)=0:=if_neg λy=>z (decide_eq_true y);unfold bX at h;rw[e]at h;exact ar h
 |both a b=>
  refine⟨_,rfl,aq (bw (by decide) (aq (aN (by decide) ⟨[(ao ns a:Int),(ao ns b:Int)],rfl,Nat.succ_pos _,λm hm CJ=>?_⟩)))⟩;have e:m=((ao ns (.both a b):Nat):Int):=by
   have h1:=CJ (ao ns a) (by simp);have h2:=CJ (ao ns b) (by simp);show m=((max (ao ns a) (ao ns b):Nat):Int);simp only[Yh,XR,or_false]at hm;rcases hm with rfl |rfl <;> lia
  rw[e];exact ar h
 | «for» y a b=>
  refine⟨_,rfl,aq (bw (by decide) (aq (bw (by decide) (aq (aN (by decide) ⟨[(ao ns a:Int),(ao ns b:Int)],rfl,?_⟩)))))⟩;have e:([(ao ns a:Int),(ao ns b:Int)]).sum=((ao ns (.for y a b):Nat):Int):=by
   show (ao ns a:Int)+((ao ns b:Int)+0)=((ao ns a+ao ns b:Nat):Int);lia
  rw[e];exact ar h
 |times i a=>exact⟨_,rfl,aq (bw (by decide) (aq (bw (by decide) (aq (bw (by decide) ⟨l3,kB (b:=true) (by decide +kernel) (aN rfl ⟨_,rfl,ar h⟩)⟩)))))⟩
 |aL c a=>exact⟨_,rfl,aq (bw (by decide) (aq (bw (by decide) (aq (bw (by decide) ⟨l3,kB (b:=true) (by decide +kernel) (aN rfl ⟨_,rfl,ar h⟩)⟩)))))⟩
 | «let» y a b=>exact⟨_,rfl,aq (bw (by decide) (aq (bw (by decide) (aq (bw (by decide) ⟨l3,kB (b:=true) (by decide +kernel) (aN rfl ⟨_,rfl,ar h⟩)⟩)))))⟩
 |_=>exact R4 (by rw[wd];decide +kernel) rfl h
noncomputable def R6:Expr:=pC.es.headD (.Name "" ⟨0,0,0,0⟩)
theorem R7:ax (aa 59)=[.FunctionDef pC.name pC.params pC.body [] none [] pC.scope none pC.name pC.np,.Return (some (.Call (.Name pC.g pC.gp) (R6::pC.es.tail) [] pC.cp)) pC.rp]:=by kernel_rfl
theorem R8:aB ["question","names","degree_of"] ["question","names"] (ag (aa 59)):=⟨rfl,rfl,rfl,by decide +kernel,rfl,by decide +kernel,by decide +kernel⟩
def ve:Sp:=λds M Q _=>∃(q:Qn) (ns:List Str),ds=[qD q,.lst (ns.map D.str)]/\wq q/\dn q<500/\Q (bX ns q) M
theorem CK (O:Lw w):FO w 40 6 ve:=by
 refine zQ O.ok O.hn (kp:=1) (n:=40) (np:=40) (j:=2) (ci:=1) (ns:=["question","names","degree_of"]) (gj:=["part","below"]) (ls:=["word"]) (x:="names") (b:=vc) (t:=.cons (.v 0) (.cons (.v 2) .nil)) (kc:=R2) 40 4 ⟨"degree",aa 59,["question","names"]⟩ (by rw[O.hd];rfl) R7 (λf fd q=>O.U1 f fd q) {} { cs:=trivial } R8 (by kernel_rfl) (by kernel_rfl) (by decide) rfl (by decide) (by kernel_rfl)
  (λ_ _ _ _=>rfl) (λ_ _ _ _=>rfl) (λ_=>rfl) (by kernel_rfl) (by kernel_rfl) (λ_=>by kernel_rfl) (by kernel_rfl) (by kernel_rfl) (by kernel_rfl) (by kernel_rfl) (by kernel_rfl) ⟨by kernel_rfl,by kernel_rfl,by kernel_rfl,by decide +kernel,by decide +kernel,by decide +kernel,by decide +kernel⟩ (by decide +kernel) (λq clos doc pm c ctv K=>bE.all λus h=>?_) (by kernel_rfl) (λe v l=>⟨{},{ cs:=trivial },λds M Q E hs=>?_⟩) λds M Q E hs=>?_
 ·match us,h with
  |[_,_],_=>rfl
 ·obtain⟨ns,q,rfl,rfl,hu,h⟩:=hs;exact⟨rfl,R5 (w:=w.at e) h⟩
 ·obtain⟨q,ns,rfl,hw,hd,h⟩:=hs;exact⟨rfl,λf e v l ev hh=>by
   cases ev;exact⟨_,B8 (g:=bX ns) (O.at l) hh (λ{q M Q E} hu h=>⟨ns,q,rfl,rfl,hu,h⟩),q,rfl,hw,hd,ar h⟩⟩
variable {w:Wo}
noncomputable def CL:S->B
 |.loop _ _ b=>b
 |_=>.nil
noncomputable def kC:Nat->B->B
 | 0,b=>b
 |n+1,b=>kC n (Am b)
noncomputable def jm:Nat->Nat
 | 0=>1
 |d+1=>cc (d+1) * jm d
theorem CN:∀d,1<=jm d
 | 0=>Xu _
 |d+1=>Nat.mul_le_mul (gz (d+1)) (CN d)
theorem CO {d e:Nat} (h:d<=e):jm d<=jm e:=by
 induction h with
 |refl=>exact Xu _
 |step _ ih=>exact Xz ih (ZA _ (gz _))
structure Cv (pre:List Nv) (r:Nat) (ns:List Str) (κ:Kd) (q:Qn):Prop where
 ty:Ty (Sr pre) [] q (.ah κ)
 ev:Ev q
 d:dq q+r * (2 * fs q+3)<=400
 n:nq q * jm (ao ns q)<1000000
 g:ao ns q<r
theorem Cv.nq {pre:List Nv}{r:Nat}{ns:List Str} {κ:Kd} {q:Qn} (h:Cv pre r ns κ q):NQ.nq q<1000000:=XC (Nat.le_mul_of_pos_right _ (CN _)) h.n
theorem Cv.step {pre:List Nv}{r:Nat}{ns:List Str} {κ:Kd} {q p:Qn}{nv:Nv}{m:Str} (h:Cv pre (r+1) ns κ q) (hz:kz κ<900) (hm:m∈bJ) (hv:e7 nv m) (hn:pP ns nv) (e:av nv q=some p):Cv (pre++[nv]) r ns κ p:=by
 have f:=gB hn q h.ty h.ev p e;have g:=h8 q p e;have h1:=h.d;have g1:=g.d;have g2:=g.f;have f1:=f.g;have hg:=h.g
 refine⟨ia (CE hm hv) q h.ty hz p e,f.e,?_,XC ?_ h.n,by lia⟩
 ·have:=Nat.mul_le_mul_left r (show 2 * fs p+3<=2 * fs q+3 by lia);rw[Nat.succ_mul]at h1;lia
 ·have f2:=f.n
  revert f1 f2
  generalize ao ns q=t;intro f1 f2;obtain⟨t,rfl⟩:∃t',t=t'+1:=⟨t-1,by lia⟩;rw[show jm (t+1)=cc (t+1) * jm t from rfl,<- Nat.mul_assoc];exact Nat.mul_le_mul (by rw[Nat.mul_comm];exact f2) (CO (by lia))
theorem Cv.gP {pre:List Nv}{r:Nat}{ns:List Str} {κ:Kd} {q:Qn} (h:Cv pre r ns κ q):dn q<500/\K32.wq q/\∀x∈aD q,x∈ib.map (·.1):=by
 have d1:=h.d;have d2:=bC q;refine⟨by lia,(mE h.ty).w,λx hx=>?_⟩;obtain⟨l,e⟩:=(mE h.ty).t x hx;exact List.mem_map.mpr ⟨_,dV (kA.mp e).2,rfl⟩
noncomputable def bb (m:Str) (ns:List Str):Nv:=ns.map λx=>(x,m++x)
theorem CP {m:Str}{ns:List Str} (nd:ns.Nodup) (hs:∀x∈ns,x∈kN) (hl:ns.length<=5):e7 (bb m ns) m:=⟨by unfold bb;rw[Yv];show (ns.map λx=>x).Nodup;rw[List.map_id'];exact nd,λp hp=>by
 obtain⟨x,hx,rfl⟩:=List.mem_map.mp hp;exact⟨hs x hx,rfl⟩,by unfold bb;rw[Xr];exact hl⟩
theorem R9 {m:Str}{ns:List Str} (hm:m∈bJ) (hs:∀x∈ns,x∈kN):pP ns (bb m ns) where
 k x y h:=by
  obtain⟨z,hz,e⟩:=List.mem_map.mp (pN h);cases e;exact hz
 v x y h:=λhy=>by
  obtain⟨z,hz,e⟩:=List.mem_map.mp (pN h);cases e;obtain⟨k,e⟩:=uW (hs _ hy);rw[Rz hm (hs _ hz)]at e;cases e
noncomputable def gC:List Str:=["d","e","f","g","h","i"]
theorem R' {xs:List D}{i:Int}{j:Nat} (e:i=(j:Int)) (h:j<=xs.length):cI xs none (some i)=xs.take j:=by
 subst e;unfold cI;rw[HT.EV,HT.EU,List.drop_zero,Nat.sub_zero,Nat.min_eq_left h]
noncomputable def Sa:B:=.cons (.ret (.c (.bl false))) .nil
noncomputable def Sb:B:=.cons (.loop (.one 5) (.seq (.sl (.v 2) .au (.op .Add (.v 4) (.c (.int 1))))) (.cons (.set (.one 6) .j6) (.cons (.loop (.one 7) (.seq (.v 1)) (.cons (.put (.v 6) (.v 7) (.op .Add (.v 5) (.v 7))) .nil)) (.cons (.ex (.mt .append (.v 3) (.cons (.v 6) .nil))) (.cons (.set (.one 0) (.call 27 (.cons (.v 0) (.cons (.v 6) (.cons .j6 (.cons (.call 54 (.cons (.v 3) .nil)) .nil)))))) (.cons (.cond (.not (.call 39 (.cons (.v 0) .nil))) (.cons (.ret (.c (.bl false))) .nil) .nil) (.cons (.cond (.cmp .Eq (.ix (.v 0) (.c (.int 0))) (.c (.str "none"))) (.cons (.ret (.c (.bl true))) .nil) .nil) (.cons (.set (.one 8) (.call 40 (.cons (.v 0) (.cons (.v 1) .nil)))) (.cons (.cond (.cmp .GtE (.v 8) (.v 4)) (.cons (.ret (.c (.bl false))) .nil) .nil) (.cons (.set (.one 4) (.v 8)) .nil)))))))))) Sa
noncomputable def Se:B:=.cons (.set (.one 4) (.call 40 (.cons (.v 0) (.cons (.v 1) .nil)))) Sb
noncomputable def CQ:B:=.cons (.set (.one 3) (.lst .nil)) Se
theorem Sf:aB ["asked","names","marks","rows","high","mark","told","name","low"] ["asked","names","marks"] (ag (aa 86)):=⟨rfl,rfl,rfl,by decide +kernel,rfl,by decide +kernel,by decide +kernel⟩
theorem Sg:aF nm 40 ["asked","names","marks","rows","high","mark","told","name","low"] (ag (aa 86)) (ax (aa 86))=CQ:=by kernel_rfl
def CS:Sp:=λds M Q _=>∃(q:Qn) (ns:List Str) (κ:Kd),ds=[qD q,.lst (ns.map D.str),.lst (gC.map D.str)]/\ns.Nodup/\(∀x∈ns,x∈kN)/\ns.length<=5/\kz κ<900/\ao ns q<4/\Cv [] (ao ns q+1) ns κ q/\Q (.bl true) M
noncomputable abbrev ij (w:Wo):a0 w:={ cs:=[(39,u9),(40,ve),(27,Cm),(54,CA)] }
noncomputable abbrev Us:B:=CL (i8 (kC 2 CQ))
section
variable {N:St->Mp->Prop}{bk:St->Mp->Prop}{Q:QK}{ns:List Str} {κ:Kd} {be:Qn}{pre:List Nv}{m:Str}{pr:Addr}{M:Mp}{v2 v5 v7 v8:Option D}{r:Nat}
theorem Si (O:Lw w) (hM:M pr=some (.lst (cn pre))) (hm:m∈bJ) (nd:ns.Nodup) (hs:∀ x∈ns,x∈kN) (hl:ns.length<=5) (hz:kz κ<900) (hr:pre.length<=3) (ge:∀ nv∈pre,∃ m∈bJ,e7 nv m) (cv:Cv pre (r+1) ns κ be)
  (vf:∀M',M'=up M pr (.lst (cn (pre++[bb m ns])))->aZ Q (.bl true) M')
  (hN:∀p u5 u6 u7,Cv (pre++[bb m ns]) r ns κ p->N [some (qD p),some (.lst (ns.map D.str)),v2,some (.ref pr),some (bX ns p),u5,u6,u7,some (bX ns p)] (up M pr (.lst (cn (pre++[bb m ns]))))) :
  B.w (ij w).wd nm.aj (kC 2 Us) { nx:=N,ct:=N,rt:=aZ Q,bk:=bk } [some (qD be),some (.lst (ns.map D.str)),v2,some (.ref pr),some (bX ns be),v5,some (dD (aK (bb m ns))),v7,v8] M:=by
 have hv:e7 (bb m ns) m:=CP nd hs hl;have hn:pP ns (bb m ns):=R9 hm hs;have CT:Cz (pre++[bb m ns]):=⟨by rw[XI,ZH];lia,λmN h'=>by
  rcases List.mem_append.mp h' with z |z
  ·exact ge mN z
  ·rw[List.mem_singleton.mp z];exact⟨m,hm,hv⟩⟩
 have Ub:up M pr (.lst (cn pre++[dD (aK (bb m ns))]))=up M pr (.lst (cn (pre++[bb m ns]))):=by unfold cn;rw[XU];rfl
 obtain⟨c1,c2,c3⟩:=cv.gP;refine⟨.inl ⟨rfl,_,hM⟩,_,hM,XC (by unfold cn;rw[Xr];lia:_<=3) (by decide),?_⟩;rw[Ub];refine .inl ⟨pre++[bb m ns],pr,rfl,aw,CT,λK st=>?_⟩;refine⟨bb m ns,[],dD K,Sr pre,[],be,κ,ib.map (·.1),rfl,λ_ _ z=>(nomatch z),λy k e=>st.jI CT.2 (.inl rfl) y k ((CE hm hv).le y k e),cv.ty,c1,cv.nq,(by decide:0<500),(by decide:25<64),c3,?_⟩;have CU:∀{p:Qn}{e:Bool}{A B:Prop},Ev p->(e=true ↔ Ev p)->B->(if (!e)=true then A else B):=λh i b=>by rw[i.mpr h];exact ay (by decide) b
 have CV:∀{p:Qn}{u:Option D},wd p="none"->Ev p->wq p->nq p<1000000->(∀x∈aD p,x∈ib.map (·.1))->B.w (ij w).wd nm.aj (kC 4 Us) { nx:=N,ct:=N,rt:=aZ Q,bk:=bk } [some (qD p),some (.lst (ns.map D.str)),v2,some (.ref pr),some (bX ns be),v5,some (dD (aK (bb m ns))),v7,v8] (up M pr (.lst (cn (pre++[bb m ns])))):=λ{p u} hp he h1 h2 h3=>by
  refine⟨p,ib.map (·.1),rfl,h1,h2,(by decide:25<64),h3,λe i=>CU he i ?_⟩;obtain⟨t,ht⟩:=dE p;rw[ht,hp];exact⟨_,eh,aq (aN (by decide) (vf _ rfl))⟩
 cases e:av (bb m ns) be with
 |none=>exact CV (p:=.none κ) (u:=none) rfl (.CF rfl rfl) trivial (by decide:1<1000000) (λ_ z=>(nomatch z))
 |some p=>
  have cp:=cv.step hz hm hv hn e;obtain⟨d1,d2,VV⟩:=cp.gP;have fp:=(gB hn be cv.ty cv.ev p e).g;by_cases hp:wd p="none"
  ·exact CV (u:=none) hp cp.ev d2 cp.nq VV
  ·have go:∀ z,z=qD p->B.w (ij w).wd nm.aj (kC 4 Us) { nx:=N,ct:=N,rt:=aZ Q,bk:=bk } [some z,some (.lst (ns.map D.str)),v2,some (.ref pr),some (bX ns be),v5,some (dD (aK (bb m ns))),v7,v8] (up M pr (.lst (cn (pre++[bb m ns])))):=by
    intro z hz';obtain⟨t,ht⟩:=dE p;have hz2:=hz'.trans ht;subst hz2;refine⟨p,ib.map (·.1),by rw[ht];rfl,d2,cp.nq,(by decide:25<64),VV,λe i=>CU cp.ev i ?_⟩;refine⟨_,eh,aq (bw hp ⟨p,ns,by rw[ht];rfl,d2,d1,?_⟩)⟩;have lt:¬(decide (((ao ns be:Nat):Int)<=((ao ns p:Nat):Int))=true):=(by rw[decide_eq_true_iff];lia);refine ay lt ?_;have:=hN p v5 (some (dD (aK (bb m ns)))) v7 cp;rw[ht]at this;exact this
   exact go _ rfl
end
variable {w:Wo}
theorem Sj {a:Addr}{d:D}{q:Qn}:bY a d (some (qD q))=some (qD q):=by cases q <;> rfl
section
variable {N:St->Mp->Prop}{bk:St->Mp->Prop}{Q:QK}{ns:List Str} {κ:Kd} {be:Qn}{pre:List Nv}{m:Str}{pr:Addr}{M:Mp}{v2 v6 v7 v8:Option D}{r:Nat}
theorem Sl (O:Lw w) (fv:M pr=none) (hm:m∈bJ) (nd:ns.Nodup) (hs:∀ x∈ns,x∈kN) (hl:ns.length<=5) (hz:kz κ<900) (hr:pre.length<=3) (ge:∀ nv∈pre,∃ m∈bJ,e7 nv m) (cv:Cv pre (r+1) ns κ be)
  (vf:∀M',M'=up M pr (.lst (cn (pre++[bb m ns])))->aZ Q (.bl true) M')
  (hN:∀p u5 u6 u7,Cv (pre++[bb m ns]) r ns κ p->N [some (qD p),some (.lst (ns.map D.str)),some (.lst (gC.map D.str)),some (.ref pr),some (bX ns p),u5,u6,u7,some (bX ns p)] (up M pr (.lst (cn (pre++[bb m ns]))))) :
  B.w (ij w).wd nm.aj Us { nx:=N,ct:=N,rt:=aZ Q,bk:=bk } [some (qD be),some (.lst (ns.map D.str)),some (.lst (gC.map D.str)),some (.ref pr),some (bX ns be),some (.str m),v6,v7,v8] (up M pr (.lst (cn pre))):=by
 refine .inr λpt vg=>?_;have Rs:pr≠pt:=by rintro rfl;rw[aw]at vg;cases vg
 refine dW (λxs τ M'=>∃rest done u7,xs=rest.map D.str/\ns=done++rest/\τ=[some (qD be),some (.lst (ns.map D.str)),some (.lst (gC.map D.str)),some (.ref pr),some (bX ns be),some (.str m),some (.ref pt),u7,v8]/\M'=up (up M pr (.lst (cn pre))) pt (.ak (aK (bb m done)))) ?_ ?_ _ _ _ ⟨ns,[],v7,rfl,rfl,rfl,rfl⟩
 ·rintro τ M' ⟨rest,done,u7,e1,e2,rfl,rfl⟩;have:rest=[]:=by simpa using e1.symm
  subst this;rw[XO]at e2;subst e2;refine⟨trivial,Ak vg (.rfl ?_)⟩;have key:∀ τ u7 u8,τ=[some (qD be),some (.lst (ns.map D.str)),some (.lst (gC.map D.str)),some (.ref pr),some (bX ns be),some (.str m),some (dD (aK (bb m ns))),u7,u8]->B.w (ij w).wd nm.aj (kC 2 Us) { nx:=N,ct:=N,rt:=aZ Q,bk:=bk } τ (up M pr (.lst (cn pre))):=by
   rintro _ u7 u8 rfl;refine Si (κ:=κ) O aw hm nd hs hl hz hr ge cv (λM' e=>vf M' (by rw[e,_root_.N.cj])) λp u5 u6 u7 c=>?_;rw[_root_.N.cj];exact hN p u5 u6 u7 c
  refine key _ (bY pt (dD (aK (bb m ns))) u7) (bY pt (dD (aK (bb m ns))) v8) ?_;show [bY pt (dD (aK (bb m ns))) (some (qD be)),_,_,bY pt (dD (aK (bb m ns))) (some (.ref pr)),_,_,bY pt (dD (aK (bb m ns))) (some (.ref pt)),_,_]=_;rw[Aj Rs,Sj,tV];rfl
 ·rintro d xs τ M' ⟨rest,done,u7,e1,e2,rfl,rfl⟩;cases rest with
  |nil=>cases e1
  |cons x rest=>
   cases e1;have hx:x∈ns:=(by rw[e2];simp);have dl:done.length<=5:=by have:=congrArg ZX e2;rw[XI]at this;lia
   have nx:x ∉ (bb m done).map (·.1):=λz=>by
    rw[e2]at nd;obtain⟨q,hq,e⟩:=List.mem_map.mp z;obtain⟨y,hy,rfl⟩:=List.mem_map.mp hq;have e:y=x:=e;subst e;exact (List.nodup_append.mp nd).2.2 y hy y XA rfl
   refine⟨trivial,λN' e6=>⟨Cw hm (hs x hx),.inr ⟨_,aw,XC (by unfold aK bb;rw[Xr,Xr];lia:_<=5) (by decide),e6 _ _ ⟨rest,done++[x],_,rfl,by rw[e2];simp,rfl,?_⟩⟩⟩⟩;rw[_root_.N.cj,Cs nx];unfold bb;rw[XU];rfl
end
theorem Sm (O:Lw w):FO w 56 11 CS:=by
 refine aI O.ok O.hn _ ⟨"_law_falls",aa 86,["asked","names","marks"]⟩ (by rw[O.hd];rfl) (ij w) { cs:=⟨⟨4,by decide,CI O⟩,⟨6,by decide,CK O⟩,⟨10,by decide,Ru O⟩,⟨2,by decide,RS O⟩,trivial⟩ } Sf Sg λds M Q _ h=>?_;obtain⟨q,ns,κ,rfl,nd,hs,hl,hz,hg,cv,h⟩:=h;obtain⟨c1,c2,c3⟩:=cv.gP;refine⟨rfl,XS _,.inr λpr fv=>⟨q,ns,rfl,c2,c1,?_⟩⟩;have Sn:cI (gC.map D.str) none (some (((ao ns q:Nat):Int)+1))=(bJ.take (ao ns q+1)).map D.str:=by
  rw[R' (j:=ao ns q+1) (by lia) (by show ao ns q+1<=6;lia),<- List.map_take];have:gC.take (ao ns q+1)=bJ.take (ao ns q+1):=by
   have:ao ns q=0\/ao ns q=1\/ao ns q=2\/ao ns q=3:=(by lia);rcases this with e |e |e |e <;> rw[e] <;> rfl
  rw[this]
 have lt:(bJ.take (ao ns q+1)).length=ao ns q+1:=by rw[List.length_take];show min _ 4=_;lia
 have main:∀xs,xs=(bJ.take (ao ns q+1)).map D.str->fU (λ_=>True) (cb (.one 5)) (B.w (ij w).wd nm.aj Us) { nx:=dT (fun τ M=>B.w (ij w).wd nm.aj (.cons (.ret (.c (.bl false))) .nil) (a9 Q) τ M),ct:=(a9 Q).ct,rt:=aZ Q,bk:=(a9 Q).bk } xs [some (qD q),some (.lst (ns.map D.str)),some (.lst (gC.map D.str)),some (.ref pr),some (bX ns q),none,none,none,none] (up M pr (.lst (cn []))):=by
  rintro _ rfl;refine dW (λxs τ M'=>∃rest done pre be u5 u6 u7 u8,xs=rest.map D.str/\bJ.take (ao ns q+1)=done++rest/\pre.length=done.length/\(∀nv∈pre,∃m∈bJ,e7 nv m)/\Cv pre rest.length ns κ be/\τ=[some (qD be),some (.lst (ns.map D.str)),some (.lst (gC.map D.str)),some (.ref pr),some (bX ns be),u5,u6,u7,u8]/\M'=up M pr (.lst (cn pre))) ?_ ?_ _ _ _ ⟨bJ.take (ao ns q+1),[],[],q,none,none,none,none,rfl,rfl,rfl,λ_ z=>(nomatch z),by rw[lt];exact cv,rfl,rfl⟩
  ·rintro τ M' ⟨rest,done,pre,be,u5,u6,u7,u8,e1,e2,e3,ge,cv,rfl,rfl⟩;have:rest=[]:=(by simpa using e1.symm);subst this;exact absurd cv.g (Nat.not_lt_zero _)
  ·rintro d xs τ M' ⟨rest,done,pre,be,u5,u6,u7,u8,e1,e2,e3,ge,cv,rfl,rfl⟩;cases rest with
   |nil=>cases e1
   |cons m rest=>
    cases e1;have hm:m∈bJ:=List.mem_of_mem_take (i:=ao ns q+1) (by rw[e2];simp);have dl:done.length<=3:=by have:=congrArg ZX e2;rw[lt,XI,XG]at this;lia
    refine⟨trivial,λN hN=>?_⟩;refine Sl (κ:=κ) (r:=rest.length) (pre:=pre) (m:=m) O fv hm nd hs hl hz (by lia) ge cv (λM' e=>by rw[e];exact zH fv rfl h) λp u5 u6 u7 c=>hN _ _ ⟨rest,done++[m],pre++[bb m ns],p,u5,u6,u7,_,rfl,by rw[e2];simp,by rw[XI,XI,e3];rfl,λmN h'=>?_,c,rfl,rfl⟩;rcases List.mem_append.mp h' with z |z
    ·exact ge mN z
    ·rw[List.mem_singleton.mp z];exact⟨m,hm,CP nd hs hl⟩
 exact .inl (main _ Sn)
variable {w:Wo}
noncomputable def CW:B:=(.cons (.loop (.one 1) (.seq (.op .Add (.sl (.v 0) .au (.c (.int 8))) (.lst (.cons (.bi .len (.cons (.v 0) .nil)) .nil)))) (.cons (.set (.one 2) (.call 41 (.cons (.v 1) .nil))) (.cons (.set (.one 3) (.call 46 .nil)) (.cons (.set (.one 4) (.tup (.cons (.c (.str "bag")) (.cons (.ix (.v 3) (.ix (.lst (.cons (.c (.str "r")) (.cons (.c (.str "t")) .nil))) (.call 42 (.cons (.v 2) (.cons (.c (.int 2)) .nil))))) .nil)))) (.cons (.set (.one 5) (.call 53 (.cons (.v 4) (.cons (.lst .nil) (.cons (.op .Add (.c (.int 1)) (.call 42 (.cons (.v 2) (.cons (.c (.int 3)) .nil)))) (.cons (.v 2) .nil)))))) (.cons (.set (.one 6) (.bi .sorted (.cons (.call 55 (.cons (.v 2) (.cons (.c (.str "d")) .nil))) .nil))) (.cons (.cond (.and (.call 39 (.cons (.v 5) .nil)) (.cmp .Lt (.call 40 (.cons (.v 5) (.cons (.v 6) .nil))) (.c (.int 4)))) (.cons (.cond (.not (.call 56 (.cons (.v 5) (.cons (.v 6) (.cons (.lst (.cons (.c (.str "d")) (.cons (.c (.str "e")) (.cons (.c (.str "f")) (.cons (.c (.str "g")) (.cons (.c (.str "h")) (.cons (.c (.str "i")) .nil))))))) .nil))))) (.cons (.ret (.c (.bl false))) .nil) .nil) .nil) .nil) .nil))))))) (.cons (.ret (.c (.bl true))) .nil))
theorem So:aB ["script","cell","seed","kinds","kind","asked","names"] ["script"] (ag (aa 87)):=⟨rfl,rfl,rfl,by decide +kernel,rfl,by decide +kernel,by decide +kernel⟩
theorem Sq:aF nm 40 ["script","cell","seed","kinds","kind","asked","names"] (ag (aa 87)) (ax (aa 87))=CW:=by kernel_rfl
def spLaw:Sp:=λds M Q _=>∃ns:List Int,ds=[.lst (ns.map D.int)]/\ns.length<=63/\∀M',Q (.bl true) M'
noncomputable abbrev VW (w:Wo):a0 w:={ cs:=[(41,As),(46,ph),(42,hE),(53,eY 80),(55,Cu),(39,u9),(40,ve),(56,CS)] }
theorem Ss {m:Nat} (h:m<=3):dY [] m:=⟨λ_ z=>(nomatch z),by show 0+m<=40;lia,λ_ z=>(nomatch z)⟩
noncomputable def Su:B:=CL (i8 CW)
theorem Sv {κ:Kd} {ns:List Str}{q:Qn}{f:Nat} (hκ:.ah κ∈AK) (hf:f<=3) (g:GQ (f:Int) (.ah κ) [] q) (ev:Ev q) (hg:ao ns q<4):Cv [] (ao ns q+1) ns κ q:=by
 obtain⟨_,b2,_,b4⟩:=ek (f:=(f:Int)) hκ;rw[Zd]at b2 b4;have g1:nq q<=2990:=Xz g.n (Xz b2 (Xz (mw hf) (by decide)));have g2:dq q<=36:=Xz g.d (by lia);have g3:=hZ q;refine⟨g.ty.mono (λx k e=>kA.mpr ⟨.inl (CC e),mM e⟩) λ_ _ z=>z,ev,?_,?_,YY _⟩
 ·have h1:(ao ns q+1) * (2 * fs q+3)<=4 * 9:=Nat.mul_le_mul (by lia) (by lia);lia
 ·exact XC (Nat.mul_le_mul g1 (CO (show ao ns q<=3 by lia))) (by decide)
section
variable {N:St->Mp->Prop}{bk:St->Mp->Prop}{Q:QK}{sc:D}{c:Int}{M:Mp}{v2 v3 v4 v5 v6:Option D}
theorem Sw (O:Lw w) (hN:∀ v1 v2 v3 v4 v5 v6 M,N [some sc,v1,v2,v3,v4,v5,v6] M) :
  B.w (VW w).wd nm.aj Su { nx:=N,ct:=N,rt:=aZ Q,bk:=bk } [some sc,some (.int c),v2,v3,v4,v5,v6] M:=by
 refine⟨c,rfl,λp o hp so=>⟨rfl,l2,.inl ⟨p,2,rfl,⟨o,aw,so⟩,by decide,by decide,λr X1 u1 r0 r1=>?_⟩⟩⟩;obtain⟨d,e1,e2⟩:=ef (xs:=[.str "r",.str "t"]) r0 r1;obtain⟨x,κ,rfl,hx,hκ⟩:∃x κ,d=.str x/\kS x=some κ/\.ah κ∈AK:=by
  simp only[Yh,XR,or_false]at e2;rcases e2 with z |z
  ·exact⟨"r",i9,z,by decide +kernel,by decide +kernel⟩
  ·exact⟨"t",.num,z,by decide +kernel,by decide +kernel⟩
 refine⟨_,e1,RB hx ⟨l2,?_⟩⟩;have TQ:=eX hκ;have hz:=pj (gq hκ);refine⟨XS _,.inl ⟨p,3,rfl,u1.hs,by decide,by decide,λr2 X2 u2 o0 kh=>?_⟩⟩;have kh:r2<3:=kh;obtain⟨f,hf⟩:∃f:Nat,1+r2=(f:Int):=⟨(1+r2).toNat,by lia⟩;refine⟨.ah κ,[],1+r2,p,rfl,hκ,by unfold Rk;rw[T5];lia,Ss (by lia),u2.hs,λq X3 u3 g=>?_⟩;rw[hf]at g;have f3:f<=3:=by lia
 refine⟨p,"d",rfl,by decide +kernel,u3.hs,λnv X4 u4 hv=>?_⟩;refine⟨nv.map (·.1),by rw[gn];unfold aK;rw[Yv,Yv];rfl,XC (by rw[Xr];exact hv.len:_<=5) (by decide),λns pm _=>.inl ?_⟩;have nd:ns.Nodup:=pm.nodup_iff.mpr hv.nd;have hs:∀x∈ns,x∈kN:=λx hx=>by
  obtain⟨m,hm,rfl⟩:=List.mem_map.mp (pm.mem_iff.mp hx);exact (hv.sub m hm).1
 have hl:ns.length<=5:=by rw[pm.length_eq,Xr];exact hv.len
 have Sy:nq q<1000000:=XC (Xz g.n (Xz (ek hκ).2.1 (Xz (mw (show (f:Int).toNat<=3 by lia)) (by decide:zf 3<=2990)))) (by decide);have CX:=(mE g.ty).w;have Sz:dn q<500:=XC (Xz (bC q) (Xz g.d (ek hκ).2.2.2)) (by lia);refine⟨q,kN,rfl,CX,Sy,(by decide:5<64),λx hx=>?_,λe he=>?_⟩
 ·obtain⟨l,h⟩:=(mE g.ty).t x hx;exact CC h
 refine aX (λe1=>?_) λe1=>ay (by decide) (hN _ _ _ _ _ _ _);have ev:=he.mp e1;refine⟨q,ns,rfl,CX,Sz,?_⟩;refine aX (λe2=>?_) λe2=>hN _ _ _ _ _ _ _;have hg:ao ns q<4:=by have:((ao ns q:Nat):Int)<4:=of_decide_eq_true e2;lia
 exact⟨by decide,.inl ⟨q,ns,κ,rfl,nd,hs,hl,hz,hg,Sv hκ f3 g ev hg,hN _ _ _ _ _ _ _⟩⟩
end
theorem SA (O:Lw w):FO w 57 140 spLaw:=by
 refine aI O.ok O.hn _ ⟨"law",aa 87,["script"]⟩ (by rw[O.hd];rfl) (VW w) { cs:=⟨⟨1,by decide,K5 O⟩,⟨1,by decide,tY O⟩,⟨1,by decide,jb O⟩,⟨84,by decide,(A9 O 80).a⟩,⟨2,by decide,RK O⟩,⟨4,by decide,CI O⟩,⟨6,by decide,CK O⟩,⟨11,by decide,Sm O⟩,trivial⟩ } So Sq λds M Q _ h=>?_;obtain⟨ns,rfl,hl,h⟩:=h;have cl:(cI (ns.map D.int) none (some 8)).length<=63:=by
  unfold cI;rw[List.length_take,List.length_drop,Xr];lia
 refine⟨rfl,.inl ⟨l1,.inl ⟨Xz (by show _+1<=100;lia) (by decide:100<=sizeLine),.inl ?_⟩⟩⟩;refine dW (λxs τ M'=>(∀d∈xs,∃i,d=.int i)/\∃v1 v2 v3 v4 v5 v6,τ=[some (.lst (ns.map D.int)),v1,v2,v3,v4,v5,v6]) ?_ ?_ _ _ _ ⟨λd hd=>?_,none,none,none,none,none,none,rfl⟩
 ·rintro τ M' ⟨_,v1,v2,v3,v4,v5,v6,rfl⟩;exact⟨trivial,.rfl (ar (h _))⟩
 ·rintro x xs τ M' ⟨hi,v1,v2,v3,v4,v5,v6,rfl⟩;obtain⟨i,rfl⟩:=hi x XA;refine⟨trivial,λN hN=>?_⟩;exact Sw O (c:=i) (λv1 v2 v3 v4 v5 v6 X'=>hN _ _ ⟨λd hd=>hi d (XB _ hd),v1,v2,v3,v4,v5,v6,rfl⟩)
 ·rcases List.mem_append.mp hd with z |z
  ·unfold cI at z;obtain⟨i,_,e⟩:=List.mem_map.mp (List.mem_of_mem_drop (List.mem_of_mem_take z));exact⟨i,e.symm⟩
  ·exact⟨_,List.mem_singleton.mp z⟩
end K32
end
section
namespace NH
open PySem N NQ
open L2
def pT (K:PySem.W.Frag) (d:Ds):Prop:=∃(n:Str) (f:Addr) (fd:FuncData),PySem.W.nsIn K mainGlobals d.x=some (some (.ref f))/\c8 K n n d.st f fd
theorem SD {K:PySem.W.Frag}{d:Ds}{n:Str}{f:Addr}{oc:Value}{od TU:Option Addr}{ch:Array (Option Value)}{kV doc pm an ct:Value} (a:PySem.W.nsIn K mainGlobals d.x=some (some (.ref f)))
  (l:K.lookup f=some ⟨oc,od,.func (PySem.W.fnOf n n (d8 d.st) (ax d.st) (ag d.st) .none kV doc pm TU an ct),ch⟩) (c:PySem.W.codeIn K an n=true) (k:PySem.W.keepIn K (.ref f)=true):pT K d:=⟨n,f,_,a,qK l c k⟩
def vh (d:Ds):Prop:=∀(n:Str) (kV doc pm:Value) (TU:Option Addr) (an ct:Value) (us:List Value),us.length=d.ps.length->bindArgs (PySem.W.fnOf n n (d8 d.st) (ax d.st) (ag d.st) .none kV doc pm TU an ct) ⟨us,[]⟩=pure (d.ps.zip us)
theorem CY {P:List Value->Prop} (h:P []):∀us,us.length=0->P us
 |[],_=>h
theorem cZ {P:List Value->Prop} (h:∀a,P [a]):∀us,us.length=1->P us
 |a::us,e=>CY (P:=λus=>P (a::us)) (h a) us (ZS e)
theorem bP {P:List Value->Prop} (h:∀a b,P [a,b]):∀us,us.length=2->P us
 |a::us,e=>cZ (P:=λus=>P (a::us)) (h a) us (ZS e)
theorem cq {P:List Value->Prop} (h:∀a b c,P [a,b,c]):∀us,us.length=3->P us
 |a::us,e=>bP (P:=λus=>P (a::us)) (h a) us (ZS e)
theorem mQ {P:List Value->Prop} (h:∀a b c d,P [a,b,c,d]):∀us,us.length=4->P us
 |a::us,e=>cq (P:=λus=>P (a::us)) (h a) us (ZS e)
def mR (K:PySem.W.Frag):List Ds->Prop
 |[]=>True
 |d::r=>(pT K d/\vh d)/\mR K r
theorem mR.at {K:PySem.W.Frag}:∀{l:List Ds}{i:Nat}{d:Ds},mR K l->l[i]?=some d->pT K d/\vh d
 |[],_,_,_,h=>by simp at h
 |e::r,0,d,a,h=>by simp at h;rw[<- h];exact a.1
 |e::r,i+1,d,a,h=>mR.at a.2 (by simpa using h)
def jn (K:PySem.W.Frag) (C:Addr) (d:Ds):Prop:=∃(q:Str) (f:Addr) (fd:FuncData),c8 K d.x q d.st f fd/\jE K C d.x f/\bE K fd d.ps []
theorem mS {K:PySem.W.Frag}{C:Addr}{d:Ds}{q:Str}{f:Addr}{oc:Value}{od TU:Option Addr}{ch:Array (Option Value)}{kV doc pm an ct:Value} (a:PySem.W.findIn K (.ref C) d.x=some (some (.ref f)))
  (l:K.lookup f=some ⟨oc,od,.func (PySem.W.fnOf d.x q (d8 d.st) (ax d.st) (ag d.st) .none kV doc pm TU an ct),ch⟩) (c:PySem.W.codeIn K an q=true) (k:PySem.W.keepIn K (.ref f)=true) (n:PySem.W.isFn K (.ref f)=true)
  (b:∀us:List Value,us.length=d.ps.length->bindArgs (PySem.W.fnOf d.x q (d8 d.st) (ax d.st) (ag d.st) .none kV doc pm TU an ct) ⟨us,[]⟩=pure (d.ps.zip us)):jn K C d:=⟨q,f,_,qK l c k,⟨a,n,k⟩,.all b⟩
noncomputable def et (mg:Str->Option Value) (x:Str):Addr:=match mg x with
 |some (.ref f)=>f
 |_=>0
noncomputable def pU (mg:Str->Option Value) (t:List (Str×Str)):D:=.ak (t.map λp=>.inr p.1) (t.map λp=>.ref (et mg p.2))
inductive jo (P:Params) (K:PySem.W.Frag):List DictEntry->List (Str×Str)->Prop
 |nil:jo P K [] []
 |cons {e:DictEntry}{es:List DictEntry}{x g:Str}{n:Tok}{f:Addr}{t:List (Str×Str)}:e.key=.str x n->e.hash=PyData.keyHash P x->e.val=.ref f->PySem.W.nsIn K mainGlobals g=some (some (.ref f))->jo P K es t->jo P K (e::es) ((x,g)::t)
structure pV (P:Params) (K:PySem.W.Frag) (x:Str) (t:List (Str×Str)):Prop where
 ex:∃(a:Addr) (es:List DictEntry) (n:Nat),PySem.W.nsIn K mainGlobals x=some (some (.ref a))/\K.lookup a=some ⟨.type "dict",none,.dict es.toArray n,#[]⟩/\(a == sysModules)=false/\jo P K es t
theorem CZ {P:Params}{K:PySem.W.Frag}{x:Str}{t:List (Str×Str)}{a:Addr}{es:List DictEntry}{n:Nat} (h1:PySem.W.nsIn K mainGlobals x=some (some (.ref a))) (h2:K.lookup a=some ⟨.type "dict",none,.dict es.toArray n,#[]⟩) (h3:(a == sysModules)=false) (h4:jo P K es t):pV P K x t:=⟨a,es,n,h1,h2,h3,h4⟩
section
variable {G:Gx}{h:Heap}{w:World}
theorem SE {P:Params}{K:PySem.W.Frag}{es:List DictEntry}{t:List (Str×Str)} (T:jo P K es t):∀e∈es,∃x n,e.key=.str x n/\e.hash=PyData.keyHash P x:=by
 induction T with
 |nil=>exact λe h=>(nomatch h)
 |cons h1 h2 _ _ _ ih=>
  intro e he;rcases List.mem_cons.mp he with z |z
  ·subst z;exact⟨_,_,h1,h2⟩
  ·exact ih e z
theorem SF {K:PySem.W.Frag}{P:Params}{mg:Str->Option Value}{prog:Program} (X:K.In h) (Gn:h.Ns mainGlobals mg) {es:List DictEntry}{t:List (Str×Str)} (T:jo P K es t):Pairs (bo prog w) es ((t.map λp=>(YO p.1:Key)).zip (t.map λp=>Ye (et mg p.2))):=by
 induction T with
 |nil=>exact .nil
 |@cons e es x g n f t h1 h2 h3 h4 _ ih=>
  refine .cons (kv:=(YO x,Ye (et mg g))) (by show e8 (.inr x) e.key=true;rw[h1];exact pZ x n) ?_ ih;rw[h3];show Ye f=Ye (et mg g);unfold et;rw[PySem.W.mg_of X Gn h4]
theorem C0 {F:Fz} {α:Type} (a:α->Addr):∀l:List α,af G F (l.map λp=>.ref (a p)) (l.map λp=>.ref (a p))
 |[]=>.nil
 |x::r=>.cons (by rw[ab]) (C0 a r)
theorem C1 {K:PySem.W.Frag}{mg:Str->Option Value}{x:Str}{t:List (Str×Str)} (hK:G.K=K) (hmg:G.mg=mg) (hb:K.In G.base) (X:K.In h) (Gn:h.Ns mainGlobals mg) (nd:(t.map (·.1)).Nodup) (hl:t.length<=100) (T:pV G.w.params K x t):∃u,mg x=some u/\∀F:Fz,(∀b o,G.base.get? b=some o->F b=some (.dat o))->ab G F (pU mg t) u:=by
 obtain⟨a,es,n,h1,h2,h3,h4⟩:=T.ex;refine⟨.ref a,PySem.W.mg_of X Gn h1,λF hF=>?_⟩;have o:=hF a _ (hb a _ h2);unfold pU;rw[ab];refine⟨a,_,t.map λp=>Ye (et mg p.2),rfl,o,⟨⟨rfl,rfl,rfl⟩,⟨es.toArray,n,rfl,λe he=>?_,?_⟩,?_,by simp,?_⟩,h3,C0 (λp:Str×Str=>et mg p.2) t⟩
 ·obtain⟨x,n,e1,e2⟩:=SE h4 e (by simpa using he);exact⟨.inr x,by show e8 (.inr x) e.key=true;rw[e1];exact pZ x n,e2⟩
 ·exact SF X Gn h4
 ·have:(t.map λp=>(YO p.1:Key))=(t.map (·.1)).map YO:=by rw[Yv];rfl
  rw[this];exact List.pairwise_map.mpr (nd.imp λh e=>h (ZR e))
 ·rw[Xr];exact Xz hl (by decide)
noncomputable def mT:List Value->List Str->Bool
 |[],[]=>true
 |.str y _::r,x::s=>decide (y=x) && mT r s
 |_,_=>false
theorem jS {F:Fz}:∀{us:List Value}{xs:List Str},mT us xs=true->af G F (xs.map D.str) us
 |[],[],_=>.nil
 |.str y t::r,x::s,h=>by
  rw[mT,Xy]at h;cases of_decide_eq_true h.1;exact .cons (by rw[ab];exact⟨t,rfl⟩) (jS h.2)
structure kE (K:PySem.W.Frag) (x:Str) (xs:List Str):Prop where
 ex:∃(a:Addr) (us:List Value) (n:Nat),PySem.W.nsIn K mainGlobals x=some (some (.ref a))/\K.lookup a=some ⟨.type "tuple",none,.seq us.toArray n,#[]⟩/\mT us xs=true
theorem pW {K:PySem.W.Frag}{x:Str}{xs:List Str}{a:Addr}{us:List Value}{n:Nat} (h1:PySem.W.nsIn K mainGlobals x=some (some (.ref a))) (h2:K.lookup a=some ⟨.type "tuple",none,.seq us.toArray n,#[]⟩) (h3:mT us xs=true):kE K x xs:=⟨a,us,n,h1,h2,h3⟩
theorem pX {K:PySem.W.Frag}{mg:Str->Option Value}{x:Str}{xs:List Str} (hb:K.In G.base) (X:K.In h) (Gn:h.Ns mainGlobals mg) (hl:xs.length<=100) (T:kE K x xs):∃u,mg x=some u/\∀F:Fz,(∀b o,G.base.get? b=some o->F b=some (.dat o))->ab G F (.tup (xs.map D.str)) u:=by
 obtain⟨a,us,n,h1,h2,h3⟩:=T.ex;refine⟨.ref a,PySem.W.mg_of X Gn h1,λF hF=>?_⟩;have rs:=jS (G:=G) (F:=F) h3;exact nu (hF a _ (hb a _ h2)) ⟨rfl,rfl,⟨n,rfl⟩,by rw[<- rs.len,Xr];exact Xz hl (by decide)⟩ rs
theorem C2 {K:PySem.W.Frag}{d:Ds} (hK:G.K=K) (X:K.In h) (Gn:h.Ns mainGlobals G.mg) (a:pT K d) (b:vh d):∃f fd,l9 G d.x d.st f fd d.ps:=by
 obtain⟨n,f,fd,e,F⟩:=a;subst hK;refine⟨f,fd,⟨n,F⟩,F.iF (b n),PySem.W.mg_of X Gn e⟩
end
end NH
end
section
namespace K32
open PySem N NQ NH
open L2
noncomputable def C3:List Str:=["HAVE_MORE","NUMBER","WORD","TRUTH","FINISHED","SUMS"]
noncomputable def C4:List (Str×Str):=[("both","both_differences"),("for","for_differences")]
noncomputable def C5 (mg:Str->Option Value):List D:=[.tup (pg.map D.str),kD .num,kD .word,.tup [.str "truth"],pU mg K32.bz,pU mg C4]
noncomputable def wO (G:Gx) (C:Addr):Wo where
 G:=G
 ds:=ei
 fy:=nm.fy
 gv:=C5 G.mg++ei.map λd=>.ref (et G.mg d.x)
 fl:=λc f=>c=C/\(f="waiting"\/f="found")
 cls:=nm.cls
 ca:=λ_=>C
 ms:=pf
 mc:=λ_=>C
theorem SG {i:Nat}{x:Str} (h:nm.fy[i]?=some x):(i<6/\C3[i]?=some x)\/∃j d,i=6+j/\ei[j]?=some d/\d.x=x:=by
 have e:nm.fy=C3++ei.map (·.x):=by kernel_rfl
 rw[e]at h;by_cases hi:i<6
 ·rw[Yo hi]at h;exact .inl ⟨hi,h⟩
 ·rw[Ym (by show 6<=i;lia),XJ]at h;obtain⟨d,h1,h2⟩:=Option.map_eq_some_iff.mp h;exact .inr ⟨i-6,d,by lia,h1,h2⟩
structure mU (K:PySem.W.Frag) (x:Str) (st:Stmt) (c T:Addr):Prop where
 d:∃(n:Str) (f:Addr) (fd:FuncData),PySem.W.nsIn K mainGlobals x=some (some (.ref f))/\c8 K n n st f fd/\fd.code=.ref c/\n=x
 h:PySem.W.codeHdIn K c T=true
theorem vi {K:PySem.W.Frag}{x:Str}{st:Stmt}{c T f:Addr}{oc:Value}{od TU:Option Addr}{ch:Array (Option Value)}{kV doc pm ct:Value} (a:PySem.W.nsIn K mainGlobals x=some (some (.ref f)))
  (l:K.lookup f=some ⟨oc,od,.func (PySem.W.fnOf x x (d8 st) (ax st) (ag st) .none kV doc pm TU (.ref c) ct),ch⟩) (cc:PySem.W.codeIn K (.ref c) x=true) (k:PySem.W.keepIn K (.ref f)=true) (h:PySem.W.codeHdIn K c T=true):mU K x st c T:=⟨⟨x,f,_,a,qK l cc k,rfl,rfl⟩,h⟩
structure mV (P:Params) (K:PySem.W.Frag) (C:Addr):Prop where
 ds:mR K ei
 s0:kE K "HAVE_MORE" pg
 s1:kE K "NUMBER" ["num"]
 s2:kE K "WORD" ["word"]
 s3:kE K "TRUTH" ["truth"]
 s4:pV P K "FINISHED" K32.bz
 s5:pV P K "SUMS" C4
 bi:i0.all (λx=>decide (PySem.W.nsIn K mainGlobals x=some none))=true
 wa:PySem.W.nsIn K mainGlobals "Walk"=some (some (.ref C))
 wc:cU K C
 w1:d6 K C "waiting"
 w2:d6 K C "found"
 wm:PySem.W.makesIn K C=true
 wk:PySem.W.keepIn K (.ref C)=true
 m0:jn K C ⟨"__init__",(bh (aa 11) 0),["self"]⟩
 m1:jn K C ⟨"later",(bh (aa 11) 1),["self","step","question","around"]⟩
 m2:jn K C ⟨"tell",(bh (aa 11) 2),["self","result"]⟩
 m3:jn K C ⟨"take",(bh (aa 11) 3),["self","many"]⟩
 m4:jn K C ⟨"run",(bh (aa 11) 4),["self"]⟩
 la:mU K "alike" (aa 18) 167 163
 lb:mU K "behind" (aa 56) 367 363
 lc:mU K "degree" (aa 59) 379 375
 bt:∃ob:Obj,PySem.W.nsIn K mainGlobals "__builtins__"=some (some (.ref 4))/\K.lookup 4=some ob/\(4:Addr)≠builtinsNs/\(4:Addr)≠mainGlobals/\ob.cls=.type "module"/\ob.dict=some builtinsNs/\ob.data=.plain
noncomputable def tbs2:gi:=[(163,pA.lp,"alike.<locals>.<lambda>"),(363,pB.np,"behind.<locals>."++pB.name),(375,pC.np,"degree.<locals>."++pC.name)]
section
variable {P:Program}{w:World}{K:PySem.W.Frag}{mg:Str->Option Value}{base h:Heap}{C:Addr}
theorem SH (X:K.In h) (Gn:h.Ns mainGlobals mg) (hb:K.In base) (F:mV w.params K C):(wO ⟨P,w,K,mg,base,N.bz tbs2⟩ C).Ok where
 df:=λi d hd=>let ⟨a,b⟩:=F.ds.at hd;C2 (G:=⟨P,w,K,mg,base,N.bz tbs2⟩) rfl X Gn a b
 gv:=λi x hx=>by
  rcases SG hx with ⟨h1,h2⟩ |⟨j,d,rfl,h1,rfl⟩
  ·rcases (by lia:i=0\/i=1\/i=2\/i=3\/i=4\/i=5) with rfl |rfl |rfl |rfl |rfl |rfl
   ·cases h2;exact pX (G:=⟨P,w,K,mg,base,N.bz tbs2⟩) hb X Gn (by decide) F.s0
   ·cases h2;exact pX (G:=⟨P,w,K,mg,base,N.bz tbs2⟩) hb X Gn (by decide) F.s1
   ·cases h2;exact pX (G:=⟨P,w,K,mg,base,N.bz tbs2⟩) hb X Gn (by decide) F.s2
   ·cases h2;exact pX (G:=⟨P,w,K,mg,base,N.bz tbs2⟩) hb X Gn (by decide) F.s3
   ·cases h2;exact C1 (G:=⟨P,w,K,mg,base,N.bz tbs2⟩) rfl rfl hb X Gn Bh (by decide) F.s4
   ·cases h2;exact C1 (G:=⟨P,w,K,mg,base,N.bz tbs2⟩) rfl rfl hb X Gn Cf (by decide) F.s5
  ·obtain⟨a,b⟩:=F.ds.at h1;obtain⟨f,fd,DF⟩:=C2 (G:=⟨P,w,K,mg,base,N.bz tbs2⟩) rfl X Gn a b;refine⟨.ref f,DF.mg,λFz _=>?_⟩;have e:(wO ⟨P,w,K,mg,base,N.bz tbs2⟩ C).gv.getD (6+j) .ai=.ref f:=by
    show (C5 mg++ei.map λd=>D.ref (et mg d.x):List D).getD (6+j) .ai=_;rw[XW,Ym (by show 6<=6+j;lia)];show ((ei.map λd=>D.ref (et mg d.x))[6+j-6]?).getD .ai=_;rw[Nat.add_sub_cancel_left,XJ,h1];show D.ref (et mg d.x)=_;have:mg d.x=some (.ref f):=DF.mg;unfold et;rw[this]
   rw[e,ab]
 bl:=λx hx=>PySem.W.mg_none_of X Gn (of_decide_eq_true (List.all_eq_true.mp F.bi x hx))
 fl:=λc f h=>by
  obtain⟨rfl,e |e⟩:=h
  ·rw[e];exact⟨F.wc,F.w1⟩
  ·rw[e];exact⟨F.wc,F.w2⟩
 mt:=λi d hd=>by
  have mk:∀{d:Ds},jn K C d->∃f fd,s9 K C d f fd:=λ⟨q,f,fd,F1,M1,WT⟩=>⟨f,fd,⟨q,F1⟩,WT,M1,F.wc⟩;have kO:pf[i]?=some d:=hd
  match i,kO with
  | 0,e=>cases e;exact mk F.m0
  | 1,e=>cases e;exact mk F.m1
  | 2,e=>cases e;exact mk F.m2
  | 3,e=>cases e;exact mk F.m3
  | 4,e=>cases e;exact mk F.m4
  |n+5,e=>cases e
 cl:=λi x hx=>by
  have cQ:(["Walk"]:List Str)[i]?=some x:=hx
  match i,cQ with
  | 0,e=>cases e;exact⟨PySem.W.mg_of X Gn F.wa,λf a n=>⟨F.wm,a,n,F.wk⟩⟩
  |n+1,e=>cases e
theorem vj (X:K.In h) (Gn:h.Ns mainGlobals mg) (F:mV w.params K C) {x:Str}{st:Stmt}{c T:Addr}{p:Pos}{q0:Str} (A:mU K x st c T) (hT:tbs2.lookup T=some (p,x++q0)) (WU:mainGlobals≠T) (nB:(4:Addr)≠T):∀f fd q,c8 K q q st f fd->mg x=some (.ref f)->∃c T,fd.code=.ref c/\dC ⟨P,w,K,mg,base,N.bz tbs2⟩ c T p (q++q0):=by
 intro f fd q Fn hm;obtain⟨n,f0,C6,e1,F0,e2,rfl⟩:=A.d;have m0:=PySem.W.mg_of X Gn e1;rw[m0]at hm;cases hm;obtain⟨oc,od,kV,doc,pm,TU,an,ct,ch,hf,l1,_⟩:=Fn.ex;obtain⟨SI,SJ,SK,zW,SM,SN,SO,SP,SQ,C7,l2,_⟩:=F0.ex;rw[l1]at l2;injection l2 with l3;injection l3 with _ _ l4;injection l4 with l5;have WV:fd=C6:=l5;have eq:q=n:=by
  have:fd.name=C6.name:=congrArg FuncData.name l5;rw[hf,C7]at this;exact this
 subst eq;subst WV;obtain⟨ob,b1,b2,TX,b4,Uy,Uz,UA⟩:=F.bt;exact⟨c,T,e2,A.h,⟨4,ob,PySem.W.mg_of X Gn b1,b2,TX,b4,nB,Uy,Uz,UA⟩,WU,by show (tbs2.lookup T).map _=_;rw[hT];rfl⟩
theorem SR (X:K.In h) (Gn:h.Ns mainGlobals mg) (hb:K.In base) (F:mV w.params K C):Lw (wO ⟨P,w,K,mg,base,N.bz tbs2⟩ C) where
 ok:=SH X Gn hb F
 hn:=by show (⟨ei.map (·.x),nm.fy,nm.cls,pf.map (·.x)⟩:Nm)=nm;kernel_rfl
 hd:=rfl
 hms:=rfl
 g0:=rfl
 g1:=rfl
 g2:=rfl
 g3:=rfl
 gt:=rfl
 gs:=rfl
 gb:=rfl
 gd:=rfl
 gf:=rfl
 VG:=rfl
 go:=rfl
 gp:=rfl
 ga:=rfl
 fw:=⟨rfl,.inl rfl⟩
 ff:=⟨rfl,.inr rfl⟩
 mc:=λ_ _=>rfl
 UZ:=by
  intro f fd q h1 h2;have:=vj (P:=P) (base:=base) X Gn F (p:=pA.lp) (q0:=".<locals>.<lambda>") F.la (by kernel_rfl) (by decide) (by decide) f fd q h1 h2;exact this
 U0:=by
  intro f fd q h1 h2;have:=vj (P:=P) (base:=base) X Gn F (p:=pB.np) (q0:=".<locals>."++pB.name) F.lb (by kernel_rfl) (by decide) (by decide) f fd q h1 h2;exact this
 U1:=by
  intro f fd q h1 h2;have:=vj (P:=P) (base:=base) X Gn F (p:=pC.np) (q0:=".<locals>."++pC.name) F.lc (by kernel_rfl) (by decide) (by decide) f fd q h1 h2;exact this
end
section
variable {P:Program}{w:World}{K:PySem.W.Frag}{mg:Str->Option Value}{h:Heap}{C:Addr}
theorem law_ok {fa:Addr} (X:K.In h) (Gn:h.Ns mainGlobals mg) (C8:mg "law"=some (.ref fa)) (F:mV w.params K C) :
  ∃fd:FuncData,(∀(s:Shared) (v:Value),BindsTo s fd ⟨[v],[]⟩ [("script",v)])/\∀base:Heap,K.In base->base.Ns mainGlobals mg->bf ⟨P,w,K,mg,base,N.bz tbs2⟩ 140 fa fd ["script"] spLaw:=by
 obtain⟨a,b⟩:=F.ds.at (i:=57) (d:=⟨"law",aa 87,["script"]⟩) rfl;obtain⟨n,f,fd,e,Fn⟩:=a;have m1:=PySem.W.mg_of X Gn e;have m2:mg "law"=some (.ref f):=m1;rw[C8]at m2;cases m2;refine⟨fd,?_,λbase hb _=>?_⟩
 ·obtain⟨oc,od,kV,doc,pm,TU,an,ct,ch,rfl,lk,dr⟩:=Fn.ex;exact λs v=>.of_eq rfl
 obtain⟨d',f',zn,h1,D',SS⟩:=SA (SR (P:=P) (base:=base) X Gn hb F);have e:d'=⟨"law",aa 87,["script"]⟩:=by
  have h2:ei[57]?=some d':=h1;have h3:ei[57]?=some ⟨"law",aa 87,["script"]⟩:=rfl;rw[h3]at h2;cases h2;rfl
 subst e;have m3:mg "law"=some (.ref f'):=D'.mg;rw[C8]at m3;cases m3;obtain⟨_,SU⟩:=D'.fn;obtain⟨oc,od,kV,doc,pm,TU,an,ct,ch,hf,l1,_⟩:=Fn.ex;obtain⟨SI,SJ,SK,zW,SM,SN,SO,SP,SQ,C7,l2,_⟩:=SU.ex;have SV:K.lookup fa=_:=l1;have C9:K.lookup fa=_:=l2;rw[SV]at C9;injection C9 with l3;injection l3 with _ _ l4;injection l4 with l5;rw[l5];exact SS
end
theorem room_law:bx 140 callerA:=⟨rfl,by decide,by decide⟩
theorem TR:PySem.Challenge.rw_keptnest_k32_whole_degree_falls=PySem.Challenge.rw_keptnest_k32_whole_degree_falls/\zK=zK:=by k_fill;exact⟨rfl,rfl⟩
theorem zF (w:World):mV w.params (zK w.params) 124:=by
 refine' ⟨?ds,?s0,?s1,?s2,?s3,?s4,?s5,?bi,?wa,⟨?c1,?c2,?c3,?c4⟩,?w1,?w2,?wm,?wk,?m0,?m1,?m2,?m3,?m4,?la,?lb,?lc,?bt⟩
 case ds=>
  refine' ⟨⟨?_,λ_ _ _ _ _ _ _=>cZ λ_=>rfl⟩,⟨⟨?_,λ_ _ _ _ _ _ _=>bP λ_ _=>rfl⟩,⟨⟨?_,λ_ _ _ _ _ _ _=>cZ λ_=>rfl⟩,⟨⟨?_,λ_ _ _ _ _ _ _=>cZ λ_=>rfl⟩,⟨⟨?_,λ_ _ _ _ _ _ _=>bP λ_ _=>rfl⟩,⟨⟨?_,λ_ _ _ _ _ _ _=>cq λ_ _ _=>rfl⟩,⟨⟨?_,λ_ _ _ _ _ _ _=>cq λ_ _ _=>rfl⟩,⟨⟨?_,λ_ _ _ _ _ _ _=>cq λ_ _ _=>rfl⟩,⟨⟨?_,λ_ _ _ _ _ _ _=>cZ λ_=>rfl⟩,⟨⟨?_,λ_ _ _ _ _ _ _=>bP λ_ _=>rfl⟩,⟨⟨?_,λ_ _ _ _ _ _ _=>cq λ_ _ _=>rfl⟩,⟨⟨?_,λ_ _ _ _ _ _ _=>cq λ_ _ _=>rfl⟩,⟨⟨?_,λ_ _ _ _ _ _ _=>cq λ_ _ _=>rfl⟩,⟨⟨?_,λ_ _ _ _ _ _ _=>cq λ_ _ _=>rfl⟩,⟨⟨?_,λ_ _ _ _ _ _ _=>cq λ_ _ _=>rfl⟩,⟨⟨?_,λ_ _ _ _ _ _ _=>cq λ_ _ _=>rfl⟩,⟨⟨?_,λ_ _ _ _ _ _ _=>bP λ_ _=>rfl⟩,⟨⟨?_,λ_ _ _ _ _ _ _=>bP λ_ _=>rfl⟩,⟨⟨?_,λ_ _ _ _ _ _ _=>bP λ_ _=>rfl⟩,⟨⟨?_,λ_ _ _ _ _ _ _=>bP λ_ _=>rfl⟩,⟨⟨?_,λ_ _ _ _ _ _ _=>bP λ_ _=>rfl⟩,⟨⟨?_,λ_ _ _ _ _ _ _=>bP λ_ _=>rfl⟩,⟨⟨?_,λ_ _ _ _ _ _ _=>bP λ_ _=>rfl⟩,⟨⟨?_,λ_ _ _ _ _ _ _=>bP λ_ _=>rfl⟩,⟨⟨?_,λ_ _ _ _ _ _ _=>bP λ_ _=>rfl⟩,⟨⟨?_,λ_ _ _ _ _ _ _=>bP λ_ _=>rfl⟩,⟨⟨?_,λ_ _ _ _ _ _ _=>bP λ_ _=>rfl⟩,⟨⟨?_,λ_ _ _ _ _ _ _=>mQ λ_ _ _ _=>rfl⟩,⟨⟨?_,λ_ _ _ _ _ _ _=>cq λ_ _ _=>rfl⟩,⟨⟨?_,λ_ _ _ _ _ _ _=>cq λ_ _ _=>rfl⟩,⟨⟨?_,λ_ _ _ _ _ _ _=>bP λ_ _=>rfl⟩,⟨⟨?_,λ_ _ _ _ _ _ _=>cZ λ_=>rfl⟩,⟨⟨?_,λ_ _ _ _ _ _ _=>cZ λ_=>rfl⟩,⟨⟨?_,λ_ _ _ _ _ _ _=>cq λ_ _ _=>rfl⟩,⟨⟨?_,λ_ _ _ _ _ _ _=>cq λ_ _ _=>rfl⟩,⟨⟨?_,λ_ _ _ _ _ _ _=>cq λ_ _ _=>rfl⟩,⟨⟨?_,λ_ _ _ _ _ _ _=>cq λ_ _ _=>rfl⟩,⟨⟨?_,λ_ _ _ _ _ _ _=>bP λ_ _=>rfl⟩,⟨⟨?_,λ_ _ _ _ _ _ _=>bP λ_ _=>rfl⟩,⟨⟨?_,λ_ _ _ _ _ _ _=>cZ λ_=>rfl⟩,⟨⟨?_,λ_ _ _ _ _ _ _=>bP λ_ _=>rfl⟩,⟨⟨?_,λ_ _ _ _ _ _ _=>cZ λ_=>rfl⟩,⟨⟨?_,λ_ _ _ _ _ _ _=>bP λ_ _=>rfl⟩,⟨⟨?_,λ_ _ _ _ _ _ _=>cZ λ_=>rfl⟩,⟨⟨?_,λ_ _ _ _ _ _ _=>cZ λ_=>rfl⟩,⟨⟨?_,λ_ _ _ _ _ _ _=>cq λ_ _ _=>rfl⟩,⟨⟨?_,λ_ _ _ _ _ _ _=>CY rfl⟩,⟨⟨?_,λ_ _ _ _ _ _ _=>cZ λ_=>rfl⟩,⟨⟨?_,λ_ _ _ _ _ _ _=>bP λ_ _=>rfl⟩,⟨⟨?_,λ_ _ _ _ _ _ _=>mQ λ_ _ _ _=>rfl⟩,⟨⟨?_,λ_ _ _ _ _ _ _=>cq λ_ _ _=>rfl⟩,⟨⟨?_,λ_ _ _ _ _ _ _=>cq λ_ _ _=>rfl⟩,⟨⟨?_,λ_ _ _ _ _ _ _=>mQ λ_ _ _ _=>rfl⟩,⟨⟨?_,λ_ _ _ _ _ _ _=>mQ λ_ _ _ _=>rfl⟩,⟨⟨?_,λ_ _ _ _ _ _ _=>cZ λ_=>rfl⟩,⟨⟨?_,λ_ _ _ _ _ _ _=>bP λ_ _=>rfl⟩,⟨⟨?_,λ_ _ _ _ _ _ _=>cq λ_ _ _=>rfl⟩,⟨⟨?_,λ_ _ _ _ _ _ _=>cZ λ_=>rfl⟩,trivial⟩⟩⟩⟩⟩⟩⟩⟩⟩⟩⟩⟩⟩⟩⟩⟩⟩⟩⟩⟩⟩⟩⟩⟩⟩⟩⟩⟩⟩⟩⟩⟩⟩⟩⟩⟩⟩⟩⟩⟩⟩⟩⟩⟩⟩⟩⟩⟩⟩⟩⟩⟩⟩⟩⟩⟩⟩⟩
  all_goals (refine' SD ?a ?l ?c ?k;(case a=>k_is);(case l=>k_is);(case c=>k_is);(case k=>k_is))
 case s0=>refine' pW ?a ?l ?c;(case a=>k_is);(case l=>k_is);(case c=>kernel_rfl)
 case s1=>refine' pW ?a ?l ?c;(case a=>k_is);(case l=>k_is);(case c=>kernel_rfl)
 case s2=>refine' pW ?a ?l ?c;(case a=>k_is);(case l=>k_is);(case c=>kernel_rfl)
 case s3=>refine' pW ?a ?l ?c;(case a=>k_is);(case l=>k_is);(case c=>kernel_rfl)
 case s4=>refine' CZ ?a ?l ?z ?c;(case a=>k_is);(case l=>k_is);(case z=>rfl);(case c=>repeat (first |exact .nil |(refine' .cons rfl rfl rfl ?k ?_;(case k=>k_is))))
 case s5=>refine' CZ ?a ?l ?z ?c;(case a=>k_is);(case l=>k_is);(case z=>rfl);(case c=>repeat (first |exact .nil |(refine' .cons rfl rfl rfl ?k ?_;(case k=>k_is))))
 case bi=>kernel_rfl
 (case wa=>k_is);(case c1=>k_is);(case c2=>k_is);(case c3=>k_is);(case c4=>k_is);(case w1=>show PySem.W.findIn _ _ _=_;k_is);(case w2=>show PySem.W.findIn _ _ _=_;k_is);(case wm=>k_is);(case wk=>k_is)
 case m0=>refine' mS ?a ?l ?c ?k ?n (cZ λ_=>rfl);(case a=>k_is);(case l=>k_is);(case c=>k_is);(case k=>k_is);(case n=>k_is)
 case m1=>refine' mS ?a ?l ?c ?k ?n (mQ λ_ _ _ _=>rfl);(case a=>k_is);(case l=>k_is);(case c=>k_is);(case k=>k_is);(case n=>k_is)
 case m2=>refine' mS ?a ?l ?c ?k ?n (bP λ_ _=>rfl);(case a=>k_is);(case l=>k_is);(case c=>k_is);(case k=>k_is);(case n=>k_is)
 case m3=>refine' mS ?a ?l ?c ?k ?n (bP λ_ _=>rfl);(case a=>k_is);(case l=>k_is);(case c=>k_is);(case k=>k_is);(case n=>k_is)
 case m4=>refine' mS ?a ?l ?c ?k ?n (cZ λ_=>rfl);(case a=>k_is);(case l=>k_is);(case c=>k_is);(case k=>k_is);(case n=>k_is)
 case la=>refine' vi ?a ?l ?c ?k ?h;(case a=>k_is);(case l=>k_is);(case c=>k_is);(case k=>k_is);(case h=>kernel_rfl)
 case lb=>refine' vi ?a ?l ?c ?k ?h;(case a=>k_is);(case l=>k_is);(case c=>k_is);(case k=>k_is);(case h=>kernel_rfl)
 case lc=>refine' vi ?a ?l ?c ?k ?h;(case a=>k_is);(case l=>k_is);(case c=>k_is);(case k=>k_is);(case h=>kernel_rfl)
 case bt=>refine' ⟨{ cls:=PySem.Value.type "module",data:=PySem.Data.plain,dict:=some 0 },?a,?l,?h1,?h2,?h4,?h5,?h6⟩;(case a=>kernel_rfl);(case l=>kernel_rfl);(case h1=>decide);(case h2=>decide);(case h4=>rfl);(case h5=>rfl);(case h6=>rfl)
end K32
open PySem PySem.W PyProof.Rows
set_option maxRecDepth 100000 in
set_option maxHeartbeats 0 in
theorem PySem.Challenge.cw_keptnest_k32_whole_degree_falls_holds : PySem.Challenge.rw_keptnest_k32_whole_degree_falls.Holds := by
 w_on
 refine PySem.W.holds_law K32.zS fun said=>?_
 refine PySem.W.holds_open (q:=K32.zV) (loose:=K32.zL) (Xt:=fun s=>PySem.W.xlAt K32.zV [] s && PySem.W.recOk (PySem.W.RowW.records (PySem.W.OpenRow.toRowW PySem.Challenge.rw_keptnest_k32_whole_degree_falls.row)) s) (XP:=PySem.W.XL K32.zV []) (Yf:=PySem.W.Hook.obs (PySem.W.kmHook K32.zK K32.zA K32.zE K32.zTs)) (Ya:=PySem.W.Hook.val (PySem.W.kmHook K32.zK K32.zA K32.zE K32.zTs)) (YP:=PySem.W.Hook.says (PySem.W.kmHook K32.zK K32.zA K32.zE K32.zTs)) (N:=7188) (Hq.left_two "special-get-raises" K32.zR_false K32.zR_true) (PySem.W.Hook.of _) (PySem.W.Hook.keeps _) (fun s e=>PySem.W.xl_of s (Bool.and_eq_true_iff.mp e).1) PySem.W.XL.keeps (by rfl) (by rfl) (by rfl) (fun s e=>PySem.W.recFacts_of (Bool.and_eq_true_iff.mp e).2) (by rfl) (by first | assumption | decide +kernel) (by decide +kernel) ⟨rfl,rfl,rfl,rfl,rfl,by decide +kernel⟩ ?hw ?hc
 case hw=>w_witness2
 k_fill
 refine N.walk_of (l:=PySem.Challenge.rw_keptnest_k32_whole_degree_falls) (K:=K32.zK) (ts:=K32.tbs2) (x:="script") (k:=140) (sp:=fun _=>K32.spLaw) (n:=63) rfl (by decide) rfl K32.room_law (fun w h Y=>⟨PySem.W.km_in_of Y,fun T hT=>?Tb⟩) ?KT ?F (fun w ns hl=>⟨ns,rfl,hl,fun _=>rfl⟩)
 case Tb=>
  have:T∈K32.zTs:=by simpa [K32.tbs2,K32.zTs] using hT
  exact PySem.W.km_tabs_of Y T this
 case KT=>
  intro w T hT
  have:T=163\/T=363\/T=375:=by simpa [K32.tbs2] using hT
  rcases this with rfl | rfl | rfl
  ·exact⟨by kernel_rfl,167,by kernel_rfl⟩
  ·exact⟨by kernel_rfl,367,by kernel_rfl⟩
  ·exact⟨by kernel_rfl,379,by kernel_rfl⟩
 case F=>
  intro w mg fa h KX G hmg
  exact K32.law_ok KX G hmg (K32.zF w)
#print axioms PySem.Challenge.cw_keptnest_k32_whole_degree_falls_holds
end
