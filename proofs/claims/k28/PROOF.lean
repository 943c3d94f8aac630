import PyProof.Rows.All
import Wide.All
import OpenK.AllK
import Wide.FinOn
import PySem.Challenge.RW_keptnest_k28_no_difference
import Lean
import PyProof.EqAt
import PyProof.EqKinds
import PyProof.TupleCall
import PyProof.ZipIter
import PyProof.NeKinds
import PyProof.Draws
import KE.KRevIter
import PyProof.StationsW
import PyProof.AutoSeq1
import KE.KEqDict
import PyProof.SeqI3
import KE.KUnpack
import KE.KTupSum
import PyProof.ConsumeS
import PyProof.AttrMissHeap
import KE.KItemsList
import KE.KDictOf
import PyProof.Rows.SortStr
import PyProof.Rows.SetFrom
import KE.KPairComp
import KE.KSortAsk
import KE.KSortTup
import KE.KNestM
import KE.KLam
import KE.KNest
import PyProof.ExcClass3
import PyProof.ExcBaseAll.ValueError
import PyProof.NsDelKeeps
import PyProof.ExcArgs
set_option Elab.async false
set_option linter.all false
set_option maxRecDepth 100000
set_option maxHeartbeats 4000000
open PySem renaming wpAny_bind->Yj,wpAny_pure->Yl,wpAny_callSpecial?_slot->YM,wpAny_call_entry->YQ,wpAny_field->YU,wpAny_newObj_type->YV,wpAny_holding->Y3,wpAny_Call_Name_kw->Y8,builtinLookup_eq_fast->Zb,codeAny_builtin->Zg,wpAny_mono->Zm,plainId_quiet->Zn,wpAny_setState_of->Zt,codeAny_mono->Zy,wpAny_attempt->ZF,wpAny_ite_split->ZI,typeLookup_type->ZJ,wpAny_seqItems->ZR,wpAny_truthy_bool->ZU,wpAny_isInstance->ZX,wpAny_setField->Z7,isSubtype_type->Z8,wpAny_setField_rec->aag,wpAny_pyIter_tuple->aah,wpAny_passesOwn->aam,wpAny_execs_nil->aan,sizeLine_eq->aao
open PySem.Heap renaming get?_push_of_some->Yk,get?_push_size->Yp,lt_size->Yw,get?_update_self->YK,size_push->YR,get?_update_other->Zr,SameBut->ZM,size_update->Z3,ExtBut->aab
open List renaming length_map->Ym,size_toArray->Yn,getElem?_eq_getElem->Yo,mem_cons_self->Ys,mem_cons_of_mem->Yt,map_cons->Yu,length_cons->Yv,getElem?_map->Yz,length_append->YB,append_nil->YH,not_mem_nil->YJ,getD_eq_getElem?_getD->YN,map_append->YS,append_assoc->YT,mem_cons->YZ,getElem?_append_right->Y1,mem_of_getElem?->Y4,getElem?_append_left->Y5,replicate->Y',lookup_cons->Zc,zip_cons_cons->Zo,map_nil->Zp,map_map->Zq,reverse_cons->Zz,range->ZA,cons_append->ZH,length_range->ZN,of_mem_zip->ZP,mem_append->ZQ,concat_eq_append->ZV,length_zip->ZZ,find?_cons->Z0,length_reverse->Z1,nodup_cons->Z9,eq_nil_or_concat->aaa,any_cons->aaj,mem_append_left->aal,replicate_succ->aas
open Bool renaming and_eq_true->Yq,false_ne_true->Y0,eq_iff_iff->Zv,false_eq_true->Z6
open Nat renaming le_refl->Yr,ne_of_lt->Yx,le_trans->Yy,lt_of_le_of_lt->YA,lt_of_lt_of_le->YD,zero_le->YE,lt_trans->Y7,ne_of_gt->Zf,lt_succ_of_lt->Zk,lt_succ_self->ZK,lt_irrefl->ZL,le_of_succ_le_succ->ZS,le_add_right->Z5,le_of_eq->aae
open PySem.AutoSeq1 renaming wpAny_loadPart'->YC
open PySem.Value renaming ref->YF,none->Y6,type->aac
open Array renaming length_toList->YG,getElem?_eq_getElem->Y9,getElem?_toList->ZE,getD_eq_getD_getElem?->ZO
open Option renaming some_ne_none->YI,some->YL
open PySem.Heap.SameBut renaming update->YO
open PySem.Obj renaming mapSeq->YW,mapFields->Za,data_mapFields->ZG,isFreed_of_fields->aad
open PySem.Builtin.SmallTypes renaming nextOf->YX,ownedTupleIsFree->ZD
open Option.some renaming inj->YY
open PySem.Around renaming under_plainId->Y2
open PySem.Builtin.Tuple renaming tupleExact->Zd
open PyProof.Rows renaming callWith_type1->Ze,slot_tuple_getitem->Zi
open Int renaming le_refl->Zh,toNat_natCast->aak
open PySem.Builtin.Slice renaming slicePlaces->Zj,sliceApplied->Z4
open Ne renaming symm->Zl
open Sum renaming inr->Zs
open PySem.Calls renaming spliced_cons->Zu,spliced_nil->ZY
open PySem.Str renaming ofString->Zw
open PySem.Builtin.List renaming listTooLong->Zx
open PySem.NameKind renaming free->ZT
open ForInStep renaming yield->ZW
open Classical renaming byContradiction->aaf
open True renaming intro->aai
open Sum.inr renaming inj->aap
open Nat.succ renaming inj->aaq
open PySem.MeetsSeq3 renaming plain_eq_loop->aar
section
namespace Hq
open PySem PySem.W
def vS (s:PySem.Str) (n:Tok):Value:=.str s n
def vI (i:Int) (n:Tok):Value:=.int i n
def vR (a:Addr):Value:=.ref a
def vN:Value:=.none
def sO (s:String):PySem.Str:=PySem.Str.ofString s
def eN (P:Params) (k:PySem.Str) (n:Tok) (v:Value):DictEntry:=⟨PyData.keyHash P k,.str k n,v⟩
def WM (s:Stmt):Arguments:=match s with
 |.FunctionDef _ a _ _ _ _ _ _ _ _=>a
 |_=>{ posonlyargs:=[],args:=[],vararg:=none,kwonlyargs:=[],kw_defaults:=[],kwarg:=none,defaults:=[] }
def dB (s:Stmt):List Stmt:=match s with
 |.FunctionDef _ _ b _ _ _ _ _ _ _=>b
 |_=>[]
def WN (s:Stmt):Scope:=match s with
 |.FunctionDef _ _ _ _ _ _ sc _ _ _=>sc
 |_=>{ kind:=.function,names:=[],isGenerator:=false,isCoroutine:=false }
def Vj (s:Stmt):List Stmt:=match s with
 |.ClassDef _ _ _ b _ _ _ _ _ _ _=>b
 |_=>[]
def fO (nm qual:PySem.Str) (st:Stmt) (m cd:Value):Obj:={ cls:=.type "function",data:=.func (PySem.W.fnOf nm qual (WM st) (dB st) (WN st) .none .none .none m none cd .none) }
def kn (p q:Program) (loose:List PySem.Str) (Xt:Shared->Bool) {α:Type} (Yf:Shared->α) (Ya:World->α) (N:Nat) (row:String) (b:Bool):Prop:=
 ∀w:World,(fencedOpening treeTable p w N).map (λs₀=>(topFrom treeTable p (w.withFollow row b) N s₀).map λs=>(openSeen q loose (importedModules p.main.body) Xt true s,Yf s))=some (some (openGood q loose,Ya (w.withFollow row b)))
theorem left_two {p q:Program}{loose:List PySem.Str}{Xt:Shared->Bool} {α:Type} {Yf:Shared->α}{Ya:World->α}{N:Nat} (row:String) (h0:kn p q loose Xt Yf Ya N row false) (h1:kn p q loose Xt Yf Ya N row true):LeftO p q loose Xt Yf Ya N:=λw=>by
 obtain⟨s₀,a,b1⟩:=Option.map_eq_some_iff.mp (h0 w);obtain⟨s₁,U2,b2⟩:=Option.map_eq_some_iff.mp (h1 w);rw[a]at U2;cases U2;have e:=World.withFollow_self w row;unfold openEnds;rw[a];cases hb:w.params.followText row <;> rw[hb]at e
 ·rw[e]at b1;exact b1
 ·rw[e]at b2;exact b2
end Hq
end
section
set_option maxHeartbeats 0
namespace K28
open PySem Hq
def zT (i:Nat):Stmt:=PySem.Challenge.pw_keptnest_k28_no_difference.main.body.getD i (.Pass ⟨0,0,0,0⟩)
def zM (i j:Nat):Stmt:=(Vj (zT i)).getD j (.Pass ⟨0,0,0,0⟩)
def zC (a b:PySem.Str) (t:Nat) (l n:Int) (c r:Addr) (x y z:Value) (s:Addr) (e:Nat):Obj:={ cls:=PySem.Value.type "code",data:=PySem.Data.fields #[vS a t,vS b (t+1),vS "/claim/cut.py" (t+2),vI l 0,vI n 0,vI 0 0,vI 0 0,vI 3 0,vR c,PySem.Value.bool Bool.true,vI 181 0,vR r,x,y,z,vR s,vI e 0,vI l 0,vS "/claim/cut.py" (e+1)] }
def zK (P:Params):PySem.W.Frag:=(nat_lit 3,{ cls:=PySem.Value.type "dict",data:=PySem.Data.dict #[eN P "__name__" 165 (vS "law_keptnest_k28_no_difference" 770),eN P "__doc__" 166 (vN),eN P "__package__" 167 (vN),eN P "__loader__" 168 (PySem.Value.builtin "__main__.__loader__#opaque"),eN P "__spec__" 169 (vN),eN P "__annotations__" 170 (vR 6),eN P "__builtins__" 171 (vR 4),eN P "__file__" 173 (vS "/claim/cut.py" 172),eN P "__cached__" 174 (vN),eN P "NestError" 206 (vR 24),eN P "NoValue" 222 (vR 37),eN P "NoQuestion" 238 (vR 49),eN P "NoDifference" 254 (vR 61),eN P "NoChange" 270 (vR 73),eN P "NoKind" 295 (vR 92),eN P "HAVE_MORE" 307 (vR 95),eN P "under" 313 (vR 100),eN P "with_under" 319 (vR 105),eN P "knots" 329 (vR 112),eN P "tables" 335 (vR 117),eN P "Walk" 400 (vR 160),eN P "folded" 409 (vR 171),eN P "unfold" 419 (vR 178),eN P "fold" 428 (vR 185),eN P "bound" 438 (vR 192),eN P "fields_of" 446 (vR 197),eN P "alike" 454 (vR 204),eN P "fits" 460 (vR 209),eN P "NUMBER" 464 (vR 210),eN P "WORD" 466 (vR 211),eN P "TRUTH" 468 (vR 212),eN P "kind_of" 478 (vR 219),eN P "begin" 492 (vR 344),eN P "begin_kinds" 493 (vR 226),eN P "found_kind" 502 (vR 233),eN P "bind" 515 (vR 240),eN P "finish" 527 (vR 247),eN P "plain_kind" 535 (vR 254),eN P "row_kind" 541 (vR 259),eN P "part_kind" 549 (vR 266),eN P "number_kind" 557 (vR 273),eN P "none_kind" 565 (vR 280),eN P "one_kind" 573 (vR 287),eN P "both_kind" 581 (vR 294),eN P "last_bag_kind" 589 (vR 301),eN P "same_kind" 597 (vR 308),eN P "under_kind" 605 (vR 315),eN P "truth_kind" 613 (vR 322),eN P "FINISHED" 648 (vR 323),eN P "difference" 663 (vR 330),eN P "kind_of_rows" 674 (vR 337),eN P "begin_differences" 685 (vR 344),eN P "names_some" 691 (vR 349),eN P "is_none" 698 (vR 356),eN P "total" 704 (vR 361),eN P "both_differences" 713 (vR 368),eN P "for_differences" 727 (vR 375),eN P "made_for" 736 (vR 382),eN P "SUMS" 741 (vR 383),eN P "wrap" 751 (vR 390),eN P "behind_less_ahead" 759 (vR 397),eN P "behind" 769 (vR 404),eN P "_law_cell_at" 779 (vR 411),eN P "_law_seed" 787 (vR 418),eN P "_law_draw" 797 (vR 425),eN P "_law_key" 803 (vR 430),eN P "_law_bag" 809 (vR 435),eN P "_law_add" 820 (vR 442),eN P "_law_truth" 832 (vR 449),eN P "_law_bound" 846 (vR 456),eN P "_law_answer" 852 (vR 461),eN P "_law_value" 858 (vR 466),eN P "_law_kinds" 866 (vR 473),eN P "_law_store" 876 (vR 480),eN P "_law_seen" 886 (vR 487),eN P "_law_held" 892 (vR 492),eN P "_law_small" 898 (vR 497),eN P "_law_claim" 911 (vR 504),eN P "_law_over" 917 (vR 509),eN P "_law_taken" 923 (vR 514),eN P "_law_asked" 929 (vR 519),eN P "_law_change" 941 (vR 526),eN P "_law_with" 952 (vR 533),eN P "_law_under" 963 (vR 540),eN P "_law_stock" 973 (vR 547),eN P "_law_names" 983 (vR 554),eN P "_law_question" 992 (vR 561),eN P "_law_no_bag" 1002 (vR 568),eN P "_law_kinds_of" 1013 (vR 575),eN P "law" 1027 (vR 582)] 90 }) ::
 (nat_lit 4,{ cls:=PySem.Value.type "module",data:=PySem.Data.plain,dict:=some 0 }) ::
 (nat_lit 23,{ cls:=PySem.Value.type "dict",data:=PySem.Data.dict #[eN P "__module__" 196 (vS "keptnest.errors" 187),eN P "__firstlineno__" 200 (vI 2 199),eN P "__static_attributes__" 201 (vR 22),eN P "__weakref__" 203 (vR 25),eN P "__doc__" 204 (vN)] 3 }) ::
 (nat_lit 24,{ cls:=PySem.Value.type "type",data:=PySem.Data.cls { name:=sO "NestError",bases:=[PySem.Value.type "ValueError"],mro:=[vR 24,PySem.Value.type "ValueError",PySem.Value.type "Exception",PySem.Value.type "BaseException",PySem.Value.type "object"],ns:=23,qualname:=sO "NestError",subclasses:=[vR 37,vR 49,vR 61,vR 73,vR 92] },slots:=#[YL (vR 15),Option.none,YL (vS "NestError" 189),YL (vS "NestError" 197),YL (PySem.Value.builtin "ValueError.__new__"),YL (PySem.Value.bool Bool.true)] }) ::
 (nat_lit 36,{ cls:=PySem.Value.type "dict",data:=PySem.Data.dict #[eN P "__module__" 214 (vS "keptnest.errors" 187),eN P "__firstlineno__" 218 (vI 4 217),eN P "__static_attributes__" 219 (vR 35),eN P "__doc__" 220 (vN)] 2 }) ::
 (nat_lit 37,{ cls:=PySem.Value.type "type",data:=PySem.Data.cls { name:=sO "NoValue",bases:=[vR 24],mro:=[vR 37,vR 24,PySem.Value.type "ValueError",PySem.Value.type "Exception",PySem.Value.type "BaseException",PySem.Value.type "object"],ns:=36,qualname:=sO "NoValue" },slots:=#[YL (vR 28),Option.none,YL (vS "NoValue" 207),YL (vS "NoValue" 215),YL (PySem.Value.builtin "ValueError.__new__"),YL (PySem.Value.bool Bool.true)] }) ::
 (nat_lit 48,{ cls:=PySem.Value.type "dict",data:=PySem.Data.dict #[eN P "__module__" 230 (vS "keptnest.errors" 187),eN P "__firstlineno__" 234 (vI 6 233),eN P "__static_attributes__" 235 (vR 47),eN P "__doc__" 236 (vN)] 2 }) ::
 (nat_lit 49,{ cls:=PySem.Value.type "type",data:=PySem.Data.cls { name:=sO "NoQuestion",bases:=[vR 24],mro:=[vR 49,vR 24,PySem.Value.type "ValueError",PySem.Value.type "Exception",PySem.Value.type "BaseException",PySem.Value.type "object"],ns:=48,qualname:=sO "NoQuestion" },slots:=#[YL (vR 40),Option.none,YL (vS "NoQuestion" 223),YL (vS "NoQuestion" 231),YL (PySem.Value.builtin "ValueError.__new__"),YL (PySem.Value.bool Bool.true)] }) ::
 (nat_lit 60,{ cls:=PySem.Value.type "dict",data:=PySem.Data.dict #[eN P "__module__" 246 (vS "keptnest.errors" 187),eN P "__firstlineno__" 250 (vI 8 249),eN P "__static_attributes__" 251 (vR 59),eN P "__doc__" 252 (vN)] 2 }) ::
 (nat_lit 61,{ cls:=PySem.Value.type "type",data:=PySem.Data.cls { name:=sO "NoDifference",bases:=[vR 24],mro:=[vR 61,vR 24,PySem.Value.type "ValueError",PySem.Value.type "Exception",PySem.Value.type "BaseException",PySem.Value.type "object"],ns:=60,qualname:=sO "NoDifference" },slots:=#[YL (vR 52),Option.none,YL (vS "NoDifference" 239),YL (vS "NoDifference" 247),YL (PySem.Value.builtin "ValueError.__new__"),YL (PySem.Value.bool Bool.true)] }) ::
 (nat_lit 72,{ cls:=PySem.Value.type "dict",data:=PySem.Data.dict #[eN P "__module__" 262 (vS "keptnest.errors" 187),eN P "__firstlineno__" 266 (vI 10 265),eN P "__static_attributes__" 267 (vR 71),eN P "__doc__" 268 (vN)] 2 }) ::
 (nat_lit 73,{ cls:=PySem.Value.type "type",data:=PySem.Data.cls { name:=sO "NoChange",bases:=[vR 24],mro:=[vR 73,vR 24,PySem.Value.type "ValueError",PySem.Value.type "Exception",PySem.Value.type "BaseException",PySem.Value.type "object"],ns:=72,qualname:=sO "NoChange" },slots:=#[YL (vR 64),Option.none,YL (vS "NoChange" 255),YL (vS "NoChange" 263),YL (PySem.Value.builtin "ValueError.__new__"),YL (PySem.Value.bool Bool.true)] }) ::
 (nat_lit 88,zC "__init__" "NoKind.__init__" 283 14 2 83 84 vN (vR 85) (vR 86) 87 288) ::
 (nat_lit 89,fO "__init__" "NoKind.__init__" (zM 6 0) (vS "keptnest.errors" 187) (vR 88)) ::
 (nat_lit 91,{ cls:=PySem.Value.type "dict",data:=PySem.Data.dict #[eN P "__module__" 278 (vS "keptnest.errors" 187),eN P "__firstlineno__" 282 (vI 12 281),eN P "__init__" 290 (vR 89),eN P "__static_attributes__" 292 (vR 90),eN P "__doc__" 293 (vN)] 2 }) ::
 (nat_lit 92,{ cls:=PySem.Value.type "type",data:=PySem.Data.cls { name:=sO "NoKind",bases:=[vR 24],mro:=[vR 92,vR 24,PySem.Value.type "ValueError",PySem.Value.type "Exception",PySem.Value.type "BaseException",PySem.Value.type "object"],ns:=91,qualname:=sO "NoKind" },slots:=#[YL (vR 76),Option.none,YL (vS "NoKind" 271),YL (vS "NoKind" 279),YL (PySem.Value.builtin "ValueError.__new__"),YL (PySem.Value.bool Bool.true)] }) ::
 (nat_lit 95,{ cls:=PySem.Value.type "tuple",data:=PySem.Data.seq #[vS "num" 298,vS "word" 299,vS "var" 300,vS "table" 301,vS "none" 302,vS "at" 303,vS "times" 304,vS "for" 305,vS "let" 306] }) ::
 (nat_lit 99,zC "under" "under" 308 19 1 96 97 vN vN vN 98 311) ::
 (nat_lit 100,fO "under" "under" (zT 9) (vS "keptnest.asks.questions" 296) (vR 99)) ::
 (nat_lit 104,zC "with_under" "with_under" 314 23 2 101 102 vN vN vN 103 317) ::
 (nat_lit 105,fO "with_under" "with_under" (zT 10) (vS "keptnest.asks.questions" 296) (vR 104)) ::
 (nat_lit 111,zC "knots" "knots" 320 29 1 106 107 vN (vR 108) (vR 109) 110 327) ::
 (nat_lit 112,fO "knots" "knots" (zT 11) (vS "keptnest.asks.questions" 296) (vR 111)) ::
 (nat_lit 116,zC "tables" "tables" 330 37 1 113 114 vN vN vN 115 333) ::
 (nat_lit 117,fO "tables" "tables" (zT 12) (vS "keptnest.asks.questions" 296) (vR 116)) ::
 (nat_lit 130,zC "__init__" "Walk.__init__" 350 42 1 125 126 vN (vR 127) (vR 128) 129 354) ::
 (nat_lit 131,fO "__init__" "Walk.__init__" (zM 14 0) (vS "keptnest.asks.walks" 336) (vR 130)) ::
 (nat_lit 137,zC "later" "Walk.later" 357 46 4 132 133 vN (vR 134) (vR 135) 136 364) ::
 (nat_lit 138,fO "later" "Walk.later" (zM 14 1) (vS "keptnest.asks.walks" 336) (vR 137)) ::
 (nat_lit 144,zC "tell" "Walk.tell" 367 49 2 139 140 vN (vR 141) (vR 142) 143 372) ::
 (nat_lit 145,fO "tell" "Walk.tell" (zM 14 2) (vS "keptnest.asks.walks" 336) (vR 144)) ::
 (nat_lit 149,zC "take" "Walk.take" 375 52 2 146 147 vN vN vN 148 378) ::
 (nat_lit 150,fO "take" "Walk.take" (zM 14 3) (vS "keptnest.asks.walks" 336) (vR 149)) ::
 (nat_lit 156,zC "run" "Walk.run" 381 56 1 151 152 vN (vR 153) (vR 154) 155 388) ::
 (nat_lit 157,fO "run" "Walk.run" (zM 14 4) (vS "keptnest.asks.walks" 336) (vR 156)) ::
 (nat_lit 159,{ cls:=PySem.Value.type "dict",data:=PySem.Data.dict #[eN P "__module__" 345 (vS "keptnest.asks.walks" 336),eN P "__firstlineno__" 349 (vI 40 348),eN P "__init__" 356 (vR 131),eN P "later" 366 (vR 138),eN P "tell" 374 (vR 145),eN P "take" 380 (vR 150),eN P "run" 390 (vR 157),eN P "__static_attributes__" 393 (vR 158),eN P "__dict__" 395 (vR 161),eN P "__weakref__" 397 (vR 162),eN P "__doc__" 398 (vN)] 4 }) ::
 (nat_lit 160,{ cls:=PySem.Value.type "type",data:=PySem.Data.cls { name:=sO "Walk",bases:=[PySem.Value.type "object"],mro:=[vR 160,PySem.Value.type "object"],ns:=159,qualname:=sO "Walk" },slots:=#[Option.none,Option.none,YL (vS "Walk" 338),YL (vS "Walk" 346),YL (PySem.Value.builtin "object.__new__"),YL (PySem.Value.bool Bool.true)] }) ::
 (nat_lit 170,zC "folded" "folded" 401 61 2 165 166 vN (vR 167) (vR 168) 169 407) ::
 (nat_lit 171,fO "folded" "folded" (zT 15) (vS "keptnest.asks.walks" 336) (vR 170)) ::
 (nat_lit 177,zC "unfold" "unfold" 410 65 3 172 173 vN (vR 174) (vR 175) 176 417) ::
 (nat_lit 178,fO "unfold" "unfold" (zT 16) (vS "keptnest.asks.walks" 336) (vR 177)) ::
 (nat_lit 184,zC "fold" "fold" 420 69 3 179 180 vN (vR 181) (vR 182) 183 426) ::
 (nat_lit 185,fO "fold" "fold" (zT 17) (vS "keptnest.asks.walks" 336) (vR 184)) ::
 (nat_lit 191,zC "bound" "bound" 429 71 3 186 187 vN (vR 188) (vR 189) 190 436) ::
 (nat_lit 192,fO "bound" "bound" (zT 18) (vS "keptnest.asks.walks" 336) (vR 191)) ::
 (nat_lit 196,zC "fields_of" "fields_of" 441 76 1 193 194 vN vN vN 195 444) ::
 (nat_lit 197,fO "fields_of" "fields_of" (zT 20) (vS "keptnest.data.kinds" 439) (vR 196)) ::
 (nat_lit 203,zC "alike" "alike" 447 78 2 198 199 vN (vR 200) (vR 201) 202 452) ::
 (nat_lit 204,fO "alike" "alike" (zT 21) (vS "keptnest.data.kinds" 439) (vR 203)) ::
 (nat_lit 208,zC "fits" "fits" 455 80 3 205 206 vN vN vN 207 458) ::
 (nat_lit 209,fO "fits" "fits" (zT 22) (vS "keptnest.data.kinds" 439) (vR 208)) ::
 (nat_lit 210,{ cls:=PySem.Value.type "tuple",data:=PySem.Data.seq #[vS "num" 463] }) ::
 (nat_lit 211,{ cls:=PySem.Value.type "tuple",data:=PySem.Data.seq #[vS "word" 465] }) ::
 (nat_lit 212,{ cls:=PySem.Value.type "tuple",data:=PySem.Data.seq #[vS "truth" 467] }) ::
 (nat_lit 218,zC "kind_of" "kind_of" 469 97 3 213 214 vN (vR 215) (vR 216) 217 476) ::
 (nat_lit 219,fO "kind_of" "kind_of" (zT 27) (vS "keptnest.asks.kinds" 461) (vR 218)) ::
 (nat_lit 225,zC "begin" "begin" 479 101 3 220 221 vN (vR 222) (vR 223) 224 490) ::
 (nat_lit 226,fO "begin" "begin" (zT 28) (vS "keptnest.asks.kinds" 461) (vR 225)) ::
 (nat_lit 232,zC "found_kind" "found_kind" 494 115 3 227 228 vN (vR 229) (vR 230) 231 500) ::
 (nat_lit 233,fO "found_kind" "found_kind" (zT 30) (vS "keptnest.asks.kinds" 461) (vR 232)) ::
 (nat_lit 239,zC "bind" "bind" 503 119 3 234 235 vN (vR 236) (vR 237) 238 513) ::
 (nat_lit 240,fO "bind" "bind" (zT 31) (vS "keptnest.asks.kinds" 461) (vR 239)) ::
 (nat_lit 246,zC "finish" "finish" 516 128 3 241 242 vN (vR 243) (vR 244) 245 525) ::
 (nat_lit 247,fO "finish" "finish" (zT 32) (vS "keptnest.asks.kinds" 461) (vR 246)) ::
 (nat_lit 253,zC "plain_kind" "plain_kind" 528 135 2 248 249 vN (vR 250) (vR 251) 252 533) ::
 (nat_lit 254,fO "plain_kind" "plain_kind" (zT 33) (vS "keptnest.asks.kinds" 461) (vR 253)) ::
 (nat_lit 258,zC "row_kind" "row_kind" 536 137 2 255 256 vN vN vN 257 539) ::
 (nat_lit 259,fO "row_kind" "row_kind" (zT 34) (vS "keptnest.asks.kinds" 461) (vR 258)) ::
 (nat_lit 265,zC "part_kind" "part_kind" 542 139 2 260 261 vN (vR 262) (vR 263) 264 547) ::
 (nat_lit 266,fO "part_kind" "part_kind" (zT 35) (vS "keptnest.asks.kinds" 461) (vR 265)) ::
 (nat_lit 272,zC "number_kind" "number_kind" 550 143 2 267 268 vN (vR 269) (vR 270) 271 555) ::
 (nat_lit 273,fO "number_kind" "number_kind" (zT 36) (vS "keptnest.asks.kinds" 461) (vR 272)) ::
 (nat_lit 279,zC "none_kind" "none_kind" 558 145 2 274 275 vN (vR 276) (vR 277) 278 563) ::
 (nat_lit 280,fO "none_kind" "none_kind" (zT 37) (vS "keptnest.asks.kinds" 461) (vR 279)) ::
 (nat_lit 286,zC "one_kind" "one_kind" 566 147 2 281 282 vN (vR 283) (vR 284) 285 571) ::
 (nat_lit 287,fO "one_kind" "one_kind" (zT 38) (vS "keptnest.asks.kinds" 461) (vR 286)) ::
 (nat_lit 293,zC "both_kind" "both_kind" 574 149 2 288 289 vN (vR 290) (vR 291) 292 579) ::
 (nat_lit 294,fO "both_kind" "both_kind" (zT 39) (vS "keptnest.asks.kinds" 461) (vR 293)) ::
 (nat_lit 300,zC "last_bag_kind" "last_bag_kind" 582 151 2 295 296 vN (vR 297) (vR 298) 299 587) ::
 (nat_lit 301,fO "last_bag_kind" "last_bag_kind" (zT 40) (vS "keptnest.asks.kinds" 461) (vR 300)) ::
 (nat_lit 307,zC "same_kind" "same_kind" 590 153 2 302 303 vN (vR 304) (vR 305) 306 595) ::
 (nat_lit 308,fO "same_kind" "same_kind" (zT 41) (vS "keptnest.asks.kinds" 461) (vR 307)) ::
 (nat_lit 314,zC "under_kind" "under_kind" 598 155 2 309 310 vN (vR 311) (vR 312) 313 603) ::
 (nat_lit 315,fO "under_kind" "under_kind" (zT 42) (vS "keptnest.asks.kinds" 461) (vR 314)) ::
 (nat_lit 321,zC "truth_kind" "truth_kind" 606 157 2 316 317 vN (vR 318) (vR 319) 320 611) ::
 (nat_lit 322,fO "truth_kind" "truth_kind" (zT 43) (vS "keptnest.asks.kinds" 461) (vR 321)) ::
 (nat_lit 323,{ cls:=PySem.Value.type "dict",data:=PySem.Data.dict #[eN P "num" 614 (vR 254),eN P "word" 616 (vR 254),eN P "row" 618 (vR 259),eN P "at" 620 (vR 266),eN P "add" 622 (vR 273),eN P "mul" 624 (vR 273),eN P "none" 626 (vR 280),eN P "one" 628 (vR 287),eN P "both" 630 (vR 294),eN P "times" 632 (vR 301),eN P "for" 634 (vR 301),eN P "when" 636 (vR 301),eN P "same" 638 (vR 308),eN P "under" 640 (vR 315),eN P "and" 642 (vR 322),eN P "or" 644 (vR 322),eN P "not" 646 (vR 322)] 17 }) ::
 (nat_lit 329,zC "difference" "difference" 651 161 4 324 325 vN (vR 326) (vR 327) 328 661) ::
 (nat_lit 330,fO "difference" "difference" (zT 46) (vS "keptnest.changes.differences" 649) (vR 329)) ::
 (nat_lit 336,zC "kind_of_rows" "kind_of_rows" 664 167 3 331 332 vN (vR 333) (vR 334) 335 672) ::
 (nat_lit 337,fO "kind_of_rows" "kind_of_rows" (zT 47) (vS "keptnest.changes.differences" 649) (vR 336)) ::
 (nat_lit 343,zC "begin" "begin" 675 175 3 338 339 vN (vR 340) (vR 341) 342 682) ::
 (nat_lit 344,fO "begin" "begin" (zT 48) (vS "keptnest.changes.differences" 649) (vR 343)) ::
 (nat_lit 348,zC "names_some" "names_some" 686 191 2 345 346 vN vN vN 347 689) ::
 (nat_lit 349,fO "names_some" "names_some" (zT 50) (vS "keptnest.changes.differences" 649) (vR 348)) ::
 (nat_lit 355,zC "is_none" "is_none" 692 193 1 350 351 vN (vR 352) (vR 353) 354 696) ::
 (nat_lit 356,fO "is_none" "is_none" (zT 51) (vS "keptnest.changes.differences" 649) (vR 355)) ::
 (nat_lit 360,zC "total" "total" 699 195 1 357 358 vN vN vN 359 702) ::
 (nat_lit 361,fO "total" "total" (zT 52) (vS "keptnest.changes.differences" 649) (vR 360)) ::
 (nat_lit 367,zC "both_differences" "both_differences" 705 200 3 362 363 vN (vR 364) (vR 365) 366 711) ::
 (nat_lit 368,fO "both_differences" "both_differences" (zT 53) (vS "keptnest.changes.differences" 649) (vR 367)) ::
 (nat_lit 374,zC "for_differences" "for_differences" 714 202 3 369 370 vN (vR 371) (vR 372) 373 725) ::
 (nat_lit 375,fO "for_differences" "for_differences" (zT 54) (vS "keptnest.changes.differences" 649) (vR 374)) ::
 (nat_lit 381,zC "made_for" "made_for" 728 206 3 376 377 vN (vR 378) (vR 379) 380 734) ::
 (nat_lit 382,fO "made_for" "made_for" (zT 55) (vS "keptnest.changes.differences" 649) (vR 381)) ::
 (nat_lit 383,{ cls:=PySem.Value.type "dict",data:=PySem.Data.dict #[eN P "both" 737 (vR 368),eN P "for" 738 (vR 375)] 2 }) ::
 (nat_lit 389,zC "wrap" "wrap" 742 209 3 384 385 vN (vR 386) (vR 387) 388 749) ::
 (nat_lit 390,fO "wrap" "wrap" (zT 57) (vS "keptnest.changes.differences" 649) (vR 389)) ::
 (nat_lit 396,zC "behind_less_ahead" "behind_less_ahead" 752 212 2 391 392 vN (vR 393) (vR 394) 395 757) ::
 (nat_lit 397,fO "behind_less_ahead" "behind_less_ahead" (zT 58) (vS "keptnest.changes.differences" 649) (vR 396)) ::
 (nat_lit 403,zC "behind" "behind" 760 214 2 398 399 vN (vR 400) (vR 401) 402 767) ::
 (nat_lit 404,fO "behind" "behind" (zT 59) (vS "keptnest.changes.differences" 649) (vR 403)) ::
 (nat_lit 417,zC "_law_seed" "_law_seed" 780 226 1 412 413 vN (vR 414) (vR 415) 416 785) ::
 (nat_lit 418,fO "_law_seed" "_law_seed" (zT 62) (vS "law_keptnest_k28_no_difference" 770) (vR 417)) ::
 (nat_lit 424,zC "_law_draw" "_law_draw" 788 229 2 419 420 vN (vR 421) (vR 422) 423 795) ::
 (nat_lit 425,fO "_law_draw" "_law_draw" (zT 63) (vS "law_keptnest_k28_no_difference" 770) (vR 424)) ::
 (nat_lit 429,zC "_law_key" "_law_key" 798 238 1 426 427 vN vN vN 428 801) ::
 (nat_lit 430,fO "_law_key" "_law_key" (zT 64) (vS "law_keptnest_k28_no_difference" 770) (vR 429)) ::
 (nat_lit 434,zC "_law_bag" "_law_bag" 804 244 1 431 432 vN vN vN 433 807) ::
 (nat_lit 435,fO "_law_bag" "_law_bag" (zT 65) (vS "law_keptnest_k28_no_difference" 770) (vR 434)) ::
 (nat_lit 465,zC "_law_value" "_law_value" 853 307 3 462 463 vN vN vN 464 856) ::
 (nat_lit 466,fO "_law_value" "_law_value" (zT 70) (vS "law_keptnest_k28_no_difference" 770) (vR 465)) ::
 (nat_lit 472,zC "_law_kinds" "_law_kinds" 859 320 0 467 468 vN (vR 469) (vR 470) 471 864) ::
 (nat_lit 473,fO "_law_kinds" "_law_kinds" (zT 71) (vS "law_keptnest_k28_no_difference" 770) (vR 472)) ::
 (nat_lit 486,zC "_law_seen" "_law_seen" 877 330 1 481 482 vN (vR 483) (vR 484) 485 884) ::
 (nat_lit 487,fO "_law_seen" "_law_seen" (zT 73) (vS "law_keptnest_k28_no_difference" 770) (vR 486)) ::
 (nat_lit 491,zC "_law_held" "_law_held" 887 336 2 488 489 vN vN vN 490 890) ::
 (nat_lit 492,fO "_law_held" "_law_held" (zT 74) (vS "law_keptnest_k28_no_difference" 770) (vR 491)) ::
 (nat_lit 496,zC "_law_small" "_law_small" 893 344 4 493 494 vN vN vN 495 896) ::
 (nat_lit 497,fO "_law_small" "_law_small" (zT 75) (vS "law_keptnest_k28_no_difference" 770) (vR 496)) ::
 (nat_lit 503,zC "_law_claim" "_law_claim" 899 356 3 498 499 vN (vR 500) (vR 501) 502 909) ::
 (nat_lit 504,fO "_law_claim" "_law_claim" (zT 76) (vS "law_keptnest_k28_no_difference" 770) (vR 503)) ::
 (nat_lit 508,zC "_law_over" "_law_over" 912 369 3 505 506 vN vN vN 507 915) ::
 (nat_lit 509,fO "_law_over" "_law_over" (zT 77) (vS "law_keptnest_k28_no_difference" 770) (vR 508)) ::
 (nat_lit 513,zC "_law_taken" "_law_taken" 918 382 4 510 511 vN vN vN 512 921) ::
 (nat_lit 514,fO "_law_taken" "_law_taken" (zT 78) (vS "law_keptnest_k28_no_difference" 770) (vR 513)) ::
 (nat_lit 518,zC "_law_asked" "_law_asked" 924 388 4 515 516 vN vN vN 517 927) ::
 (nat_lit 519,fO "_law_asked" "_law_asked" (zT 79) (vS "law_keptnest_k28_no_difference" 770) (vR 518)) ::
 (nat_lit 546,zC "_law_stock" "_law_stock" 964 441 1 541 542 vN (vR 543) (vR 544) 545 971) ::
 (nat_lit 547,fO "_law_stock" "_law_stock" (zT 83) (vS "law_keptnest_k28_no_difference" 770) (vR 546)) ::
 (nat_lit 553,zC "_law_names" "_law_names" 974 447 2 548 549 vN (vR 550) (vR 551) 552 981) ::
 (nat_lit 554,fO "_law_names" "_law_names" (zT 84) (vS "law_keptnest_k28_no_difference" 770) (vR 553)) ::
 (nat_lit 560,zC "_law_question" "_law_question" 984 453 1 555 556 vN (vR 557) (vR 558) 559 990) ::
 (nat_lit 561,fO "_law_question" "_law_question" (zT 85) (vS "law_keptnest_k28_no_difference" 770) (vR 560)) ::
 (nat_lit 567,zC "_law_no_bag" "_law_no_bag" 993 457 2 562 563 vN (vR 564) (vR 565) 566 1000) ::
 (nat_lit 568,fO "_law_no_bag" "_law_no_bag" (zT 86) (vS "law_keptnest_k28_no_difference" 770) (vR 567)) ::
 (nat_lit 574,zC "_law_kinds_of" "_law_kinds_of" 1003 471 2 569 570 vN (vR 571) (vR 572) 573 1011) ::
 (nat_lit 575,fO "_law_kinds_of" "_law_kinds_of" (zT 87) (vS "law_keptnest_k28_no_difference" 770) (vR 574)) ::
 (nat_lit 581,zC "law" "law" 1014 480 1 576 577 vN (vR 578) (vR 579) 580 1025) ::
 (nat_lit 582,fO "law" "law" (zT 88) (vS "law_keptnest_k28_no_difference" 770) (vR 581))::[]
def zA:List Addr:=[3,4,23,24,36,37,48,49,60,61,72,73,88,89,91,92,95,99,100,104,105,111,112,116,117,130,131,137,138,144,145,149,150,156,157,159,160,170,171,177,178,184,185,191,192,196,197,203,204,208,209,210,211,212,218,219,225,226,232,233,239,240,246,247,253,254,258,259,265,266,272,273,279,280,286,287,293,294,300,301,307,308,314,315,321,322,323,329,330,336,337,343,344,348,349,355,356,360,361,367,368,374,375,381,382,383,389,390,396,397,403,404,417,418,424,425,429,430,434,435,465,466,472,473,486,487,491,492,496,497,503,504,508,509,513,514,518,519,546,547,553,554,560,561,567,568,574,575,581,582]
def zV:Program:={ PySem.Challenge.pw_keptnest_k28_no_difference with main:={ PySem.Challenge.pw_keptnest_k28_no_difference.main with body:=[1,2,3,4,5,6,8,9,10,11,12,14,15,16,17,18,20,21,22,24,25,26,27,29,30,31,32,33,34,35,36,37,38,39,40,41,42,43,44,46,47,48,49,50,51,52,53,54,55,56,57,58,59,61,62,63,64,65,66,67,68,69,70,71,72,73,74,75,76,77,78,79,80,81,82,83,84,85,86,87,88].filterMap λi=>PySem.Challenge.pw_keptnest_k28_no_difference.main.body[i]? } }
theorem zE:∀P,zA=(zK P).map (·.1):=λ_=>rfl
def zTs:List Addr:=[199,399]
def zL:List PySem.Str:=["begin_kinds","FINISHED","begin_differences","SUMS"]
end K28
end
section
namespace Hq
open PySem PySem.W
def mK (st:SharedT->Thread->Option (SharedT×Thread)) (ok:Thread->Bool):Nat->SharedT->Thread->Option SharedT
 | 0,_,_=>none
 |n+1,s,t=>match through t with
  |true=>some s
  |false=>match ok t with
   |false=>none
   |true=>match st s t with
    |some (s',t')=>mK st ok n s' t'
    |none=>none
theorem vx {tb:String->Option Builtin}{p:Program}{w:World}{n₀:Nat}{pW:Option Value}:∀{n:Nat}{s s':SharedT}{t:Thread},mK (stepT (denote tb) p w) (stepOk n₀ pW) n s t=some s'->topRun tb p w n₀ pW n s.abs t=some s'.abs
 | 0,_,_,_,h=>by cases h
 |n+1,s,s',t,h=>by
  unfold mK at h;unfold topRun;cases he:through t with
  |true=>rw[he]at h;cases h;rfl
  |false=>
   rw[he]at h;cases hk:stepOk n₀ pW t with
   |false=>rw[hk]at h;cases h
   |true=>
    rw[hk]at h;cases hs:stepT (denote tb) p w s t with
    |none=>rw[hs]at h;cases h
    |some r=>obtain⟨s₂,t₂⟩:=r;rw[hs]at h;rw[stepT_spec hs];exact vx h
def mL:List Obj->BT->Nat->Option (BT×Nat)
 |[],t,n=>some (t,n)
 |o::l,t,n=>match ((t.ins n o).get n).isSome with
  |true=>mL l (t.ins n o) (n+1)
  |false=>none
theorem vy {life:Life}:∀{l:List Obj}{t t':BT}{n n':Nat},mL l t n=some (t',n')->absHeap t' n' life=⟨(absHeap t n life).objs++l.toArray,life⟩
 |[],t,t',n,n',h=>by cases h;simp;rfl
 |o::l,t,t',n,n',h=>by
  unfold mL at h;cases e:((t.ins n o).get n).isSome with
  |false=>rw[e]at h;cases h
  |true=>
   rw[e]at h;rw[vy h,absHeap_ins e];unfold Heap.push;simp
def vz (s:Shared):Option SharedT:=(mL s.heap.objs.toList .nil 0).map λx=>⟨x.1,x.2,s.heap.life,s.gens,s.drawn,s.toks,s.os⟩
theorem Dv {s:Shared}{T:SharedT} (h:vz s=some T):T.abs=s:=by
 obtain⟨x,a,b⟩:=Option.map_eq_some_iff.mp h;obtain⟨t,n⟩:=x;cases b;have:=vy (life:=s.heap.life) a;unfold SharedT.abs;obtain⟨⟨objs,life⟩,gens,drawn,toks,os⟩:=s;simp only at this ⊢;rw[this];simp [absHeap,BT.list]
def pX (st:SharedT->Thread->Option (SharedT×Thread)) (sk:Nat->Option Value->Thread->Bool) (p:Program) (N:Nat) {β:Type} (F:Shared->β) (s₀:Shared):Option β:=
 match s₀.heap.isNs mainGlobals && s₀.gens.size == 0 with
 | true=>(vz s₀).bind λT₀=>(mK st (sk s₀.heap.objs.size (s₀.heap.nsMap mainGlobals "__annotations__")) N T₀ (topStub p)).bind λT₁=>match staticsOk (importedModules p.main.body) s₀.heap T₁.abs.heap && namesBound p T₁.abs.heap && gensDone T₁.abs && laidKept s₀.heap T₁.abs.heap with
   |true=>some (F T₁.abs)
   |false=>none
 |false=>none
theorem Dw {tb:String->Option Builtin}{p:Program}{w:World}{N:Nat} {β:Type} {F:Shared->β}{s₀:Shared}{y:β} (h:pX (stepT (denote tb) p w) stepOk p N F s₀=some y):(topFrom tb p w N s₀).map F=some y:=by
 unfold pX at h;unfold topFrom;cases e:(s₀.heap.isNs mainGlobals && s₀.gens.size == 0) with
 |false=>rw[e]at h;cases h
 |true=>
  rw[e]at h;obtain⟨T₀,a,h⟩:=Option.bind_eq_some_iff.mp h;obtain⟨T₁,b,h⟩:=Option.bind_eq_some_iff.mp h;have b':=vx b;rw[Dv a]at b';dsimp only;rw[b'];dsimp only[Option.bind_some];cases q:(staticsOk (importedModules p.main.body) s₀.heap T₁.abs.heap && namesBound p T₁.abs.heap && gensDone T₁.abs && laidKept s₀.heap T₁.abs.heap) with
  |false=>rw[q]at h;cases h
  |true=>rw[q]at h;exact h
def mM (WO:Program->World->Nat->Shared->Thread->Option Shared) (sr:Program->Shared×Thread) (WQ:Program->Shared->Option Shared) (st:Program->World->SharedT->Thread->Option (SharedT×Thread)) (sk:Nat->Option Value->Thread->Bool) (p:Program) {β:Type} (F:Shared->β) (y:World->β) (N:Nat) (row:String) (b:Bool):Prop:=
 ∀w:World,((WO (opening p) w N (sr (opening p)).1 (sr (opening p)).2).bind (WQ p)).bind (pX (st p (w.withFollow row b)) sk p N F)=some (y (w.withFollow row b))
theorem mM.to {p:Program} {β:Type} {F:Shared->β}{y:World->β}{N:Nat}{row:String}{b:Bool} (h:mM (importEnds treeTable) start fenceModules? (stepT (denote treeTable)) stepOk p F y N row b) (w:World):(fencedOpening treeTable p w N).map (λs₀=>(topFrom treeTable p (w.withFollow row b) N s₀).map F)=some (some (y (w.withFollow row b))):=by
 obtain⟨s₀,a,e⟩:=Option.bind_eq_some_iff.mp (h w);unfold fencedOpening;rw[a,Option.map_some,Dw e]
open Fast in
abbrev fJ {β:Type} (p:Program) (F:Shared->β) (y:World->β) (N:Nat) (row:String) (b:Bool):Prop:=mM (tw10274390034422433532 tw14364793385576792824) tw1435165496053646825 tw14289696077712309145 (tw10156331382660048174 (tw11892475500146522536 tw14364793385576792824)) tw6613529449190102663 p F y N row b
open Fast in
theorem fJ.to {p:Program} {β:Type} {F:Shared->β}{y:World->β}{N:Nat}{row:String}{b:Bool} (h:fJ p F y N row b):mM (importEnds treeTable) start fenceModules? (stepT (denote treeTable)) stepOk p F y N row b:=by
 rw[te10274390034422433532,te14364793385576792824,te1435165496053646825,te14289696077712309145,te10156331382660048174,te11892475500146522536,te6613529449190102663];exact h
open Fast in
theorem fJ.dX {p q:Program}{loose:List PySem.Str}{Xt:Shared->Bool} {α:Type} {Yf:Shared->α}{Ya:World->α}{N:Nat}{row:String}{b:Bool} (h:fJ p (openSeen q loose (importedModules p.main.body) Xt true) (λ_=>openGood q loose) N row b) (h':fJ p Yf Ya N row b):kn p q loose Xt Yf Ya N row b:=λw=>by
 have a:=h.to.to w;have b':=h'.to.to w;obtain⟨s₀,e,a⟩:=Option.map_eq_some_iff.mp a;rw[e,Option.map_some]at b' ⊢;obtain⟨s₁,e',a⟩:=Option.map_eq_some_iff.mp a;rw[e',Option.map_some]at b' ⊢;rw[a,YY (YY b')]
end Hq
end
section
set_option maxHeartbeats 0
namespace K28
open PySem Hq
theorem Dx:fJ PySem.Challenge.pw_keptnest_k28_no_difference (PySem.W.openSeen zV zL (importedModules PySem.Challenge.pw_keptnest_k28_no_difference.main.body) (λs=>PySem.W.xlAt zV [] s && PySem.W.recOk (PySem.W.RowW.records (PySem.W.OpenRow.toRowW PySem.Challenge.rw_keptnest_k28_no_difference.row)) s) true) (λ_=>PySem.W.openGood zV zL) 8390 "special-get-raises" false:=by
 intro w
 kernel_rfl
theorem Dy:fJ PySem.Challenge.pw_keptnest_k28_no_difference (PySem.W.Hook.obs (PySem.W.kmHook zK zA zE zTs)) (PySem.W.Hook.val (PySem.W.kmHook zK zA zE zTs)) 8390 "special-get-raises" false:=by
 intro w
 kernel_rfl
theorem zR_false:kn PySem.Challenge.pw_keptnest_k28_no_difference zV zL (λs=>PySem.W.xlAt zV [] s && PySem.W.recOk (PySem.W.RowW.records (PySem.W.OpenRow.toRowW PySem.Challenge.rw_keptnest_k28_no_difference.row)) s) (PySem.W.Hook.obs (PySem.W.kmHook zK zA zE zTs)) (PySem.W.Hook.val (PySem.W.kmHook zK zA zE zTs)) 8390 "special-get-raises" false:=Dx.dX Dy
theorem Dz:fJ PySem.Challenge.pw_keptnest_k28_no_difference (PySem.W.openSeen zV zL (importedModules PySem.Challenge.pw_keptnest_k28_no_difference.main.body) (λs=>PySem.W.xlAt zV [] s && PySem.W.recOk (PySem.W.RowW.records (PySem.W.OpenRow.toRowW PySem.Challenge.rw_keptnest_k28_no_difference.row)) s) true) (λ_=>PySem.W.openGood zV zL) 8390 "special-get-raises" true:=by
 intro w
 kernel_rfl
theorem DB:fJ PySem.Challenge.pw_keptnest_k28_no_difference (PySem.W.Hook.obs (PySem.W.kmHook zK zA zE zTs)) (PySem.W.Hook.val (PySem.W.kmHook zK zA zE zTs)) 8390 "special-get-raises" true:=by
 intro w
 kernel_rfl
theorem zR_true:kn PySem.Challenge.pw_keptnest_k28_no_difference zV zL (λs=>PySem.W.xlAt zV [] s && PySem.W.recOk (PySem.W.RowW.records (PySem.W.OpenRow.toRowW PySem.Challenge.rw_keptnest_k28_no_difference.row)) s) (PySem.W.Hook.obs (PySem.W.kmHook zK zA zE zTs)) (PySem.W.Hook.val (PySem.W.kmHook zK zA zE zTs)) 8390 "special-get-raises" true:=Dz.dX DB
theorem zS:PySem.Challenge.rw_keptnest_k28_no_difference.wellSaid=true:=by kernel_rfl
end K28
end
section
namespace L2
open PySem PySem.Spec PyProof.Rows
abbrev Key:=Sum Int Str
noncomputable def e7:Key->Value->Bool
 |.inl k,v=>Value.isInt k v
 |.inr x,v=>Value.isStrOf x v
noncomputable def DC (w:World):Key->Int
 |.inl k=>hashInt k
 |.inr x=>hashStr w x
theorem dY:∀{k:Key}{v:Value},e7 k v=true->(∃i t,k=Sum.inl i/\v=Value.int i t)\/(∃x t,k=Zs x/\v=Value.str x t)
 |.inl i,v,h=>by
  obtain⟨t,e⟩:=Value.isInt_shape (k:=i) (v:=v) h;exact .inl ⟨i,t,rfl,e⟩
 |.inr x,v,h=>by
  obtain⟨t,e⟩:=Value.isStrOf_shape (x:=x) (v:=v) h;exact .inr ⟨x,t,rfl,e⟩
theorem DD (i:Int) (t:Tok):e7 (.inl i) (.int i t)=true:=by simp [e7,Value.isInt]
theorem pY (x:Str) (t:Tok):e7 (.inr x) (.str x t)=true:=by simp [e7,Value.isStrOf]
theorem DH (a b:Int):decide ((Sum.inl a:Key)=Sum.inl b)=(a == b):=by
 by_cases e:a=b
 ·subst e;simp
 ·have h:¬(Sum.inl a:Key)=Sum.inl b:=λq=>e (Sum.inl.inj q);rw[decide_eq_false h];exact (beq_eq_false_iff_ne.mpr e).symm
theorem DJ (a b:Str):decide ((Zs a:Key)=Zs b)=decide (a=b):=by
 by_cases e:a=b
 ·subst e;simp
 ·have h:¬(Zs a:Key)=Zs b:=λq=>e (aap q);rw[decide_eq_false h,decide_eq_false e]
theorem DL (a:Int) (b:Str):decide ((Sum.inl a:Key)=Zs b)=false:=decide_eq_false (λq=>nomatch q)
theorem DM (a:Str) (b:Int):decide ((Zs a:Key)=Sum.inl b)=false:=decide_eq_false (λq=>nomatch q)
noncomputable def bw (prog:Program) (w:World):PySem.KeyKind prog w Key where
 is:=e7
 hash:=DC w
 inj:=λv a b ha hb=>by
  rcases dY ha with ⟨i,t,rfl,rfl⟩ |⟨x,t,rfl,rfl⟩
  ·rcases dY hb with ⟨j,u,rfl,e⟩ |⟨y,u,rfl,e⟩
   ·injection e with e1 _;rw[e1]
   ·exact nomatch e
  ·rcases dY hb with ⟨j,u,rfl,e⟩ |⟨y,u,rfl,e⟩
   ·exact nomatch e
   ·injection e with e1 _;rw[e1]
 byValue:=λk v h=>by
  rcases dY h with ⟨i,t,rfl,rfl⟩ |⟨x,t,rfl,rfl⟩ <;> rfl
 pyHash:=λhv h=>by
  rcases dY hv with ⟨i,t,rfl,rfl⟩ |⟨x,t,rfl,rfl⟩
  ·exact wpAny_pyHash_int h
  ·exact wpAny_pyHash_str h
 eqBool:=λhu hv h=>by
  rcases dY hu with ⟨i,t,rfl,rfl⟩ |⟨x,t,rfl,rfl⟩
  ·rcases dY hv with ⟨j,u,rfl,rfl⟩ |⟨y,u,rfl,rfl⟩
   ·rw[DH]at h;exact wpAny_eqBool_int h
   ·rw[DL]at h;exact SeqAt.EqAt.int_str i t y u _ _ _ _ h
  ·rcases dY hv with ⟨j,u,rfl,rfl⟩ |⟨y,u,rfl,rfl⟩
   ·rw[DM]at h;exact SeqAt.EqAt.str_int x t j u _ _ _ _ h
   ·rw[DJ]at h;exact wpAny_eqBool_str h
 «strs»:=λk x t v h=>by
  rcases dY h with ⟨i,u,rfl,e⟩ |⟨y,u,rfl,e⟩
  ·exact nomatch e
  ·injection e with e1 _;subst e1;cases v <;> rfl
end L2
namespace L2
open PySem PySem.Spec PyProof.Rows
def dZ (sc:Scope) (x:Str):Prop:=sc.names.lookup x=some .local\/sc.names.lookup x=some .cell\/sc.names.lookup x=some .free
def hU (sc:Scope) (x:Str):Prop:=sc.names.lookup x=some .local\/sc.names.lookup x=some .cell
def i' (env:Env) (h:Heap) (m:Str->Option Value) (x:Str) (u:Value):Prop:=
 (env.kindOf x=some .local/\m x=some u)\/((env.kindOf x=some .cell\/env.kindOf x=some .free)/\∃c,env.cells.lookup x=some c/\h.IsCell c (some u))
section
variable {X:Cx}{aO:List (Addr×Obj)} {σ:List (Option V)} {H XG:Hp}{s:Shared}{h':Heap}
theorem vA {N:List Str} (hN:N.Nodup) {i j:Nat}{x:Str} (a:N[i]?=some x) (b:N[j]?=some x):i=j:=by
 obtain⟨h1,e1⟩:=List.getElem?_eq_some_iff.mp a;obtain⟨h2,e2⟩:=List.getElem?_eq_some_iff.mp b;exact (List.getElem_inj hN).mp (e1.trans e2.symm)
end
end L2
namespace L2
open PySem PySem.Spec PyProof.Rows
theorem mO {M:Model}{A:Around}{E:Value->Shared->Prop}{s:Shared}{tg:Expr}{it:Addr}{u:Value}{o:Obj}{n:String}{vs:Array Value}{Q:Unit->Shared->Prop} (ho:s.heap.get? it=some o) (hc:o.cls=.type n) (hd:o.data=.fields vs)
    (hn:["enumerate","zip","dict_itemiterator","dict_reverseitemiterator","odict_iterator","itertools.zip_longest","itertools.pairwise"].contains n=false) (hQ:Q () s):wpAny M A (letOwnedTupleGo tg (.ref it) u) Q E s:=by
  unfold letOwnedTupleGo;cases tg <;> first
    |exact Yl hQ
    | (cases u <;> first
        |exact Yl hQ
        | (refine Yj (wpAny_load ho ?_)
           rw[hc,hd];show wpAny M A (if (["enumerate","zip","dict_itemiterator","dict_reverseitemiterator","odict_iterator","itertools.zip_longest","itertools.pairwise"].contains n && vs[0]? == some (rawInt _))=true then _ else _) Q E s
           rw[if_neg (by intro h;rw[hn,Bool.false_and]at h;cases h)];exact Yl hQ))
end L2
namespace L2
open PySem PySem.Spec PyProof.Rows
end L2
namespace L2
open PySem PySem.Spec PyProof.Rows
section
variable {prog:Program}{w:World}{A:Around}{E:Value->Shared->Prop}{s:Shared}
theorem pZ {J t:Addr}{i:Nat}{its:Array Value}{x:Value}{Q:Value->Shared->Prop} (hJ:s.heap.IsTupleIter J t i) (ht:s.heap.IsTuple t its) (hx:its[i]?=some x)
  (q:∀h',h'.IsTupleIter J t (i+1)->ZM J s.heap h'->Q x { s with heap:=h' }):wpAny (model prog w) A (YX (.ref J)) Q E s:=by
 obtain⟨ob,h1,h2,h3⟩:=id hJ;obtain⟨WR,g1,_,nt,g2⟩:=ht;unfold YX;refine Yj (YM (name:=Zw "__next__") hJ.typeIs F.slot_tuple_iterator_next (YQ F.slot_tuple_iterator_next hJ.typeIs F.entry_tuple_iterator_next ?_ (F.args_tuple_iterator_next_1 _)));show wpAny _ _ (field (.ref J) 0 >>= _) _ _ s;refine Yj (YU h1 h3 (x:=.ref t) rfl ?_);show wpAny _ _ (if (YF t == Y6)=true then _ else _) _ _ s
 rw[if_neg (show ¬((YF t == Y6)=true) from λz=>Y0 z)];show wpAny _ _ (field (.ref J) 1 >>= _) _ _ s;refine Yj (YU h1 h3 (x:=.int i 0) rfl ?_);show wpAny _ _ (seqItems? (.ref t) >>= _) _ _ s;refine Yj (ZR g1 g2 ?_);simp only[aak,hx];refine Yj (Z7 h1 h3 (by simp) (Yl ⟨x,rfl,Yl (q _ ?a (YO ..))⟩));exact⟨_,YK _ h1 (aad (ZG h3 _)),Eq.trans (Obj.cls_mapFields ..) h2,by rw[ZG h3] <;> simp [rawInt]⟩
theorem mP {J t:Addr}{i:Nat}{its:Array Value}{Q:Value->Shared->Prop} (hh:A.handled=none) (hJ:s.heap.IsTupleIter J t i) (ht:s.heap.IsTuple t its) (hx:its[i]?=none)
  (q:∀h' e,aab J s.heap h'->(∃o,h'.get? e=some o/\o.cls=.type "StopIteration")->E (.ref e) { s with heap:=h' }):wpAny (model prog w) A (YX (.ref J)) Q E s:=by
 obtain⟨ob,h1,h2,h3⟩:=id hJ;obtain⟨WR,g1,_,nt,g2⟩:=ht;unfold YX;refine Yj (YM (name:=Zw "__next__") hJ.typeIs F.slot_tuple_iterator_next (YQ F.slot_tuple_iterator_next hJ.typeIs F.entry_tuple_iterator_next ?_ (F.args_tuple_iterator_next_1 _)));show wpAny _ _ (field (.ref J) 0 >>= _) _ _ s;refine Yj (YU h1 h3 (x:=.ref t) rfl ?_);show wpAny _ _ (if (YF t == Y6)=true then _ else _) _ _ s
 rw[if_neg (show ¬((YF t == Y6)=true) from λz=>Y0 z)];show wpAny _ _ (field (.ref J) 1 >>= _) _ _ s;refine Yj (YU h1 h3 (x:=.int i 0) rfl ?_);show wpAny _ _ (seqItems? (.ref t) >>= _) _ _ s;refine Yj (ZR g1 g2 ?_);simp only[aak,hx];refine Yj (wpAny_rule (Yj (Z7 h1 h3 (by simp) ?_)));show wpAny _ _ (newExc (.type "StopIteration") [] >>= _) _ _ _;refine Yj ?_;simp only[newExc,newTuple];refine Yj (YV ?_ (by size_fits));refine Yj (m:=firstArgMember _ _) (wpAny_of_eq (a:=Y6) (by first |rfl |(simp only[firstArgMember] <;> rfl)) ?_)
 refine YV ?_ (by size_fits);simp only[raiseNew];refine Yj (wpAny_handled ?_)
 first |rw[show A.in1.handled=none from hh] |rw[hh]
 refine Yj (Yl (wpAny_throw (q _ _ ?_ ⟨_,Yp _ rfl,rfl⟩)));exact ((YO ..).extBut.push _).push _
def cb (q:Bool) (h:Heap) (a:Addr) (xs:Array Value):Prop:=match q with
 |true=>h.IsTuple a xs
 |false=>h.IsList a xs
noncomputable abbrev fK (q:Bool):String:=match q with
 |true=>"tuple_iterator"
 |false=>"list_iterator"
def dG (q:Bool) (h:Heap) (J t:Addr) (i:Nat):Prop:=∃o,h.get? J=some o/\o.cls=.type (fK q)/\o.data=.fields #[.ref t,.int i 0]
theorem dG.extBut {q:Bool}{h h':Heap}{J t c:Addr}{i:Nat} (x:dG q h J t i) (e:aab c h h') (n:J≠c):dG q h' J t i:=
 let ⟨o,a,b⟩:=x;⟨o,e _ _ n a,b⟩
theorem cb.extBut {q:Bool}{h h':Heap}{t c:Addr}{xs:Array Value} (x:cb q h t xs) (e:aab c h h') (n:t≠c):cb q h' t xs:=by
 cases q
 ·exact Heap.IsList.extBut x e n
 ·exact Heap.IsTuple.extBut x e n
theorem p0 {q:Bool}{J t:Addr}{i:Nat}{its:Array Value}{x:Value}{Q:Value->Shared->Prop} (hJ:dG q s.heap J t i) (ht:cb q s.heap t its) (hx:its[i]?=some x)
  (h:∀h',dG q h' J t (i+1)->ZM J s.heap h'->Q x { s with heap:=h' }):wpAny (model prog w) A (YX (.ref J)) Q E s:=by
 cases q
 ·exact wpAny_nextOf_list_item hJ ht hx h
 ·exact pZ hJ ht hx h
theorem vB {q:Bool}{J t:Addr}{i:Nat}{its:Array Value}{Q:Value->Shared->Prop} (hh:A.handled=none) (hJ:dG q s.heap J t i) (ht:cb q s.heap t its) (hx:its[i]?=none)
  (h:∀h' e,aab J s.heap h'->(∃o,h'.get? e=some o/\o.cls=.type "StopIteration")->E (.ref e) { s with heap:=h' }):wpAny (model prog w) A (YX (.ref J)) Q E s:=by
 cases q
 ·exact wpAny_nextOf_list_end hh hJ ht hx h
 ·exact mP hh hJ ht hx h
theorem cb.lt {q:Bool}{h:Heap}{t:Addr}{xs:Array Value} (x:cb q h t xs):t<h.objs.size:=by
 cases q <;> (obtain⟨_,e,_⟩:=x;exact Yw e)
end
end L2
namespace L2
open PySem PySem.Spec PyProof.Rows
theorem _root_.PySem.Draws.tuple {prog:Program}{w:World}{A:Around} (hh:A.handled=none) (it l:Addr) (cH:l≠it) (items:Array Value) :
  Draws prog w A it [it,l] items.size (λi v=>items[i]?=some v) (λi h=>h.IsTupleIter it l i/\h.IsTuple l items) where
 live:=λ_ _ st=>let ⟨o,ho,_⟩:=st.1;⟨o,ho⟩
 frame:=λ_ _ _ st hk=>⟨st.1.at λo e=>hk it (by simp) o e,st.2.at λo e=>hk l (by simp) o e⟩
 item:=λi s Q E hi st hQ=>by
  refine pZ st.1 st.2 (x:=items[i]) (by simp [hi]) λh' p6 e8=>?_;exact hQ _ h' s.toks (by simp [hi]) ⟨p6,st.2.extBut e8.extBut cH⟩ e8
 done:=λs Q E st WS=>mP hh st.1 st.2 (by simp) WS
section
open AutoSeq1 (wpAny_loadPart')
theorem DN (l:Addr) (items:Array Value) (n:Nat) (ak:Option Addr) (sl:Array (Option Value)) :
  Meets (Builtin.«enumerate.__new__» ⟨[.type "enumerate",.ref l],[]⟩) (λ_ R s=>s.heap.get? l=some { cls:=.type "tuple",dict:=ak,data:=.seq items n,slots:=sl } /\
   R (.ok (.ret (.ref (s.heap.push { cls:=.type "tuple_iterator",data:=.fields #[.ref l,.int 0 0] }).objs.size)))
    { s with heap:=(s.heap.push { cls:=.type "tuple_iterator",data:=.fields #[.ref l,.int 0 0] }).push { cls:=.type "enumerate",data:=.fields #[.none,.bool false,.ref s.heap.objs.size,rawInt 0,.none,.none] } }):=
 .of_wp λprog w A R s h=>by
  obtain⟨hp,g,d,tk,os⟩:=s;obtain⟨hl,h⟩:=h;have hsub:=sub_enumerate;have hL:Heap.IsTuple (Shared.heap ⟨hp,g,d,tk,os⟩) l items:=⟨_,hl,rfl,n,rfl⟩
  wp_walk using YC hl
  refine wpAny_stack_any λst=>Yl ?_;split
  ·rename_i c _ _ _ _ _;cases (c == aac "enumerate")
   ·wp_walk using YC hl,aah hL
    exact⟨_,rfl,h⟩
   ·wp_walk using YC hl,aah hL
    exact⟨_,rfl,h⟩
  ·wp_walk using YC hl,aah hL
   exact⟨_,rfl,h⟩
end
section
variable {prog:Program}{w:World}{A:Around}{E:Value->Shared->Prop}{s:Shared}
theorem DP {l:Addr}{items:Array Value}{Q:Value->Shared->Prop} (hL:IsTup s.heap l items)
  (h:∀h',IsEnum h' (s.heap.objs.size+1) s.heap.objs.size 0 .none->h'.IsTupleIter s.heap.objs.size l 0->h'.objs.size=s.heap.objs.size+2 ->
   (∀b o,s.heap.get? b=some o->h'.get? b=some o)->Q (.ref (s.heap.objs.size+1)) { s with heap:=h' }) :
  wpAny (model prog w) A (call (.type "enumerate") [.ref l]) Q E s:=by
 obtain⟨⟨c,ak,UJ,sl⟩,hl,hc,n,hd⟩:=hL;replace hc:c=.type "tuple":=hc;replace hd:UJ=.seq items n:=hd;subst hc hd;refine callType_new F.called_enumerate (by decide) (F.typeCall_enumerate_1 _) (F.newCall_enumerate_1 _) (λobj=>F.args_object_init_2 obj _) F.entry_enumerate_new
  (DN l items n ak sl) ⟨hl,?_⟩
 have hz:(s.heap.push { cls:=.type "tuple_iterator",data:=.fields #[.ref l,.int 0 0] }).objs.size=s.heap.objs.size+1:=YR ..;show _/\_;rw[hz];have he:IsEnum ((s.heap.push { cls:=.type "tuple_iterator",data:=.fields #[.ref l,.int 0 0] }).push
   { cls:=.type "enumerate",data:=.fields #[.none,.bool false,.ref s.heap.objs.size,rawInt 0,.none,.none] }) (s.heap.objs.size+1) s.heap.objs.size 0 .none:=by
  have:=Yp (s.heap.push { cls:=.type "tuple_iterator",data:=.fields #[.ref l,.int 0 0] })
   (o:={ cls:=.type "enumerate",data:=.fields #[.none,.bool false,.ref s.heap.objs.size,rawInt 0,.none,.none] }) rfl
  rw[hz]at this;exact this
 refine⟨⟨_,he,rfl⟩,h _ he ⟨_,Yk _ (Yp _ rfl),rfl,rfl⟩ (by rw[YR,hz]) λb o x=>Yk _ (Yk _ x)⟩
theorem DQ {e it l:Addr}{i:Nat}{items:Array Value}{old:Value}{Q:Option Value->Shared->Prop} (hh:A.handled=none)
  (he:IsEnum s.heap e it i old) (hit:s.heap.IsTupleIter it l i) (hl:s.heap.IsTuple l items) (hx:items[i]?=none)
  (hQ:∀h',aab it s.heap h'->Q none { s with heap:=h' }):wpAny (model prog w) A (pyNext (.ref e)) Q E s:=by
 have hT:s.TypeIs (.ref e) "enumerate":=⟨_,he,rfl⟩;unfold pyNext;refine Yj (ZF (YM (name:=Zw "__next__") hT F.slot_enumerate_next
  (YQ F.slot_enumerate_next hT F.entry_enumerate_next ?_ (F.args_enumerate_next_1 _))))
 show wpAny _ _ (field (.ref e) 2 >>= _) _ _ _;refine Yj (YU he rfl (x:=.ref it) rfl ?_);refine Yj (mP hh hit hl hx λh' x hV cI=>?_);obtain⟨o,ho,hc⟩:=cI;refine Yj (ZX (T:="StopIteration") (b:=true) ⟨o,ho,hc⟩ isSubtype_stop ?_);exact Yl (hQ _ hV)
end
end L2
namespace L2
open PySem PySem.Spec PyProof.Rows PySem.W
theorem vC:Manifest.owners.lookup (String.ofList ['d','e','s','r','e','v','e','r'].reverse)=some Manifest.sig_reversed:=by kernel_rfl
theorem ko:Slot "reversed" "__next__" "reversed.__next__":=
 .of (owner:="reversed") (n:="__next__") (by rw[ZJ,Zb];kernel_rfl) (by decide +kernel) (by decide +kernel) (by decide +kernel)
  (by first |exact .inl (by decide +kernel) |exact .inr (by decide +kernel)) (by rw[Z8];kernel_rfl)
theorem vD:entryFor table "reversed.__next__"=some Builtin.«reversed.__next__»:=entryFor_of_tree (by kernel_rfl)
theorem vE (a:Value):argsOk "reversed.__next__" ⟨[a],[]⟩:=by
 unfold argsOk;rw[signature?_of (id:="reversed.__next__") (n:=['_','_','t','x','e','n','_','_']) (o:=['d','e','s','r','e','v','e','r']) (by kernel_rfl) vC];kernel_rfl
theorem vF:Slot "reversed" "__iter__" "reversed.__iter__":=
 .of (owner:="reversed") (n:="__iter__") (by rw[ZJ,Zb];kernel_rfl) (by decide +kernel) (by decide +kernel) (by decide +kernel)
  (by first |exact .inl (by decide +kernel) |exact .inr (by decide +kernel)) (by rw[Z8];kernel_rfl)
theorem DR (a:Value):argsOk "reversed.__iter__" ⟨[a],[]⟩:=by
 unfold argsOk;rw[signature?_of (id:="reversed.__iter__") (n:=['_','_','r','e','t','i','_','_']) (o:=['d','e','s','r','e','v','e','r']) (by kernel_rfl) vC];kernel_rfl
theorem DU:entryFor table "reversed.__iter__"=some Builtin.«dict_keyiterator.__iter__»:=
 entryFor_alias (id':="dict_keyiterator.__iter__") (by kernel_rfl) (by first |rfl |decide +kernel |(unfold String.splitOn;simp +decide [String.splitOnAux])) (by decide +kernel) (by kernel_rfl)
theorem DV:Slot "reversed" "__init__" "object.__init__":=
 .of (owner:="object") (n:="__init__") (by rw[ZJ,Zb];kernel_rfl) (by decide +kernel) (by decide +kernel) (by decide +kernel)
  (by first |exact .inl (by decide +kernel) |exact .inr (by decide +kernel)) (by rw[Z8];kernel_rfl)
theorem DW:TypeCalled "reversed" "reversed.__new__" "object.__init__":=
 ⟨by decide +kernel,by decide +kernel,⟨_,_,F.mro_reversed⟩,F.made_reversed,by decide +kernel,by rw[Z8];kernel_rfl,DV⟩
theorem DX:typeLookup (.type "tuple") "__reversed__"=pure none:=by rw[ZJ,Zb];kernel_rfl
theorem DY:isSubtype (.type "tuple") (.type "dict")=pure false:=by rw[Z8];kernel_rfl
section
open AutoSeq1 (wpAny_loadPart')
theorem DZ (l:Addr) (items:Array Value) (n:Nat) (ak:Option Addr) (sl:Array (Option Value)) (hz:items.size<=sizeLine) :
  Meets (Builtin.«reversed.__new__» ⟨[.type "reversed",.ref l],[]⟩) (λ_ R s=>s.heap.get? l=some { cls:=.type "tuple",dict:=ak,data:=.seq items n,slots:=sl } /\
   ∀tk,R (.ok (.ret (.ref s.heap.objs.size))) { s with heap:=s.heap.push { cls:=.type "reversed",data:=.fields #[.ref l,rawInt ((items.size:Int)-1)] },toks:=tk }):=
 .of_wp λprog w A R s h=>by
  obtain⟨hp,g,d,tk,os⟩:=s;obtain⟨hl,h⟩:=h;have hsub:=F.sub_reversed_self;have hL:Heap.IsTuple (Shared.heap ⟨hp,g,d,tk,os⟩) l items:=⟨_,hl,rfl,n,rfl⟩;have f1:=DX;have f2:=DY;have f3:=F.slot_tuple_getitem.lookup;have p7:(items.size:Int)<2 ^ 63:=by have:items.size<=16777216:=hz;lia
  unfold Builtin.«reversed.__new__»;refine Yj (wpAny_of_eq (newClass_reversed _) ?_);refine Yj (wpAny_of_eq (a:=()) (by kernel_rfl) (Yj (wpAny_of_eq (a:=()) (by kernel_rfl) ?_)));dsimp only;refine Yj (wpAny_specialOf hL.typeIs f1 ?_);dsimp only;refine Yj (Zm (Q:=λb s'=>b=true/\s'=(⟨hp,g,d,tk,os⟩:Shared)) ?slot (λb s' hb=>?rest) λ_ _ x=>x)
  case slot=>
   wp_walk using YC hl
   exact⟨rfl,rfl⟩
  obtain⟨rfl,rfl⟩:=hb;rw[if_neg (by decide)];refine Yj (PyProof.Rows.len_tuple hL p7 ?_)
  wp_walk using YC hl
  exact⟨_,rfl,h _⟩
end
section
variable {prog:Program}{w:World}{A:Around}{E:Value->Shared->Prop}{s:Shared}
def d0 (h:Heap) (a l:Addr) (i:Int):Prop:=∃o,h.get? a=some o/\o.cls=.type "reversed"/\o.data=.fields #[.ref l,rawInt i]
theorem d0.typeIs {a l:Addr}{i:Int} (x:d0 s.heap a l i):s.TypeIs (.ref a) "reversed":=let ⟨o,ho,hc,_⟩:=x;⟨o,ho,hc⟩
theorem d0.at {h h':Heap}{a l:Addr}{i:Int} (x:d0 h a l i) (e:∀o,h.get? a=some o->h'.get? a=some o):d0 h' a l i:=let ⟨o,ho,r⟩:=x;⟨o,e _ ho,r⟩
theorem D0 {l:Addr}{items:Array Value}{Q:Value->Shared->Prop} (hL:IsTup s.heap l items) (hz:items.size<=sizeLine)
  (h:∀h' tk,d0 h' s.heap.objs.size l ((items.size:Int)-1)->h'.objs.size=s.heap.objs.size+1->(∀b o,s.heap.get? b=some o->h'.get? b=some o)->Q (.ref s.heap.objs.size) { s with heap:=h',toks:=tk }) :
  wpAny (model prog w) A (call (.type "reversed") [.ref l]) Q E s:=by
 obtain⟨⟨c,ak,UJ,sl⟩,hl,hc,n,hd⟩:=hL;replace hc:c=.type "tuple":=hc;replace hd:UJ=.seq items n:=hd;subst hc hd;refine callType_new DW (by decide) (F.typeCall_reversed_1 _) (F.newCall_reversed_1 _) (λobj=>F.args_object_init_2 obj _) F.entry_reversed_new
  (DZ l items n ak sl hz) ⟨hl,λtk=>?_⟩
 have he:(s.heap.push { cls:=.type "reversed",data:=.fields #[.ref l,rawInt ((items.size:Int)-1)] }).get? s.heap.objs.size=some { cls:=.type "reversed",data:=.fields #[.ref l,rawInt ((items.size:Int)-1)] }:=Yp _ rfl;exact⟨⟨_,he,rfl⟩,h _ tk ⟨_,he,rfl,rfl⟩ (YR ..) λb o x=>Yk _ x⟩
theorem D1 {it l:Addr}{i:Nat}{items:Array Value}{x:Value}{Q:Option Value->Shared->Prop} (hit:d0 s.heap it l (i:Int)) (hl:IsTup s.heap l items) (hz:items.size<=sizeLine) (hx:items[i]?=some x)
  (q:∀h' tk,d0 h' it l ((i:Int)-1)->ZM it s.heap h'->Q (some x) { s with heap:=h',toks:=tk }):wpAny (model prog w) A (pyNext (.ref it)) Q E s:=by
 have ty:=hit.typeIs;have hi:i<items.size:=(Array.getElem?_eq_some_iff.mp hx).1;have hz':items.size<=16777216:=hz;obtain⟨ob,h1,h2,h3⟩:=hit;have WT:seqIndex? (i:Int) items.size=some i:=by
  unfold seqIndex?;rw[if_neg (show ¬(i:Int)<0 by lia),if_pos (by rw[Yq];exact⟨decide_eq_true (by lia),decide_eq_true (by lia)⟩)];rfl
 unfold pyNext;refine Yj (ZF (YM (name:=Zw "__next__") ty ko (YQ ko ty vD ?_ (vE _))));unfold Builtin.«reversed.__next__»;refine Yj (wpAny_of_eq (a:=(YF it,[])) rfl (Yj (YU h1 h3 (x:=.ref l) rfl (Yj (YU h1 h3 (x:=rawInt (i:Int)) rfl ?_)))));refine (show wpAny _ _ (if (i:Int)<0 then _ else specialOf (.ref l) "__getitem__" >>= _) _ _ s from ?_)
 rw[if_neg (by lia)];refine Yj (wpAny_specialOf hl.typeIs F.slot_tuple_getitem.lookup (show wpAny _ _ (mkInt (i:Int) >>= _) _ _ s from Yj (wpAny_mkInt (Yj (ZF (getItem_tuple (j:=i) (x:=x) (show IsTup s.heap l items from hl) (by lia) (by lia) WT hx ?_))))));refine (show wpAny _ _ (field (.ref it) 1 >>= _) _ _ _ from Yj (YU (show s.heap.get? it=some ob from h1) h3 (x:=rawInt (i:Int)) rfl (show wpAny _ _ (setField (.ref it) 1 (rawInt ((i:Int)-1)) >>= _) _ _ _ from Yj (Z7 (show s.heap.get? it=some ob from h1) h3 (by simp) (Yl ⟨x,rfl,Yl (q _ _ ?_ (YO ..))⟩)))));refine⟨_,YK _ h1 (aad (ZG h3 _)),Eq.trans (Obj.cls_mapFields ..) h2,?_⟩;rw[ZG h3] <;> simp
theorem D2 {it l:Addr}{Q:Option Value->Shared->Prop} (hh:A.handled=none) (hit:d0 s.heap it l (-1))
  (q:∀h' tk,aab it s.heap h'->Q none { s with heap:=h',toks:=tk }):wpAny (model prog w) A (pyNext (.ref it)) Q E s:=by
 have ty:=hit.typeIs;obtain⟨⟨c,dd,data,sl⟩,h1,h2,h3⟩:=hit;simp only at h2 h3;subst h2 h3;unfold pyNext;refine Yj (ZF (YM (name:=Zw "__next__") ty ko (YQ ko ty vD ?_ (vE _))));obtain⟨hp,g,d,tk,os⟩:=s
 wp_walk using YC h1
 unfold raiseNew;refine Yj (wpAny_handled ?_);rw[show A.in1.handled=none from hh];refine Yj (Yl (wpAny_throw ?_));refine Yj (ZX (T:="StopIteration") (b:=true) ⟨_,Yp _ rfl,rfl⟩ isSubtype_stop (Yl (q _ _ ?_)));exact λb u nb e=>Yk _ (Yk _ ((YO ..).extBut b u nb ((YO ..).extBut b u nb e)))
theorem vG {it l:Addr}{i:Int}{Q:Value->Shared->Prop} (hit:d0 s.heap it l i) (h:Q (.ref it) s):wpAny (model prog w) A (pyIter (.ref it)) Q E s:=by
 refine wpAny_pyIter_slot hit.typeIs vF (YQ vF hit.typeIs DU ?_ (DR _));show wpAny _ _ (ret (.ref it)) _ _ s;exact Yl ⟨_,rfl,"reversed",_,hit.typeIs,ko.lookup,h⟩
end
end L2
end
section
namespace N
open PySem PySem.Spec PyProof.Rows L2
inductive D where
 |aj |bl (b:Bool) |int (i:Int) |str (x:Str) |ref (a:Addr) |ty (n:String)
 |tup (ds:List D) |lst (ds:List D) |ak (ks:List Key) (ds:List D)
inductive Fo where
 |dat (o:Obj) |pin (o:Obj) |et (o:Obj) |tab (p:Pos) (q:Str)
abbrev Fz:=Addr->Option Fo
structure Gx where
 P:Program
 w:World
 K:PySem.W.Frag
 mg:Str->Option Value
 base:Heap
 ex:Fz
def Le (F F':Fz):Prop:=∀a f,F a=some f->F' a=some f
theorem Le.rfl {F:Fz}:Le F F:=λ_ _ h=>h
theorem Le.tr {F F1 F2:Fz} (a:Le F F1) (b:Le F1 F2):Le F F2:=λc f h=>b c f (a c f h)
structure Bs (G:Gx) (F:Fz):Prop where
 b:∀b o,G.base.get? b=some o->F b=some (.dat o)
 x:Le G.ex F
theorem Bs.up {G:Gx}{F F':Fz} (h:Bs G F) (l:Le F F'):Bs G F':=⟨λb o e=>l b _ (h.b b o e),h.x.tr l⟩
def bW (F F':Fz):Prop:=∀a o,F a=some (.dat o)->F' a=some (.dat o)
theorem Le.d {F F':Fz} (l:Le F F'):bW F F':=λa o=>l a (.dat o)
section
variable {α:Type}
noncomputable def up (F:Addr->Option α) (a:Addr) (o:α):Addr->Option α:=λb=>if b=a then some o else F b
theorem au {F:Addr->Option α}{a:Addr}{o:α}:up F a o a=some o:=if_pos rfl
theorem ax {F:Addr->Option α}{a b:Addr}{o:α} (h:b≠a):up F a o b=F b:=if_neg h
noncomputable def rm (F:Addr->Option α) (a:Addr):Addr->Option α:=λb=>if b=a then none else F b
theorem mQ {F:Addr->Option α}{a:Addr}:rm F a a=none:=if_pos rfl
theorem p8 {F:Addr->Option α}{a b:Addr} (h:b≠a):rm F a b=F b:=if_neg h
theorem di {F:Addr->Option α}{a b:Addr}{o:α} (h:F a=some o) (h':F b=none):a≠b:=λe=>by rw[e,h']at h;cases h
end
theorem Le.new {F:Fz}{a:Addr}{f:Fo} (h:F a=none):Le F (up F a f):=λb g e=>by rw[ax (di e h)];exact e
structure kq (o:Obj) (us:List Value):Prop where
 cls:o.cls=.type "tuple"
 dict:o.dict=none
 data:∃n,o.data=.seq us.toArray n
 len:us.length<=sizeLine
noncomputable def bH (us:List Value) (n:Nat):Obj:={ cls:=.type "list",data:=.seq us.toArray n }
structure kr (G:Gx) (o:Obj) (ks:List Key) (us:List Value):Prop where
 ex:o.ExactDict
 bK:∃es ep,o.data=.dict es ep/\KeysOf (bw G.P G.w) es/\Pairs (bw G.P G.w) es.toList (ks.zip us)
 nd:ks.Nodup
 len:us.length=ks.length
 sz:ks.length<=sizeLine
mutual
def ae (G:Gx) (F:Fz):D->Value->Prop
 |.aj,u=>u=.none
 |.bl b,u=>u=.bool b
 |.int i,u=>∃t,u=.int i t
 |.str x,u=>∃t,u=.str x t
 |.ref a,u=>u=.ref a
 |.ty n,u=>u=.type n
 |.tup ds,u=>∃a o us,u=.ref a/\F a=some (.dat o)/\kq o us/\ag G F ds us
 |.lst ds,u=>∃a n us,u=.ref a/\F a=some (.dat (bH us n))/\us.length<=sizeLine/\ag G F ds us
 |.ak ks ds,u=>∃a o us,u=.ref a/\F a=some (.dat o)/\kr G o ks us/\(a == sysModules)=false/\ag G F ds us
def ag (G:Gx) (F:Fz):List D->List Value->Prop
 |[],us=>us=[]
 |d::ds,us=>∃u r,us=u::r/\ae G F d u/\ag G F ds r
end
section
variable {G:Gx}{F F':Fz}
theorem ag.nil:ag G F [] []:=by rw[ag]
theorem ag.cons {d:D}{ds:List D}{u:Value}{us:List Value} (h:ae G F d u) (t:ag G F ds us):ag G F (d::ds) (u::us):=by rw[ag];exact⟨u,us,rfl,h,t⟩
theorem ag.p:∀{ds:List D}{us:List Value},ag G F ds us->Paired (ae G F) ds us
 |[],us,h=>by rw[ag]at h;subst h;exact .nil
 |d::ds,us,h=>by rw[ag]at h;obtain⟨y,ys,rfl,h1,h2⟩:=h;exact .cons h1 h2.p
theorem ag.len {ds:List D}{us:List Value} (h:ag G F ds us):ds.length=us.length:=h.p.length
mutual
theorem ae.up (l:bW F F'):∀{d:D}{u:Value},ae G F d u->ae G F' d u
 |.aj,u,h=>by rw[ae]at h ⊢;exact h
 |.bl _,u,h=>by rw[ae]at h ⊢;exact h
 |.int _,u,h=>by rw[ae]at h ⊢;exact h
 |.str _,u,h=>by rw[ae]at h ⊢;exact h
 |.ref _,u,h=>by rw[ae]at h ⊢;exact h
 |.ty _,u,h=>by rw[ae]at h ⊢;exact h
 |.tup ds,u,h=>by rw[ae]at h ⊢;obtain⟨a,o,us,e,h1,h2,h3⟩:=h;exact⟨a,o,us,e,l a o h1,h2,h3.up l⟩
 |.lst ds,u,h=>by rw[ae]at h ⊢;obtain⟨a,o,us,e,h1,h2,h3⟩:=h;exact⟨a,o,us,e,l a _ h1,h2,h3.up l⟩
 |.ak ks ds,u,h=>by rw[ae]at h ⊢;obtain⟨a,o,us,e,h1,h2,h4,h3⟩:=h;exact⟨a,o,us,e,l a o h1,h2,h4,h3.up l⟩
theorem ag.up (l:bW F F'):∀{ds:List D}{us:List Value},ag G F ds us->ag G F' ds us
 |[],us,h=>by rw[ag]at h ⊢;exact h
 |d::ds,us,h=>by rw[ag]at h ⊢;obtain⟨u,r,e,h1,h2⟩:=h;exact⟨u,r,e,h1.up l,h2.up l⟩
end
end
def fL (G:Gx) (F:Fz):Option D->Option Value->Prop
 |some d,some u=>ae G F d u
 |none,none=>True
 |_,_=>False
theorem fL.up {G:Gx}{F F':Fz} (l:bW F F') {d:Option D}{u:Option Value} (h:fL G F d u):fL G F' d u:=by
 cases d with
 |none=>cases u with
  |none=>trivial
  |some u=>exact h
 |some d=>cases u with
  |none=>exact h
  |some u=>exact ae.up l h
def KV {κ:Type} (G:Gx) (F:Fz):List (κ×D)->List (κ×Value)->Prop:=Paired λp q=>p.1=q.1/\ae G F p.2 q.2
theorem Paired.VJ {α β:Type} {P Q:α->β->Prop} (f:∀a b,P a b->Q a b):∀{l:List α}{m:List β},Paired P l m->Paired Q l m
 |_,_,.nil=>.nil
 |_,_,.cons r t=>.cons (f _ _ r) (Paired.VJ f t)
theorem KV.up {κ:Type} {G:Gx}{F F':Fz} (l:bW F F') {a:List (κ×D)}{b:List (κ×Value)} (h:KV G F a b):KV G F' a b:=Paired.VJ (λ_ _ r=>⟨r.1,r.2.up l⟩) h
inductive MO where
 |lst (ds:List D) |ak (kvs:List (Key×D)) |ins (C dx:Addr) (fs:List (Str×D)) |own (x:Addr) |ja (ps:Array Value)
abbrev Mp:=Addr->Option MO
def d1 (G:Gx) (F:Fz) (M:Mp) (h:Heap) (a:Addr):MO->Prop
 |.lst ds=>ds.length<=sizeLine/\∃us n,ag G F ds us/\h.get? a=some (bH us n)
 |.ak kvs=>kvs.length<=sizeLine/\(a == sysModules)=false/\∃vs,KV G F kvs vs/\h.DictOf (bw G.P G.w) a vs
 |.ins C dx fs=>M dx=some (.own a)/\fs.length<=1000/\dx≠a/\h.get? a=some (PySem.W.instObj C dx)/\∃mA,h.Ns1 dx mA/\(∀f,fL G F (fs.lookup f) (mA f))/\PySem.Within mA (fs.map (·.1))
 |.own _=>∃o,h.get? a=some o
 |.ja ps=>h.get? a=some { cls:=.none,data:=.fields ps }
def Fo.At (h:Heap) (a:Addr):Fo->Prop
 |.dat o=>h.get? a=some o
 |.pin o=>h.get? a=some o
 |.et o=>∃sl,h.get? a=some { o with slots:=sl }
 |.tab _ _=>∃ps,h.get? a=some { cls:=.none,data:=.fields ps }
def eu (o:Obj) (q:Str):Prop:=∃vs t,o.data=.fields vs/\vs[1]?=some (.str q t)
def D3 (F:Fz) (h:Heap) (T:Addr) (p:Pos) (q:Str):Prop:=h.get? T=some { cls:=.none,data:=.fields #[] }\/∃c o,h.get? T=some { cls:=.none,data:=.fields #[rawInt p.line,rawInt p.col,.ref c] }/\F c=some (.dat o)/\eu o q
def mR (F:Fz) (h:Heap):Prop:=∀T p q,F T=some (.tab p q)->D3 F h T p q
structure az (G:Gx) (F:Fz) (M:Mp) (h:Heap):Prop where
 fz:∀a f,F a=some f->f.At h a
 ob:∀a o,M a=some o->F a=none/\d1 G F M h a o
 tb:mR F h
section
variable {G:Gx}{F F':Fz}{M M':Mp}{h h':Heap}{a:Addr}{o:MO}{f:Fo}
theorem d1.lt (x:d1 G F M h a o):a<h.objs.size:=by
 cases o with
 |lst xs=>obtain⟨_,_,_,_,e⟩:=x;exact Yw e
 |ak kvs=>obtain⟨_,_,_,_,o,_,_,e,_⟩:=x;exact Yw e
 |ins C dx fs=>obtain⟨_,_,_,e,_⟩:=x;exact Yw e
 |own y=>obtain⟨_,e⟩:=x;exact Yw e
 |ja ps=>exact Yw (show h.get? a=some _ from x)
theorem Fo.At.lt (x:f.At h a):a<h.objs.size:=by
 cases f with
 |dat o=>exact Yw (show h.get? a=some o from x)
 |pin o=>exact Yw (show h.get? a=some o from x)
 |et o=>obtain⟨_,e⟩:=x;exact Yw e
 |tab p q=>obtain⟨_,e⟩:=x;exact Yw e
def a8 (h h':Heap) (b:Addr):Prop:=∀o,h.get? b=some o->h'.get? b=some o
theorem Fo.At.go (x:f.At h a) (k:a8 h h' a):f.At h' a:=by
 cases f with
 |dat o=>exact k _ x
 |pin o=>exact k _ x
 |et o=>obtain⟨sl,e⟩:=x;exact⟨sl,k _ e⟩
 |tab p q=>obtain⟨sl,e⟩:=x;exact⟨sl,k _ e⟩
theorem mR.go (x:mR F h) (b:∀T p q,F' T=some (.tab p q)->F T=some (.tab p q)) (l:bW F F') (k:∀T p q,F' T=some (.tab p q)->a8 h h' T):mR F' h':=λT p q e=>by
 rcases x T p q (b T p q e) with y |⟨c,o,h1,h2,h3⟩
 ·exact .inl (k T p q e _ y)
 ·exact .inr ⟨c,o,k T p q e _ h1,l c o h2,h3⟩
theorem d1.go (x:d1 G F M h a o) (l:bW F F') (k:∀b,b=a\/M b=some (.own a)->a8 h h' b) (ho:∀b,M b=some (.own a)->M' b=some (.own a)):d1 G F' M' h' a o:=by
 cases o with
 |lst xs=>obtain⟨z,us,n,r,e⟩:=x;exact⟨z,us,n,r.up l,k a (.inl rfl) _ e⟩
 |ak kvs=>obtain⟨z,y,vs,r,ob,es,ep,e,c⟩:=x;exact⟨z,y,vs,r.up l,ob,es,ep,k a (.inl rfl) _ e,c⟩
 |ins C dx fs=>
  obtain⟨d,z,ne,e,mA,⟨od,es,ep,e2,c⟩,r1,r2⟩:=x;exact⟨ho _ d,z,ne,k a (.inl rfl) _ e,mA,⟨od,es,ep,k dx (.inr d) _ e2,c⟩,λf=>(r1 f).up l,r2⟩
 |own y=>obtain⟨ob,e⟩:=x;exact⟨ob,k a (.inl rfl) _ e⟩
 |ja ps=>exact k a (.inl rfl) _ x
theorem az.ck (x:az G F M h) (e:h.objs.size<=a):F a=none:=by
 cases q:F a with
 |none=>rfl
 |some u=>exact absurd (YD (x.fz a u q).lt e) (ZL _)
theorem az.c0 (x:az G F M h) (e:h.objs.size<=a):M a=none:=by
 cases q:M a with
 |none=>rfl
 |some u=>exact absurd (YD (x.ob a u q).2.lt e) (ZL _)
theorem az.keep (x:az G F M h) (k:∀b,F b≠none\/M b≠none->a8 h h' b):az G F M h':=
 ⟨λb f e=>(x.fz b f e).go (k b (.inl (by rw[e];exact YI f))),λb o e=>⟨(x.ob b o e).1,(x.ob b o e).2.go Le.rfl.d (λc hc=>k c (.inr (by
  rcases hc with rfl |hc
  ·rw[e];exact YI o
  ·rw[hc];exact YI _))) λ_ q=>q⟩,x.tb.go (λ_ _ _ e=>e) Le.rfl.d λT p q e=>k T (.inl (by rw[e];exact YI _))⟩
theorem az.lay (x:az G F M h) (k:∀b,a8 h h' b) (hp:h.objs.size<=a) (new:d1 G F (up M a o) h' a o):az G F (up M a o) h':=
 ⟨λb f e=>(x.fz b f e).go (k b),λb u e=>by
  by_cases hb:b=a
  ·subst hb;rw[au]at e;cases e;exact⟨x.ck hp,new⟩
  ·rw[ax hb]at e;exact⟨(x.ob b u e).1,(x.ob b u e).2.go Le.rfl.d (λc _=>k c) λc q=>by rw[ax (di q (x.c0 hp))];exact q⟩,x.tb.go (λ_ _ _ e=>e) Le.rfl.d λT _ _ _=>k T⟩
theorem az.jb (x:az G F M h) (hF:F a=none) (hM:M a=none) (e:f.At h a) (nt:∀p q,f≠.tab p q:=by intro _ _ h;cases h):az G (up F a f) M h:=by
 refine⟨λb g q=>?_,λb u q=>⟨by rw[ax (di q hM)];exact (x.ob b u q).1,(x.ob b u q).2.go (Le.new hF).d (λ_ _ _ e=>e) λ_ e=>e⟩,x.tb.go (λT p q e=>?_) (Le.new hF).d λ_ _ _ _ _ e=>e⟩
 case refine_2=>
  by_cases hb:T=a
  ·subst hb;rw[au]at e;cases e;exact absurd rfl (nt p q)
  ·rw[ax hb]at e;exact e
 by_cases hb:b=a
 ·subst hb;rw[au]at q;cases q;exact e
 ·rw[ax hb]at q;exact x.fz b g q
theorem az.jc (x:az G F M h) (k:∀b,a8 h h' b) (hp:h.objs.size<=a) (new:f.At h' a) (nt:∀p q,f≠.tab p q:=by intro _ _ h;cases h):az G (up F a f) M h':=(x.keep λb _=>k b).jb (x.ck hp) (x.c0 hp) new nt
noncomputable def MO.mut:MO->Bool
 |.own _=>false
 |.ja _=>false
 |_=>true
theorem az.put {x e:Addr}{o':MO} (ok:az G F M h) (hx:M x=some o) (VL:o.mut=true) (he:e=x\/M e=some (.own x)) (k:∀b,b≠e->a8 h h' b) (p9:∃u,h'.get? e=some u) (new:d1 G F (up M x o') h' x o'):az G F (up M x o') h':=by
 have vH:∀c y,M c=some (.own y)->c≠x:=λc y r z=>by rw[z,hx]at r;cases r;cases VL
 have hF:F e=none:=by
  rcases he with rfl |he
  ·exact (ok.ob _ _ hx).1
  ·exact (ok.ob _ _ he).1
 refine⟨λb f q=>(ok.fz b f q).go (k b (di q hF)),λb u q=>?_,ok.tb.go (λ_ _ _ e=>e) Le.rfl.d λT _ _ q=>k T (di q hF)⟩;by_cases hb:b=x
 ·subst hb;rw[au]at q;cases q;exact⟨(ok.ob _ _ hx).1,new⟩
 ·rw[ax hb]at q;refine⟨(ok.ob b u q).1,?_⟩;by_cases mo:b=e
  ·have q':M b=some (.own x):=he.elim (λz=>absurd (mo.trans z) hb) λz=>(by rw[mo];exact z);rw[q]at q';cases q';obtain⟨v,hv⟩:=p9;exact⟨v,by rw[mo];exact hv⟩
  ·refine (ok.ob b u q).2.go Le.rfl.d (λc hc=>k c ?_) λc r=>(by rw[ax (vH c b r)];exact r);rcases hc with rfl |hc
   ·exact mo
   ·rintro rfl;rcases he with z |z
    ·exact vH c b hc z
    ·rw[hc]at z;cases z;exact hb rfl
end
noncomputable def aT (F P:Fz):Fz:=λb=>match P b with
 |some f=>some f
 |none=>F b
noncomputable def aK (F P:Fz):Fz:=λb=>match P b with
 |some _=>none
 |none=>F b
section
variable {G:Gx}{F F' P:Fz}{M:Mp}{h h':Heap}{b:Addr}{f:Fo}
theorem dj (e:P b=some f):aT F P b=some f:=by unfold aT;rw[e]
theorem e9 (e:P b=none):aT F P b=F b:=by unfold aT;rw[e]
theorem ew (e:P b=some f):aK F P b=none:=by unfold aK;rw[e]
theorem ey (e:P b=none):aK F P b=F b:=by unfold aK;rw[e]
theorem Le.pin (d:∀b,P b≠none->F b=none):Le F (aT F P):=λb f e=>by
 cases q:P b with
 |none=>rw[e9 q];exact e
 |some g=>rw[d b (by rw[q];exact YI g)]at e;cases e
theorem Le.aK (d:∀b,P b≠none->F b=none) (l:Le (aT F P) F'):Le F (aK F' P):=λb f e=>by
 cases q:P b with
 |none=>rw[ey q];exact l b f (by rw[e9 q];exact e)
 |some g=>rw[d b (by rw[q];exact YI g)]at e;cases e
def mS (P:Fz):Prop:=∀b o,P b≠some (.dat o)
theorem bW.aK (n:mS P) (l:Le (aT F P) F'):bW F' (aK F' P):=λb o e=>by
 cases q:P b with
 |none=>rw[ey q];exact e
 |some g=>
  have:=l b g (dj q);rw[e]at this;cases this;exact absurd q (n b o)
theorem az.pin (x:az G F M h) (p:∀b f,P b=some f->f.At h b/\M b=none) (d:∀b,P b≠none->F b=none) (nt:∀b p q,P b≠some (.tab p q)):az G (aT F P) M h:=by
 refine⟨λb f e=>?_,λb o e=>⟨?_,(x.ob b o e).2.go (Le.pin d).d (λ_ _ _ q=>q) λ_ q=>q⟩,x.tb.go (λT a b e=>?_) (Le.pin d).d λ_ _ _ _ _ e=>e⟩
 case refine_3=>
  cases q:P T with
  |none=>rw[e9 q]at e;exact e
  |some g=>rw[dj q]at e;cases e;exact absurd q (nt _ _ _)
 ·cases q:P b with
  |none=>rw[e9 q]at e;exact x.fz b f e
  |some g=>rw[dj q]at e;cases e;exact (p b _ q).1
 ·rw[e9];exact (x.ob b o e).1;cases q:P b with
  |none=>rfl
  |some g=>have:=(p b _ q).2;rw[e]at this;cases this
theorem az.aK (x:az G F' M h) (n:mS P) (l:Le (aT F P) F'):az G (aK F' P) M h:=by
 refine⟨λb f e=>?_,λb o e=>⟨?_,(x.ob b o e).2.go (bW.aK n l) (λ_ _ _ q=>q) λ_ q=>q⟩,x.tb.go (λT a b e=>?_) (bW.aK n l) λ_ _ _ _ _ e=>e⟩
 case refine_3=>
  cases q:P T with
  |none=>rw[ey q]at e;exact e
  |some g=>rw[ew q]at e;cases e
 ·cases q:P b with
  |none=>rw[ey q]at e;exact x.fz b f e
  |some g=>rw[ew q]at e;cases e
 ·cases q:P b with
  |none=>rw[ey q];exact (x.ob b o e).1
  |some g=>exact ew q
end
abbrev St:=List (Option D)
structure Z where
 F:Fz
 M:Mp
 s:Shared
structure jd where
 C:Value
 fs:List (Str×D)
structure Mod (G:Gx):Prop where
 ez:G.K.In G.base
 cw:G.base.Ns mainGlobals G.mg
 gz:∃b,G.base.Ns builtinsNs b/\∀x:Str,x≠"__name__"->b x=bootBuiltins x
 je:G.base.NoLimit
structure Cx where
 G:Gx
 A:Around
 N:List Str
 os:OsState
 env:Env
 outer:List Env
 stk:List Env
 fn:Str->Bool
 calm:Bool
 x:jd->St->Mp->Prop
 F0:Fz
structure Cx.Ok (X:Cx):Prop where
 mod:Mod X.G
 kind:X.env.scope.kind=.function
 cw:X.env.globals=mainGlobals
 gz:X.env.builtins=builtinsNs
 inj:∀x y c,X.env.cells.lookup x=some c->X.env.cells.lookup y=some c->x=y
 has:∀x,(X.env.kindOf x=some .cell\/X.env.kindOf x=some .free)->∃c,X.env.cells.lookup x=some c
 hd:X.calm=true->X.A.handled=none
 frames:X.A.frames=some X.stk
 stk:X.stk=X.outer\/(X.stk=X.env::X.outer/\X.env.frame=some X.env.locals)
 xs:∀x τ M,X.x x τ M->X.stk=X.env::X.outer/\X.env.frame=some X.env.locals
def jf (G:Gx) (F:Fz) (env:Env):Prop:=env.scope.kind≠.module/\∃L o,env.frame=some L/\F L=some (.et o)/\G.base.get? L=none/\∀vs,o.data≠.fields vs
structure aa (X:Cx) (τ:St) (z:Z):Prop where
 ok:X.Ok
 bs:Bs X.G z.F
 os:z.s.os=X.os
 bare:AllBare z.s.gens
 bx:∀env∈X.outer,jf X.G z.F env
 loc:∃m,z.s.heap.Ns X.env.locals m/\∀(i:Nat) (x:Str) (d:D),X.N[i]?=some x->τ[i]?=some (some d)->dZ X.env.scope x->∃u,ae X.G z.F d u/\i' X.env z.s.heap m x u
 cell:∀x c,X.env.cells.lookup x=some c->(∃v,z.s.heap.IsCell c v)/\z.M c=none/\((X.fn x=true/\z.F c=none)\/(X.fn x=false/\∃o,z.F c=some (.pin o)))
 free:z.F X.env.locals=none/\z.M X.env.locals=none
 hok:az X.G z.F z.M z.s.heap
 len:τ.length=X.N.length
 f0:Le X.F0 z.F
def cx (X:Cx) (b:Addr):Prop:=b=X.env.locals\/∃x,X.env.cells.lookup x=some b
def mT (h h':Heap) (b:Addr):Prop:=∀o,h.get? b=some o->∃sl,h'.get? b=some { o with slots:=sl }
theorem a8.s {h h':Heap}{b:Addr} (k:a8 h h' b):mT h h' b:=λo e=>⟨o.slots,k o e⟩
section
variable {X:Cx} {τ:St} {z z':Z}{h':Heap}{a b:Addr}
theorem aa.bk (I:aa X τ z):∀b o,X.G.base.get? b=some o->z.s.heap.get? b=some o:=λb o e=>I.hok.fz b _ (I.bs.b b o e)
theorem aa.bp (I:aa X τ z):X.G.K.In z.s.heap:=I.ok.mod.ez.keeps I.bk
theorem aa.cy (I:aa X τ z) (h:cx X b):z.M b=none:=by
 rcases h with rfl |⟨x,h⟩
 ·exact I.free.2
 ·exact (I.cell x b h).2.1
theorem aa.vJ (I:aa X τ z) (h:cx X b):∃o,z.s.heap.get? b=some o:=by
 rcases h with rfl |⟨x,h⟩
 ·obtain⟨m,⟨o,_,_,e,_⟩,_⟩:=I.loc;exact⟨o,e⟩
 ·obtain⟨⟨v,o,e,_⟩,_⟩:=I.cell x b h;exact⟨o,e⟩
theorem aa.fM (I:aa X τ z) (h:cx X b):b<z.s.heap.objs.size:=let ⟨_,e⟩:=I.vJ h;Yw e
theorem aa.gA (I:aa X τ z) {x:Str}{c:Addr} (e:X.env.cells.lookup x=some c):c≠X.env.locals:=λq=>by
 obtain⟨⟨v,o,ho,hd⟩,_⟩:=I.cell x c e;obtain⟨m,⟨o',es,ep,D4,em,_⟩,_⟩:=I.loc;rw[q,D4]at ho;cases ho;rw[em]at hd;cases hd
theorem jf.go {G:Gx}{F F':Fz}{env:Env} (l:Le F F') (h:jf G F env):jf G F' env:=by
 obtain⟨h1,L,o,h2,h3,h4⟩:=h;exact⟨h1,L,o,h2,l L _ h3,h4⟩
theorem aa.go (I:aa X τ z) (l:Le z.F z'.F) (ok:az X.G z'.F z'.M z'.s.heap) (own:∀b,cx X b->mT z.s.heap z'.s.heap b/\z'.M b=none/\z'.F b=z.F b) (os:z'.s.os=z.s.os) (bare:AllBare z'.s.gens):aa X τ z':=by
 have hL:=own X.env.locals (.inl rfl);have vK:∀x c v,X.env.cells.lookup x=some c->z.s.heap.IsCell c v->z'.s.heap.IsCell c v:=λx c v e h=>by
  obtain⟨o,ho,hd⟩:=h;obtain⟨sl,q⟩:=(own c (.inr ⟨x,e⟩)).1 o ho;exact⟨_,q,hd⟩
 refine⟨I.ok,I.bs.up l,os.trans I.os,bare,λenv he=>(I.bx env he).go l,?_,λx c e=>?_,⟨hL.2.2.trans I.free.1,hL.2.1⟩,ok,I.len,I.f0.tr l⟩
 ·obtain⟨m,⟨o,es,ep,ho,r⟩,hl⟩:=I.loc;obtain⟨sl,q⟩:=hL.1 o ho;refine⟨m,⟨_,es,ep,q,r⟩,λi x d e1 e2 e3=>?_⟩;obtain⟨u,r,k⟩:=hl i x d e1 e2 e3;refine⟨u,r.up l.d,?_⟩;rcases k with k |⟨k,c,e,y⟩
  ·exact .inl k
  ·exact .inr ⟨k,c,e,vK x c _ e y⟩
 ·obtain⟨⟨v,h1⟩,_,h3⟩:=I.cell x c e;have h:=own c (.inr ⟨x,e⟩);exact⟨⟨v,vK x c v e h1⟩,h.2.1,by rw[h.2.2];exact h3⟩
theorem aa.kept (I:aa X τ z) {t:Nat} (k:∀b,a8 z.s.heap h' b):aa X τ ⟨z.F,z.M,{ z.s with heap:=h',toks:=t }⟩:=
 I.go Le.rfl (I.hok.keep λb _=>k b) (λb hb=>⟨(k b).s,I.cy hb,rfl⟩) rfl I.bare
theorem aa.mU (I:aa X τ z) (t:Nat):aa X τ ⟨z.F,z.M,{ z.s with toks:=t }⟩:=I.kept (h':=z.s.heap) λ_ _ e=>e
theorem aa.lay (I:aa X τ z) {o:MO}{t:Nat} (k:∀b,a8 z.s.heap h' b) (hp:z.s.heap.objs.size<=a) (new:d1 X.G z.F (up z.M a o) h' a o):aa X τ ⟨z.F,up z.M a o,{ z.s with heap:=h',toks:=t }⟩:=
 I.go Le.rfl (I.hok.lay k hp new) (λb hb=>⟨(k b).s,(ax (Yx (YD (I.fM hb) hp))).trans (I.cy hb),rfl⟩) rfl I.bare
theorem aa.jc (I:aa X τ z) {f:Fo}{t:Nat} (k:∀b,a8 z.s.heap h' b) (hp:z.s.heap.objs.size<=a) (new:f.At h' a) (nt:∀p q,f≠.tab p q:=by intro _ _ h;cases h):aa X τ ⟨up z.F a f,z.M,{ z.s with heap:=h',toks:=t }⟩:=
 I.go (Le.new (I.hok.ck hp)) (I.hok.jc k hp new nt) (λb hb=>⟨(k b).s,I.cy hb,ax (Yx (YD (I.fM hb) hp))⟩) rfl I.bare
theorem aa.put (I:aa X τ z) {x e:Addr}{o o':MO}{t:Nat} (hx:z.M x=some o) (VL:o.mut=true) (he:e=x\/z.M e=some (.own x)) (k:∀ b,b≠e->a8 z.s.heap h' b) (p9:∃ u,h'.get? e=some u) (new:d1 X.G z.F (up z.M x o') h' x o') :
  aa X τ ⟨z.F,up z.M x o',{ z.s with heap:=h',toks:=t }⟩:=by
 have ne:∀b,cx X b->b≠x:=λb hb q=>by have:=I.cy hb;rw[q,hx]at this;cases this
 have D5:∀b,cx X b->b≠e:=λb hb q=>by
  rcases he with r |r
  ·exact ne b hb (q.trans r)
  ·have:=I.cy hb;rw[q,r]at this;cases this
 exact I.go Le.rfl (I.hok.put hx VL he k p9 new) (λb hb=>⟨(k b (D5 b hb)).s,(ax (ne b hb)).trans (I.cy hb),rfl⟩) rfl I.bare
theorem aa.turn (I:aa X τ z) {t:Nat} (k:∀b,b≠a->a8 z.s.heap h' b) (hF:z.F a=none) (hM:z.M a=none) (WU:¬cx X a):aa X τ ⟨z.F,z.M,{ z.s with heap:=h',toks:=t }⟩:=
 I.go Le.rfl (I.hok.keep λb hb=>k b (by rintro rfl;rcases hb with h |h;exact h hF;exact h hM)) (λb hb=>⟨(k b (by rintro rfl;exact WU hb)).s,I.cy hb,rfl⟩) rfl I.bare
theorem aa.D6 {τ':St} (I:aa X τ z) (hl:τ'.length=τ.length) (w:∀(i:Nat) d,τ'[i]?=some (some d)->τ[i]?=some (some d)):aa X τ' z:=
 ⟨I.ok,I.bs,I.os,I.bare,I.bx,let ⟨m,hn,D7⟩:=I.loc;⟨m,hn,λi x v e1 e2 e3=>D7 i x v e1 (w i v e2) e3⟩,I.cell,I.free,I.hok,hl.trans I.len,I.f0⟩
theorem ag.get {G:Gx}{F:Fz}:∀{ds:List D}{us:List Value}{i:Nat}{d:D},ag G F ds us->ds[i]?=some d->∃u,us[i]?=some u/\ae G F d u
 |[],us,i,d,h,e=>by simp at e
 |d'::ds,us,0,d,h,e=>by rw[ag]at h;obtain⟨u,r,rfl,h1,_⟩:=h;cases e;exact⟨u,rfl,h1⟩
 |d'::ds,us,i+1,d,h,e=>by rw[ag]at h;obtain⟨u,r,rfl,_,h2⟩:=h;exact ag.get (i:=i) h2 e
end
open Classical in
noncomputable def Cx.aO (X:Cx) (h:Heap):Fz:=λb=>if b=X.env.locals then (h.get? b).map Fo.et else if ∃x,X.fn x=true/\X.env.cells.lookup x=some b then (h.get? b).map Fo.pin else none
structure dH (G:Gx) (A:Around) (outer:List Env) (z:Z):Prop where
 frames:A.frames=some outer
 mod:Mod G
 bs:Bs G z.F
 bx:∀env∈outer,jf G z.F env
 hok:az G z.F z.M z.s.heap
 bare:AllBare z.s.gens
section
variable {X:Cx} {τ:St} {z z':Z}{b:Addr}{f:Fo}
theorem Cx.qc {h:Heap}:mS (X.aO h):=λb o e=>by
 unfold Cx.aO at e;split at e
 ·cases q:h.get? b <;> rw[q]at e <;> cases e
 ·split at e
  ·cases q:h.get? b <;> rw[q]at e <;> cases e
  ·cases e
theorem Cx.D8 {h:Heap} (b:Addr) (p:Pos) (q:Str):X.aO h b≠some (.tab p q):=λe=>by
 unfold Cx.aO at e;split at e
 ·cases q:h.get? b <;> rw[q]at e <;> cases e
 ·split at e
  ·cases q:h.get? b <;> rw[q]at e <;> cases e
  ·cases e
theorem aa.fN (I:aa X τ z) {h:Heap} (e:X.aO h b≠none):cx X b/\z.F b=none:=by
 unfold Cx.aO at e;split at e
 ·rename_i q;exact⟨.inl q,q ▸ I.free.1⟩
 ·split at e
  ·rename_i q;obtain⟨x,h1,h2⟩:=q;refine⟨.inr ⟨x,h2⟩,?_⟩;rcases (I.cell x b h2).2.2 with r |r
   ·exact r.2
   ·rw[h1]at r;cases r.1
  ·exact absurd rfl e
theorem vL {h:Heap} (e:X.aO h b=some f):f.At h b:=by
 unfold Cx.aO at e;split at e
 ·cases q:h.get? b with
  |none=>rw[q]at e;cases e
  |some o=>rw[q]at e;cases e;exact⟨o.slots,q⟩
 ·split at e
  ·cases q:h.get? b with
   |none=>rw[q]at e;cases e
   |some o=>rw[q]at e;cases e;exact q
  ·cases e
theorem aa.mV (I:aa X τ z):az X.G (aT z.F (X.aO z.s.heap)) z.M z.s.heap:=
 I.hok.pin (λb f e=>⟨vL e,I.cy (I.fN (h:=z.s.heap) (by rw[e];exact YI f)).1⟩) (λb e=>(I.fN e).2) X.D8
theorem aa.cc (I:aa X τ z):Le z.F (aT z.F (X.aO z.s.heap)):=Le.pin λb e=>(I.fN e).2
theorem aa.ku (I:aa X τ z):∃o es ep,z.s.heap.get? X.env.locals=some o/\o.data=.dict es ep/\X.aO z.s.heap X.env.locals=some (.et o):=by
 obtain⟨m,⟨o,es,ep,ho,hd,_⟩,_⟩:=I.loc;refine⟨o,es,ep,ho,hd,?_⟩;unfold Cx.aO;rw[if_pos rfl,ho];rfl
theorem aa.qe (I:aa X τ z):dH X.G X.A X.stk ⟨aT z.F (X.aO z.s.heap),z.M,z.s⟩:=by
 refine⟨I.ok.frames,I.ok.mod,I.bs.up I.cc,λenv he=>?_,I.mV,I.bare⟩;rcases I.ok.stk with e |⟨e,hf⟩
 ·rw[e]at he;exact (I.bx env he).go I.cc
 ·rw[e]at he;rcases List.mem_cons.mp he with rfl |he
  ·obtain⟨o,es,ep,ho,hd,hp⟩:=I.ku;refine⟨by rw[I.ok.kind];decide,_,o,hf,dj hp,?_,λvs q=>by rw[hd]at q;cases q⟩;cases q:X.G.base.get? X.env.locals with
   |none=>rfl
   |some ob=>have:=I.bs.b _ _ q;rw[I.free.1]at this;cases this
  ·exact (I.bx env he).go I.cc
theorem aa.after (I:aa X τ z) (l:Le (aT z.F (X.aO z.s.heap)) z'.F) (ok:az X.G z'.F z'.M z'.s.heap) (os:z'.s.os=z.s.os) (bare:AllBare z'.s.gens):aa X τ ⟨aK z'.F (X.aO z.s.heap),z'.M,z'.s⟩:=by
 refine I.go (Le.aK (λb e=>(I.fN e).2) l) (ok.aK X.qc l) (λb hb=>?_) os bare;cases q:X.aO z.s.heap b with
 |some g=>
  have h1:=l b g (dj q);refine⟨λo e=>?_,?_,?_⟩
  ·have h2:=ok.fz b g h1;have h3:=vL q;unfold Cx.aO at q;rw[e]at q;split at q
   ·cases q;exact h2
   ·split at q
    ·cases q;exact⟨o.slots,h2⟩
    ·cases q
  ·cases r:z'.M b with
   |none=>rfl
   |some o=>have:=(ok.ob b o r).1;rw[h1]at this;cases this
  ·show aK z'.F _ b=_;rw[ew q,(I.fN (h:=z.s.heap) (by rw[q];exact YI g)).2]
 |none=>
  -- a cell of the TS TU
  rcases hb with rfl |⟨x,hx⟩
  ·obtain⟨o,_,_,_,_,hp⟩:=I.ku;rw[q]at hp;cases hp
  ·rcases (I.cell x b hx).2.2 with ⟨r,_⟩ |⟨r,o,hF⟩
   ·exfalso;obtain⟨o,ho⟩:=I.vJ (.inr ⟨x,hx⟩:cx X b);unfold Cx.aO at q;rw[if_neg (I.gA hx),if_pos ⟨x,r,hx⟩,ho]at q;cases q
   ·have h1:=l b _ (by rw[e9 q];exact hF);refine⟨λo' e=>?_,?_,?_⟩
    ·have h2:z'.s.heap.get? b=some o:=ok.fz b _ h1;have h3:z.s.heap.get? b=some o:=I.hok.fz b _ hF;rw[e]at h3;cases h3;exact⟨_,h2⟩
    ·cases r':z'.M b with
     |none=>rfl
     |some o'=>have:=(ok.ob b o' r').1;rw[h1]at this;cases this
    ·show aK z'.F _ b=_;rw[ey q,h1,hF]
end
end N
end
section
set_option maxHeartbeats 1000000
namespace N
open PySem PySem.Spec PyProof.Rows L2
open Classical in
noncomputable def mW (h:Heap) (P:Addr->Prop):Heap:=⟨h.objs.mapIdx λi o=>if P i then o else { o with data:=.freed },h.life⟩
theorem jg {h:Heap}{P:Addr->Prop}{b:Addr}:(P b->(mW h P).get? b=h.get? b)/\(¬P b->(mW h P).get? b=none):=by
 unfold mW Heap.get?;constructor <;> intro hp <;> simp only[Array.getElem?_mapIdx]
 ·cases q:h.objs[b]? with
  |none=>rfl
  |some o=>simp only[Option.map_some,if_pos hp]
 ·cases q:h.objs[b]? with
  |none=>rfl
  |some o=>simp only[Option.map_some,if_neg hp]
structure dI (F:Fz) (M:Mp) (h:Heap) (a:Addr) (C a0:Value) (fl:Option Value):Prop where
 f:F a=none
 m:M a=none
 nd:∀ob,h.get? a=some ob->ob.dict=none
 o:∃oe vs,h.get? a=some oe/\(oe.cls=C/\vs[0]?=some a0)/\oe.data=.fields vs/\match fl with
  |none=>vs[1]?=some .none
  |some l=>∃T oT ts,vs[1]?=some (.ref T)/\F T=none/\M T=none/\T≠a/\h.get? T=some oT/\oT.data=.fields ts/\ts[3]?=some l
theorem az.slots {G:Gx}{F:Fz}{M:Mp}{h h':Heap} (x:az G F M h) (k:∀b,(F b≠none\/M b≠none)->(∀o,F b≠some (.et o))->a8 h h' b) (k2:∀b o,F b=some (.et o)->mT h h' b):az G F M h':=by
 have Wa:∀b o,M b=some o->a8 h h' b:=λb o e=>k b (.inr (by rw[e];exact YI o)) λo' q=>by rw[(x.ob b o e).1]at q;cases q
 refine⟨λb f e=>?_,λb o e=>⟨(x.ob b o e).1,(x.ob b o e).2.go Le.rfl.d (λc hc=>?_) λ_ q=>q⟩,x.tb.go (λ_ _ _ e=>e) Le.rfl.d λT p q e=>k T (.inl (by rw[e];exact YI _)) λo r=>by rw[e]at r;cases r⟩
 ·cases f with
  |et o=>
   obtain⟨sl,q⟩:=x.fz b _ e;obtain⟨jh,q'⟩:=k2 b o e _ q;exact⟨jh,q'⟩
  |_=>exact (x.fz b _ e).go (k b (.inl (by rw[e];exact YI _)) λo r=>by rw[e]at r;cases r)
 ·rcases hc with rfl |hc
  ·exact Wa _ _ e
  ·exact Wa _ _ hc
theorem vM {h base:Heap}:∀{l:List Env},(∀env∈l,env.scope.kind≠.module/\∃L o,env.frame=some L/\base.get? L=none/\h.get? L=some o/\∀vs,o.data≠.fields vs)->h.FunFrames base l
 |[],_=>trivial
 |env::l,k=>⟨(k env Ys).1,(k env Ys).2,vM λe he=>k e (Yt _ he)⟩
def Cx.keeps (X:Cx) (z:Z) (b:Addr):Prop:=(z.F b≠none\/z.M b≠none)/\b ∉ X.stk.filterMap (·.frame)
noncomputable def Cx.cJ (X:Cx) (z:Z):Heap:=mW z.s.heap (X.keeps z)
section
variable {X:Cx} {τ:St} {z:Z}{h':Heap}{a:Addr}{C a0 fl:Value}
theorem aa.vO (I:aa X τ z) {b:Addr} (h:z.F b≠none):∃o,z.s.heap.get? b=some o:=by
 cases q:z.F b with
 |none=>exact absurd q h
 |some f=>
  have:=I.hok.fz b f q;cases f with
  |dat o=>exact⟨_,this⟩
  |pin o=>exact⟨_,this⟩
  |et o=>obtain⟨sl,e⟩:=this;exact⟨_,e⟩
  |tab p t=>obtain⟨sl,e⟩:=this;exact⟨_,e⟩
theorem aa.vP (I:aa X τ z) {b:Addr} (h:z.M b≠none):∃o,z.s.heap.get? b=some o:=by
 cases q:z.M b with
 |none=>exact absurd q h
 |some o=>
  have:=(I.hok.ob b o q).2;cases o with
  |lst xs=>obtain⟨_,_,_,_,e⟩:=this;exact⟨_,e⟩
  |ak kvs=>obtain⟨_,_,_,_,o,_,_,e,_⟩:=this;exact⟨_,e⟩
  |ins C dx fs=>obtain⟨_,_,_,e,_⟩:=this;exact⟨_,e⟩
  |own y=>obtain⟨_,e⟩:=this;exact⟨_,e⟩
  |ja ps=>exact⟨_,this⟩
theorem aa.vQ (I:aa X τ z):(X.cJ z).StaysIn z.s.heap:=λb o e=>by
 unfold Cx.cJ at e;by_cases hp:X.keeps z b
 ·rw[jg.1 hp]at e;exact e
 ·rw[jg.2 hp]at e;cases e
theorem aa.mX (I:aa X τ z) {b:Addr} (hf:z.F b=none) (hm:z.M b=none):(X.cJ z).get? b=none:=jg.2 λh=>by
 rcases h.1 with h |h
 ·exact h hf
 ·exact h hm
theorem aa.frames (I:aa X τ z) (hs:X.stk=X.env::X.outer) (hf:X.env.frame=some X.env.locals):z.s.heap.FunFrames (X.cJ z) X.stk:=vM λenv he=>by
 have hL:∀L,env.frame=some L->(X.cJ z).get? L=none:=λL e=>jg.2 λh=>h.2 (List.mem_filterMap.mpr ⟨env,he,e⟩);rw[hs]at he;rcases List.mem_cons.mp he with rfl |he
 ·obtain⟨o,es,ep,ho,hd,_⟩:=I.ku;exact⟨by rw[I.ok.kind];decide,_,o,hf,hL _ hf,ho,λvs q=>by rw[hd]at q;cases q⟩
 ·obtain⟨h1,L,o,h2,h3,_,h5⟩:=I.bx env he;obtain⟨sl,e⟩:=I.hok.fz L _ h3;exact⟨h1,L,_,h2,hL _ h2,e,h5⟩
theorem aa.vT (I:aa X τ z) (hs:X.stk=X.env::X.outer) (hf:X.env.frame=some X.env.locals) (fa:z.F a=none) (ma:z.M a=none) (x1:(X.cJ z).StaysIn h') (x2:h'.FunFrames (X.cJ z) X.stk) (x3:h'.TracedAtW (X.cJ z) a C a0 fl) (x4:z.s.heap.UpToSlots h') (nd:∀ ob,h'.get? a=some ob->ob.dict=none) :
  aa X τ ⟨z.F,z.M,{ z.s with heap:=h' }⟩/\dI z.F z.M h' a C a0 (some fl):=by
 have fr:∀b,b∈X.stk.filterMap (·.frame)->mT z.s.heap h' b:=λb hb o e=>by
  obtain⟨_,o',e',hd⟩:=(I.frames hs hf).mem hb;rw[e']at e;cases e;exact x4 b _ e' hd
 have kp:∀b,z.F b≠none\/z.M b≠none->b ∉ X.stk.filterMap (·.frame)->a8 z.s.heap h' b:=λb hb hn o e=>x1 b o (by rw[show (X.cJ z).get? b=z.s.heap.get? b from jg.1 ⟨hb,hn⟩];exact e)
 -- a frame is told of as a frame,or it is the TV own
 have UK:∀b,b∈X.stk.filterMap (·.frame)->b=X.env.locals\/∃o,z.F b=some (.et o):=λb hb=>by
  obtain⟨env,he,e⟩:=List.mem_filterMap.mp hb;rw[hs]at he;rcases List.mem_cons.mp he with rfl |he
  ·rw[hf]at e;cases e;exact .inl rfl
  ·obtain⟨_,L,o,h2,h3,_⟩:=I.bx env he;rw[h2]at e;cases e;exact .inr ⟨o,h3⟩
 have ok:az X.G z.F z.M h':=I.hok.slots (λb hb hn=>kp b hb λhm=>by
   rcases UK b hm with rfl |⟨o,q⟩
   ·rcases hb with hb |hb
    ·exact hb I.free.1
    ·exact hb I.free.2
   ·exact hn o q) λb o q=>by
  by_cases hm:b∈X.stk.filterMap (·.frame)
  ·exact fr b hm
  ·exact (kp b (.inl (by rw[q];exact YI _)) hm).s
 refine⟨I.go (z':=⟨z.F,z.M,{ z.s with heap:=h' }⟩) Le.rfl ok (λb hb=>⟨λo e=>?_,I.cy hb,rfl⟩) rfl I.bare,fa,ma,nd,?_⟩
 ·refine x4 b o e λvs q=>?_;rcases hb with rfl |⟨x,hx⟩
  ·obtain⟨o',es,ep,ho,hd,_⟩:=I.ku;rw[ho]at e;cases e;rw[hd]at q;cases q
  ·obtain⟨⟨v,o',ho,hd⟩,_⟩:=I.cell x b hx;rw[ho]at e;cases e;rw[hd]at q;cases q
 ·obtain⟨oe,vs,T,oT,ts,h1,h2,h3,h4,h5,h6,h7,US,h9⟩:=x3;refine⟨oe,vs,h1,h2,h3,T,oT,ts,h4,?_⟩;have nm:T ∉ X.stk.filterMap (·.frame):=λhm=>by
   obtain⟨_,o,e,hd⟩:=x2.mem hm;rw[h7]at e;cases e;exact hd _ US
  have no:¬(z.F T≠none\/z.M T≠none):=λhb=>by
   have e:(X.cJ z).get? T=z.s.heap.get? T:=jg.1 ⟨hb,nm⟩;rw[h5]at e;rcases hb with hb |hb
   ·obtain⟨o,q⟩:=I.vO hb;rw[q]at e;cases e
   ·obtain⟨o,q⟩:=I.vP hb;rw[q]at e;cases e
  refine⟨aaf λq=>no (.inl q),aaf λq=>no (.inr q),h6,h7,US,h9⟩
def Cx.mark (X:Cx) (fl:Option Value):Prop:=fl=none\/fl=some .none\/fl=some (rawInt X.env.locals)
theorem dI.D9 {fv:Value} (I:aa X τ z) (x:dI z.F z.M z.s.heap a C a0 (some fv)):z.s.heap.TracedAtW (X.cJ z) a C a0 fv:=by
 obtain⟨oe,vs,h1,h2,h3,T,oT,ts,h4,h5,h6,h7,US⟩:=x.o;exact⟨oe,vs,T,oT,ts,h1,h2,h3,h4,I.mX h5 h6,h7,US⟩
theorem vU {T:Addr}{oe oT:Obj}{vs ts:Array Value}{fv v:Value} (I:aa X τ z) (hs:X.stk=X.env::X.outer) (hf:X.env.frame=some X.env.locals) (fa:z.F a=none) (ma:z.M a=none) (nd:∀ ob,z.s.heap.get? a=some ob->ob.dict=none)
  (he:z.s.heap.get? a=some oe) (hc:oe.cls=C/\vs[0]?=some a0) (hd:oe.data=.fields vs) (h1:vs[1]?=some (.ref T)) (Vk:z.F T=none) (Vl:z.M T=none) (kt:T≠a) (hT:z.s.heap.get? T=some oT) (gl:oT.data=.fields ts) (h3:ts[3]?=some fv) :
  aa X τ ⟨z.F,z.M,{ z.s with heap:=z.s.heap.update T (Za (·.setIfInBounds 3 v)) }⟩/\dI z.F z.M (z.s.heap.update T (Za (·.setIfInBounds 3 v))) a C a0 (some v):=by
 have hl:=I.frames hs hf;have Ea:3<ts.size:=(Array.getElem?_eq_some_iff.mp h3).1;have gB:∀b,b≠T->(z.s.heap.update T (Za (·.setIfInBounds 3 v))).get? b=z.s.heap.get? b:=λb hb=>Zr _ _ (Zl hb);have vV:∀b o,z.s.heap.get? b=some o->(∀vs,o.data≠.fields vs)->b≠T:=λb o hb ky q=>by
  rw[q,hT]at hb;cases hb;exact ky ts gl
 exact I.vT hs hf fa ma
  (λb o qf=>(gB b λq=>by rw[q,I.mX Vk Vl]at qf;cases qf).trans (I.vQ b o qf))
  (hl.of_keeps λb o hb ky=>⟨o,(gB b (vV b o hb ky)).trans hb,rfl⟩)
  ⟨oe,vs,T,_,_,(gB a (Zl kt)).trans he,hc,hd,h1,I.mX Vk Vl,kt,YK _ hT (aad (ZG gl _)),ZG gl _,by simp [Ea]⟩
  (λb o hb ky=>⟨o.slots,(gB b (vV b o hb ky)).trans hb⟩) λob e=>nd ob ((gB a (Zl kt)).symm.trans e)
theorem mY {A:Around}{E:Value->Shared->Prop}{Q:Unit->Shared->Prop}{fv:Value}{fl:Option Addr} (I:aa X τ z) (hs:X.stk=X.env::X.outer) (hf:X.env.frame=some X.env.locals) (x:dI z.F z.M z.s.heap a C a0 (some fv))
  (k:∀h',aa X τ ⟨z.F,z.M,{ z.s with heap:=h' }⟩->dI z.F z.M h' a C a0 (some (fl.elim Y6 λf=>rawInt f))->Q () { z.s with heap:=h' }):wpAny (model X.G.P X.G.w) A (setFlight (.ref a) fl) Q E z.s:=by
 obtain⟨oe,vs,he,hc,hd,T,oT,ts,h1,Vk,Vl,kt,hT,gl,h3⟩:=x.o;obtain⟨i,y⟩:=vU (v:=fl.elim Y6 λf=>rawInt f) I hs hf x.f x.m x.nd he hc hd h1 Vk Vl kt hT gl h3;unfold setFlight;refine Yj (YU he hd h1 ?_);rw[if_pos (show (YF T != Y6)=true from by simp)];exact Z7 hT gl (Array.getElem?_eq_some_iff.mp h3).1 (k _ i y)
theorem vW {E:Value->Shared->Prop}{Q:Unit->Shared->Prop}{oe:Obj}{vs:Array Value}{vX:Value}{Eb:Bool} (I:aa X τ z) (hs:X.stk=X.env::X.outer) (hf:X.env.frame=some X.env.locals) (fa:z.F a=none) (ma:z.M a=none)
  (he:z.s.heap.get? a=some oe) (hc:oe.cls=C) (hd:oe.data=.fields vs) (hsz:1<vs.size) (h0:vs[0]?=some a0) (hn:oe.dict=none)
  (k:∀h',aa X τ ⟨z.F,z.M,{ z.s with heap:=h' }⟩->dI z.F z.M h' a C a0 (some (rawInt X.env.locals))->Q () { z.s with heap:=h' }) :
  wpAny (model X.G.P X.G.w) X.A (do let f <- frameOf X.env;let pl <- entryPlaceOf X.env.locals Eb;let b <- EntryCells.newEntry vX f .none (rawInt X.env.locals) .none pl;setField (.ref a) 1 b) Q E z.s:=by
 have hl:=I.frames hs hf;have hfr:X.A.frames=some (X.env::X.outer):=by rw[I.ok.frames,hs]
 have hl2:=hl;rw[hs]at hl2;have nf:a ∉ (X.env::X.outer).filterMap (·.frame):=λhm=>by
  obtain⟨_,o,ho,hx⟩:=hl2.mem hm;rw[he]at ho;cases ho;exact hx vs hd
 refine Yj (wpAny_frameOf_fun hfr hl2 hf λh₁ qg=>Yj (wpAny_entryPlaceOf λpl bv=>?_));unfold EntryCells.newEntry newFields;refine Yj (YV ?_ (bv.sizeOk5 _ _ _ _ _));generalize hN:({ cls:=.type "traceback",dict:=none,data:=.fields ([vX,.ref X.env.locals,.none,rawInt X.env.locals,.none]++(if pl.isEmpty then Y' 6 Y6 else pl)).toArray }:Obj)=nw
 have Ec:nw.isFreed=false:=by rw[<- hN];rfl
 have e1:h₁.get? a=some oe:=(qg.2.1 a nf).trans he;have e2:=Yk (h:=h₁) nw e1;have ne:h₁.objs.size≠a:=Zf (Yw e1);have d3:=ZG hd (·.setIfInBounds 1 (YF h₁.objs.size));have e3:=YK (Za (·.setIfInBounds 1 (YF h₁.objs.size))) e2 (aad d3);have gB:∀b o,b≠a->h₁.get? b=some o->((h₁.push nw).update a (Za (·.setIfInBounds 1 (YF h₁.objs.size)))).get? b=some o:=λb o hb e=>
  (Zr _ _ (Zl hb)).trans (Yk nw e)
 have ns:∀b o,z.s.heap.get? b=some o->(∀vs,o.data≠.fields vs)->b≠a:=λb o e hx q=>by rw[q,he]at e;cases e;exact hx vs hd
 have up:z.s.heap.UpToSlots ((h₁.push nw).update a (Za (·.setIfInBounds 1 (YF h₁.objs.size)))):=λb o e hx=>by
  obtain⟨sl,q⟩:=qg.2.2 b o e;exact⟨sl,gB b _ (ns b o e hx) q⟩
 have vY:∀b o,(X.cJ z).get? b=some o->h₁.get? b=some o:=λb o e=>(qg.2.1 b λhm=>by rw[(hl2.mem hm).1]at e;cases e).trans (I.vQ b o e);have fin:=I.vT (h':=(h₁.push nw).update a (Za (·.setIfInBounds 1 (YF h₁.objs.size)))) (a:=a) (C:=C) (a0:=a0) (fl:=rawInt X.env.locals) hs hf fa ma
  (λb o e=>gB b o (λq=>by rw[q,I.mX fa ma]at e;cases e) (vY b o e))
  (hl.of_keeps λb o e hx=>let ⟨sl,q⟩:=up b o e hx;⟨_,q,rfl⟩)
  ⟨_,_,h₁.objs.size,nw,_,e3,⟨(Obj.cls_mapFields _ _).trans hc,by rw[Array.getElem?_setIfInBounds_ne (by decide)];exact h0⟩,d3,by simp [hsz],Heap.StaysIn.fresh vY,ne,
   (Zr _ _ (Zl ne)).trans (Yp h₁ (by simpa using Ec)),by rw[<- hN],by rcases bv with rfl |⟨_,_,_,_,_,_,_,rfl⟩ <;> simp⟩
  up λob e=>by rw[e3]at e;cases e;rw[<- hn];cases oe;cases hd;rfl
 exact Z7 e2 hd hsz (k _ fin.1 fin.2)
theorem qh {E:Value->Shared->Prop}{Q:Unit->Shared->Prop}{fo:Option Value} (I:aa X τ z) (hs:X.stk=X.env::X.outer) (hf:X.env.frame=some X.env.locals) (x:dI z.F z.M z.s.heap a C a0 fo) (hm:X.mark fo)
  (k:∀h',aa X τ ⟨z.F,z.M,{ z.s with heap:=h' }⟩->dI z.F z.M h' a C a0 (some (rawInt X.env.locals))->Q () { z.s with heap:=h' }):wpAny (model X.G.P X.G.w) X.A (noteFrame (.ref a) X.env) Q E z.s:=by
 rcases hm with rfl |rfl |rfl
 ·obtain⟨oe,vs,h1,⟨h2,h3⟩,h4,h5⟩:=x.o;unfold noteFrame;simp only[hf];refine Yj (YU h1 h4 h5 ?_);rw[if_neg (by decide)];exact vW I hs hf x.f x.m h1 h2 h4 (Array.getElem?_eq_some_iff.mp h5).1 h3 (x.nd _ h1) k
 ·obtain⟨oe,vs,h1,⟨h2,h3⟩,h4,T,oT,ts,h5,h6,h7,US,h9,qi,qj⟩:=x.o;unfold noteFrame;simp only[hf];refine Yj (YU h1 h4 h5 ?_);rw[if_pos (show (YF T != Y6)=true from by simp)];refine Yj (YU h9 qi qj ?_);rw[if_neg (show ¬((Y6 == rawInt X.env.locals)=true) from by simp [rawInt])];obtain⟨I',x'⟩:=vU (v:=.none) I hs hf x.f x.m x.nd h1 ⟨h2,h3⟩ h4 h5 h6 h7 US h9 qi qj;refine Yj (Z7 h9 qi (Array.getElem?_eq_some_iff.mp qj).1 ?_);obtain⟨oe,vs,g1,⟨g2,g3⟩,g4,T',TW,TX,g5,_⟩:=x'.o;exact vW (z:=⟨z.F,z.M,{ z.s with heap:=_ }⟩) I' hs hf x'.f x'.m g1 g2 g4 (Array.getElem?_eq_some_iff.mp g5).1 g3 (x'.nd _ g1) k
 ·exact wpAny_noteFrame_againW hf (x.D9 I) (k _ I x)
theorem Ed {E:Value->Shared->Prop}{Q:Unit->Shared->Prop}{fo:Option Value} (I:aa X τ z) (hs:X.stk=X.env::X.outer) (hf:X.env.frame=some X.env.locals) (x:dI z.F z.M z.s.heap a C a0 fo) (hm:X.mark fo)
  (k:∀h',aa X τ ⟨z.F,z.M,{ z.s with heap:=h' }⟩->dI z.F z.M h' a C a0 (some .none)->Q () { z.s with heap:=h' }):wpAny (model X.G.P X.G.w) X.A (leaving X.env (.ref a)) Q E z.s:=by
 unfold leaving;exact Yj (qh I hs hf x hm λh1 I1 x1=>mY (z:=⟨z.F,z.M,{ z.s with heap:=h1 }⟩) (fl:=none) I1 hs hf x1 λh2 I2 x2=>k h2 I2 x2)
end
def XE (X:Cx) (e:Value) (s:Shared):Prop:=∃x τ z a a0 fo,z.s=s/\aa X τ z/\e=.ref a/\dI z.F z.M z.s.heap a x.C a0 fo/\X.mark fo/\X.x x τ z.M
theorem XE.no {X:Cx} (hx:∀x τ M,¬X.x x τ M) {e:Value}{s:Shared} (h:XE X e s):False:=by obtain⟨x,τ,z,_,_,_,_,_,_,_,_,h⟩:=h;exact hx _ _ _ h
theorem hW {X:Cx}:PassesOwn (model X.G.P X.G.w) X.A X.env (XE X):=by
 rintro e s ⟨x,τ,z,a,a0,fo,rfl,I,rfl,h1,h2,h3⟩;obtain⟨hs,hf⟩:=I.ok.xs _ _ _ h3;refine qh I hs hf h1 h2 λh' I' x'=>?_;obtain⟨oe,vs,q1,q2,q3,T,oT,ts,q4,_⟩:=x'.o;refine Yj (YU q1 q3 q4 ?_);dsimp only;rw[if_neg (by simp),hf];exact mY (z:=⟨z.F,z.M,{ z.s with heap:=h' }⟩) I' hs hf x' λh2 I2 x2=>⟨x,τ,⟨z.F,z.M,{ z.s with heap:=h2 }⟩,a,a0,_,rfl,I2,rfl,x2,.inr (.inr rfl),h3⟩
abbrev W (X:Cx) {α:Type} (t:Sem α) (R:α->Shared->Prop) (s:Shared):Prop:=wpAny (model X.G.P X.G.w) X.A t R (XE X) s
abbrev QK:=D->Mp->Prop
abbrev DE:=St->Mp->QK->Prop
abbrev DT:=St->Mp->(Bool->Mp->Prop)->Prop
abbrev DA:=St->Mp->(List D->Mp->Prop)->Prop
abbrev Q1:=D->Mp->QK->Prop
abbrev Q2:=D->D->Mp->QK->Prop
abbrev QN:=List D->Mp->QK->Prop
structure En where
 nx:St->Mp->Prop
 rt:QK
 bk:St->Mp->Prop:=λ_ _=>False
 ct:St->Mp->Prop:=λ_ _=>False
abbrev DS:=En->St->Mp->Prop
abbrev KE (X:Cx) (τ:St) (F:Fz) (Q:QK) (R:Value->Shared->Prop):Prop:=∀d z u,Le F z.F->aa X τ z->ae X.G z.F d u->Q d z.M->R u z.s
abbrev KT (X:Cx) (τ:St) (F:Fz) (Q:Bool->Mp->Prop) (R:Bool->Shared->Prop):Prop:=∀b z,Le F z.F->aa X τ z->Q b z.M->R b z.s
abbrev KA (X:Cx) (τ:St) (F:Fz) (Q:List D->Mp->Prop) (R:List Value->Shared->Prop):Prop:=∀ds z us,Le F z.F->aa X τ z->ag X.G z.F ds us->Q ds z.M->R us z.s
structure KS (X:Cx) (F:Fz) (e:En) (R:Flow->Shared->Prop):Prop where
 nx:∀ τ z,Le F z.F->aa X τ z->e.nx τ z.M->R .next z.s
 rt:∀d τ z u,Le F z.F->aa X τ z->ae X.G z.F d u->e.rt d z.M->R (.ret u) z.s
 bk:∀ τ z,Le F z.F->aa X τ z->e.bk τ z.M->R .brk z.s
 ct:∀ τ z,Le F z.F->aa X τ z->e.ct τ z.M->R .cont z.s
theorem KS.up {X:Cx}{F F':Fz}{e:En}{R:Flow->Shared->Prop} (k:KS X F e R) (l:Le F F'):KS X F' e R:=
 ⟨fun τ z l1=>k.nx τ z (l.tr l1),λd τ z u l1=>k.rt d τ z u (l.tr l1),fun τ z l1=>k.bk τ z (l.tr l1),fun τ z l1=>k.ct τ z (l.tr l1)⟩
def PE (X:Cx) (e:Expr) (t:DE):Prop:=∀ τ z Q R,aa X τ z->t τ z.M Q->KE X τ z.F Q R->W X (eval e X.env) R z.s
def PT (X:Cx) (e:Expr) (t:DT):Prop:=∀ τ z Q R,aa X τ z->t τ z.M Q->KT X τ z.F Q R->W X (isTrue e X.env (eval e X.env)) R z.s
def PW (X:Cx) (e:Expr) (t:DT):Prop:=∀(hY:Sem Value) τ z Q R,aa X τ z->t τ z.M Q->KT X τ z.F Q R->W X (isTrue e X.env hY) R z.s
def PA (X:Cx) (es:List Expr) (t:DA):Prop:=∀(pos:Pos) τ z Q R,aa X τ z->t τ z.M Q->KA X τ z.F Q R->W X (spliced (backTo pos (starEach es X.env))) R z.s
def PS (X:Cx) (st:Stmt) (t:DS):Prop:=∀ τ z e R,aa X τ z->t e τ z.M->KS X z.F e R->W X (exec st X.env) R z.s
def bR (X:Cx) (st:List Stmt) (t:DS):Prop:=∀ τ z e R,aa X τ z->t e τ z.M->KS X z.F e R->W X (execs st X.env) R z.s
def O1 (X:Cx) (f:Value->Sem Value) (r:Q1):Prop:=∀ τ z Q R d v,aa X τ z->ae X.G z.F d v->r d z.M Q->KE X τ z.F Q R->W X (f v) R z.s
def O2 (X:Cx) (f:Value->Value->Sem Value) (r:Q2):Prop:=∀ τ z Q R d e v u,aa X τ z->ae X.G z.F d v->ae X.G z.F e u->r d e z.M Q->KE X τ z.F Q R->W X (f v u) R z.s
def ON (X:Cx) (f:List Value->Sem Value) (r:QN):Prop:=∀ τ z Q R ds us,aa X τ z->ag X.G z.F ds us->r ds z.M Q->KE X τ z.F Q R->W X (f us) R z.s
def cK (i:Nat):DE:=fun τ M q=>match τ[i]? with
 |some (some d)=>q d M
 |_=>False
def kA (d:D) (k:Bool->Prop):Prop:=match d with
 |.bl b=>k b
 |_=>False
def bS (d:D) (k:Int->Prop):Prop:=match d with
 |.int i=>k i
 |_=>False
def kB (r:Q2) (ta tb:DE):DE:=fun τ M q=>ta τ M λx M1=>tb τ M1 λy M2=>r x y M2 q
def ji (r:Q1) (ta:DE):DE:=fun τ M q=>ta τ M λx M1=>r x M1 q
def dJ:DA:=λ_ M q=>q [] M
def dk (ta:DE) (tr:DA):DA:=fun τ M q=>ta τ M λx M1=>tr τ M1 λxs M2=>q (x::xs) M2
def vZ (t:DA):DE:=fun τ M q=>t τ M λds M1=>ds.length<=sizeLine/\q (.tup ds) M1
def bL (ds:List D) (M:Mp) (q:QK):Prop:=q (.lst ds) M\/∀p,M p=none->q (.ref p) (up M p (.lst ds))
def qk (t:DA):DE:=fun τ M q=>t τ M λds M1=>ds.length<=sizeLine/\bL ds M1 q
def v8 (ta tb:DE):DE:=fun τ M q=>ta τ M λx M1=>kA x λc=>if c=true then tb τ M1 q else q (.bl false) M1
def v9 (ta tb:DE):DE:=fun τ M q=>ta τ M λx M1=>kA x λc=>if c=true then q (.bl true) M1 else tb τ M1 q
def wb (ta:DE):DE:=fun τ M q=>ta τ M λx M1=>kA x λc=>q (.bl (!c)) M1
def we (t u:DT):DT:=fun τ M q=>t τ M λc M1=>if c=true then u τ M1 q else q false M1
def wg (t u:DT):DT:=fun τ M q=>t τ M λc M1=>if c=true then q true M1 else u τ M1 q
def wj (t:DT):DT:=fun τ M q=>t τ M λc M1=>q (!c) M1
def wo (t:DT) (ta tb:DE):DE:=fun τ M q=>t τ M λc M1=>if c=true then ta τ M1 q else tb τ M1 q
def eA (t u:DS):DS:=λe τ M=>t { e with nx:=u e } τ M
def mZ (te:DE):DS:=λe τ M=>te τ M λ_ M1=>e.nx τ M1
def wt (te:DE):DS:=λe τ M=>te τ M e.rt
def ql (t:DT) (a b:DS):DS:=λe τ M=>t τ M λc M1=>if c=true then a e τ M1 else b e τ M1
section
variable {X:Cx} {τ:St} {z:Z}
theorem aa.qm {τ':St} {m:Str->Option Value}{e:Addr}{h':Heap}{t:Nat} (I:aa X τ z) (he:e=X.env.locals\/∃ x,X.env.cells.lookup x=some e/\z.F e=none) (hs:ZM e z.s.heap h') (hn:h'.Ns X.env.locals m)
  (hl:∀(i:Nat) (x:Str) (d:D),X.N[i]?=some x->τ'[i]?=some (some d)->dZ X.env.scope x->∃u,ae X.G z.F d u/\i' X.env h' m x u) (hc:∀x,X.env.cells.lookup x=some e->∃v,h'.IsCell e v) (len:τ'.length=τ.length) :
  aa X τ' ⟨z.F,z.M,{ z.s with heap:=h',toks:=t }⟩:=by
 have hF:z.F e=none/\z.M e=none:=by
  rcases he with rfl |⟨x,h1,h2⟩
  ·exact I.free
  ·exact⟨h2,(I.cell x e h1).2.1⟩
 refine⟨I.ok,I.bs,I.os,I.bare,I.bx,⟨m,hn,hl⟩,λx c q=>⟨?_,(I.cell x c q).2⟩,I.free,I.hok.keep λb hb o q=>(hs.2 b ?_).trans q,len.trans I.len,I.f0⟩
 ·by_cases h:c=e
  ·rw[h];exact hc x (h ▸ q)
  ·obtain⟨⟨v,k⟩,_⟩:=I.cell x c q;exact⟨v,k.sameBut hs h⟩
 ·rintro rfl;rcases hb with h |h;exact h hF.1;exact h hF.2
theorem kC {M:Model}{A:Around}{E:Value->Shared->Prop}{i:Nat}{x:Str}{d:D}{u:Value}{Q:Unit->Shared->Prop} (I:aa X τ z) (hN:X.N.Nodup) (hi:X.N[i]?=some x) (hx:hU X.env.scope x) (hf:X.fn x=true\/X.env.scope.names.lookup x=some .local) (r:ae X.G z.F d u)
  (h:∀s',aa X (τ.set i (some d)) ⟨z.F,z.M,s'⟩->Q () s'):wpAny M A (storeName X.env x u) Q E z.s:=by
 obtain⟨m,hn,hl⟩:=id I.loc;have kE:(X.env.scope.kind == .class ||(X.env.scope.kind == .module && X.env.locals != X.env.globals))=false:=by rw[I.ok.kind];rfl
 have hiσ:i < τ.length:=by rw[I.len];exact (List.getElem?_eq_some_iff.mp hi).1
 have loc:∀ {h':Heap}{m':Str->Option Value}{e:Addr},ZM e z.s.heap h'->i' X.env h' m' x u->(∀ y w,y≠x->i' X.env z.s.heap m y w->i' X.env h' m' y w) ->
   ∀(j:Nat) (y:Str) (d':D),X.N[j]?=some y->(τ.set i (some d))[j]?=some (some d')->dZ X.env.scope y->∃u,ae X.G z.F d' u/\i' X.env h' m' y u:=λhs h1 h2 j y d' e1 e2 e3=>by
  by_cases hj:j=i
  ·subst hj;rw[hi]at e1;cases e1;rw[List.getElem?_set_self hiσ]at e2;cases e2;exact⟨u,r,h1⟩
  ·rw[List.getElem?_set_ne (Zl hj)]at e2;obtain⟨w,r',q⟩:=hl j y d' e1 e2 e3;exact⟨w,r',h2 y w (λe=>hj (vA hN e1 (e ▸ hi))) q⟩
 rcases hx with hk |hk
 ·refine wpAny_storeName_local hk hn (λh' kF hs=>h _ (I.qm (.inl rfl) hs kF (loc hs (.inl ⟨hk,if_pos rfl⟩) λy w ne q=>?_) (λy hy=>absurd rfl (I.gA hy)) (List.length_set ..))) kE;rcases q with ⟨k,e⟩ |⟨k,c,e,q⟩
  ·exact .inl ⟨k,(if_neg ne).trans e⟩
  ·exact .inr ⟨k,c,e,q.sameBut hs (I.gA e)⟩
 ·have qn:X.fn x=true:=hf.elim id λe=>by rw[e]at hk;cases hk
  obtain⟨c,hc⟩:=I.ok.has x (.inl hk);obtain⟨⟨XH,q⟩,_,hF⟩:=I.cell x c hc;refine wpAny_storeName_cell I.ok.kind hk hc q λh' fP hs=>h _ (I.qm (.inr ⟨x,hc,hF.elim (·.2) λq=>by rw[qn]at q;cases q.1⟩) hs (hn.sameBut hs (Zl (I.gA hc))) (loc hs (.inr ⟨.inl hk,c,hc,fP⟩) λy w ne q=>?_) (λ_ _=>⟨_,fP⟩) (List.length_set ..));rcases q with q |⟨k,c',e,q⟩
  ·exact .inl q
  ·exact .inr ⟨k,c',e,q.sameBut hs λe'=>ne (I.ok.inj _ _ _ (e' ▸ e) hc)⟩
end
section
variable {X:Cx}{a b c:Expr}{ta tb:DE}{tA tB:DT}{pos:Pos}{rest:List Expr}
theorem wu {t u:DE} (h:PE X a t) (f:∀ τ M Q,u τ M Q->t τ M Q):PE X a u:=fun τ z Q R I q=>h τ z Q R I (f _ _ _ q)
theorem m6 {i:Nat}{x:Str} (hN:X.N[i]?=some x) (hv:dZ X.env.scope x) (hd:(x == ("__debug__" : Str))=false) (cL:(x == ("__classdict__" : Str))=false):PE X (.Name x pos) (cK i):=by
 intro τ z Q R I h k;unfold cK at h;split at h
 ·rename_i d e;obtain⟨m,hn,hl⟩:=I.loc;obtain⟨u,r,l⟩:=hl i x d hN e hv;have fin:=k d z u Le.rfl I r h;rcases l with ⟨hk,hm⟩ |⟨hk,c,hc,m7⟩
  ·exact wpAny_Name (wpAny_loadName_local I.ok.kind hk hn hm fin) hd
  ·rcases hk with hk |hk
   ·exact wpAny_Name (wpAny_loadName_cell I.ok.kind hk hc m7 fin) hd
   ·exact wpAny_Name (wpAny_loadName_free I.ok.kind hk hc m7 fin cL) hd
 ·exact h.elim
def UI (d:D):DE:=λ_ M q=>q d M
theorem kG {G:Gx}{F:Fz}{b:Bool}:ae G F (.bl b) (.bool b):=by rw[ae]
theorem bX {G:Gx}{F:Fz}{i:Int}{t:Tok}:ae G F (.int i) (.int i t):=by rw[ae];exact⟨t,rfl⟩
theorem gC {G:Gx}{F:Fz}{x:Str}{t:Tok}:ae G F (.str x) (.str x t):=by rw[ae];exact⟨t,rfl⟩
theorem qo {G:Gx}{F:Fz}{a:Addr}:ae G F (.ref a) (.ref a):=by rw[ae]
theorem Ee {G:Gx}{F:Fz}:ae G F .aj .none:=by rw[ae]
theorem aa.fin {τ:St} {z:Z}{F:Fz}{Q:QK}{R:Value->Shared->Prop}{d:D}{u:Value} (I:aa X τ z) (k:KE X τ F Q R) (l:Le F z.F) (r:ae X.G z.F d u) (q:Q d z.M) (t:Nat):R u { z.s with toks:=t }:=k d ⟨z.F,z.M,{ z.s with toks:=t }⟩ u l (I.mU t) r q
theorem wy {i j}:PE X (.Constant (.int i) j pos) (UI (.int i)):=fun τ z Q R I h k=>wpAny_Constant_int (I.fin k Le.rfl bX h _)
theorem Ef {b j}:PE X (.Constant (.bool b) j pos) (UI (.bl b)):=fun τ z Q R I h k=>Constant_bool (k (.bl b) z _ Le.rfl I kG h)
theorem Eg {j}:PE X (.Constant .none j pos) (UI .aj):=fun τ z Q R I h k=>Constant_none (k .aj z _ Le.rfl I Ee h)
theorem Eh {x j}:PE X (.Constant (.str x) j pos) (UI (.str x)):=fun τ z Q R I h k=>Calls.Constant_str (I.fin k Le.rfl gC h _)
def Gl (X:Cx) (x:Str):Prop:=X.env.kindOf x=some .globalImplicit
theorem fb {E:Value->Shared->Prop} {τ:St} {z:Z}{x:Str}{u:Value}{Q:Value->Shared->Prop} (I:aa X τ z) (hg:Gl X x) (hm:X.G.mg x=some u) (hd:(x == ("__debug__" : Str))=false) (h:Q u z.s):wpAny (model X.G.P X.G.w) X.A (eval (.Name x pos) X.env) Q E z.s:=
 Calls.Name_function_global I.ok.kind hg (Calls.loadGlobal_global (by rw[I.ok.cw];exact I.ok.mod.cw.keeps I.bk) hm h) hd
theorem eB {E:Value->Shared->Prop} {τ:St} {z:Z}{x:Str}{u:Value}{Q:Value->Shared->Prop} (I:aa X τ z) (hg:Gl X x) (hm:X.G.mg x=none) (hv:bootBuiltins x=some u) (hn:x≠"__name__") (hd:(x == ("__debug__" : Str))=false) (h:Q u z.s):wpAny (model X.G.P X.G.w) X.A (eval (.Name x pos) X.env) Q E z.s:=by
 obtain⟨mb,h1,h2⟩:=I.ok.mod.gz;exact Calls.Name_function_global I.ok.kind hg (Calls.loadGlobal_builtin (by rw[I.ok.cw];exact I.ok.mod.cw.keeps I.bk) hm (by rw[I.ok.gz];exact h1.keeps I.bk) ((h2 x hn).trans hv) h) hd
theorem wz {x:Str}{d:D}{u:Value} (hg:Gl X x) (hm:X.G.mg x=some u) (hd:(x == ("__debug__" : Str))=false) (r:∀ τ z,aa X τ z->ae X.G z.F d u):PE X (.Name x pos) (UI d):=
 fun τ z Q R I h k=>fb I hg hm hd (k d z u Le.rfl I (r τ z I) h)
theorem wA {o:Operator}{r:Q2} (ho:O2 X (binaryOp o) r) (ha:PE X a ta) (hb:PE X b tb):PE X (.BinOp a o b pos) (kB r ta tb):=fun τ z Q R I h k=>
 wpAny_BinOp (ha τ z _ _ I h λx z1 v l1 I1 r1 q1=>hb τ z1 _ _ I1 q1 λy z2 u l2 I2 r2 q2=>ho τ z2 Q _ x y v u I2 (r1.up l2.d) r2 q2 λd z3 w l3=>k d z3 w (l1.tr (l2.tr l3)))
theorem Ei (ha:PT X a tA):PW X (.BoolOp .And [a] pos) tA:=λwh τ z Q R I h k=>isTrue_and (ha τ z _ _ I h λb z1 l1 I1 q1=>by
 cases b with
 |true=>exact isTrue_and_nil (k true z1 l1 I1 q1)
 |false=>exact k false z1 l1 I1 q1)
theorem Ej (ha:PT X a tA):PW X (.BoolOp .Or [a] pos) tA:=λwh τ z Q R I h k=>isTrue_or (ha τ z _ _ I h λb z1 l1 I1 q1=>by
 cases b with
 |true=>exact k true z1 l1 I1 q1
 |false=>exact isTrue_or_nil (k false z1 l1 I1 q1))
theorem Ek (ha:PT X a tA) (hb:PW X (.BoolOp .And (b::rest) pos) tB):PW X (.BoolOp .And (a::b::rest) pos) (we tA tB):=λwh τ z Q R I h k=>isTrue_and (ha τ z _ _ I h λb z1 l1 I1 q1=>by
 cases b with
 |true=>exact hb wh τ z1 Q R I1 q1 λb z2 l2=>k b z2 (l1.tr l2)
 |false=>exact k false z1 l1 I1 q1)
theorem El (ha:PT X a tA) (hb:PW X (.BoolOp .Or (b::rest) pos) tB):PW X (.BoolOp .Or (a::b::rest) pos) (wg tA tB):=λwh τ z Q R I h k=>isTrue_or (ha τ z _ _ I h λb z1 l1 I1 q1=>by
 cases b with
 |true=>exact k true z1 l1 I1 q1
 |false=>exact hb wh τ z1 Q R I1 q1 λb z2 l2=>k b z2 (l1.tr l2))
theorem Em (ha:PT X a tA):PT X (.UnaryOp .Not a pos) (wj tA):=fun τ z Q R I h k=>isTrue_not (ha τ z _ _ I h λb z1 l1 I1 q1=>k (!b) z1 l1 I1 q1)
theorem wB {op} (h:PE X a ta):PE X (.BoolOp op [a] pos) ta:=fun τ z Q R I q k=>BoolOp_one (h τ z Q R I q k)
theorem qp {d:D}{k:Bool->Prop}{G:Gx}{F:Fz}{u:Value} (h:kA d k) (r:ae G F d u):∃b,u=.bool b/\k b:=by
 unfold kA at h;split at h
 ·rw[ae]at r;exact⟨_,r,h⟩
 ·exact h.elim
theorem Eo (ha:PE X a ta) (hb:PE X (.BoolOp .And (b::rest) pos) tb):PE X (.BoolOp .And (a::b::rest) pos) (v8 ta tb):=fun τ z Q R I h k=>BoolOp_and (ha τ z _ _ I h λx z1 v l1 I1 r1 q1=>by
 obtain⟨c,rfl,q1⟩:=qp q1 r1;refine ZU ?_;cases c with
 |true=>exact hb τ z1 Q R I1 q1 λd z2 u l2=>k d z2 u (l1.tr l2)
 |false=>exact k (.bl false) z1 _ l1 I1 kG q1)
theorem Ep (ha:PE X a ta) (hb:PE X (.BoolOp .Or (b::rest) pos) tb):PE X (.BoolOp .Or (a::b::rest) pos) (v9 ta tb):=fun τ z Q R I h k=>BoolOp_or (ha τ z _ _ I h λx z1 v l1 I1 r1 q1=>by
 obtain⟨c,rfl,q1⟩:=qp q1 r1;refine ZU ?_;cases c with
 |false=>exact hb τ z1 Q R I1 q1 λd z2 u l2=>k d z2 u (l1.tr l2)
 |true=>exact k (.bl true) z1 _ l1 I1 kG q1)
theorem Er (ha:PE X a ta):PE X (.UnaryOp .Not a pos) (wb ta):=fun τ z Q R I h k=>UnaryOp_ (ha τ z _ _ I h λx z1 v l1 I1 r1 q1=>by
 obtain⟨c,rfl,q1⟩:=qp q1 r1;exact not_of (ZU (k (.bl (!c)) z1 _ l1 I1 kG q1)))
theorem Es (hc:PT X c tA) (ha:PE X a ta) (hb:PE X b tb):PE X (.IfExp c a b pos) (wo tA ta tb):=fun τ z Q R I h k=>wpAny_IfExp (hc τ z _ _ I h λd z1 l1 I1 q1=>by
 cases d with
 |true=>exact ha τ z1 Q R I1 q1 λd z2 u l2=>k d z2 u (l1.tr l2)
 |false=>exact hb τ z1 Q R I1 q1 λd z2 u l2=>k d z2 u (l1.tr l2))
theorem gD:PA X [] dJ:=λ_ τ z Q R I h k=>ZY (k [] z [] Le.rfl I .nil h)
theorem dm {es:List Expr}{t:DA} (ha:PE X a ta) (hr:PA X es t) (hs:starEach (a::es) X.env=(false,eval a X.env)::starEach es X.env):PA X (a::es) (dk ta t):=by
 intro pos τ z Q R I h k;rw[hs];show W X (spliced ((false,eval a X.env)::backTo pos (starEach es X.env))) R z.s;exact Zu (ha τ z _ _ I h λx z1 v l1 I1 r1 q1=>hr pos τ z1 _ _ I1 q1 λxs z2 us l2 I2 r2 q2=>k (x::xs) z2 (v::us) (l1.tr l2) I2 (.cons (r1.up l2.d) r2) q2)
theorem m8 {G:Gx}{F:Fz}{ds:List D}{us:List Value}{a:Addr}{o:Obj} (h:F a=some (.dat o)) (t:kq o us) (r:ag G F ds us):ae G F (.tup ds) (.ref a):=by rw[ae];exact⟨a,o,us,rfl,h,t,r⟩
theorem m9 {G:Gx}{F:Fz}{ds:List D}{us:List Value}{a:Addr}{n:Nat} (h:F a=some (.dat (bH us n))) (t:us.length<=sizeLine) (r:ag G F ds us):ae G F (.lst ds) (.ref a):=by rw[ae];exact⟨a,n,us,rfl,h,t,r⟩
theorem aa.tup {τ:St} {z:Z}{ds:List D}{us:List Value}{h':Heap}{a:Addr}{o:Obj}{t:Nat}{Q:QK}{R:Value->Shared->Prop}{F:Fz} (I:aa X τ z) (k:KE X τ F Q R) (l:Le F z.F) (r:ag X.G z.F ds us) (kp:∀b,a8 z.s.heap h' b) (hp:z.s.heap.objs.size<=a) (ho:h'.get? a=some o) (to:kq o us) (q:Q (.tup ds) z.M):R (.ref a) { z.s with heap:=h',toks:=t }:=
 have l1:Le z.F (up z.F a (.dat o)):=Le.new (I.hok.ck hp)
 k (.tup ds) _ _ (l.tr l1) (I.jc (t:=t) (f:=.dat o) kp hp ho) (m8 au to (r.up l1.d)) q
theorem aa.lst {τ:St} {z:Z}{ds:List D}{us:List Value}{h':Heap}{a:Addr}{n t:Nat}{Q:QK}{R:Value->Shared->Prop}{F:Fz} (I:aa X τ z) (k:KE X τ F Q R) (l:Le F z.F) (r:ag X.G z.F ds us) (kp:∀b,a8 z.s.heap h' b) (hp:z.s.heap.objs.size<=a) (ho:h'.get? a=some (bH us n)) (hz:us.length<=sizeLine) (q:bL ds z.M Q):R (.ref a) { z.s with heap:=h',toks:=t }:=by
 rcases q with q |q
 ·have l1:Le z.F (up z.F a (.dat (bH us n))):=Le.new (I.hok.ck hp);exact k (.lst ds) _ _ (l.tr l1) (I.jc (t:=t) (f:=.dat (bH us n)) kp hp ho) (m9 au hz (r.up l1.d)) q
 ·exact k (.ref a) ⟨z.F,_,_⟩ _ l (I.lay (t:=t) (o:=.lst ds) kp hp ⟨by rw[r.len];exact hz,us,n,r,ho⟩) qo (q a (I.hok.c0 hp))
theorem Et {es:List Expr}{t:DA} {x1} (h:PA X es t):PE X (.Tuple es x1 pos) (vZ t):=fun τ z Q R I hq k=>wpAny_Tuple_spliced (h pos τ z _ _ I hq λds z1 us l1 I1 r1 q1=>by
 have hz:us.length<=sizeLine:=by rw[<- r1.len];exact q1.1
 exact⟨hz,I1.tup (t:=z1.s.toks) k l1 r1 (λb o e=>Yk _ e) (Yr _) (Yp _ rfl) ⟨rfl,rfl,⟨_,rfl⟩,hz⟩ q1.2⟩)
theorem qq {es:List Expr}{t:DA} (h:PA X es t):PE X (.List es pos) (qk t):=fun τ z Q R I hq k=>wpAny_List_spliced (h pos τ z _ _ I hq λds z1 us l1 I1 r1 q1=>by
 have hz:us.length<=sizeLine:=by rw[<- r1.len];exact q1.1
 exact⟨hz,I1.lst (t:=z1.s.toks) (n:=0) k l1 r1 (λb o e=>Yk _ e) (Yr _) (Yp _ rfl) hz q1.2⟩)
variable {st:Stmt}{wn:List Stmt}{t u:DS}
theorem wC:bR X [] (λe τ M=>e.nx τ M):=fun τ z e R I h k=>aan (k.nx τ z Le.rfl I h)
theorem gE (h1:PS X st t) (h2:bR X wn u):bR X (st::wn) (eA t u):=fun τ z e R I h k=>wpAny_execs_cons (h1 τ z { e with nx:=u e } _ I h
 ⟨fun τ1 z1 l1 I1 q=>h2 τ1 z1 e R I1 q (k.up l1),k.rt,k.bk,k.ct⟩)
theorem jj (h1:PS X st t):bR X [st] t:=fun τ z e R I h k=>wpAny_execs_cons (h1 τ z e _ I h ⟨fun τ1 z1 l1 I1 q=>aan (k.nx τ1 z1 l1 I1 q),k.rt,k.bk,k.ct⟩)
theorem Eu:PS X (.Pass pos) (λe τ M=>e.nx τ M):=fun τ z e R I h k=>wpAny_Pass (k.nx τ z Le.rfl I h)
theorem Ew:PS X (.Break pos) (λe τ M=>e.bk τ M):=fun τ z e R I h k=>wpAny_Break (k.bk τ z Le.rfl I h)
theorem Ex:PS X (.Continue pos) (λe τ M=>e.ct τ M):=fun τ z e R I h k=>wpAny_Continue (k.ct τ z Le.rfl I h)
theorem aa.wD {τ:St} {z:Z} (I:aa X τ z):interactive X.env=false:=by simp [interactive,I.ok.kind]
theorem Ey (he:PE X a ta) (hs:swapsWith a none pos.line X.env=pure false):PS X (.Expr a pos) (mZ ta):=fun τ z e R I h k=>wpAny_Expr_any (he τ z _ _ I h λd z1 u l1 I1 r1 q1=>k.nx τ z1 l1 I1 q1) I.wD hs
theorem Ez (he:PE X a ta):PS X (.Return (some a) pos) (wt ta):=fun τ z e R I h k=>wpAny_Return_some (he τ z _ _ I h λd z1 u l1 I1 r1 q1=>k.rt d τ z1 u l1 I1 r1 q1)
theorem wF {xs ys:List Stmt} (hc:PT X c tA) (ha:bR X xs t) (hb:bR X ys u):PS X (.If c xs ys pos) (ql tA t u):=fun τ z e R I h k=>wpAny_If (hc τ z _ _ I h λd z1 l1 I1 q1=>by
 cases d with
 |true=>exact ha τ z1 e R I1 q1 (k.up l1)
 |false=>exact hb τ z1 e R I1 q1 (k.up l1))
theorem dK:PS X st (λ_ _ _=>False):=λ_ _ _ _ _ h _=>h.elim
theorem kH:PE X a (λ_ _ _=>False):=λ_ _ _ _ _ h _=>h.elim
theorem qr:PT X a (λ_ _ _=>False):=λ_ _ _ _ _ h _=>h.elim
theorem wG:PW X a (λ_ _ _=>False):=λ_ _ _ _ _ _ h _=>h.elim
end
end N
end
section
set_option maxHeartbeats 1000000
namespace N
open PySem PySem.Spec PyProof.Rows L2
def bf (d:D) (M:Mp) (k:List D->Prop):Prop:=match d with
 |.lst ds=>k ds
 |.ref a=>∃ds,M a=some (.lst ds)/\k ds
 |_=>False
def dp (d:D) (M:Mp) (k:List D->Prop):Prop:=match d with
 |.tup ds=>k ds
 |d=>bf d M k
structure eC (G:Gx) (F:Fz) (h:Heap) (a:Addr) (ds:List D) (us:List Value) (n:Nat):Prop where
 e:h.get? a=some (bH us n)
 r:ag G F ds us
 z:us.length<=sizeLine
structure qu (G:Gx) (F:Fz) (h:Heap) (a:Addr) (ds:List D) (us:List Value) (o:Obj):Prop where
 e:h.get? a=some o
 t:kq o us
 r:ag G F ds us
section
variable {X:Cx} {τ:St} {z:Z}{d:D}{u:Value}{a:Addr}
theorem eC.p {G:Gx}{F:Fz}{h:Heap}{ds:List D}{us:List Value}{n:Nat} (l:eC G F h a ds us n):PlainL h a us.toArray:=⟨_,n,l.e,rfl,rfl,rfl⟩
theorem qu.p {G:Gx}{F:Fz}{h:Heap}{ds:List D}{us:List Value}{o:Obj} (l:qu G F h a ds us o):IsTup h a us.toArray:=⟨o,l.e,l.t.cls,l.t.data⟩
theorem aa.eD (I:aa X τ z) {ds:List D} (h:z.M a=some (.lst ds)):∃us n,eC X.G z.F z.s.heap a ds us n:=by
 obtain⟨_,h1,us,n,r,e⟩:=I.hok.ob a _ h;exact⟨us,n,e,r,by rw[<- r.len];exact h1⟩
theorem aa.fQ (I:aa X τ z) {ds:List D} (r:ae X.G z.F (.lst ds) u):∃a us n,u=.ref a/\eC X.G z.F z.s.heap a ds us n:=by
 rw[ae]at r;obtain⟨a,n,us,e,h1,h2,h3⟩:=r;exact⟨a,us,n,e,I.hok.fz a _ h1,h3,h2⟩
theorem aa.cM (I:aa X τ z) {ds:List D} (r:ae X.G z.F (.tup ds) u):∃a us o,u=.ref a/\qu X.G z.F z.s.heap a ds us o:=by
 rw[ae]at r;obtain⟨a,o,us,e,h1,h2,h3⟩:=r;exact⟨a,us,o,e,I.hok.fz a _ h1,h2,h3⟩
theorem aa.bf {k:List D->Prop} (I:aa X τ z) (r:ae X.G z.F d u) (h:bf d z.M k):∃a ds us n,u=.ref a/\eC X.G z.F z.s.heap a ds us n/\k ds:=by
 unfold N.bf at h;split at h
 ·obtain⟨a,us,n,e,l⟩:=I.fQ r;exact⟨a,_,us,n,e,l,h⟩
 ·rw[ae]at r;obtain⟨ds,h1,h2⟩:=h;obtain⟨us,n,l⟩:=I.eD h1;exact⟨_,ds,us,n,r,l,h2⟩
 ·exact h.elim
end
abbrev DG:=D->St->Mp->(St->Mp->Prop)->Prop
def PG (X:Cx) (tg:Expr) (t:DG):Prop:=∀ τ z d u Q R,aa X τ z->ae X.G z.F d u->t d τ z.M Q->(∀ τ' z',Le z.F z'.F->aa X τ' z'->Q τ' z'.M->R () z'.s)->W X (assign tg X.env u) R z.s
inductive G where
 |one (i:Nat)
 |many (is:List Nat)
noncomputable def fc:List Nat->List D->St->St
 |i::is,d::ds,τ=>fc is ds (τ.set i (some d))
 |_,_,τ=>τ
def bM:G->DG
 |.one i=>λd τ M k=>k (τ.set i (some d)) M
 |.many is=>λd τ M k=>dp d M λds=>ds.length=is.length/\k (fc is ds τ) M
structure fR (X:Cx) (is:List Nat) (xs:List Str):Prop where
 nd:X.N.Nodup
 ok:∀i x,(i,x)∈is.zip xs->X.N[i]?=some x/\hU X.env.scope x/\(X.fn x=true\/X.env.scope.names.lookup x=some .local)
section
variable {X:Cx}{pos:Pos}
theorem wH {i:Nat}{x:Str} (h:fR X [i] [x]):PG X (.Name x pos) (bM (.one i)):=fun τ z d u Q R I r q k=>
 have o:=h.ok i x (List.mem_singleton.mpr rfl)
 wpAny_assign_Name (kC I h.nd o.1 o.2.1 o.2.2 r λs' I'=>k _ ⟨z.F,z.M,s'⟩ Le.rfl I' q)
theorem EA {env:Env}{x:Str}{p:Pos}{es:List Expr}:(assignEach (.Name x p::es) env).map (·.2)=assign (.Name x p) env::(assignEach es env).map (·.2):=rfl
theorem EB:∀ (is:List Nat) (es:List (Str×Pos)) (ds:List D) {τ:St} {z:Z}{us:List Value}{R:Unit->Shared->Prop},fR X is (es.map (·.1))->is.length=es.length->ds.length=is.length->aa X τ z->ag X.G z.F ds us->(∀ s',aa X (fc is ds τ) ⟨z.F,z.M,s'⟩->R () s') ->
  W X (assignInOrder ((assignEach (es.map λp=>.Name p.1 p.2) X.env).map (·.2)) us) R z.s:=by
 intro is
 induction is with
 |nil=>
  intro es ds τ z us R h hl hd I r k;cases es with
  |cons _ _=>cases hl
  |nil=>cases ds with
   |cons _ _=>cases hd
   |nil=>rw[ag]at r;subst r;exact assignInOrder_nil (k z.s I)
 |cons i is ih=>
  intro es ds τ z us R h hl hd I r k;cases es with
  |nil=>cases hl
  |cons p es=>cases ds with
   |nil=>cases hd
   |cons d ds=>
    rw[ag]at r;obtain⟨u,us,rfl,r1,r2⟩:=r;have o:=h.ok i p.1 Ys;rw[Yu,EA];exact assignInOrder_cons (wpAny_assign_Name (kC I h.nd o.1 o.2.1 o.2.2 r1 λs' I'=>ih es ds (z:=⟨z.F,z.M,s'⟩) ⟨h.nd,λj y hj=>h.ok j y (Yt _ hj)⟩ (aaq hl) (aaq hd) I' r2 k))
theorem wI {env:Env}:∀(es:List (Str×Pos)),(assignEach (es.map λp=>Expr.Name p.1 p.2) env).length=es.length/\(assignEach (es.map λp=>Expr.Name p.1 p.2) env).findIdx? (·.1)=none
 |[]=>⟨rfl,rfl⟩
 |p::es=>by
  obtain⟨h1,h2⟩:=wI (env:=env) es;refine⟨congrArg (·+1) h1,?_⟩;show List.findIdx? _ ((false,_)::assignEach (es.map λp=>Expr.Name p.1 p.2) env)=none;rw[List.findIdx?_cons,h2];rfl
theorem EC {is:List Nat}{es:List (Str×Pos)}{k:Nat} (hc:X.calm=true) (h:fR X is (es.map (·.1))) (hl:is.length=es.length):PG X (.Tuple (es.map λp=>.Name p.1 p.2) k pos) (bM (.many is)):=by
 intro τ z d u Q R I r q kk;obtain⟨e1,e2⟩:=wI (env:=X.env) es;have fin:∀ (ds:List D) (us:List Value),ag X.G z.F ds us->ds.length=is.length->Q (fc is ds τ) z.M->∀ h',(∀ b o,b≠z.s.heap.objs.size->z.s.heap.get? b=some o->h'.get? b=some o) ->
   W X (assignInOrder ((assignEach (es.map λp=>.Name p.1 p.2) X.env).map (·.2)) us) R { z.s with heap:=h' }:=λds us r hd q h' ext=>
  EB is es ds (z:=⟨z.F,z.M,{ z.s with heap:=h',toks:=z.s.toks }⟩) h hl hd (I.kept λb o e=>ext b o (Yx (Yw e)) e) r λs' I'=>kk _ ⟨z.F,z.M,s'⟩ Le.rfl I' q
 have lst:∀{d:D}{p:List D->Prop},ae X.G z.F d u->bf d z.M p->(∀ds,p ds->ds.length=is.length/\Q (fc is ds τ) z.M)->W X (assign (.Tuple (es.map λp=>.Name p.1 p.2) k pos) X.env u) R z.s:=λr q hk=>by
  obtain⟨a,ds,us,n,rfl,l,q⟩:=I.bf r q;obtain⟨hd,q⟩:=hk ds q;have len:us.toArray.size=es.length:=by rw[Yn,<- l.r.len,hd,hl]
  rw[assign_Tuple];refine Yj (wpAny_standAt ?_);unfold unpack;rw[e1,e2,<- len];exact Yj (Y3 (PySem.W.kun_itemsOf (I.ok.hd hc) l.p.isList λh' ext=>fin ds us l.r hd q h' ext))
 unfold bM dp at q;cases d with
 |tup ds=>
  obtain⟨a,us,o,rfl,l⟩:=I.cM r;exact assign_Tuple_tuple (I.ok.hd hc) l.p (by rw[e1,Yn,<- l.r.len,q.1,hl]) e2 λh' hx=>fin ds us l.r q.1 q.2 h' hx
 |lst ds=>exact lst r q λ_ h=>h
 |ref a=>exact lst r q λ_ h=>h
 |_=>exact q.elim
abbrev QS:=D->D->D->Mp->(Mp->Prop)->Prop
def OS (X:Cx) (r:QS):Prop:=∀ τ z o i d ov iv u Q R,aa X τ z->ae X.G z.F o ov->ae X.G z.F i iv->ae X.G z.F d u->r o i d z.M Q->(∀z',Le z.F z'.F->aa X τ z'->Q z'.M->R () z'.s)->W X (setItem ov iv u) R z.s
def qv (r:QS) (to ti:DE):DG:=λd τ M Q=>to τ M λo M1=>ti τ M1 λi M2=>r o i d M2 λM3=>Q τ M3
theorem ED {o i : Expr} {to ti : DE} {r : QS} (ho : PE X o to) (hi : PE X i ti) (hs : OS X r) (ha : ∀ v, assign (.Subscript o i pos) X.env v = (do
      let ov <- holding [v] (eval o X.env)
      let iv <- holding [v,ov] (eval i X.env)
      standAt pos
      holding [v,ov,iv] (setItem ov iv v)
      release [v,ov,iv] [])):PG X (.Subscript o i pos) (qv r to ti):=by
  intro τ z d u Q R I rd q k;rw[ha];exact Yj (Y3 (ho τ z _ _ I q λx z1 v l1 I1 r1 q1=>Yj (Y3 (hi τ z1 _ _ I1 q1 λy z2 w l2 I2 r2 q2=>Yj (wpAny_standAt (Yj (Y3
    (hs τ z2 x y d v w u _ _ I2 (r1.up l2.d) r2 (rd.up (l1.tr l2).d) q2 λz3 l3 I3 q3=>wpAny_release (k τ z3 (l1.tr (l2.tr l3)) I3 q3)))))))))
def fS (te:DE) (g:DG):DS:=λe τ M=>te τ M λd M1=>g d τ M1 e.nx
theorem wJ {tg e:Expr}{te:DE}{g:DG} (he:PE X e te) (hg:PG X tg g) (hs:swapsWithSole [tg] e pos.line X.env=pure false) (hw:swappedStores [tg] e X.env=pure none) (h1:(assignEach [tg] X.env).map (·.2)=[assign tg X.env]):PS X (.Assign [tg] e pos) (fS te g):=fun τ z e R I h k=>
 wpAny_Assign_stores (he τ z _ _ I h λd z1 u l1 I1 r1 q1=>by
  rw[h1];exact hg τ z1 d u _ _ I1 r1 q1 fun τ' z' l2 I2 q2=>k.nx τ' z' (l1.tr l2) I2 q2) hs hw
theorem kI {i:Nat}{x:Str}{e:Expr}{te:DE}{p:Pos} (h:fR X [i] [x]) (he:PE X e te) (hs:swapsWith e (some (.Name x p)) pos.line X.env=pure false):PS X (.Assign [.Name x p] e pos) (fS te (bM (.one i))):=fun τ z e R I q k=>
 have o:=h.ok i x (List.mem_singleton.mpr rfl)
 wpAny_Assign_Name (he τ z _ _ I q λd z1 u l1 I1 r1 q1=>kC I1 h.nd o.1 o.2.1 o.2.2 r1 λs' I'=>k.nx _ ⟨z1.F,z1.M,s'⟩ l1 I' q1) hs
def hZ (t:DT) (tb:DS) (e:En):Nat->St->Mp->Prop
 | 0,_,_=>False
 |n+1,τ,M=>t τ M λc M1=>if c=true then tb { e with nx:=hZ t tb e n,ct:=hZ t tb e n,bk:=e.nx } τ M1 else e.nx τ M1
def wK (t:DT) (tb:DS):DS:=λe τ M=>∃n,hZ t tb e n τ M
theorem EE {c:Expr}{body:List Stmt}{tc:DT}{tb:DS} (hc:PT X c tc) (hb:bR X body tb):PS X (.While c body [] pos) (wK tc tb):=by
 intro τ z e R I h k;obtain⟨n,h⟩:=h;refine wpAny_While (codeAny_whileLoop (λn s'=>∃ τ' z',Le z.F z'.F/\aa X τ' z'/\hZ tc tb e n τ' z'.M/\z'.s=s') ?_ n ⟨τ,z,Le.rfl,I,h,rfl⟩);rintro n s1 ⟨τ1,z1,l1,I1,w1,rfl⟩;cases n with
 |zero=>exact w1.elim
 |succ n=>
  refine aam hW (hc τ1 z1 _ _ I1 w1 λb z2 l2 I2 q2=>?_);cases b with
  |true=>
   rw[if_pos rfl];exact aam hW (hb τ1 z2 _ _ I2 q2 ⟨fun τ3 z3 l3 I3 q3=>⟨n,ZK n,τ3,z3,l1.tr (l2.tr l3),I3,q3,rfl⟩,λd τ3 z3 u l3=>k.rt d τ3 z3 u (l1.tr (l2.tr l3)),fun τ3 z3 l3=>k.nx τ3 z3 (l1.tr (l2.tr l3)),fun τ3 z3 l3 I3 q3=>⟨n,ZK n,τ3,z3,l1.tr (l2.tr l3),I3,q3,rfl⟩⟩)
  |false=>
   rw[if_neg Y0];exact aan (k.nx τ1 z2 (l1.tr l2) I2 q2)
end
end N
end
section
set_option maxHeartbeats 1000000
namespace N
open PySem PySem.Spec PyProof.Rows L2
structure Fp (X:Cx) (z:Z) (b:Addr):Prop where
 f:z.F b=none
 m:z.M b=none
 o:¬cx X b
inductive ng (X:Cx) (τ:St) (z:Z) (d:D) (u:Value) (fp:List Addr) (tn:Nat->Heap->Prop) (i:Nat) (s:Shared):Prop
 |mk {F:Fz} (l:Le z.F F) (I:aa X τ ⟨F,z.M,s⟩) (r:ae X.G F d u) (t:tn i s.heap) (n:∀b∈fp,F b=none)
structure gF (G:Gx) (tg:Expr) (xs:List D) (ok:Mp->Prop) (F0:Fz) (fp:List Addr) (it:Addr) (tn:Nat->Heap->Prop):Prop where
 obj:∀i h,tn i h->∀b∈fp,∃o,h.get? b=some o
 keep:∀i h h',tn i h->(∀b∈fp,a8 h h' b)->tn i h'
 item:∀(X:Cx),X.G=G->X.calm=true->∀i τ z d E,aa X τ z->Le F0 z.F->(∀b∈fp,Fp X z b)->tn i z.s.heap->ok z.M->xs[i]?=some d ->
  wpAny (model G.P G.w) X.A (pyNext (.ref it)) (λr s1=>∃u,r=some u/\wpAny (model G.P G.w) X.A (letOwnedTupleGo tg (.ref it) u) (λ_ s2=>ng X τ z d u fp tn (i+1) s2) E s1) E z.s
 done:∀(X:Cx),X.G=G->X.calm=true->∀i τ z E,aa X τ z->Le F0 z.F->(∀b∈fp,Fp X z b)->tn i z.s.heap->ok z.M->xs.length<=i->wpAny (model G.P G.w) X.A (pyNext (.ref it)) (λr s1=>r=none/\aa X τ ⟨z.F,z.M,s1⟩) E z.s
 self:∀(A:Around) i (s:Shared) (Q E:Value->Shared->Prop),tn i s.heap->Q (.ref it) s->wpAny (model G.P G.w) A (pyIter (.ref it)) Q E s
inductive qw (X:Cx) (tg:Expr) (xs:List D) (ok:Mp->Prop) (z:Z) (it:Addr):Prop
 |mk {fp:List Addr}{tn:Nat->Heap->Prop} (T:gF X.G tg xs ok z.F fp it tn) (t:tn 0 z.s.heap) (f:∀b∈fp,Fp X z b)
abbrev DI:=St->Mp->(List D->(Mp->Prop)->Mp->Prop)->Prop
abbrev KI (X:Cx) (τ:St) (tg:Expr) (F:Fz) (k:List D->(Mp->Prop)->Mp->Prop) (R:Value->Shared->Prop):Prop:=∀xs ok z it,Le F z.F->aa X τ z->qw X tg xs ok z it->k xs ok z.M->R (.ref it) z.s
def PI (X:Cx) (tg iter:Expr) (t:DI):Prop:=∀ τ z k R,aa X τ z->t τ z.M k->KI X τ tg z.F k R->W X (eval iter X.env) (λv s1=>W X (pyIter v) R s1) z.s
open Classical in
noncomputable def aP (fp:List Addr) (h:Heap):Fz:=λb=>if b∈fp then (h.get? b).map Fo.pin else none
section
variable {X:Cx} {τ τ':St} {z z':Z}{fp:List Addr}{h h':Heap}{b a:Addr}
theorem jk:mS (aP fp h):=λb o e=>by
 unfold aP at e;split at e
 ·cases q:h.get? b <;> rw[q]at e <;> cases e
 ·cases e
theorem nh {f:Fo} (e:aP fp h b=some f):b∈fp/\∃o,h.get? b=some o/\f=.pin o:=by
 unfold aP at e;split at e
 ·rename_i hb;cases q:h.get? b with
  |none=>rw[q]at e;cases e
  |some o=>rw[q]at e;cases e;exact⟨hb,o,rfl,rfl⟩
 ·cases e
theorem gG {o:Obj} (hb:b∈fp) (e:h.get? b=some o):aP fp h b=some (.pin o):=by unfold aP;rw[if_pos hb,e];rfl
theorem kJ (hb:b ∉ fp):aP fp h b=none:=if_neg hb
theorem aa.kK (I:aa X τ z) (hf:∀b∈fp,Fp X z b):Le z.F (aT z.F (aP fp z.s.heap))/\aa X τ ⟨aT z.F (aP fp z.s.heap),z.M,z.s⟩:=by
 have UL:∀b,aP fp z.s.heap b≠none->z.F b=none:=λb e=>by
  cases q:aP fp z.s.heap b with
  |none=>exact absurd q e
  |some f=>exact (hf b (nh q).1).f
 refine⟨Le.pin UL,I.go (Le.pin UL) (I.hok.pin (λb f e=>?_) UL λb p q e=>by obtain⟨_,_,_,z⟩:=nh e;cases z) (λb hb=>⟨a8.s λ_ e=>e,I.cy hb,e9 (kJ λm=>(hf b m).o hb)⟩) rfl I.bare⟩;obtain⟨hb,o,h1,rfl⟩:=nh e;exact⟨h1,(hf b hb).m⟩
theorem aa.jl (I:aa X τ' z') {F:Fz} (hf:∀ b∈fp,F b=none/\¬cx X b) (l:Le (aT F (aP fp h)) z'.F) (bs:Bs X.G F) (of:∀ env∈X.outer,jf X.G F env) (f0:Le X.F0 F) :
  Le F (aK z'.F (aP fp h))/\aa X τ' ⟨aK z'.F (aP fp h),z'.M,z'.s⟩:=by
 have UL:∀b,aP fp h b≠none->F b=none:=λb e=>by
  cases q:aP fp h b with
  |none=>exact absurd q e
  |some f=>exact (hf b (nh q).1).1
 have Vm:=Le.aK UL l;have ld:=bW.aK (jk (fp:=fp) (h:=h)) l;have own:∀b,cx X b->aK z'.F (aP fp h) b=z'.F b:=λb hb=>ey (kJ λm=>(hf b m).2 hb);refine⟨Vm,⟨I.ok,bs.up Vm,I.os,I.bare,λenv he=>(of env he).go Vm,?_,λx c e=>?_,⟨(own _ (.inl rfl)).trans I.free.1,I.free.2⟩,I.hok.aK jk l,I.len,f0.tr Vm⟩⟩
 ·obtain⟨m,h1,h2⟩:=I.loc;exact⟨m,h1,λi x d e1 e2 e3=>let ⟨u,r,k⟩:=h2 i x d e1 e2 e3;⟨u,r.up ld,k⟩⟩
 ·obtain⟨h1,h2,h3⟩:=I.cell x c e;exact⟨h1,h2,by show (_/\aK _ _ c=none)\/_/\∃o,aK _ _ c=_;rw[own c (.inr ⟨x,e⟩)];exact h3⟩
theorem aa.kL (I:aa X τ z) (hb:z.s.heap.objs.size<=b) {s':Shared}:Fp X ⟨z.F,z.M,s'⟩ b:=⟨I.hok.ck hb,I.hok.c0 hb,λo=>absurd (YD (I.fM o) hb) (ZL _)⟩
def gH (ok:Mp->Prop) (g:DG) (tb:DS) (e:En):List D->St->Mp->Prop
 |[],τ,M=>ok M/\e.nx τ M
 |x::xs,τ,M=>ok M/\g x τ M fun τ1 M1=>tb { e with nx:=gH ok g tb e xs,ct:=gH ok g tb e xs,bk:=e.nx } τ1 M1
def qx (ti:DI) (g:DG) (tb:DS):DS:=λe τ M=>ti τ M λxs ok M1=>gH ok g tb e xs τ M1
theorem EF {tg iter:Expr}{body:List Stmt}{ti:DI}{g:DG}{tb:DS}{pos:Pos} (hc:X.calm=true) (hi:PI X tg iter ti) (hg:PG X tg g) (hb:bR X body tb) (hs:∀x,foldedSetIterable iter X.env x=pure x):PS X (.For tg iter body [] pos) (qx ti g tb):=by
 intro τ z e R I h k;refine wpAny_For (hi τ z _ _ I h λxs ok z1 it l1 I1 hit h1=>?_) hs;obtain⟨T,t0,f0⟩:=hit;rename_i fp tn;refine codeAny_forLoop_any (λn s'=>∃i τ' z',Le z1.F z'.F/\aa X τ' z'/\tn i z'.s.heap/\(∀b∈fp,Fp X z' b)/\gH ok g tb e (xs.drop i) τ' z'.M/\n+i=xs.length/\z'.s=s') ?_ xs.length ⟨0,τ,z1,Le.rfl,I1,t0,f0,h1,rfl,rfl⟩;rintro n s3 ⟨i,τ3,z3,l3,I3,t3,f3,w3,hn,rfl⟩;cases hx:xs[i]? with
 |none=>
  have hl:xs.length<=i:=List.getElem?_eq_none_iff.mp hx;rw[List.drop_of_length_le hl]at w3;refine aam hW (Zm (T.done X rfl hc i τ3 z3 (XE X) I3 l3 f3 t3 w3.1 hl) (λr s4 h4=>?_) λ_ _ q=>q);obtain⟨rfl,I4⟩:=h4;exact aan (k.nx τ3 ⟨z3.F,z3.M,s4⟩ (l1.tr l3) I4 w3.2)
 |some d=>
  obtain⟨bd,hd⟩:=List.getElem?_eq_some_iff.mp hx;rw[List.drop_eq_getElem_cons bd,hd]at w3;refine aam hW (Zm (T.item X rfl hc i τ3 z3 d (XE X) I3 l3 f3 t3 w3.1 hx) (λr s4 h4=>?_) λ_ _ q=>q);obtain⟨u,rfl,h4⟩:=h4;refine aam hW (Zm h4 (λ_ s5 h5=>?_) λ_ _ q=>q);obtain⟨l5,I5,r5,t5,n5⟩:=h5;rename_i F5;have f5:∀b∈fp,Fp X ⟨F5,z3.M,s5⟩ b:=λb hb=>⟨n5 b hb,(f3 b hb).m,(f3 b hb).o⟩;obtain⟨lp,Ip⟩:=I5.kK f5;refine aam hW (hg τ3 _ d u _ _ Ip (r5.up lp.d) w3.2 fun τ6 z6 l6 I6 q6=>aam hW (hb τ6 z6 _ _ I6 q6 ?_));have off:∀{τ7:St} {z7:Z},Le z6.F z7.F->aa X τ7 z7->Le z.F (aK z7.F (aP fp s5.heap))/\aa X τ7 ⟨aK z7.F (aP fp s5.heap),z7.M,z7.s⟩/\(Le z1.F (aK z7.F (aP fp s5.heap))/\tn (i+1) z7.s.heap/\∀b∈fp,Fp X ⟨aK z7.F (aP fp s5.heap),z7.M,z7.s⟩ b):=λ{τ7 z7} l7 I7=>by
   have l8:=l6.tr l7;obtain⟨u1,u2⟩:=I7.jl (fp:=fp) (h:=s5.heap) (F:=F5) (λb hb=>⟨n5 b hb,(f3 b hb).o⟩) l8 I5.bs I5.bx I5.f0;have bK:∀b∈fp,∃o,s5.heap.get? b=some o/\z7.F b=some (.pin o):=λb hb=>by
    obtain⟨o,ho⟩:=T.obj _ _ t5 b hb;exact⟨o,ho,l8 b _ (dj (gG hb ho))⟩
   refine⟨l1.tr (l3.tr (l5.tr u1)),u2,l3.tr (l5.tr u1),T.keep _ _ _ t5 λb hb o ho=>?_,λb hb=>?_⟩
   ·obtain⟨o',h1,h2⟩:=bK b hb;rw[ho]at h1;cases h1;exact I7.hok.fz b _ h2
   ·obtain⟨o',h1,h2⟩:=bK b hb;refine⟨ew (gG hb h1),?_,(f3 b hb).o⟩;cases q:z7.M b with
    |none=>rfl
    |some m=>have:=(I7.hok.ob b m q).1;rw[h2]at this;cases this
  have again:∀ τ7 z7,Le z6.F z7.F->aa X τ7 z7->gH ok g tb e (xs.drop (i+1)) τ7 z7.M->∃m,m<n/\∃i τ' z',Le z1.F z'.F/\aa X τ' z'/\tn i z'.s.heap/\(∀b∈fp,Fp X z' b)/\gH ok g tb e (xs.drop i) τ' z'.M/\m+i=xs.length/\z'.s=z7.s:=fun τ7 z7 l7 I7 q7=>by
   obtain⟨_,u2,u3,u4,WV⟩:=off l7 I7;exact⟨n-1,by lia,i+1,τ7,_,u3,u2,u4,WV,q7,by lia,rfl⟩
  exact⟨again,λWW τ7 z7 u7 l7 I7 r7 q7=>by
    obtain⟨u1,u2,_⟩:=off l7 I7;exact k.rt WW τ7 ⟨aK z7.F (aP fp s5.heap),z7.M,z7.s⟩ u7 u1 u2 (r7.up (bW.aK (F:=F5) jk (l6.tr l7))) q7,
   fun τ7 z7 l7 I7 q7=>by
    obtain⟨u1,u2,_⟩:=off l7 I7;exact k.nx τ7 ⟨aK z7.F (aP fp s5.heap),z7.M,z7.s⟩ u1 u2 q7,again⟩
end
end N
end
section
set_option maxHeartbeats 1000000
namespace N
open PySem PySem.Spec PyProof.Rows L2
section
variable {X:Cx} {τ:St} {z:Z}{fp:List Addr}{h':Heap}{a:Addr}{t:Nat}
theorem aa.d2 (I:aa X τ z) (hf:∀b∈fp,Fp X z b) (k:∀b,b ∉ fp->a8 z.s.heap h' b):aa X τ ⟨z.F,z.M,{ z.s with heap:=h',toks:=t }⟩:=
 I.go Le.rfl (I.hok.keep λb hb=>k b λm=>hb.elim (λh=>h (hf b m).f) λh=>h (hf b m).m) (λb hb=>⟨(k b λm=>(hf b m).o hb).s,I.cy hb,rfl⟩) rfl I.bare
theorem aa.jb (I:aa X τ z) {f:Fo} (hf:Fp X z a) (e:f.At z.s.heap a) (nt:∀p q,f≠.tab p q:=by intro _ _ h;cases h):Le z.F (up z.F a f)/\aa X τ ⟨up z.F a f,z.M,z.s⟩:=
 have l:Le z.F (up z.F a f):=Le.new hf.f
 ⟨l,I.go l (I.hok.jb hf.f hf.m e nt) (λb hb=>⟨a8.s λ_ e=>e,I.cy hb,ax λq=>hf.o (q ▸ hb)⟩) rfl I.bare⟩
end
def kM (G:Gx) (F0:Fz) (q:Bool) (a:Addr) (xs:List D) (ok:Mp->Prop):Prop:=∀(X:Cx) τ z,X.G=G->aa X τ z->Le F0 z.F->ok z.M->∃us,ag G z.F xs us/\us.length<=sizeLine/\cb q z.s.heap a us.toArray
def h8 (d:D) (M:Mp) (k:List D->(Mp->Prop)->Prop):Prop:=match d with
 |.tup ds=>k ds λ_=>True
 |.lst ds=>k ds λ_=>True
 |.ref a=>∃ds,M a=some (.lst ds)/\k ds λM'=>M' a=some (.lst ds)
 |_=>False
theorem aa.ia {X:Cx} {τ:St} {z:Z}{d:D}{u:Value}{k:List D->(Mp->Prop)->Prop} (I:aa X τ z) (r:ae X.G z.F d u) (h:h8 d z.M k):∃q a xs ok,u=.ref a/\kM X.G z.F q a xs ok/\ok z.M/\k xs ok:=by
 unfold h8 at h;split at h
 ·rw[ae]at r;obtain⟨a,o,us,e,h1,h2,h3⟩:=r;exact⟨true,a,_,_,e,λX' τ' z' g I' l _=>⟨us,g ▸ h3.up l.d,h2.len,o,I'.hok.fz a _ (l a _ h1),h2.cls,h2.data⟩,trivial,h⟩
 ·rw[ae]at r;obtain⟨a,n,us,e,h1,h2,h3⟩:=r;exact⟨false,a,_,_,e,λX' τ' z' g I' l _=>⟨us,g ▸ h3.up l.d,h2,_,I'.hok.fz a _ (l a _ h1),rfl,n,rfl⟩,trivial,h⟩
 ·rw[ae]at r;obtain⟨ds,h1,h2⟩:=h;refine⟨false,_,ds,_,r,λX' τ' z' g I' l q=>?_,h1,h2⟩;obtain⟨us,n,e1,e2,e3⟩:=I'.eD q;exact⟨us,g ▸ e2,e3,_,e1,rfl,n,rfl⟩
 ·exact h.elim
section
variable {X:Cx}{tg:Expr}{G:Gx}{F0:Fz}{xs:List D}{ok:Mp->Prop}{a:Addr}
theorem d4 {G:Gx}{F:Fz}{ds:List D}{us:List Value}{i:Nat}{d:D} (r:ag G F ds us) (h:ds[i]?=some d):∃u,us.toArray[i]?=some u/\ae G F d u:=by
 obtain⟨u,h1,h2⟩:=r.get h;exact⟨u,by simpa using h1,h2⟩
theorem ni {G:Gx}{F:Fz}{ds:List D}{us:List Value}{i:Nat} (r:ag G F ds us) (h:ds.length<=i):us.toArray[i]?=none:=by
 rw[r.len]at h;simpa using h
theorem kO {it b:Addr} (hb:b∈[it]):b=it:=by simpa using hb
theorem EG {q:Bool}{it:Addr} (S:kM G F0 q a xs ok):gF G tg xs ok F0 [it] it (λi h=>dG q h it a i) where
 obj:=λi h st b hb=>by obtain⟨o,e,_⟩:=st;exact⟨o,by rw[kO hb];exact e⟩
 keep:=λi h h' st k=>by obtain⟨o,e,c⟩:=st;exact⟨o,k it (List.mem_singleton.mpr rfl) _ e,c⟩
 item:=by
  intro X hG hc i τ z d E I l hf st hok hd;subst hG;obtain⟨us,r,hz,hq⟩:=S X τ z rfl I l hok;obtain⟨u,hu,ru⟩:=d4 r hd;have fin:∀h',dG q h' it a (i+1)->ZM it z.s.heap h'->∃u',(some u:Option Value)=some u'/\wpAny (model X.G.P X.G.w) X.A (letOwnedTupleGo tg (.ref it) u') (λ_ s2=>ng X τ z d u' [it] (λi h=>dG q h it a i) (i+1) s2) E { z.s with heap:=h' }:=λh' bn sb=>by
   obtain⟨o,e,c,UJ⟩:=id bn;refine⟨u,rfl,mO (s:={ z.s with heap:=h' }) e c UJ (by cases q <;> decide) ⟨Le.rfl,I.d2 (t:=z.s.toks) hf (λb hb o' e'=>(sb.2 b λq=>hb (List.mem_singleton.mpr q)).trans e'),ru,bn,λb hb=>(hf b hb).f⟩⟩
  cases q with
  |true=>exact wpAny_pyNext_tuple_item st hq hu fin
  |false=>exact wpAny_pyNext_list_item st hq hu fin
 done:=by
  intro X hG hc i τ z E I l hf st hok hd;subst hG;obtain⟨us,r,hz,hq⟩:=S X τ z rfl I l hok;have fin:∀h',aab it z.s.heap h'->(none:Option Value)=none/\aa X τ ⟨z.F,z.M,{ z.s with heap:=h' }⟩:=λh' eb=>⟨rfl,I.d2 (t:=z.s.toks) hf λb hb o e=>eb b o (λq=>hb (List.mem_singleton.mpr q)) e⟩;cases q with
  |true=>exact wpAny_pyNext_tuple_end (I.ok.hd hc) st hq (ni r hd) fin
  |false=>exact wpAny_pyNext_list_end (I.ok.hd hc) st hq (ni r hd) fin
 self:=λ_ _ _ _ _ st h=>by
  cases q with
  |true=>exact wpAny_pyIter_tupleiter st h
  |false=>exact wpAny_pyIter_listiter st h
noncomputable def nj (x:Str):List D:=x.cps.toList.map λc=>.str ⟨#[c]⟩
theorem EH {it:Addr}{x:Str}{t:Tok}:gF G tg (nj x) ok F0 [it] it (λi h=>h.IsStrIter it "str_ascii_iterator" x t i) where
 obj:=λi h st b hb=>by obtain⟨o,e,_⟩:=st;exact⟨o,by rw[kO hb];exact e⟩
 keep:=λi h h' st k=>by obtain⟨o,e,c⟩:=st;exact⟨o,k it (List.mem_singleton.mpr rfl) _ e,c⟩
 item:=by
  intro X hG hc i τ z d E I l hf st hok hd;subst hG;unfold nj at hd;rw[Yz]at hd;obtain⟨c,hx,rfl⟩:=Option.map_eq_some_iff.mp hd;refine wpAny_pyNext_ascii_item st (by simpa using hx) λh' bn sb=>?_;obtain⟨o,e,c',UJ⟩:=id bn;exact⟨_,rfl,mO (s:={ z.s with heap:=h',toks:=z.s.toks+1 }) e c' UJ (by decide) ⟨Le.rfl,I.d2 hf (λb hb o' e'=>(sb.2 b λq=>hb (List.mem_singleton.mpr q)).trans e'),gC,bn,λb hb=>(hf b hb).f⟩⟩
 done:=by
  intro X hG hc i τ z E I l hf st hok hd;subst hG;unfold nj at hd;rw[Ym]at hd;exact wpAny_pyNext_ascii_end (I.ok.hd hc) st (by simpa using hd) λh' eb=>⟨rfl,I.d2 (t:=z.s.toks) hf λb hb o e=>eb b o (λq=>hb (List.mem_singleton.mpr q)) e⟩
 self:=λ_ _ _ _ _ st h=>wpAny_pyIter_striter_ascii st h
noncomputable def fe (lo:Int) (n:Nat):List D:=(ZA n).map λi:Nat=>.int (lo+(i:Int))
theorem EI {it:Addr}{lo:Int}{n:Nat}:gF G tg (fe lo n) ok F0 [it] it (λi h=>IsRangeIter h it (lo+(i:Nat) * 1) ((n:Int)-(i:Nat)) 1) where
 obj:=λi h st b hb=>by rw[kO hb];exact⟨_,st⟩
 keep:=λi h h' st k=>k it (List.mem_singleton.mpr rfl) _ st
 item:=by
  intro X hG hc i τ z d E I l hf st hok hd;subst hG;unfold fe at hd;rw[Yz]at hd;obtain⟨j,hj,rfl⟩:=Option.map_eq_some_iff.mp hd;obtain⟨hi,e⟩:=List.getElem?_eq_some_iff.mp hj;rw[ZN]at hi;rw[List.getElem_range]at e;subst e;refine (Walks.range (prog:=X.G.P) (w:=X.G.w) (I.ok.hd hc) it lo 1 n).item i z.s _ _ hi st λv h' tk hv bn kk=>?_;obtain⟨t,rfl⟩:=hv;refine⟨_,rfl,mO (s:={ z.s with heap:=h',toks:=tk }) (n:="range_iterator") bn rfl rfl (by decide) ⟨Le.rfl,I.d2 hf λb hb o e=>kk b o hb e,?_,bn,λb hb=>(hf b hb).f⟩⟩;rw[Int.mul_one];exact bX
 done:=by
  intro X hG hc i τ z E I l hf st hok hd;subst hG;unfold fe at hd;rw[Ym,ZN]at hd;exact wpAny_pyNext_range_end (I.ok.hd hc) st (by lia) λh' eb=>⟨rfl,I.d2 (t:=z.s.toks) hf λb hb o e=>eb b o (λq=>hb (List.mem_singleton.mpr q)) e⟩
 self:=λ_ _ _ _ _ st h=>wpAny_pyIter_rangeiter st h
variable {e:Expr}{te:DE}
theorem kP {τ:St} {z:Z}{s':Shared}{it:Addr}{tn:Nat->Heap->Prop} (I:aa X τ z) (h:z.s.heap.objs.size<=it) (T:gF X.G tg xs ok z.F [it] it tn) (t:tn 0 s'.heap):qw X tg xs ok ⟨z.F,z.M,s'⟩ it:=.mk T t λb hb=>by rw[kO hb];exact I.kL h
def wL (t:DE):DI:=fun τ M k=>t τ M λd M1=>bS d λn=>-(2 ^ 62)<=n/\n<2 ^ 62/\k (fe 0 n.toNat) (λ_=>True) M1
theorem cN {d:D}{k:Int->Prop}{G:Gx}{F:Fz}{u:Value} (h:bS d k) (r:ae G F d u):∃i t,u=.int i t/\k i:=by
 unfold bS at h;split at h
 ·rw[ae]at r;obtain⟨t,e⟩:=r;exact⟨_,t,e,h⟩
 ·exact h.elim
theorem EJ {τ:St} {z:Z}{F:Fz}{R:Value->Shared->Prop}{k:List D->(Mp->Prop)->Mp->Prop}{lo hi:Int}{t u v:Tok}{tk:Nat} (I:aa X τ z) (K:KI X τ tg F k R) (l:Le F z.F) (h:-(2 ^ 62)<=lo/\lo<2 ^ 62/\-(2 ^ 62)<=hi/\hi<2 ^ 62) (q:k (fe lo (hi-lo).toNat) (λ_=>True) z.M) :
  W X (pyIter (.ref z.s.heap.objs.size)) R { z.s with heap:=z.s.heap.push { cls:=.type "range",data:=.fields #[.int lo t,.int hi u,.int 1 v] },toks:=tk }:=by
 refine wpAny_pyIter_range (IsRange.new ..) (small_one h.1 h.2.1 h.2.2.1 h.2.2.2) ?_;have I1:aa X τ ⟨z.F,z.M,{ z.s with heap:=z.s.heap.push { cls:=.type "range",data:=.fields #[.int lo t,.int hi u,.int 1 v] },toks:=tk }⟩:=I.kept λb o e=>Yk _ e;refine K _ _ ⟨z.F,z.M,_⟩ _ l (I1.kept (t:=tk) λb o e=>Yk _ e) (kP I (by rw[YR];exact Nat.le_succ _) (EI (n:=(hi-lo).toNat) (lo:=lo)) ?_) q;have e1:lo+((0:Nat):Int) * 1=lo:=by simp
 have e2:(((hi-lo).toNat:Nat):Int)-((0:Nat):Int)=Builtin.Range.rangeSize lo hi 1:=by rw[rangeSize_one];split <;> lia
 show IsRangeIter _ _ (lo+((0:Nat):Int) * 1) ((((hi-lo).toNat:Nat):Int)-((0:Nat):Int)) 1;rw[e1,e2];exact Yp _ rfl
variable {a b:Expr}{ta tb:DE}{p pos:Pos}
theorem wM (ha:PE X a ta) (hs:starEach [a] X.env=[(false,eval a X.env)]) (pos:Pos) {τ:St} {z:Z}{Q:QK}{R:List Value->Shared->Prop} (I:aa X τ z) (h:ta τ z.M Q) (k:∀d z' u,Le z.F z'.F->aa X τ z'->ae X.G z'.F d u->Q d z'.M->R [u] z'.s):W X (spliced (backTo pos (starEach [a] X.env))) R z.s:=by
 rw[hs];exact Zu (ha τ z _ _ I h λd z1 u l1 I1 r1 q1=>ZY (k d z1 u l1 I1 r1 q1))
theorem EK (ha:PE X a ta) (hb:PE X b tb) (hs:starEach [a,b] X.env=[(false,eval a X.env),(false,eval b X.env)]) (pos:Pos) {τ:St} {z:Z}{Q:D->D->Mp->Prop}{R:List Value->Shared->Prop} (I:aa X τ z) (h:ta τ z.M λx M=>tb τ M λy M=>Q x y M) (k:∀d e z' u v,Le z.F z'.F->aa X τ z'->ae X.G z'.F d u->ae X.G z'.F e v->Q d e z'.M->R [u,v] z'.s):W X (spliced (backTo pos (starEach [a,b] X.env))) R z.s:=by
 rw[hs];exact Zu (ha τ z _ _ I h λd z1 u l1 I1 r1 q1=>Zu (hb τ z1 _ _ I1 q1 λe z2 v l2 I2 r2 q2=>ZY (k d e z2 u v (l1.tr l2) I2 (r1.up l2.d) r2 q2)))
theorem gI {G:Gx}{F:Fz}{d:D}{us:List Value} (h:ag G F [d] us):∃u,us=[u]/\ae G F d u:=by
 rw[ag]at h;obtain⟨u,r,rfl,h1,h2⟩:=h;rw[ag]at h2;subst h2;exact⟨u,rfl,h1⟩
theorem ff {G:Gx}{F:Fz}{d e:D}{us:List Value} (h:ag G F [d,e] us):∃u v,us=[u,v]/\ae G F d u/\ae G F e v:=by
 rw[ag]at h;obtain⟨u,r,rfl,h1,h2⟩:=h;obtain⟨v,rfl,h3⟩:=gI h2;exact⟨u,v,rfl,h1,h3⟩
theorem EL (hg:Gl X "range") (hm:X.G.mg "range"=none) (ha:PE X a ta) (hs:starEach [a] X.env=[(false,eval a X.env)]):PI X tg (.Call (.Name "range" p) [a] [] pos) (wL ta):=fun τ z k R I h K=>
 Call_ (eB I hg hm boot_range (by decide) (by decide) (Ze (wM ha hs pos I h λd z1 u l1 I1 r1 q1=>by
  obtain⟨i,t,rfl,h1,h2,q⟩:=cN q1 r1;exact call_range_1 (EJ I1 K l1 ⟨by decide,by decide,h1,h2⟩ (by simpa using q))) hs rfl))
theorem EM {τ:St} {z:Z}{s':Shared}{x y:D}{u v:Value}{T:Addr}{o:Obj}{fp:List Addr}{tn:Nat->Heap->Prop}{i:Nat} (I:aa X τ ⟨z.F,z.M,s'⟩) (hT:Fp X ⟨z.F,z.M,s'⟩ T) (ho:s'.heap.get? T=some o) (to:kq o [u,v]) (r1:ae X.G z.F x u) (r2:ae X.G z.F y v) (t:tn i s'.heap) (n:∀ b∈fp,z.F b=none/\b≠T) :
  ng X τ z (.tup [x,y]) (.ref T) fp tn i s':=
 have h:=I.jb (f:=.dat o) hT ho
 ⟨h.1,h.2,m8 au to (.cons (r1.up h.1.d) (.cons (r2.up h.1.d) .nil)),t,λb hb=>(ax (n b hb).2).trans (n b hb).1⟩
end
section
variable {prog:Program}{w:World}{A:Around}{E:Value->Shared->Prop}{s:Shared}
structure kQ (p q:Bool) (h:Heap) (z TI TO i1 i2 t1 t2:Addr) (k:Nat) (f:Value):Prop where
 z:IsZip h z TI TO f
 ti:IsPair h TI (.ref i1) (.ref i2)
 to:∃a b,IsPair h TO a b
 j1:dG p h i1 t1 k
 j2:dG q h i2 t2 k
structure qy (z TI TO i1 i2 t1 t2:Addr):Prop where
 UA:TI≠z
 Uz:TO≠z
 UB:i1≠z
 UC:i2≠z
 UO:TI≠TO
 Vn:TI≠i1
 VM:TI≠i2
 Vo:TO≠i1
 Vp:TO≠i2
 b1:i1≠i2
 c1:t1≠z/\t1≠TO/\t1≠i1/\t1≠i2
 c2:t2≠z/\t2≠TO/\t2≠i1/\t2≠i2
theorem EN {p q:Bool}{z TI TO i1 i2 t1 t2:Addr}{k:Nat}{xs ys:Array Value}{x y:Value}{Q:Option Value->Shared->Prop} (D:qy z TI TO i1 i2 t1 t2) (Z:kQ p q s.heap z TI TO i1 i2 t1 t2 k .none)
  (nn:cb p s.heap t1 xs) (qz:cb q s.heap t2 ys) (hx:xs[k]?=some x) (hy:ys[k]?=some y)
  (hQ:∀h',kQ p q h' z TI TO i1 i2 t1 t2 (k+1) (rawInt s.heap.objs.size)->IsPair h' s.heap.objs.size x y->h'.objs.size=s.heap.objs.size+1 ->
   (∀c o,c≠z->c≠TO->c≠i1->c≠i2->s.heap.get? c=some o->h'.get? c=some o)->Q (some (.ref s.heap.objs.size)) { s with heap:=h' }) :
  wpAny (model prog w) A (pyNext (.ref z)) Q E s:=by
 have hT:s.TypeIs (.ref z) "zip":=⟨_,Z.z,rfl⟩;obtain⟨u0,v0,qA⟩:=Z.to;unfold pyNext;refine Yj (ZF (YM (name:=Zw "__next__") hT F.slot_zip_next (YQ F.slot_zip_next hT F.entry_zip_next ?_ (F.args_zip_next_1 _))));show wpAny _ _ (field (.ref z) 2 >>= _) _ _ _;refine Yj (YU Z.z rfl (x:=.bool false) rfl ?_);show wpAny _ _ (field (.ref z) 3 >>= _) _ _ _;refine Yj (YU Z.z rfl (x:=.ref TI) rfl ?_);refine Yj (ZR Z.ti rfl ?_);show wpAny _ _ (ZD (.ref z) >>= _) _ _ _;refine Yj ?_;unfold ZD;refine Yj (YU Z.z rfl (x:=.none) rfl (Yl ?_));simp only[if_true];refine Yj (wpAny_rule (Yj (YU Z.z rfl (x:=.ref TO) rfl ?_)));refine Yj (aag Z.z (by simp) λg1 z1 s1=>?_);have z1:IsZip g1 z TI TO .ellipsis:=z1;refine Yj ?_;simp only[List.zipIdx_cons,List.zipIdx_nil,List.forIn_cons,List.forIn_nil];refine Yj (Yj (wpAny_onRaise ?_));show wpAny _ _ (YX (.ref i1) >>= _) _ _ _;refine Yj (p0 (Z.j1.extBut s1.extBut D.UB) (nn.extBut s1.extBut D.c1.1) hx λg2 wv s2=>Yl ?_);have o2:IsPair g2 TO u0 v0:=s2.extBut _ _ D.Vo (s1.extBut _ _ D.Uz qA);refine Yj (ZR o2 rfl ?_);refine Yj (wpAny_updateSeq_pair o2 λg3 o3 s3=>?_);have o3:IsPair g3 TO x v0:=o3;refine Yj (wpAny_letGo (Yl ?_));refine Yj (Yj (wpAny_onRaise ?_));show wpAny _ _ (YX (.ref i2) >>= _) _ _ _;refine Yj (p0 (((Z.j2.extBut s1.extBut D.UC).extBut s2.extBut D.b1.symm).extBut s3.extBut D.Vp.symm) (((qz.extBut s1.extBut D.c2.1).extBut s2.extBut D.c2.2.2.1).extBut s3.extBut D.c2.2.1) hy λg4 Ev s4=>Yl ?_);have o4:IsPair g4 TO x v0:=s4.extBut _ _ D.Vp o3;refine Yj (ZR o4 rfl ?_);refine Yj (wpAny_updateSeq_pair o4 λg5 o5 s5=>?_);have o5:IsPair g5 TO x y:=o5;refine Yj (wpAny_letGo (Yl (Yl ?_)));refine Yj (ZR o5 rfl ?_);refine Yj (wpAny_newTuple ?_);have sz:g5.objs.size=s.heap.objs.size:=by rw[s5.1,s4.1,s3.1,s2.1,s1.1]
 have z5:IsZip g5 z TI TO .ellipsis:=s5.extBut _ _ D.Uz.symm (s4.extBut _ _ D.UC.symm (s3.extBut _ _ D.Uz.symm (s2.extBut _ _ D.UB.symm z1)));have k5:∀c o,c≠z->c≠TO->c≠i1->c≠i2->s.heap.get? c=some o->g5.get? c=some o:=λc o e1 e2 e3 e4 q=>s5.extBut _ _ e2 (s4.extBut _ _ e4 (s3.extBut _ _ e2 (s2.extBut _ _ e3 (s1.extBut _ _ e1 q))));have EO:dG p g5 i1 t1 (k+1):=((wv.extBut s3.extBut D.Vo.symm).extBut s4.extBut D.b1).extBut s5.extBut D.Vo.symm;have EP:dG q g5 i2 t2 (k+1):=Ev.extBut s5.extBut D.Vp.symm;have ww:z<g5.objs.size:=Yw z5;show wpAny _ _ (Builtin.SmallTypes.ownedTupleHandOut (.ref z) (.ref g5.objs.size) >>= _) _ _ _;refine Yj ?_;unfold Builtin.SmallTypes.ownedTupleHandOut;have z6:IsZip (g5.push { cls:=.type "tuple",data:=.seq #[x,y] }) z TI TO .ellipsis:=Yk _ z5;refine Yj (aag z6 (by simp) λWX z7 s7=>?_);have z7:IsZip WX z TI TO (rawInt g5.objs.size):=z7;refine aag z7 (by simp) λU3 z8 s8=>?_;have z8:IsZip U3 z TI TO (rawInt g5.objs.size):=z8;have up:∀c o,c≠z->g5.get? c=some o->U3.get? c=some o:=λc o e q=>s8.extBut _ _ e (s7.extBut _ _ e (Yk _ q));have T8:IsPair U3 g5.objs.size x y:=s8.extBut _ _ (Zf ww) (s7.extBut _ _ (Zf ww) (Yp _ rfl));have Wb:U3.objs.size=g5.objs.size+1:=by rw[s8.1,s7.1,YR]
 rw[sz]at z8 T8 Wb;refine Yl ⟨_,rfl,Yl ?_⟩;show Q (some (.ref g5.objs.size)) _;rw[sz];refine hQ U3 ⟨z8,up _ _ D.UA (k5 _ _ D.UA D.UO D.Vn D.VM Z.ti),⟨_,_,up _ _ D.Uz o5⟩,?_,?_⟩ T8 Wb λc o e1 e2 e3 e4 q=>up c o e1 (k5 c o e1 e2 e3 e4 q)
 ·obtain⟨ob,q1,q2⟩:=EO;exact⟨ob,up _ _ D.UB q1,q2⟩
 ·obtain⟨ob,q1,q2⟩:=EP;exact⟨ob,up _ _ D.UC q1,q2⟩
theorem ER {p q:Bool}{z TI TO i1 i2 t1 t2:Addr}{k:Nat}{xs ys:Array Value}{Q:Option Value->Shared->Prop} (hh:A.handled=none) (D:qy z TI TO i1 i2 t1 t2) (Z:kQ p q s.heap z TI TO i1 i2 t1 t2 k .none)
  (nn:cb p s.heap t1 xs) (qz:cb q s.heap t2 ys) (EQ:xs[k]?=none\/ys[k]?=none)
  (hQ:∀h',(∀c o,c≠z->c≠TO->c≠i1->c≠i2->s.heap.get? c=some o->h'.get? c=some o)->Q none { s with heap:=h' }) :
  wpAny (model prog w) A (pyNext (.ref z)) Q E s:=by
 have hT:s.TypeIs (.ref z) "zip":=⟨_,Z.z,rfl⟩;obtain⟨u0,v0,qA⟩:=Z.to;unfold pyNext;refine Yj (ZF (YM (name:=Zw "__next__") hT F.slot_zip_next (YQ F.slot_zip_next hT F.entry_zip_next ?_ (F.args_zip_next_1 _))));show wpAny _ _ (field (.ref z) 2 >>= _) _ _ _;refine Yj (YU Z.z rfl (x:=.bool false) rfl ?_);show wpAny _ _ (field (.ref z) 3 >>= _) _ _ _;refine Yj (YU Z.z rfl (x:=.ref TI) rfl ?_);refine Yj (ZR Z.ti rfl ?_);show wpAny _ _ (ZD (.ref z) >>= _) _ _ _;refine Yj ?_;unfold ZD;refine Yj (YU Z.z rfl (x:=.none) rfl (Yl ?_));simp only[if_true];refine Yj (wpAny_rule (Yj (YU Z.z rfl (x:=.ref TO) rfl ?_)));refine Yj (aag Z.z (by simp) λg1 z1 s1=>?_);have z1:IsZip g1 z TI TO .ellipsis:=z1;refine Yj ?_;simp only[List.zipIdx_cons,List.zipIdx_nil,List.forIn_cons,List.forIn_nil];refine Yj (Yj (wpAny_onRaise ?_));show wpAny _ _ (YX (.ref i1) >>= _) _ _ _;cases hx:xs[k]? with
 |none=>
  refine Yj (vB hh (Z.j1.extBut s1.extBut D.UB) (nn.extBut s1.extBut D.c1.1) hx λg2 e s2 he=>?_);obtain⟨oe,q1,q2⟩:=he;have z2:IsZip g2 z TI TO .ellipsis:=s2 _ _ D.UB.symm z1;have ne:e≠z:=λx=>by subst x;rw[z2]at q1;cases q1;simp at q2
  exact aag z2 (by simp) λg3 _ s3=>Yj (ZX (T:="StopIteration") (b:=true) ⟨oe,s3.extBut _ _ ne q1,q2⟩ isSubtype_stop (Yl (hQ _ λc o c1 _ c3 _ x=>s3.extBut _ _ c1 (s2 _ _ c3 (s1.extBut _ _ c1 x)))))
 |some x=>
  have hy:ys[k]?=none:=by
   rcases EQ with q |q
   ·rw[hx]at q;cases q
   ·exact q
  refine Yj (p0 (Z.j1.extBut s1.extBut D.UB) (nn.extBut s1.extBut D.c1.1) hx λg2 wv s2=>Yl ?_);have o2:IsPair g2 TO u0 v0:=s2.extBut _ _ D.Vo (s1.extBut _ _ D.Uz qA);refine Yj (ZR o2 rfl ?_);refine Yj (wpAny_updateSeq_pair o2 λg3 o3 s3=>?_);refine Yj (wpAny_letGo (Yl ?_));refine Yj (Yj (wpAny_onRaise ?_));show wpAny _ _ (YX (.ref i2) >>= _) _ _ _;refine Yj (vB hh (((Z.j2.extBut s1.extBut D.UC).extBut s2.extBut D.b1.symm).extBut s3.extBut D.Vp.symm) (((qz.extBut s1.extBut D.c2.1).extBut s2.extBut D.c2.2.2.1).extBut s3.extBut D.c2.2.1) hy λg4 e s4 he=>?_);obtain⟨oe,q1,q2⟩:=he;have z4:IsZip g4 z TI TO .ellipsis:=s4 _ _ D.UC.symm (s3.extBut _ _ D.Uz.symm (s2.extBut _ _ D.UB.symm z1));have ne:e≠z:=λx=>by subst x;rw[z4]at q1;cases q1;simp at q2
  exact aag z4 (by simp) λg5 _ s5=>Yj (ZX (T:="StopIteration") (b:=true) ⟨oe,s5.extBut _ _ ne q1,q2⟩ isSubtype_stop (Yl (hQ _ λc o c1 c2 c3 c4 x=>s5.extBut _ _ c1 (s4 _ _ c4 (s3.extBut _ _ c2 (s2.extBut _ _ c3 (s1.extBut _ _ c1 x)))))))
noncomputable abbrev nu (p:Bool) (h:Heap) (a:Addr):Heap:=h.push { cls:=.type (fK p),data:=.fields #[.ref a,.int 0 0] }
noncomputable abbrev ny (p q:Bool) (h:Heap) (a b:Addr):Heap:=(nu p h a).push { cls:=.type (fK q),data:=.fields #[.ref b,.int 0 0] }
noncomputable abbrev nz (p q:Bool) (h:Heap) (a b:Addr):Heap:=(ny p q h a b).push { cls:=.type "tuple",data:=.seq #[.ref h.objs.size,.ref (nu p h a).objs.size] }
noncomputable abbrev nA (p q:Bool) (h:Heap) (a b:Addr):Heap:=(nz p q h a b).push { cls:=.type "tuple",data:=.seq #[.none,.none] }
noncomputable abbrev ib (p q:Bool) (h:Heap) (a b:Addr):Heap:=(nA p q h a b).push { cls:=.type "zip",data:=.fields #[.none,.bool false,.bool false,.ref (ny p q h a b).objs.size,.ref (nz p q h a b).objs.size] }
end
theorem wN {prog:Program}{w:World}{A:Around}{E:Value->Shared->Prop}{s:Shared}{q:Bool}{a:Addr}{xs:Array Value}{Q:Value->Shared->Prop} (h:cb q s.heap a xs) (k:Q (.ref s.heap.objs.size) { s with heap:=s.heap.push { cls:=.type (fK q),data:=.fields #[.ref a,.int 0 0] } }):wpAny (model prog w) A (pyIter (.ref a)) Q E s:=by
 cases q with
 |true=>exact aah h k
 |false=>exact wpAny_pyIter_list h k
theorem ES (p q:Bool) (a b:Addr) (xs ys:Array Value) :
  Meets (Builtin.«zip.__new__» ⟨[.type "zip",.ref a,.ref b],[]⟩) (λ_ R s=>cb p s.heap a xs/\cb q s.heap b ys/\R (.ok (.ret (.ref (nA p q s.heap a b).objs.size))) { s with heap:=ib p q s.heap a b }):=
 .of_wp λprog w A R s h=>by
  obtain⟨hp,g,d,tk,os⟩:=s;obtain⟨q1,q2,h⟩:=h;have sub:=sub_zip;have e1:cb p (Shared.heap ⟨hp,g,d,tk,os⟩) a xs:=q1;have e2:cb q (Shared.heap ⟨hp.push { cls:=.type (fK p),data:=.fields #[.ref a,.int 0 0] },g,d,tk,os⟩) b ys:=by
   cases q
   ·exact Heap.IsList.push q2 _
   ·exact Heap.IsTuple.push q2 _
  wp_walk using wN e1,wN e2
  exact⟨_,rfl,h⟩
section
variable {prog:Program}{w:World}{A:Around}{E:Value->Shared->Prop}{s:Shared}
theorem ET {p q:Bool}{a b:Addr}{xs ys:Array Value}{Q:Value->Shared->Prop} (h1:cb p s.heap a xs) (h2:cb q s.heap b ys)
  (h:∀h',kQ p q h' (s.heap.objs.size+4) (s.heap.objs.size+2) (s.heap.objs.size+3) s.heap.objs.size (s.heap.objs.size+1) a b 0 .none->h'.objs.size=s.heap.objs.size+5 ->
   (∀c o,s.heap.get? c=some o->h'.get? c=some o)->Q (.ref (s.heap.objs.size+4)) { s with heap:=h' }):wpAny (model prog w) A (call (.type "zip") [.ref a,.ref b]) Q E s:=by
 refine callType_new F.called_zip (by decide) (F.typeCall_zip_2 _ _) (F.newCall_zip_2 _ _) (λobj=>F.args_object_init_3 obj _ _) F.entry_zip_new (ES p q a b xs ys) ⟨h1,h2,?_⟩;have n1:(nu p s.heap a).objs.size=s.heap.objs.size+1:=YR ..;have n2:(ny p q s.heap a b).objs.size=s.heap.objs.size+2:=by rw[YR,n1]
 have n3:(nz p q s.heap a b).objs.size=s.heap.objs.size+3:=by rw[YR,n2]
 have n4:(nA p q s.heap a b).objs.size=s.heap.objs.size+4:=by rw[YR,n3]
 have n5:(ib p q s.heap a b).objs.size=s.heap.objs.size+5:=by rw[YR,n4]
 have p5:(ib p q s.heap a b).get? (nA p q s.heap a b).objs.size=some _:=Yp _ rfl;have p4:(ib p q s.heap a b).get? (nz p q s.heap a b).objs.size=some _:=Yk _ (Yp _ rfl);have p3:(ib p q s.heap a b).get? (ny p q s.heap a b).objs.size=some _:=Yk _ (Yk _ (Yp _ rfl));have p2:(ib p q s.heap a b).get? (nu p s.heap a).objs.size=some _:=Yk _ (Yk _ (Yk _ (Yp _ rfl)));have p1:(ib p q s.heap a b).get? s.heap.objs.size=some _:=Yk _ (Yk _ (Yk _ (Yk _ (Yp _ rfl))));show _/\_;rw[n2,n3,n4]at p5;rw[n1,n2]at p3;rw[n3]at p4;rw[n1]at p2;rw[n4];exact⟨⟨_,p5,rfl⟩,h _ ⟨p5,p3,⟨_,_,p4⟩,⟨_,p1,rfl,rfl⟩,⟨_,p2,rfl,rfl⟩⟩ n5 λc o x=>
  Yk _ (Yk _ (Yk _ (Yk _ (Yk _ x))))⟩
end
end N
end
section
set_option maxHeartbeats 1000000
namespace N
open PySem PySem.Spec PyProof.Rows L2
section
variable {X:Cx}{G:Gx}{F0:Fz}{xs ys:List D}{ok kR:Mp->Prop}{a b:Addr}{p q:Bool}{nC:List Expr}{kk:Nat}{tp:Pos}
theorem EU {z TI TO i1 i2:Addr} (D':qy z TI TO i1 i2 a b) (S:kM G F0 p a xs ok) (S':kM G F0 q b ys kR) :
  gF G (.Tuple nC kk tp) (List.zipWith (λx y=>.tup [x,y]) xs ys) (λM=>ok M/\kR M) F0 [z,TI,TO,i1,i2] z (λi h=>kQ p q h z TI TO i1 i2 a b i .none) where
 obj:=λi h st c hc=>by
  obtain⟨q1,q2,⟨u,v,q3⟩,⟨o4,q4,_⟩,⟨o5,q5,_⟩⟩:=st;simp only[YZ,YJ,or_false]at hc;rcases hc with rfl |rfl |rfl |rfl |rfl
  ·exact⟨_,q1⟩
  ·exact⟨_,q2⟩
  ·exact⟨_,q3⟩
  ·exact⟨_,q4⟩
  ·exact⟨_,q5⟩
 keep:=λi h h' st k=>by
  obtain⟨q1,q2,⟨u,v,q3⟩,⟨o4,q4,r4⟩,⟨o5,q5,r5⟩⟩:=st;exact⟨k z (by simp) _ q1,k TI (by simp) _ q2,⟨u,v,k TO (by simp) _ q3⟩,⟨o4,k i1 (by simp) _ q4,r4⟩,⟨o5,k i2 (by simp) _ q5,r5⟩⟩
 item:=by
  intro X hG hc i τ z' d E I l hf st hok hd;subst hG;rw[List.getElem?_zipWith]at hd;obtain⟨us,r1,_,h1⟩:=S X τ z' rfl I l hok.1;obtain⟨vs,r2,_,h2⟩:=S' X τ z' rfl I l hok.2;cases hx:xs[i]? with
  |none=>rw[hx]at hd;cases hd
  |some x=>cases hy:ys[i]? with
   |none=>rw[hx,hy]at hd;cases hd
   |some y=>
    rw[hx,hy]at hd;cases hd;obtain⟨u,hu,ru⟩:=d4 r1 hx;obtain⟨v,hv,rv⟩:=d4 r2 hy;refine EN D' st h1 h2 hu hv λh' Z' T' n' keep=>⟨_,rfl,wpAny_letOwnedTupleGo_zip Z'.z λic EV sb=>?_⟩;have EW:z<z'.s.heap.objs.size:=Yw st.z;have I':aa X τ ⟨z'.F,z'.M,{ z'.s with heap:=ic,toks:=z'.s.toks }⟩:=I.d2 hf λc hc o e=>by
     simp only[YZ,YJ,or_false,not_or]at hc;exact sb.extBut _ _ hc.1 (keep c o hc.1 hc.2.2.1 hc.2.2.2.1 hc.2.2.2.2 e)
    refine EM I' (I.kL (Yr _)) (sb.extBut _ _ (Zf EW) T') ⟨rfl,rfl,⟨0,rfl⟩,by show 2<=sizeLine;decide⟩ ru rv ?_ λc hc=>⟨(hf c hc).f,?_⟩
    ·obtain⟨_,q2,⟨e1,e2,q3⟩,⟨o4,q4,r4⟩,⟨o5,q5,r5⟩⟩:=Z';exact⟨EV,sb.extBut _ _ D'.UA q2,⟨e1,e2,sb.extBut _ _ D'.Uz q3⟩,⟨o4,sb.extBut _ _ D'.UB q4,r4⟩,⟨o5,sb.extBut _ _ D'.UC q5,r5⟩⟩
    ·obtain⟨q1,q2,⟨e1,e2,q3⟩,⟨o4,q4,r4⟩,⟨o5,q5,r5⟩⟩:=st;simp only[YZ,YJ,or_false]at hc;rcases hc with rfl |rfl |rfl |rfl |rfl
     ·exact Yx (Yw q1)
     ·exact Yx (Yw q2)
     ·exact Yx (Yw q3)
     ·exact Yx (Yw q4)
     ·exact Yx (Yw q5)
 done:=by
  intro X hG hc i τ z' E I l hf st hok hd;subst hG;obtain⟨us,r1,_,h1⟩:=S X τ z' rfl I l hok.1;obtain⟨vs,r2,_,h2⟩:=S' X τ z' rfl I l hok.2;rw[List.length_zipWith]at hd;refine ER (I.ok.hd hc) D' st h1 h2 (by
   by_cases h:xs.length<=i
   ·exact .inl (ni r1 h)
   ·exact .inr (ni r2 (by lia))) λh' keep=>⟨rfl,I.d2 (t:=z'.s.toks) hf λc hc o e=>?_⟩
  simp only[YZ,YJ,or_false,not_or]at hc;exact keep c o hc.1 hc.2.2.1 hc.2.2.2.1 hc.2.2.2.2 e
 self:=λ_ _ _ _ _ st h=>wpAny_pyIter_zip st.z h
variable {ea eb:Expr}{ta tb:DE}{pn pos:Pos}{tg:Expr}
def wQ (t u:DE):DI:=fun τ M k=>t τ M λd M1=>u τ M1 λe M2=>h8 d M2 λxs ok=>h8 e M2 λys kR=>k (List.zipWith (λx y=>.tup [x,y]) xs ys) (λM=>ok M/\kR M) M2
theorem EX (hg:Gl X "zip") (hm:X.G.mg "zip"=none) (ha:PE X ea ta) (hb:PE X eb tb) (hs:starEach [ea,eb] X.env=[(false,eval ea X.env),(false,eval eb X.env)]) (hs2:starEach [eb] X.env=[(false,eval eb X.env)]):PI X (.Tuple nC kk tp) (.Call (.Name "zip" pn) [ea,eb] [] pos) (wQ ta tb):=fun τ z k R I h K=>
 Call_ (eB I hg hm boot_zip (by decide) (by decide) (Ze (EK ha hb hs pos I h λd e z1 u v l1 I1 r1 r2 q1=>by
  obtain⟨p,x,xs,ok,rfl,S,hok,q1⟩:=I1.ia r1 q1;obtain⟨q,y,ys,kR,rfl,S',EY,q1⟩:=I1.ia r2 q1;obtain⟨us,_,_,h1⟩:=S X τ z1 rfl I1 Le.rfl hok;obtain⟨vs,_,_,h2⟩:=S' X τ z1 rfl I1 Le.rfl EY;have f:∀c:Addr,c<z1.s.heap.objs.size->∀k:Nat,c≠z1.s.heap.objs.size+k:=λc hc k=>Yx (YD hc (Z5 _ _));have n:∀{i j:Nat},i≠j->z1.s.heap.objs.size+i≠z1.s.heap.objs.size+j:=λh e=>h (Nat.add_left_cancel e);refine ET h1 h2 λh' Z n5 keep=>wpAny_pyIter_zip Z.z (K _ _ ⟨z1.F,z1.M,_⟩ _ l1 (I1.kept (t:=z1.s.toks) λb o e=>keep b o e) (.mk (EU ⟨n (by decide),n (by decide),n (i:=0) (by decide),n (by decide),n (by decide),n (j:=0) (by decide),n (by decide),n (j:=0) (by decide),n (by decide),n (i:=0) (by decide),⟨f _ h1.lt 4,f _ h1.lt 3,Yx h1.lt,f _ h1.lt 1⟩,⟨f _ h2.lt 4,f _ h2.lt 3,Yx h2.lt,f _ h2.lt 1⟩⟩ S S') Z λc hc=>I1.kL ?_) q1);simp only[YZ,YJ,or_false]at hc;rcases hc with rfl |rfl |rfl |rfl |rfl
  ·exact Z5 _ _
  ·exact Z5 _ _
  ·exact Z5 _ _
  ·exact Yr _
  ·exact Z5 _ _) (by rw[hs,hs2]) (by rw[hs2];rfl)))
noncomputable def gJ (ds:List D):List D:=ds.mapIdx λi d=>.tup [.int i,d]
def fT (q:Bool) (h:Heap) (it a:Addr) (i:Int):Prop:=match q with
 |true=>d0 h it a i
 |false=>h.IsRevIter it a i
theorem fT.o {h:Heap}{it:Addr}{i:Int} (x:fT q h it a i):∃o n vs,h.get? it=some o/\o.cls=.type n/\o.data=.fields vs/\["enumerate","zip","dict_itemiterator","dict_reverseitemiterator","odict_iterator","itertools.zip_longest","itertools.pairwise"].contains n=false:=by
 cases q with
 |true=>obtain⟨o,e,c,d⟩:=x;exact⟨o,_,_,e,c,d,by decide⟩
 |false=>obtain⟨o,e,c,d⟩:=x;exact⟨o,_,_,e,c,d,by decide⟩
theorem fT.at {h h':Heap}{it:Addr}{i:Int} (x:fT q h it a i) (k:a8 h h' it):fT q h' it a i:=by
 cases q with
 |true=>exact d0.at x k
 |false=>exact Heap.IsRevIter.at x k
theorem EZ {it:Addr}{n:Nat} (hn:n=xs.length) (S:kM G F0 q a xs ok):gF G tg xs.reverse ok F0 [it] it (λi h=>i<=n/\fT q h it a ((n:Int)-1-(i:Int))) where
 obj:=λi h st b hb=>by rw[kO hb];obtain⟨o,_,_,e,_⟩:=st.2.o;exact⟨o,e⟩
 keep:=λi h h' st k=>⟨st.1,st.2.at (k it (List.mem_singleton.mpr rfl))⟩
 item:=by
  intro X hG hc i τ z d E I l hf st hok hd;subst hG;have hi:i<n:=by have:=(List.getElem?_eq_some_iff.mp hd).1;rw[Z1]at this;lia
  rw[List.getElem?_reverse (by lia),<- hn]at hd;obtain⟨us,r1,hz,h1⟩:=S X τ z rfl I l hok;obtain⟨u,hu,ru⟩:=d4 r1 hd;have st2:=st.2;rw[show (n:Int)-1-(i:Int)=((n-1-i:Nat):Int) by lia]at st2;have fin:∀h' tk,fT q h' it a (((n-1-i:Nat):Int)-1)->ZM it z.s.heap h'->∃u',(some u:Option Value)=some u'/\wpAny (model X.G.P X.G.w) X.A (letOwnedTupleGo tg (.ref it) u') (λ_ s2=>ng X τ z d u' [it] (λi h=>i<=n/\fT q h it a ((n:Int)-1-(i:Int))) (i+1) s2) E { z.s with heap:=h',toks:=tk }:=λh' tk bn sb=>by
   obtain⟨o,_,_,e,c,UJ,kF⟩:=bn.o;refine⟨u,rfl,mO (s:={ z.s with heap:=h',toks:=tk }) e c UJ kF ⟨Le.rfl,I.d2 (t:=tk) hf (λb hb o' e'=>(sb.2 b λq=>hb (List.mem_singleton.mpr q)).trans e'),ru,⟨hi,?_⟩,λb hb=>(hf b hb).f⟩⟩;rw[show (n:Int)-1-((i+1:Nat):Int)=((n-1-i:Nat):Int)-1 by lia];exact bn
  cases q with
  |true=>exact D1 st2 h1 (by rw[Yn];exact hz) hu fin
  |false=>exact wpAny_pyNext_rev_item st2 h1 hu λh'=>fin h' z.s.toks
 done:=by
  intro X hG hc i τ z E I l hf st hok hd;subst hG;rw[Z1]at hd;have st2:=st.2;rw[show (n:Int)-1-(i:Int)=-1 by have:=st.1;lia]at st2
  have fin:∀h' tk,aab it z.s.heap h'->(none:Option Value)=none/\aa X τ ⟨z.F,z.M,{ z.s with heap:=h',toks:=tk }⟩:=λh' tk eb=>⟨rfl,I.d2 hf λb hb o e=>eb b o (λq=>hb (List.mem_singleton.mpr q)) e⟩;cases q with
  |true=>exact D2 (I.ok.hd hc) st2 fin
  |false=>exact wpAny_pyNext_rev_end (I.ok.hd hc) st2 λh'=>fin h' z.s.toks
 self:=λ_ _ _ _ _ st h=>by
  cases q with
  |true=>exact vG st.2 h
  |false=>exact wpAny_pyIter_revIter st.2 h
def wR (t:DE):DI:=fun τ M k=>t τ M λd M1=>h8 d M1 λxs ok=>k xs.reverse ok M1
theorem E1 (hg:Gl X "reversed") (hm:X.G.mg "reversed"=none) (ha:PE X ea ta) (hs:starEach [ea] X.env=[(false,eval ea X.env)]):PI X tg (.Call (.Name "reversed" pn) [ea] [] pos) (wR ta):=fun τ z k R I h K=>
 Call_ (eB I hg hm boot_reversed (by decide) (by decide) (Ze (wM ha hs pos I h λd z1 u l1 I1 r1 q1=>by
  obtain⟨q,x,xs,ok,rfl,S,hok,q1⟩:=I1.ia r1 q1;obtain⟨us,rr,hz,h1⟩:=S X τ z1 rfl I1 Le.rfl hok;have e0:((us.toArray.size:Nat):Int)-1=(xs.length:Int)-1-((0:Nat):Int):=by rw[Yn,<- rr.len];simp
  have fin:∀h' tk,fT q h' z1.s.heap.objs.size x ((us.toArray.size:Int)-1)->(∀b o,z1.s.heap.get? b=some o->h'.get? b=some o)->R (.ref z1.s.heap.objs.size) { z1.s with heap:=h',toks:=tk }:=λh' tk Z keep=>
   K _ _ ⟨z1.F,z1.M,_⟩ _ l1 (I1.kept λb o e=>keep b o e) (kP I1 (Yr _) (EZ rfl S) ⟨YE _,by rw[<- e0];exact Z⟩) q1
  cases q with
  |true=>exact D0 h1 (by rw[Yn];exact hz) λh' tk Z n2 keep=>vG Z (fin h' tk Z keep)
  |false=>exact call_reversed_list h1 (wpAny_pyIter_revIter (l:=x) (i:=(us.toArray.size:Int)-1) ⟨_,Yp _ rfl,rfl,rfl⟩ (fin _ z1.s.toks ⟨_,Yp _ rfl,rfl,rfl⟩ λb o e=>Yk _ e))) hs rfl))
end
end N
end
section
set_option maxHeartbeats 1000000
namespace N
open PySem PySem.Spec PyProof.Rows L2
noncomputable def qB:D->Option (List D)
 |.tup ds=>some ds
 |_=>none
noncomputable def qC:D->Option (List D)
 |.lst ds=>some ds
 |_=>none
noncomputable def oI:D->Option Int
 |.int i=>some i
 |.bl b=>some (if b then 1 else 0)
 |_=>none
noncomputable def kT:D->Option Str
 |.str x=>some x
 |_=>none
noncomputable def nD:D->Bool
 |.aj=>true
 |_=>false
mutual
noncomputable def aA:D->D->Bool
 |.aj=>nD
 |.bl a=>λe=>oI e == some (if a then 1 else 0)
 |.int a=>λe=>oI e == some a
 |.str a=>λe=>kT e == some a
 |.tup a=>λe=>(qB e).any (bB a)
 |.lst a=>λe=>(qC e).any (bB a)
 |.ref _=>λ_=>false
 |.ty _=>λ_=>false
 |.ak _ _=>λ_=>false
noncomputable def bB:List D->List D->Bool
 |[]=>List.isEmpty
 |d::ds=>λes=>match es with
  |e::es=>aA d e && bB ds es
  |[]=>false
end
mutual
noncomputable def aD:D->Bool
 |.aj=>true
 |.bl _=>true
 |.int _=>true
 |.str _=>true
 |.tup ds=>aM ds
 |.lst ds=>aM ds
 |.ref _=>false
 |.ty _=>false
 |.ak _ _=>false
noncomputable def aM:List D->Bool
 |[]=>true
 |d::ds=>aD d && aM ds
end
mutual
noncomputable def bc:D->Nat
 |.tup ds=>a4 ds+1
 |.lst ds=>a4 ds+1
 |.aj=>0
 |.bl _=>0
 |.int _=>0
 |.str _=>0
 |.ref _=>0
 |.ty _=>0
 |.ak _ _=>0
noncomputable def a4:List D->Nat
 |[]=>0
 |d::ds=>max (bc d) (a4 ds)
end
inductive Sh (G:Gx) (F:Fz) (s:Shared):D->Value->Prop
 |aj:Sh G F s .aj .none
 |bl {b}:Sh G F s (.bl b) (.bool b)
 |int {i t}:Sh G F s (.int i) (.int i t)
 |str {x t}:Sh G F s (.str x) (.str x t)
 |tup {ds us a} (h:s.heap.IsTuple a us.toArray) (r:ag G F ds us) (k:aM ds=true):Sh G F s (.tup ds) (.ref a)
 |lst {ds us a} (h:s.heap.IsList a us.toArray) (r:ag G F ds us) (k:aM ds=true):Sh G F s (.lst ds) (.ref a)
section
variable {G:Gx}{F:Fz}{M:Mp}{s:Shared}{A:Around}
theorem eE (ok:az G F M s.heap) {d:D}{u:Value} (r:ae G F d u) (h:aD d=true):Sh G F s d u:=by
 cases d with
 |aj=>rw[ae]at r;subst r;exact .aj
 |bl b=>rw[ae]at r;subst r;exact .bl
 |int i=>rw[ae]at r;obtain⟨t,rfl⟩:=r;exact .int
 |str i=>rw[ae]at r;obtain⟨t,rfl⟩:=r;exact .str
 |tup ds=>rw[ae]at r;obtain⟨a,o,us,rfl,h1,h2,h3⟩:=r;rw[aD]at h;exact .tup ⟨o,ok.fz a _ h1,h2.cls,h2.data⟩ h3 h
 |lst ds=>rw[ae]at r;obtain⟨a,n,us,rfl,h1,h2,h3⟩:=r;rw[aD]at h;exact .lst ⟨_,ok.fz a _ h1,rfl,n,rfl⟩ h3 h
 |ref a=>rw[aD]at h;cases h
 |ty n=>rw[aD]at h;cases h
 |ak ks ds=>rw[aD]at h;cases h
theorem jm:∀{ds:List D}{i:Nat}{d:D},aM ds=true->ds[i]?=some d->aD d=true/\bc d<=a4 ds
 |[],i,d,_,h=>by simp at h
 |c::ds,0,d,k,h=>by rw[aM,Yq]at k;cases h;exact⟨k.1,by rw[a4];exact Nat.le_max_left _ _⟩
 |c::ds,i+1,d,k,h=>by
  rw[aM,Yq]at k;obtain⟨h1,h2⟩:=jm (i:=i) (d:=d) k.2 h;exact⟨h1,by rw[a4];exact Yy h2 (Nat.le_max_right _ _)⟩
theorem ie:∀(ds es:List D),bB ds es=((ZA (min ds.length es.length)).all (λj=>((ds[j]?).bind λd=>(es[j]?).map (aA d)).getD false) && (ds.length == es.length))
 |[],[]=>rfl
 |[],e::es=>by rw[bB];rfl
 |d::ds,[]=>by rw[bB];rfl
 |d::ds,e::es=>by
  rw[bB];show (aA d e && bB ds es)=_;rw[ie ds es,Yv,Yv,Nat.succ_min_succ,List.range_succ_eq_map,List.all_cons,List.all_map];simp only[List.getElem?_cons_zero,Option.bind_some,Option.map_some,Option.getD_some,Bool.and_assoc]
  congr 1
  congr 1
  rw[Zv];simp
mutual
theorem wU:∀(d:D) {e:D}{u:Value},ae G F d u->ae G F e u->aD d=true->aD e=true->d=e
 |.aj,e,u,r,r',k,k'=>by
  rw[ae]at r;subst r;cases e <;> first |rfl |(rw[ae]at r';first |(obtain⟨_,_,_,q,_⟩:=r';cases q;done) |(obtain⟨_,q⟩:=r';cases q;done) |(cases r';done))
 |.bl b,e,u,r,r',k,k'=>by
  rw[ae]at r;subst r;cases e <;> (rw[ae]at r';first |(obtain⟨_,_,_,q,_⟩:=r';cases q;done) |(obtain⟨_,q⟩:=r';cases q;done) |(cases r';done) |(cases r';rfl))
 |.int b,e,u,r,r',k,k'=>by
  rw[ae]at r;obtain⟨t,rfl⟩:=r;cases e <;> (rw[ae]at r';first |(obtain⟨_,_,_,q,_⟩:=r';cases q;done) |(obtain⟨_,q⟩:=r';cases q;done) |(cases r';done) |(obtain⟨_,q⟩:=r';cases q;rfl))
 |.str b,e,u,r,r',k,k'=>by
  rw[ae]at r;obtain⟨t,rfl⟩:=r;cases e <;> (rw[ae]at r';first |(obtain⟨_,_,_,q,_⟩:=r';cases q;done) |(obtain⟨_,q⟩:=r';cases q;done) |(cases r';done) |(obtain⟨_,q⟩:=r';cases q;rfl))
 |.tup ds,e,u,r,r',k,k'=>by
  rw[ae]at r;obtain⟨a,o,us,rfl,h1,h2,h3⟩:=r;cases e with
  |tup es=>
   rw[ae]at r';obtain⟨b,o',vs,q,g1,g2,g3⟩:=r';cases q;rw[h1]at g1;cases g1;obtain⟨n,e1⟩:=h2.data;obtain⟨n',e2⟩:=g2.data;rw[e1]at e2;injection e2 with e3 _;cases (show us=vs by simpa using congrArg Array.toList e3);rw[aD]at k k';rw[nE ds h3 g3 k k']
  |lst es=>
   rw[ae]at r';obtain⟨b,o',vs,q,g1,g2,g3⟩:=r';cases q;rw[h1]at g1;cases g1;have:=h2.cls;injection this with this;exact absurd this (by decide)
  |ref b=>rw[aD]at k';cases k'
  |ak _ _=>rw[aD]at k';cases k'
  |ty _=>rw[aD]at k';cases k'
  |aj=>rw[ae]at r';cases r'
  |bl _=>rw[ae]at r';cases r'
  |int _=>rw[ae]at r';obtain⟨_,q⟩:=r';cases q
  |str _=>rw[ae]at r';obtain⟨_,q⟩:=r';cases q
 |.lst ds,e,u,r,r',k,k'=>by
  rw[ae]at r;obtain⟨a,n,us,rfl,h1,h2,h3⟩:=r;cases e with
  |lst es=>
   rw[ae]at r';obtain⟨b,n',vs,q,g1,g2,g3⟩:=r';cases q;rw[h1]at g1;have e3:bH us n=bH vs n':=Fo.dat.inj (YY g1);unfold bH at e3;injection e3 with _ _ e3 _;injection e3 with e3 _;cases (show us=vs by simpa using congrArg Array.toList e3);rw[aD]at k k';rw[nE ds h3 g3 k k']
  |tup es=>
   rw[ae]at r';obtain⟨b,o',vs,q,g1,g2,g3⟩:=r';cases q;rw[h1]at g1;cases g1;have:=g2.cls;injection this with this;exact absurd this (by decide)
  |ref b=>rw[aD]at k';cases k'
  |ak _ _=>rw[aD]at k';cases k'
  |ty _=>rw[aD]at k';cases k'
  |aj=>rw[ae]at r';cases r'
  |bl _=>rw[ae]at r';cases r'
  |int _=>rw[ae]at r';obtain⟨_,q⟩:=r';cases q
  |str _=>rw[ae]at r';obtain⟨_,q⟩:=r';cases q
 |.ref _,_,_,_,_,k,_=>by rw[aD]at k;cases k
 |.ty _,_,_,_,_,k,_=>by rw[aD]at k;cases k
 |.ak _ _,_,_,_,_,k,_=>by rw[aD]at k;cases k
theorem nE:∀(ds:List D) {es:List D}{us:List Value},ag G F ds us->ag G F es us->aM ds=true->aM es=true->ds=es
 |[],es,us,r,r',_,_=>by
  rw[ag]at r;subst r;cases es with
  |nil=>rfl
  |cons e es=>rw[ag]at r';obtain⟨_,_,q,_⟩:=r';cases q
 |d::ds,es,us,r,r',k,k'=>by
  rw[ag]at r;obtain⟨u,us,rfl,r1,r2⟩:=r;cases es with
  |nil=>rw[ag]at r';cases r'
  |cons e es=>
   rw[ag]at r';obtain⟨_,_,q,g1,g2⟩:=r';cases q;rw[aM,Yq]at k k';rw[wU d r1 g1 k.1 k'.1,nE ds r2 g2 k.2 k'.2]
end
mutual
theorem fU:∀(d:D),aD d=true->aA d d=true
 |.aj,_=>by rw[aA];rfl
 |.bl b,_=>by rw[aA];simp [oI]
 |.int b,_=>by rw[aA];simp [oI]
 |.str b,_=>by rw[aA];simp [kT]
 |.tup ds,k=>by rw[aD]at k;rw[aA];exact nF ds k
 |.lst ds,k=>by rw[aD]at k;rw[aA];exact nF ds k
 |.ref _,k=>by rw[aD]at k;cases k
 |.ty _,k=>by rw[aD]at k;cases k
 |.ak _ _,k=>by rw[aD]at k;cases k
theorem nF:∀(ds:List D),aM ds=true->bB ds ds=true
 |[],_=>rfl
 |d::ds,k=>by rw[aM,Yq]at k;rw[bB,Yq];exact⟨fU d k.1,nF ds k.2⟩
end
theorem wV (ds:List D) {es:List D}{us:List Value} (r:ag G F ds us) (r':ag G F es us) (k:aM ds=true) (k':aM es=true):bB ds es=true:=by
 cases nE ds r r' k k';exact nF ds k
end
end N
end
section
set_option maxHeartbeats 1000000
namespace N
open PySem PySem.Spec PyProof.Rows L2
noncomputable abbrev kU (ds es:List D) (j:Nat):Bool:=((ds[j]?).bind λd=>(es[j]?).map (aA d)).getD false
section
variable {G:Gx}{F:Fz}{M:Mp}{s:Shared}{A:Around}
theorem wW.inj {h:Heap}{a:Addr}{us vs:List Value} (x:h.IsList a us.toArray\/h.IsTuple a us.toArray) (y:h.IsList a vs.toArray\/h.IsTuple a vs.toArray):us=vs:=by
 have g:∀{ws:List Value},(h.IsList a ws.toArray\/h.IsTuple a ws.toArray)->∃o n,h.get? a=some o/\o.data=.seq ws.toArray n:=λq=>by
  rcases q with ⟨o,e,_,n,d⟩ |⟨o,e,_,n,d⟩ <;> exact⟨o,n,e,d⟩
 obtain⟨o,n,e,d⟩:=g x;obtain⟨o',n',e',d'⟩:=g y;rw[e]at e';cases e';rw[d]at d';injection d' with d' _;simpa using congrArg Array.toList d'
theorem kW:∀(n:Nat) {A:Around}{d e:D}{u v:Value},az G F M s.heap->Sh G F s d u->Sh G F s e v->bc d<=n->A.units+n<cLine->SeqAt.EqAt A s u v (aA d e):=by
 intro n
 induction n with
 |zero=>
  intro A d e u v ok hd he hn hu;have ac:A.units<cLine:=hu;cases hd with
  |tup h r k=>rw[bc]at hn;cases hn
  |lst h r k=>rw[bc]at hn;cases hn
  |aj=>cases he with
   |aj=>exact SeqAt.EqAt.same _
   |bl=>exact SeqAt.EqAt.none_bool _
   |int=>exact SeqAt.EqAt.none_int _ _
   |str=>exact SeqAt.EqAt.none_str _ _
   |tup h r k=>exact SeqAt.EqAt.none_tuple h ac
   |lst h r k=>exact SeqAt.EqAt.none_list h ac
  |@bl a=>cases he with
   |aj=>exact SeqAt.EqAt.bool_none _
   |@bl b=>rw[show aA (.bl a) (.bl b)=(a == b) by rw[aA];cases a <;> cases b <;> rfl];exact SeqAt.EqAt.bool_bool _ _
   |@int b t=>rw[show aA (.bl a) (.int b)=((if a then 1 else 0) == b) by rw[aA,Zv];simp [oI];exact eq_comm];exact SeqAt.EqAt.bool_int _ _ _
   |str=>exact SeqAt.EqAt.bool_str _ _ _
   |tup h r k=>exact SeqAt.EqAt.bool_tuple _ h ac
   |lst h r k=>exact SeqAt.EqAt.bool_list _ h ac
  |@int a t=>cases he with
   |aj=>exact SeqAt.EqAt.int_none _ _
   |@bl b=>rw[show aA (.int a) (.bl b)=(a == (if b then 1 else 0)) by rw[aA,Zv];simp [oI];exact eq_comm];exact SeqAt.EqAt.int_bool _ _ _
   |@int b t'=>rw[show aA (.int a) (.int b)=(a == b) by rw[aA,Zv];simp [oI];exact eq_comm];exact SeqAt.EqAt.int_int _ _ _ _
   |str=>exact SeqAt.EqAt.int_str _ _ _ _
   |tup h r k=>exact SeqAt.EqAt.int_tuple _ _ h ac
   |lst h r k=>exact SeqAt.EqAt.int_list _ _ h ac
  |@str a t=>cases he with
   |aj=>exact SeqAt.EqAt.str_none _ _
   |bl=>exact SeqAt.EqAt.str_bool _ _ _
   |int=>exact SeqAt.EqAt.str_int _ _ _ _
   |@str b t'=>rw[show aA (.str a) (.str b)=(a == b) by rw[aA,Zv];simp [kT];exact eq_comm];exact SeqAt.EqAt.str_str _ _ _ _
   |tup h r k=>exact SeqAt.EqAt.str_tuple _ _ h ac
   |lst h r k=>exact SeqAt.EqAt.str_list _ _ h ac
 |succ n ih=>
  intro A d e u v ok hd he hn hu;have ii:bc d<=n->SeqAt.EqAt A s u v (aA d e):=λh=>ih ok hd he h (Nat.lt_of_succ_lt hu);have ac:A.units<cLine:=YA (Z5 _ _) hu;have items:∀{ds es:List D}{us vs:List Value},ag G F ds us->ag G F es vs->aM ds=true->aM es=true->a4 ds<=n->∀j (h1:j<us.toArray.size) (h2:j<vs.toArray.size),SeqAt.EqAt A.in1 s us.toArray[j] vs.toArray[j] (kU ds es j):=λ{ds es us vs} r1 r2 k1 k2 hd j h1 h2=>by
   have g1:j<ds.length:=(by rw[r1.len];simpa using h1);have g2:j<es.length:=(by rw[r2.len];simpa using h2);obtain⟨u,e1,q1⟩:=d4 r1 (Yo g1);obtain⟨v,e2,q2⟩:=d4 r2 (Yo g2);have m1:=jm k1 (Yo g1);have m2:=jm k2 (Yo g2);rw[(Array.getElem?_eq_some_iff.mp e1).2,(Array.getElem?_eq_some_iff.mp e2).2];unfold kU;rw[Yo g1,Yo g2];exact ih ok (eE ok q1 m1.1) (eE ok q2 m2.1) (Yy m1.2 hd) (by show A.units+1+n<cLine;lia)
  cases hd with
  |aj=>exact ii (YE _)
  |bl=>exact ii (YE _)
  |int=>exact ii (YE _)
  |str=>exact ii (YE _)
  |@tup ds us a h r k=>
   rw[bc]at hn;cases he with
   |aj=>exact SeqAt.EqAt.tuple_none h ac
   |bl=>exact SeqAt.EqAt.tuple_bool _ h ac
   |int=>exact SeqAt.EqAt.tuple_int _ _ h ac
   |str=>exact SeqAt.EqAt.tuple_str _ _ h ac
   |lst h' r' k'=>exact SeqAt.EqAt.tuple_list h h' ac
   |@tup es vs b h' r' k'=>
    have e:aA (.tup ds) (.tup es)=bB ds es:=(by rw[aA];rfl);rw[e];by_cases ij:a=b
    ·subst ij;cases wW.inj (.inr h) (.inr h');rw[wV ds r r' k k'];exact SeqAt.EqAt.same _
    ·have q:=SeqAt.RcAt.tuples (A:=A) h h' ac (items r r' k k' (ZS hn));rw[Yn,Yn,<- r.len,<- r'.len,<- ie]at q;exact SeqAt.EqAt.of_refs ij q
  |@lst ds us a h r k=>
   rw[bc]at hn;cases he with
   |aj=>exact SeqAt.EqAt.list_none h ac
   |bl=>exact SeqAt.EqAt.list_bool _ h ac
   |int=>exact SeqAt.EqAt.list_int _ _ h ac
   |str=>exact SeqAt.EqAt.list_str _ _ h ac
   |tup h' r' k'=>exact SeqAt.EqAt.list_tuple h h' ac
   |@lst es vs b h' r' k'=>
    have e:aA (.lst ds) (.lst es)=bB ds es:=(by rw[aA];rfl);rw[e];by_cases ij:a=b
    ·subst ij;cases wW.inj (.inl h) (.inl h');rw[wV ds r r' k k'];exact SeqAt.EqAt.same _
    ·refine SeqAt.EqAt.of_refs ij ?_;have l1:=r.len;have l2:=r'.len;by_cases hl:ds.length=es.length
     ·have q:=SeqAt.RcAt.lists (A:=A) h h' (by rw[Yn,Yn,<- l1,<- l2,hl]) ac (items r r' k k' (ZS hn));rw[Yn,<- l1]at q;rw[ie,<- hl,Nat.min_self,beq_self_eq_true,Bool.and_true];exact q
     ·rw[ie,beq_false_of_ne hl,Bool.and_false];exact SeqAt.RcAt.lists_lengths h h' (by rw[Yn,Yn,<- l1,<- l2];simpa using hl) ac
theorem E2 {ds es:List D}{us vs:List Value}{n:Nat} (ok:az G F M s.heap) (r1:ag G F ds us) (r2:ag G F es vs) (k1:aM ds=true) (k2:aM es=true) (hd:a4 ds<=n) (hu:A.units+n<cLine) (j:Nat) (h1:j<us.toArray.size) (h2:j<vs.toArray.size):SeqAt.EqAt A s us.toArray[j] vs.toArray[j] (kU ds es j):=by
 have g1:j<ds.length:=by rw[r1.len];simpa using h1
 have g2:j<es.length:=by rw[r2.len];simpa using h2
 obtain⟨u,e1,q1⟩:=d4 r1 (Yo g1);obtain⟨v,e2,q2⟩:=d4 r2 (Yo g2);have m1:=jm k1 (Yo g1);have m2:=jm k2 (Yo g2);rw[(Array.getElem?_eq_some_iff.mp e1).2,(Array.getElem?_eq_some_iff.mp e2).2];unfold kU;rw[Yo g1,Yo g2];exact kW n ok (eE ok q1 m1.1) (eE ok q2 m2.1) (Yy m1.2 hd) hu
theorem E3 {n:Nat}{d e:D}{u v:Value} (ok:az G F M s.heap) (hd:Sh G F s d u) (he:Sh G F s e v) (hn:bc d<=n+1) (hu:A.units+1+n<cLine):SeqAt.RcAt A s u v (aA d e)/\SeqAt.RcNeAt A s u v (!aA d e):=by
  have ac:A.units<cLine:=by lia
  have items:∀{ds es:List D}{us vs:List Value},ag G F ds us->ag G F es vs->aM ds=true->aM es=true->a4 ds<=n->∀j (h1:j<us.toArray.size) (h2:j<vs.toArray.size),SeqAt.EqAt A.in1 s us.toArray[j] vs.toArray[j] (kU ds es j):=λr1 r2 k1 k2 hd=>E2 ok r1 r2 k1 k2 hd hu;cases hd with
  |aj=>cases he with
   |aj=>exact⟨SeqAt.RcAt.none_none,SeqAt.RcNeAt.none_none⟩
   |bl=>exact⟨SeqAt.RcAt.none_bool _,SeqAt.RcNeAt.none_bool _⟩
   |int=>exact⟨SeqAt.RcAt.none_int _ _,SeqAt.RcNeAt.none_int _ _⟩
   |str=>exact⟨SeqAt.RcAt.none_str _ _,SeqAt.RcNeAt.none_str _ _⟩
   |tup h r k=>exact⟨SeqAt.RcAt.none_tuple h ac,SeqAt.RcNeAt.none_tuple h ac⟩
   |lst h r k=>exact⟨SeqAt.RcAt.none_list h ac,SeqAt.RcNeAt.none_list h ac⟩
  |@bl a=>cases he with
   |aj=>exact⟨SeqAt.RcAt.bool_none _,SeqAt.RcNeAt.bool_none _⟩
   |@bl b=>rw[show aA (.bl a) (.bl b)=(a == b) by rw[aA];cases a <;> cases b <;> rfl];exact⟨SeqAt.RcAt.bool_bool _ _,SeqAt.RcNeAt.bool_bool _ _⟩
   |@int b t'=>rw[show aA (.bl a) (.int b)=((if a then 1 else 0) == b) by rw[aA,Zv];simp [oI];exact eq_comm];exact⟨SeqAt.RcAt.bool_int _ _ _,SeqAt.RcNeAt.bool_int _ _ _⟩
   |str=>exact⟨SeqAt.RcAt.bool_str _ _ _,SeqAt.RcNeAt.bool_str _ _ _⟩
   |tup h r k=>exact⟨SeqAt.RcAt.bool_tuple _ h ac,SeqAt.RcNeAt.bool_tuple _ h ac⟩
   |lst h r k=>exact⟨SeqAt.RcAt.bool_list _ h ac,SeqAt.RcNeAt.bool_list _ h ac⟩
  |@int a t=>cases he with
   |aj=>exact⟨SeqAt.RcAt.int_none _ _,SeqAt.RcNeAt.int_none _ _⟩
   |@bl b=>rw[show aA (.int a) (.bl b)=(a == (if b then 1 else 0)) by rw[aA,Zv];simp [oI];exact eq_comm];exact⟨SeqAt.RcAt.int_bool _ _ _,SeqAt.RcNeAt.int_bool _ _ _⟩
   |@int b t'=>rw[show aA (.int a) (.int b)=(a == b) by rw[aA,Zv];simp [oI];exact eq_comm];exact⟨SeqAt.RcAt.int_int _ _ _ _,SeqAt.RcNeAt.int_int _ _ _ _⟩
   |str=>exact⟨SeqAt.RcAt.int_str _ _ _ _,SeqAt.RcNeAt.int_str _ _ _ _⟩
   |tup h r k=>exact⟨SeqAt.RcAt.int_tuple _ _ h ac,SeqAt.RcNeAt.int_tuple _ _ h ac⟩
   |lst h r k=>exact⟨SeqAt.RcAt.int_list _ _ h ac,SeqAt.RcNeAt.int_list _ _ h ac⟩
  |@str a t=>cases he with
   |aj=>exact⟨SeqAt.RcAt.str_none _ _,SeqAt.RcNeAt.str_none _ _⟩
   |bl=>exact⟨SeqAt.RcAt.str_bool _ _ _,SeqAt.RcNeAt.str_bool _ _ _⟩
   |int=>exact⟨SeqAt.RcAt.str_int _ _ _ _,SeqAt.RcNeAt.str_int _ _ _ _⟩
   |@str b t'=>rw[show aA (.str a) (.str b)=(a == b) by rw[aA,Zv];simp [kT];exact eq_comm];exact⟨SeqAt.RcAt.str_str _ _ _ _,SeqAt.RcNeAt.str_str _ _ _ _⟩
   |tup h r k=>exact⟨SeqAt.RcAt.str_tuple _ _ h ac,SeqAt.RcNeAt.str_tuple _ _ h ac⟩
   |lst h r k=>exact⟨SeqAt.RcAt.str_list _ _ h ac,SeqAt.RcNeAt.str_list _ _ h ac⟩
  |@tup ds us a h r k=>
   rw[bc]at hn;cases he with
   |aj=>exact⟨SeqAt.RcAt.tuple_none h ac,SeqAt.RcNeAt.tuple_none h ac⟩
   |bl=>exact⟨SeqAt.RcAt.tuple_bool _ h ac,SeqAt.RcNeAt.tuple_bool _ h ac⟩
   |int=>exact⟨SeqAt.RcAt.tuple_int _ _ h ac,SeqAt.RcNeAt.tuple_int _ _ h ac⟩
   |str=>exact⟨SeqAt.RcAt.tuple_str _ _ h ac,SeqAt.RcNeAt.tuple_str _ _ h ac⟩
   |lst h' r' k'=>exact⟨SeqAt.RcAt.tuple_list h h' ac,SeqAt.RcNeAt.tuple_list h h' ac⟩
   |@tup es vs b h' r' k'=>
    have q1:=SeqAt.RcAt.tuples (A:=A) h h' ac (items r r' k k' (ZS hn));have q2:=SeqAt.RcNeAt.tuples (A:=A) h h' ac (items r r' k k' (ZS hn));rw[Yn,Yn,<- r.len,<- r'.len,<- ie]at q1 q2;rw[show aA (.tup ds) (.tup es)=bB ds es by rw[aA];rfl];exact⟨q1,q2⟩
  |@lst ds us a h r k=>
   rw[bc]at hn;cases he with
   |aj=>exact⟨SeqAt.RcAt.list_none h ac,SeqAt.RcNeAt.list_none h ac⟩
   |bl=>exact⟨SeqAt.RcAt.list_bool _ h ac,SeqAt.RcNeAt.list_bool _ h ac⟩
   |int=>exact⟨SeqAt.RcAt.list_int _ _ h ac,SeqAt.RcNeAt.list_int _ _ h ac⟩
   |str=>exact⟨SeqAt.RcAt.list_str _ _ h ac,SeqAt.RcNeAt.list_str _ _ h ac⟩
   |tup h' r' k'=>exact⟨SeqAt.RcAt.list_tuple h h' ac,SeqAt.RcNeAt.list_tuple h h' ac⟩
   |@lst es vs b h' r' k'=>
    have l1:=r.len;have l2:=r'.len;rw[show aA (.lst ds) (.lst es)=bB ds es by rw[aA];rfl];by_cases hl:ds.length=es.length
    ·have hz:us.toArray.size=vs.toArray.size:=(by rw[Yn,Yn,<- l1,<- l2,hl]);have q1:=SeqAt.RcAt.lists (A:=A) h h' hz ac (items r r' k k' (ZS hn));have q2:=SeqAt.RcNeAt.lists (A:=A) h h' hz ac (items r r' k k' (ZS hn));rw[Yn,<- l1]at q1 q2;rw[ie,<- hl,Nat.min_self,beq_self_eq_true,Bool.and_true];exact⟨q1,q2⟩
    ·have hz:(us.toArray.size != vs.toArray.size)=true:=(by rw[Yn,Yn,<- l1,<- l2];simpa using hl);rw[ie,beq_false_of_ne hl,Bool.and_false];exact⟨SeqAt.RcAt.lists_lengths h h' hz ac,SeqAt.RcNeAt.lists_lengths h h' hz ac⟩
end
end N
end
section
namespace L2
open PySem PySem.Spec PyProof.Rows
theorem wX (prog:Program) (w:World) (i:Int) (t:Tok):(bw prog w).is (.inl i) (.int i t)=true:=DD i t
theorem wY (prog:Program) (w:World) (x:Str) (t:Tok):(bw prog w).is (.inr x) (.str x t)=true:=pY x t
end L2
namespace L2
open PySem PySem.Spec PyProof.Rows
section
variable {X:Cx}{a b c:Expr}{ta tb tc:TE}{pos:Pos}
def wZ (i j:Int):Prop:=0<=j/\j<=1000000/\i.natAbs<2 ^ 64
def qE (i j:Int):Prop:=(-(2 ^ 64)<i/\i<2 ^ 64)\/(-(2 ^ 64)<j/\j<2 ^ 64)
theorem qE.ok {i j:Int} (h:qE i j):IntMulOk i j:=by
 rcases h with ⟨h1,h2⟩ |⟨h1,h2⟩
 ·exact .of_left (intBits_le_64 h1 h2)
 ·exact .of_right (intBits_le_64 h1 h2)
theorem E4 (k:Nat):(0:Int)<=2 ^ k:=by
 rw[two_pow_cast];exact Int.natCast_nonneg _
end
section
variable {X:Cx}{a b c:Expr}{ta tb tc:TE}{pos:Pos}
theorem nG:(sizeLine:Nat)<2 ^ 63:=by rw[aao];decide
end
end L2
namespace HT
open PySem PyProof.Rows
section
variable {prog:Program}{w:World}{A:Around}{E:Value->Shared->Prop}{s:Shared}
theorem E5 {t b:Addr}{vs ws:List Value}{Q:Value->Shared->Prop} (ht:IsTup s.heap t vs.toArray) (hb:IsTup s.heap b ws.toArray) (hv:vs≠[])
  (h1:ws=[]->Q (.ref t) s) (h2:ws≠[]->Q (.ref s.heap.objs.size) { s with heap:=s.heap.push { cls:=.type "tuple",data:=.seq (vs++ws).toArray } })
  (hsz:vs.length+ws.length<=sizeLine):wpAny (model prog w) A (binaryOp .Add (.ref t) (.ref b)) Q E s:=by
 obtain⟨⟨cls,dd,data,sl⟩,ho,hc,n,hd⟩:=id ht;obtain⟨⟨wE,ik,wP,kX⟩,ho2,fg,n2,gK⟩:=id hb;simp only at hc hd fg gK;subst hc hd fg gK;have e:vs.toArray++ws.toArray=(vs++ws).toArray:=by simp
 by_cases hw:ws=[]
 ·exact concat_meets ⟨_,ho,rfl⟩ ⟨_,ho2,rfl⟩ noFill_tuple_add seq_tuple_add PySem.F.slot_tuple_add PySem.F.entry_tuple_add (PySem.F.args_tuple_add_2 _ _)
   (tuple_addW1 t b vs.toArray ws.toArray n n2 dd ik sl kX (by simpa using hv) (by simp [hw])) ⟨ho,ho2,h1 hw⟩
 ·refine concat_meets ⟨_,ho,rfl⟩ ⟨_,ho2,rfl⟩ noFill_tuple_add seq_tuple_add PySem.F.slot_tuple_add PySem.F.entry_tuple_add (PySem.F.args_tuple_add_2 _ _)
   (tuple_addW2 t b vs.toArray ws.toArray n n2 dd ik sl kX (by simpa using hv) (by simpa using hw) (by rw[Yn,Yn];exact hsz)) ⟨ho,ho2,?_⟩
  rw[e];exact h2 hw
end
end HT
namespace L2
open PySem PySem.Spec PyProof.Rows
noncomputable def fh (n:Nat) (i:Int):Option Nat:=if 0<=i then (if i<n then some i.toNat else none) else if -(n:Int)<=i then some (i+n).toNat else none
noncomputable def cz {α:Type} (xs:List α) (i:Int):Option α:=(fh xs.length i).bind λj=>xs[j]?
theorem w5 {n:Nat}{i:Int}{j:Nat} (h:fh n i=some j):seqIndex? i n=some j/\j<n/\-(n:Int)<=i/\i<n:=by
 unfold fh at h;by_cases h0:0<=i
 ·rw[if_pos h0]at h;by_cases h1:i<n
  ·rw[if_pos h1]at h;have e:i.toNat=j:=YY h;exact⟨by rw[seqIndex_of h0 h1,e],by lia,by lia,h1⟩
  ·rw[if_neg h1]at h;cases h
 ·rw[if_neg h0]at h;by_cases h1:-(n:Int)<=i
  ·rw[if_pos h1]at h;have e:(i+n).toNat=j:=YY h;exact⟨by rw[seqIndex_neg (by lia) h1,e],by lia,h1,by lia⟩
  ·rw[if_neg h1]at h;cases h
theorem qF {α:Type} {xs:List α}{i:Int}{v:α} (h:cz xs i=some v):∃j,seqIndex? i xs.length=some j/\xs[j]?=some v/\j<xs.length/\-(xs.length:Int)<=i/\i<xs.length:=by
 unfold cz at h;cases e:fh xs.length i with
 |none=>rw[e]at h;cases h
 |some j=>
  rw[e]at h;obtain⟨h1,h2,h3,h4⟩:=w5 e;exact⟨j,h1,h,h2,h3,h4⟩
section
variable {X:Cx}{a b:Expr}{ta tb:TE}{pos:Pos}
theorem w6 (its:List Value) (n j:Nat) (u:Value):YW (·.setIfInBounds j u) { cls:=.type "list",data:=.seq its.toArray n }={ cls:=.type "list",data:=.seq (its.set j u).toArray n }:=by
 simp [YW]
variable {o e:Expr}{es:List Expr}{to:TE}{t:TA}{name:Str}{cm cpos:Pos}{T id:String}{r:V->List V->Hp->VK->Prop}
end
end L2
namespace L2
open PySem PySem.Spec PyProof.Rows
end L2
namespace L2
open PySem PySem.Spec PyProof.Rows
def E6 (i j:Int):Prop:=i.natAbs<2 ^ 600/\j.natAbs<2 ^ 600
theorem w8 {a:Int} (h:a.natAbs<2 ^ 600):Builtin.Int.intBits a<=2 ^ 20:=by
 unfold Builtin.Int.intBits;split
 ·exact YE _
 ·rename_i z;have hz:a.natAbs≠0:=by first |exact λe=>z (by simpa using e) |(intro e;apply z;lia)
  have:=(Nat.log2_lt hz).mpr h;lia
end L2
namespace L2
open PySem PySem.Spec PyProof.Rows
theorem w9 (its:List Value):∀ (k:Nat) (al:List Value),
  List.foldl (λx1 x2=>x1++x2) al.toArray (Y' k its.toArray)=(al++(Y' k its).flatten).toArray
 | 0,al=>by simp
 |k+1,al=>by
  have e:al.toArray++its.toArray=(al++its).toArray:=by simp
  have e2:(al++its)++(Y' k its).flatten=al++(Y' (k+1) its).flatten:=by
   rw[aas,List.flatten_cons,YT]
  rw[<- e2,<- w9 its k (al++its),<- e,aas,List.foldl_cons]
section
variable {X:Cx}{aO:List (Addr×Obj)} {σ:St} {H:Hp}{s:Shared}{l b:Addr}{xs ys zs:List V}
theorem qG {n:Nat} (h:n<=sizeLine):Zx n=false:=by
 unfold Zx;exact decide_eq_false (by lia)
end
section
variable {X:Cx}
theorem E7 {α:Type} (xs:List α) (k:Nat):(Y' k xs).flatten.length=k * xs.length:=by
 induction k with
 |zero=>simp
 |succ k ih=>rw[aas,List.flatten_cons,YB,ih,Nat.succ_mul,Nat.add_comm]
end
end L2
namespace L2
open PySem PySem.Spec PyProof.Rows
end L2
namespace HT
open PySem PyProof.Rows
section
variable {prog:Program}{w:World}{A:Around}{E:Value->Shared->Prop}{s:Shared}
noncomputable def aB (n d:Nat):Option Int->Nat
 |none=>d
 |some v=>if v<0 then (v+(n:Int)).toNat else min v.toNat n
theorem E8 (n d:Nat) (hd:d<=n) (o:Option Int):aB n d o<=n:=by
 cases o with
 |none=>exact hd
 |some v=>
  show (if v<0 then (v+(n:Int)).toNat else min v.toNat n)<=n
  by_cases hv:v<0
  ·rw[if_pos hv];lia
  ·rw[if_neg hv];exact Nat.min_le_right _ _
theorem w' (v:Int) (n d:Nat):(if v<0 then max (v+(n:Int)) 0 else min v (n:Int))=((aB n d (some v):Nat):Int):=by
 show (if v<0 then max (v+(n:Int)) 0 else min v (n:Int))=(((if v<0 then (v+(n:Int)).toNat else min v.toNat n):Nat):Int)
 by_cases hv:v<0
 ·simp only[if_pos hv];lia
 ·simp only[if_neg hv];lia
theorem E9 (lo hi:Option Int) (n:Nat):Builtin.Slice.sliceAdjust lo hi 1 (n:Int)=(((aB n 0 lo:Nat):Int),((aB n n hi:Nat):Int)):=by
 have h1:¬((1:Int)<0):=by lia
 unfold Builtin.Slice.sliceAdjust;simp only[h1,if_false];refine Prod.ext ?_ ?_
 ·cases lo with
  |none=>rfl
  |some v=>exact w' v n 0
 ·cases hi with
  |none=>rfl
  |some v=>exact w' v n n
theorem Fb (i j:Nat):Zj (i:Int) (j:Int) 1=j-i:=by
 unfold Zj;have h1:(1:Int) > 0:=by lia
 simp only[h1,if_true,Int.ediv_one];split <;> lia
theorem xc {v:Value}{o:Option Int}{Q:Option Int->Shared->Prop} (p:IsPart v o) (h:Q o s):wpAny (model prog w) A (Builtin.Slice.slicePartIndex v) Q E s:=by
 cases p with
 |none=>exact slicePart_none h
 |int i t=>exact slicePart_int h
theorem xf {sl:Addr}{vl vu:Value}{lo hi:Option Int}{n:Nat}{Q:Int×Int×Nat->Shared->Prop} (hs:s.heap.IsSliceOf sl vl vu .none) (pl:IsPart vl lo) (pu:IsPart vu hi)
  (h:Q (((aB n 0 lo:Nat):Int),1,aB n n hi-aB n 0 lo) s):wpAny (model prog w) A (Z4 (.ref sl) (pure (n:Int))) Q E s:=by
 obtain⟨os,cO,gL,ev⟩:=id hs;unfold Z4 Builtin.Slice.sliceFields;refine Yj (Yj (YU cO ev (x:=vl) rfl (Yj (YU cO ev (x:=vu) rfl (Yj (YU cO ev (x:=.none) rfl (Yl ?_)))))));refine Yj (slicePart_none ?_);show wpAny _ _ (if ((1:Int) == 0)=true then _ else _) _ _ s
 rw[if_neg (by decide)];refine Yj (xc pl (Yj (xc pu (Yj (Yl ?_)))));show wpAny _ _ (match Builtin.Slice.sliceAdjust lo hi 1 (n:Int) with |(lo,hi)=>pure (lo,(1:Int),Zj lo hi 1)) _ _ s
 rw[E9 lo hi n];show wpAny _ _ (pure (((aB n 0 lo:Nat):Int),(1:Int),Zj ((aB n 0 lo:Nat):Int) ((aB n n hi:Nat):Int) 1)) _ _ s;rw[Fb];exact Yl h
theorem Fc (xs:Array Value) (i k:Nat):((ZA k).filterMap λ(m:Nat)=>xs[((i:Int)+(m:Int) * 1).toNat]?).toArray=((xs.toList.drop i).take k).toArray:=by
 have e:(λ(m:Nat)=>xs[((i:Int)+(m:Int) * 1).toNat]?)=λm=>xs[i+m]?:=by
  funext m;have:((i:Int)+(m:Int) * 1).toNat=i+m:=by lia
  rw[this]
 rw[e];have:=pick_run xs i k;rw[List.filterMap_map]at this;have e2:((λx=>xs[x]?) ∘ λx=>i+x)=λm=>xs[i+m]?:=rfl;rw[e2]at this;rw[this]
theorem Fd {t sl:Addr}{items:Array Value}{vl vu:Value}{lo hi:Option Int}{Q:Value->Shared->Prop} (ht:IsTup s.heap t items) (hs:s.heap.IsSliceOf sl vl vu .none) (pl:IsPart vl lo) (pu:IsPart vu hi)
  (hw:¬(aB items.size 0 lo=0/\aB items.size items.size hi=items.size))
  (h:Q (.ref s.heap.objs.size) { s with heap:=s.heap.push { cls:=.type "tuple",data:=.seq ((items.toList.drop (aB items.size 0 lo)).take (aB items.size items.size hi-aB items.size 0 lo)).toArray } })
  (hsz:items.size<=sizeLine):wpAny (model prog w) A (getItem (.ref t) (.ref sl)) Q E s:=by
 have fV:sizeOk (.seq ((items.toList.drop (aB items.size 0 lo)).take (aB items.size items.size hi-aB items.size 0 lo)).toArray):=by
  show ((items.toList.drop (aB items.size 0 lo)).take (aB items.size items.size hi-aB items.size 0 lo)).toArray.size<=sizeLine;rw[Yn,List.length_take,List.length_drop,YG];lia
 have hj:aB items.size items.size hi<=items.size:=E8 _ _ (Yr _) hi;obtain⟨os,cO,gL,ev⟩:=id hs;have kY:s.TypeIs (.ref sl) "slice":=⟨os,cO,gL⟩;unfold getItem
 try with_reducible refine Y3 ?_
 first |refine Yj (Yl ?_) |skip
 refine Yj (wpAny_sequenceKey ht.typeIs (by decide) ?_);refine Yj (YM (name:=Zw "__getitem__") ht.typeIs Zi
  (YQ Zi ht.typeIs entry_tuple_getitem ?_ (args_tuple_getitem _ _)))
 show wpAny _ _ (Builtin.Tuple.tupleItemsOf (.ref t) >>= _) _ _ s;refine Yj (tupleItemsOf_ ht ?_);refine Yj (wpAny_typeOf kY ?_);rw[if_pos (by decide)];refine Yj (xf hs pl pu ?_);have Fa:¬((((aB items.size 0 lo:Nat):Int) == 0 && (1:Int) == 1 && (aB items.size items.size hi-aB items.size 0 lo) == items.size)=true):=by
  intro q;rw[Yq,Yq]at q;have q1:((aB items.size 0 lo:Nat):Int)=0:=eq_of_beq q.1.1;have q2:aB items.size items.size hi-aB items.size 0 lo=items.size:=eq_of_beq q.2;exact hw ⟨by lia,by lia⟩
 show wpAny _ _ (if (((aB items.size 0 lo:Nat):Int) == 0 && (1:Int) == 1 && (aB items.size items.size hi-aB items.size 0 lo) == items.size)=true then _ else _) _ _ s
 rw[if_neg Fa,Fc]
 first
  |exact Yj (m:=Zd _) (YV (Yl ⟨_,rfl,Yl h⟩) fV)
  |exact Yj (m:=Zd _) (YV (Yj (Yl (Yl ⟨_,rfl,Yl h⟩))) fV)
  |exact Yj (Yj (m:=Zd _) (YV (Yl (Yl ⟨_,rfl,Yl h⟩)) fV))
  |exact Yj (Yj (m:=Zd _) (YV (Yl ⟨_,rfl,Yl h⟩) fV))
end
end HT
namespace L2
open PySem PySem.Spec PyProof.Rows
section
variable {X:Cx}{a b:Expr}{ta tb:TE}{pos:Pos}
theorem Fe (lo hi:Option Int) (n:Nat):(sliceBounds lo hi none n).1=((HT.aB n 0 lo:Nat):Int)/\(sliceBounds lo hi none n).2.1=((HT.aB n n hi:Nat):Int)/\(sliceBounds lo hi none n).2.2=1:=by
 refine⟨?_,?_,rfl⟩
 ·cases lo with
  |none=>simp [sliceBounds,HT.aB]
  |some i=>
   simp only[sliceBounds,HT.aB,Option.getD_none,show (1:Int) > 0 by decide,if_true];by_cases h:i<0
   ·simp only[h,if_true] <;> lia
   ·simp only[h,if_false] <;> lia
 ·cases hi with
  |none=>simp [sliceBounds,HT.aB]
  |some i=>
   simp only[sliceBounds,HT.aB,Option.getD_none,show (1:Int) > 0 by decide,if_true];by_cases h:i<0
   ·simp only[h,if_true] <;> lia
   ·simp only[h,if_false] <;> lia
theorem Ff (its:List Value) (lo hi:Option Int):slicePick its.toArray lo hi none=((its.drop (HT.aB its.length 0 lo)).take (HT.aB its.length its.length hi-HT.aB its.length 0 lo)).toArray:=by
 obtain⟨h1,h2,h3⟩:=Fe lo hi its.toArray.size;unfold slicePick;rw[h1,h2,h3];simp only[sliceRange_one,pick_run,Yn] <;> rfl
variable {o e:Expr}{es:List Expr}{to:TE}{t:TA}{name:Str}{cm cpos:Pos}{T id:String}{r:V->List V->Hp->VK->Prop}
end
end L2
namespace L2
open PySem PySem.Spec PyProof.Rows
end L2
namespace L2
open PySem PySem.Spec PyProof.Rows
theorem eF {α:Type} {t:Sem α}{Q Q':α->Shared->Prop}{M:Model}{A:Around}{E:Value->Shared->Prop}{s:Shared} (h:wpAny M A t Q E s) (hQ:∀a s,Q a s->Q' a s):wpAny M A t Q' E s:=Zm h hQ λ_ _ x=>x
end L2
namespace L2
open PySem PySem.Spec PyProof.Rows
end L2
namespace L2
open PySem PySem.Spec PyProof.Rows
section
variable {prog:Program}{w:World}{A:Around}{E:Value->Shared->Prop}{s:Shared}
theorem Fh {t sl:Addr}{items:Array Value}{vl vu:Value}{lo hi:Option Int}{Q:Value->Shared->Prop} (ht:IsTup s.heap t items) (hs:s.heap.IsSliceOf sl vl vu .none) (pl:IsPart vl lo) (pu:IsPart vu hi)
  (hw:HT.aB items.size 0 lo=0/\HT.aB items.size items.size hi=items.size) (h:Q (.ref t) s):wpAny (model prog w) A (getItem (.ref t) (.ref sl)) Q E s:=by
 obtain⟨os,cO,gL,ev⟩:=id hs;have kY:s.TypeIs (.ref sl) "slice":=⟨os,cO,gL⟩;unfold getItem
 try with_reducible refine Y3 ?_
 first |refine Yj (Yl ?_) |skip
 refine Yj (wpAny_sequenceKey ht.typeIs (by decide) ?_);refine Yj (YM (name:=Zw "__getitem__") ht.typeIs Zi
  (YQ Zi ht.typeIs entry_tuple_getitem ?_ (args_tuple_getitem _ _)))
 show wpAny _ _ (Builtin.Tuple.tupleItemsOf (.ref t) >>= _) _ _ s;refine Yj (tupleItemsOf_ ht ?_);refine Yj (wpAny_typeOf kY ?_);rw[if_pos (by decide)];refine Yj (HT.xf hs pl pu ?_);have Fi:(((HT.aB items.size 0 lo:Nat):Int) == 0 && (1:Int) == 1 && (HT.aB items.size items.size hi-HT.aB items.size 0 lo) == items.size)=true:=by
  rw[hw.1,hw.2];simp
 show wpAny _ _ (if (((HT.aB items.size 0 lo:Nat):Int) == 0 && (1:Int) == 1 && (HT.aB items.size items.size hi-HT.aB items.size 0 lo) == items.size)=true then _ else _) _ _ s
 rw[if_pos Fi];obtain⟨o,ho,hc,n,hd⟩:=id ht;have ex:wpAny (model prog w) A.in1 (Builtin.Tuple.tupleIsExact (.ref t)) (λb s'=>b=true/\s'=s) E s:=by
  unfold Builtin.Tuple.tupleIsExact
  first
   |exact Yj (wpAny_typeOf ⟨o,ho,hc⟩ (Yl ⟨by rfl,rfl⟩))
   |exact Yj (wpAny_load ho (Yl ⟨by rw[hc];rfl,rfl⟩))
 refine Yj (eF ex λb s' hb=>?_);obtain⟨rfl,rfl⟩:=hb;rw[if_pos rfl];exact Yj (wpAny_rule (Yl ⟨_,rfl,Yl h⟩))
end
end L2
namespace L2
open PySem
end L2
namespace L2
open PySem PySem.Spec PyProof.Rows
structure bq (k:Nat) (A:Around):Prop where
 hd:A.handled=none
 UE:A.depth+3 * k+5<recursionLimit
 un:A.units+16 * k+200<cLine
theorem bq.mono {j k:Nat}{A:Around} (r:bq k A) (h:j<=k):bq j A:=⟨r.hd,by have:=r.UE;lia,by have:=r.un;lia⟩
theorem bq.deeper {k:Nat}{A:Around} (r:bq (k+1) A) (env:Env):bq k (A.deeper env):=
 ⟨r.hd,by have:=r.UE;show A.depth+1+3 * k+5<_;lia,by have:=r.un;show A.units+3+16 * k+200<_;lia⟩
theorem Fj {A:Around}{C:Addr}{us:List Value}{kw:List (Str×Value)}:(A.under (.builtin "type.__call__" ⟨.ref C::us,kw⟩)).depth=A.depth+1:=by
 first |rfl |simp [Around.under,Code.weight,Code.isCreation,Code.isGuard,Code.isCaller,Code.frames,Code.isFrame,TY]
theorem Fl {A:Around}{C:Addr}{us:List Value}{kw:List (Str×Value)}:(A.under (.builtin "type.__call__" ⟨.ref C::us,kw⟩)).units=A.units+1:=by
 first |rfl |simp [Around.under,Code.cUnits,Code.frames,Code.isFrame]
theorem bq.make {k:Nat}{A:Around} (r:bq (k+1) A) (C:Addr) (us:List Value) (kw:List (Str×Value)):bq k (A.under (.builtin "type.__call__" ⟨.ref C::us,kw⟩)):=
 ⟨r.hd,by have:=r.UE;rw[Fj];lia,by have:=r.un;rw[Fl];lia⟩
theorem bq.depth {k:Nat}{A:Around} (r:bq k A):A.depth<recursionLimit:=by have:=r.UE;lia
def bC (K:PySem.W.Frag) (fd:FuncData) (ps:List Str) (ds:List Value):Prop:=
 ∀(s:Shared) (us:List Value),K.In s.heap->(us++ds).length=ps.length->BindsTo s fd ⟨us,[]⟩ (ps.zip (us++ds))
theorem bC.all {K:PySem.W.Frag}{fd:FuncData}{ps:List Str} (h:∀us:List Value,us.length=ps.length->bindArgs fd ⟨us,[]⟩=pure (ps.zip us)):bC K fd ps []:=λs us _ hl=>by
 rw[YH]at hl ⊢;exact .of_eq (h us hl)
structure ay (N P:List Str) (sc:Scope):Prop where
 kind:sc.kind=.function
 Vq:sc.isCoroutine=false
 jn:sc.isGenerator=false
 nd:N.Nodup
 pre:N.take P.length=P
 xg:∀x∈P,sc.names.lookup x=some .local\/sc.names.lookup x=some .cell
 Fm:∀y∈sc.names,y.2≠.free
theorem xh {kindOf:Str->Option NameKind}{x:Str}:∀{il:List (Str×Value)}{m:Str->Option Value},(∀v,(x,v) ∉ il)->bindL kindOf il m x=m x
 |[],_,_=>rfl
 |(n,v)::r,m,h=>by
  unfold bindL;rw[xh λw hw=>h w (Yt _ hw)];split
  ·have:x≠n:=(by rintro rfl;exact h v Ys);simp [this]
  ·rfl
theorem xi {kindOf:Str->Option NameKind}{x:Str}:∀{il:List (Str×Value)}{m:Str->Option Value},(∀v,(x,v) ∉ il)->bindC kindOf il m x=m x
 |[],_,_=>rfl
 |(n,v)::r,m,h=>by
  unfold bindC;rw[xi λw hw=>h w (Yt _ hw)];split
  ·rfl
  ·have:x≠n:=(by rintro rfl;exact h v Ys);simp [this]
theorem xj {kindOf:Str->Option NameKind}{x:Str}{v:Value}:∀ {P:List Str}{vs:List Value}{i:Nat}{m:Str->Option Value},P.Nodup->P[i]?=some x->vs[i]?=some v->kindOf x=some .local ->
  bindL kindOf (P.zip vs) m x=some v
 |[],_,_,_,_,h,_,_=>by simp at h
 |_::_,[],_,_,_,_,h,_=>by simp at h
 |p::P,w::vs,0,m,nd,h1,h2,hk=>by
  simp at h1 h2;subst h1;subst h2;show bindL kindOf ((p,w)::P.zip vs) m p=_;unfold bindL;rw[xh λv hv=>(List.nodup_cons.mp nd).1 (ZP hv).1,if_pos hk];simp
 |p::P,w::vs,i+1,m,nd,h1,h2,hk=>by
  show bindL kindOf ((p,w)::P.zip vs) m x=_;unfold bindL;exact xj (i:=i) (List.nodup_cons.mp nd).2 (by simpa using h1) (by simpa using h2) hk
theorem xk {kindOf:Str->Option NameKind}{x:Str}{v:Value}:∀ {P:List Str}{vs:List Value}{i:Nat}{m:Str->Option Value},P.Nodup->P[i]?=some x->vs[i]?=some v->kindOf x≠some .local ->
  bindC kindOf (P.zip vs) m x=some v
 |[],_,_,_,_,h,_,_=>by simp at h
 |_::_,[],_,_,_,_,h,_=>by simp at h
 |p::P,w::vs,0,m,nd,h1,h2,hk=>by
  simp at h1 h2;subst h1;subst h2;show bindC kindOf ((p,w)::P.zip vs) m p=_;unfold bindC;rw[xi λv hv=>(List.nodup_cons.mp nd).1 (ZP hv).1,if_neg hk];simp
 |p::P,w::vs,i+1,m,nd,h1,h2,hk=>by
  show bindC kindOf ((p,w)::P.zip vs) m x=_;unfold bindC;exact xk (i:=i) (List.nodup_cons.mp nd).2 (by simpa using h1) (by simpa using h2) hk
theorem xl {sc:Scope}{n:Nat}{x:Str} (h:sc.names.lookup x=some .cell):∃c,(cellsFrom n sc.names []).lookup x=some c:=by
 have q:=PySem.W.cellsFrom_some sc.names n [] (.inl h);exact Option.isSome_iff_exists.mp q
end L2
namespace L2
open PySem PySem.Spec PyProof.Rows
end L2
namespace L2
open PySem PySem.Spec PyProof.Rows
structure ip (h:Heap) (x dx C:Addr) (mA:Str->Option Value):Prop where
 obj:h.get? x=some (PySem.W.instObj C dx)
 ns:h.Ns1 dx mA
 ne:dx≠x
theorem Fs {h:Heap}{dx:Addr}{mA:Str->Option Value} (n:h.Ns1 dx mA):∃od,h.get? dx=some od/\∀name,PySem.W.lookIn name od=some (mA name):=by
 obtain⟨o,es,ep,ho,hd,hk,_,hm⟩:=n;refine⟨o,ho,λname=>?_⟩;have e:=hm name;unfold nsFind findBy at e;rw[<- Array.find?_toList]at e;unfold PySem.W.lookIn;rw[hd];dsimp only;split
 ·rename_i y q;rw[q]at e;exact congrArg some e
 ·rename_i q;rw[q]at e;have a:es.toList.any (·.refKey)=false:=by
   rw[List.any_eq_false];intro y hy;obtain⟨z,t,nH⟩:=hk y (Array.mem_toList_iff.mp hy);simp [DictEntry.refKey,nH]
  have U2:¬es.toList.any (·.refKey)=true:=by rw[a];exact Y0
  rw[if_neg U2];exact congrArg some e
theorem ip.qH {h:Heap}{x dx C:Addr}{mA:Str->Option Value} (I:ip h x dx C mA):∃od,PySem.W.InstAt h x (PySem.W.instObj C dx) C (some od)/\∀name,PySem.W.lookIn name od=some (mA name):=
 let ⟨od,ho,hl⟩:=Fs I.ns
 ⟨od,⟨I.obj,rfl,rfl,ho⟩,hl⟩
section
variable {prog:Program}{w:World}{A:Around}{E:Value->Shared->Prop}{s:Shared}{K:PySem.W.Frag}{x dx C f:Addr}{mA:Str->Option Value}{name:Str}{v:Value}
theorem Ft {Fk:Bool}{Q:Value->Shared->Prop} (X:K.In s.heap) (I:ip s.heap x dx C mA) (hg:PySem.W.plainGet K C name=true) (hh:PySem.W.hasDictIn K C=true)
  (ha:PySem.W.findIn K (.ref C) name=some none) (hv:mA name=some v) (im:PySem.W.handedIn v=true) (h:Q v { s with toks:=s.toks+1 }) :
  wpAny (model prog w) A (getAttr (.ref x) name Fk) Q E s:=by
 obtain⟨od,J,hl⟩:=I.qH;exact PySem.W.get_value X J (PySem.W.plainGet_of hg).1 (PySem.W.findObj_own hh ha rfl (by rw[hl,hv])) im h
theorem Fu {pl:Sem Bool}{Q:Value×List Value->Shared->Prop} (X:K.In s.heap) (I:ip s.heap x dx C mA) (hg:PySem.W.plainGet K C name=true)
  (hf:PySem.W.findIn K (.ref C) name=some (some (.ref f))) (ht:PySem.W.isFn K (.ref f)=true) (hv:mA name=none) (h:Q (.ref f,[.ref x]) s) :
  wpAny (model prog w) A (getMethod (.ref x) name pl) Q E s:=by
 obtain⟨od,J,hl⟩:=I.qH;exact PySem.W.method_fn X J (PySem.W.plainGet_of hg).1 (PySem.W.plainGet_of hg).2 hf (beq_iff_eq.mp ht) (by show (PySem.W.lookIn name od).map (·.isSome)=some false;rw[hl,hv];rfl) h
theorem Fv {ns:List Str}{Q:Unit->Shared->Prop} (X:K.In s.heap) (I:ip s.heap x dx C mA)
  (hs:PySem.W.findIn K (.ref C) "__setattr__"=some (some (.builtin "object.__setattr__"))) (hp:PySem.W.plainOver K C=true) (ht:PySem.W.takerIn K C name=some none) (hh:PySem.W.hasDictIn K C=true)
  (hw:PySem.Within mA ns) (hsz:ns.length<=sizeLine)
  (h:∀h',ip h' x dx C (λy=>if y=name then some v else mA y)->ZM dx s.heap h'->Q () { s with heap:=h',toks:=s.toks+2 }) :
  wpAny (model prog w) A (setAttr (.ref x) name v) Q E s:=by
 obtain⟨od,J,hl⟩:=I.qH;refine PySem.W.set_plain X J hs (PySem.W.osa_open (s:={ s with toks:=s.toks+1 }) (r:=none) X J hp ht λb=>?_);obtain⟨cd,hc,em⟩:=PySem.W.any_some hh;have hx:s.heap.get? x=some ⟨.ref C,some dx,.plain,#[]⟩:=I.obj;refine Yj (Yl (Yj (Yj (wpAny_loadPart hx (Yj (PySem.W.Looks.here (s:={ s with toks:=s.toks+1 }) (PySem.W.looks_clsIn X hc) ?_))))));rw[em];refine Yl (a:=some dx) (Yj (Yl (Yj ?_)));refine wpAny_nsSet1 (s:={ s with toks:=s.toks+1 }) I.ns λh' nI hs2=>?_;obtain⟨oD,TZ,T0,Fw,Fx,Fy⟩:=nI.count (PySem.Within.cons name v hw);refine Yj (wpAny_lookBehind Fw (by rw[Fx];exact pastItsLine_dict (Yy Fy (by rw[Yv];lia))) ?_);exact Yl (h _ ⟨(hs2.2 _ (Zl I.ne)).trans I.obj,nI,I.ne⟩ hs2)
theorem FA {R:Result->Shared->Prop}{vs:List Value}{kw:List (Str×Value)} (X:K.In s.heap) (hm:PySem.W.makesIn K C=true)
  (hi:PySem.W.findIn K (.ref C) "__init__"=some (some (.ref f))) (hf:PySem.W.typeIn K (.ref f)=some (.type "function"))
  (h:codeAny (model prog w) (A.under (.builtin "type.__call__" ⟨.ref C::vs,kw⟩)) (.call (.ref f) ⟨.ref (s.heap.objs.size+1)::vs,kw⟩) (PySem.W.InitBack (s.heap.objs.size+1) R)
   { s with heap:=(s.heap.push PySem.W.emptyDict).push (PySem.W.instObj C s.heap.objs.size) }) :
  codeAny (model prog w) A (.call (.ref C) ⟨vs,kw⟩) R s:=by
 obtain⟨hh,g,d,t,os⟩:=s;exact PySem.W.make_core (PySem.W.makes_of X hm) (PySem.W.looks_findIn X hi) (λself=>PySem.W.bind_fn X self hf) (.inl rfl) h
end
structure cP (K:PySem.W.Frag) (C:Addr):Prop where
 WY:PySem.W.plainGet K C Str.empty=true
 hd:PySem.W.hasDictIn K C=true
 WZ:PySem.W.plainOver K C=true
 sa:PySem.W.findIn K (.ref C) "__setattr__"=some (some (.builtin "object.__setattr__"))
theorem cP.get {K:PySem.W.Frag}{C:Addr} (c:cP K C) (f:Str):PySem.W.plainGet K C f=true:=c.WY
def d5 (K:PySem.W.Frag) (C:Addr) (f:Str):Prop:=PySem.W.findIn K (.ref C) f=some none
theorem d5.FC {K:PySem.W.Frag}{C:Addr}{f:Str} (n:d5 K C f):PySem.W.takerIn K C f=some none:=by
 unfold PySem.W.takerIn;rw[show PySem.W.findIn K (.ref C) f=some none from n];rfl
structure jo (K:PySem.W.Frag) (C:Addr) (m:Str) (f:Addr):Prop where
 bK:PySem.W.findIn K (.ref C) m=some (some (.ref f))
 fn:PySem.W.isFn K (.ref f)=true
 kp:PySem.W.keepIn K (.ref f)=true
section
variable {X:Cx}{aO:List (Addr×Obj)} {σ:St} {H:Hp}{s:Shared}{a C dx:Addr}{fs:List (Str×V)}{f:Str}{v:V}{A:Around}{E:Value->Shared->Prop}
theorem FD {prog:Program}{w:World}{env:Env}{e:Expr}{f:Str}{pos:Pos}{s:Shared}{Q:Value->Shared->Prop} (hb:attributeBase e f env (eval e env)=eval e env)
  (h:wpAny (model prog w) A (eval e env) (λo s₁=>wpAny (model prog w) A (getAttr o f true) Q E s₁) E s):wpAny (model prog w) A (eval (.Attribute e f pos) env) Q E s:=
 Attribute_any_ h (by rw[arm_eval_Attribute,hb])
end
end L2
namespace L2
open PySem PySem.Spec PyProof.Rows
section
variable {X:Cx}{XI:T1}{k:Nat}{f C:Addr}{fd:FuncData}{ps:List Str}{sp:Sp}{a5:List V}{ds:List Value}{E:XK}{x m:Str}{p pos cm:Pos}{e o:Expr}{es:List Expr}{ta:TE}{t:TA}
structure Mk (K:PySem.W.Frag) (C f:Addr):Prop where
 FE:PySem.W.makesIn K C=true
 init:PySem.W.findIn K (.ref C) "__init__"=some (some (.ref f))
 fn:PySem.W.isFn K (.ref f)=true
 kp:PySem.W.keepIn K (.ref C)=true
end
end L2
namespace L2
open PySem PySem.Spec PyProof.Rows
end L2
namespace L2
open PySem PySem.Spec PyProof.Rows PySem.W
theorem FF (xs:Array Value):((ZA xs.size).filterMap λ(k:Nat)=>xs[(((xs.size:Int)-1)+(k:Int) * (-1)).toNat]?).toArray=xs.toList.reverse.toArray:=by
 congr 1
 have jn:∀(l:List Nat),(∀k∈l,k<xs.size)->l.filterMap (λ(k:Nat)=>xs[(((xs.size:Int)-1)+(k:Int) * (-1)).toNat]?)=l.map λk=>xs.toList.getD (xs.size-1-k) Y6:=by
  intro l
  induction l with
  |nil=>intro _;rfl
  |cons k l ih=>
   intro h;have wS:k<xs.size:=h k Ys;have e1:(((xs.size:Int)-1)+(k:Int) * (-1)).toNat=xs.size-1-k:=(by lia);have e2:xs[(((xs.size:Int)-1)+(k:Int) * (-1)).toNat]?=some (xs.toList.getD (xs.size-1-k) Y6):=by
    rw[e1,YN,<- ZE,Yo (by rw[YG];lia)];rfl
   rw[List.filterMap_cons,e2,Yu,ih λz hz=>h z (Yt _ hz)]
 rw[jn _ λk hk=>List.mem_range.mp hk];apply List.ext_getElem?;intro i;by_cases hi:i<xs.size
 ·rw[Yz,List.getElem?_range hi,List.getElem?_reverse (by rw[YG];exact hi),YG];show some (xs.toList.getD (xs.size-1-i) Y6)=_;rw[YN,Yo (by rw[YG];lia)];rfl
 ·rw[List.getElem?_eq_none (by simpa using hi),List.getElem?_eq_none (by simpa using hi)]
section
variable {prog:Program}{w:World}{A:Around}{E:Value->Shared->Prop}{s:Shared}
theorem FH {t sl:Addr}{items:Array Value}{tk:Tok}{Q:Value->Shared->Prop} (ht:IsTup s.heap t items) (hs:s.heap.IsSliceOf sl .none .none (.int (-1) tk))
  (h:Q (.ref s.heap.objs.size) { s with heap:=s.heap.push { cls:=.type "tuple",data:=.seq items.toList.reverse.toArray } })
  (hsz:items.size<=sizeLine):wpAny (model prog w) A (getItem (.ref t) (.ref sl)) Q E s:=by
 have fV:sizeOk (.seq items.toList.reverse.toArray):=by
  show items.toList.reverse.toArray.size<=sizeLine;rw[Yn,Z1,YG];exact hsz
 obtain⟨os,cO,gL,ev⟩:=id hs;have kY:s.TypeIs (.ref sl) "slice":=⟨os,cO,gL⟩;unfold getItem
 try with_reducible refine Y3 ?_
 first |refine Yj (Yl ?_) |skip
 refine Yj (wpAny_sequenceKey ht.typeIs (by decide) ?_);refine Yj (YM (name:=Zw "__getitem__") ht.typeIs Zi
  (YQ Zi ht.typeIs entry_tuple_getitem ?_ (args_tuple_getitem _ _)))
 show wpAny _ _ (Builtin.Tuple.tupleItemsOf (.ref t) >>= _) _ _ s;refine Yj (tupleItemsOf_ ht ?_);refine Yj (wpAny_typeOf kY ?_);rw[if_pos (by decide)];have W0:∀{Q:Int×Int×Nat->Shared->Prop}{E:Value->Shared->Prop}{A:Around},Q ((items.size:Int)-1,-1,items.size) s->wpAny (model prog w) A (Z4 (.ref sl) (pure (items.size:Int))) Q E s:=by
  intro Q E A q;unfold Z4 Builtin.Slice.sliceFields;refine Yj (Yj (YU cO ev (x:=.none) rfl (Yj (YU cO ev (x:=.none) rfl (Yj (YU cO ev (x:=.int (-1) tk) rfl (Yl ?_)))))));refine Yj (slicePart_int ?_);show wpAny _ _ (if ((-1:Int) == 0)=true then _ else _) _ _ s
  rw[if_neg (by decide)];refine Yj (slicePart_none (Yj (slicePart_none (Yj (Yl ?_)))));refine Yl ?_;have e:Zj ((items.size:Int)-1) (-1) (-1)=items.size:=by
   unfold Zj;rw[if_neg (by decide)];split
   ·have:((items.size:Int)-1 - -1-1) / (- -1)=(items.size:Int)-1:=(by rw[show (- -1:Int)=1 from rfl,Int.ediv_one];lia);lia
   ·lia
  show Q ((items.size:Int)-1,-1,Zj ((items.size:Int)-1) (-1) (-1)) s;rw[e];exact q
 refine Yj (W0 ?_);show wpAny _ _ (if (((items.size:Int)-1 == 0) && (-1:Int) == 1 && (items.size == items.size))=true then _ else _) _ _ s
 rw[if_neg (by simp),FF]
 first
  |exact Yj (m:=Zd _) (YV (Yl ⟨_,rfl,Yl h⟩) fV)
  |exact Yj (m:=Zd _) (YV (Yj (Yl (Yl ⟨_,rfl,Yl h⟩))) fV)
  |exact Yj (Yj (m:=Zd _) (YV (Yl (Yl ⟨_,rfl,Yl h⟩)) fV))
  |exact Yj (Yj (m:=Zd _) (YV (Yl ⟨_,rfl,Yl h⟩) fV))
end
end L2
namespace L2
open PySem PySem.Spec PyProof.Rows
theorem FI {α:Type} (l:List α):l.eraseIdx (l.length-1)=l.dropLast:=by
 induction l with
 |nil=>rfl
 |cons a r ih=>
  cases r with
  |nil=>rfl
  |cons b r=>
   have e:(a::b::r).length-1=((b::r).length-1)+1:=by
    have h1:(a::b::r).length=r.length+2:=rfl;have h2:(b::r).length=r.length+1:=rfl;lia
   rw[e,List.eraseIdx_cons_succ,ih]
   all_goals rfl
end L2
namespace L2
open PySem PySem.Spec PyProof.Rows
end L2
end
section
set_option maxHeartbeats 1000000
namespace N
open PySem PySem.Spec PyProof.Rows L2
def cn (d:D) (M:Mp) (k:List (Key×D)->Prop):Prop:=match d with
 |.ak ks ds=>k (ks.zip ds)
 |.ref a=>∃kvs,M a=some (.ak kvs)/\k kvs
 |_=>False
structure jq (G:Gx) (F:Fz) (h:Heap) (a:Addr) (kvs:List (Key×D)) (vs:List (Key×Value)):Prop where
 r:KV G F kvs vs
 d:h.DictOf (bw G.P G.w) a vs
 z:kvs.length<=sizeLine
 n:(a == sysModules)=false
theorem KV.zip {G:Gx}{F:Fz}:∀{ks:List Key}{ds:List D}{us:List Value},ag G F ds us->KV G F (ks.zip ds) (ks.zip us)
 |[],ds,us,_=>by rw[List.zip_nil_left,List.zip_nil_left];exact .nil
 |k::ks,[],us,r=>by rw[ag]at r;subst r;exact .nil
 |k::ks,d::ds,us,r=>by rw[ag]at r;obtain⟨u,us,rfl,r1,r2⟩:=r;exact .cons ⟨rfl,r1⟩ (KV.zip r2)
section
variable {X:Cx} {τ:St} {z:Z}{d:D}{u:Value}{a:Addr}
theorem aa.jr (I:aa X τ z) {kvs:List (Key×D)} (h:z.M a=some (.ak kvs)):∃vs,jq X.G z.F z.s.heap a kvs vs:=by
 obtain⟨_,h1,h2,vs,r,dd⟩:=I.hok.ob a _ h;exact⟨vs,r,dd,h1,h2⟩
theorem aa.cn {k:List (Key×D)->Prop} (I:aa X τ z) (r:ae X.G z.F d u) (h:cn d z.M k):∃a kvs vs,u=.ref a/\jq X.G z.F z.s.heap a kvs vs/\k kvs:=by
 unfold N.cn at h;split at h
 ·rw[ae]at r;obtain⟨a,o,us,e,h1,h2,h4,h3⟩:=r;obtain⟨es,ep,g1,g2,g3⟩:=h2.bK;refine⟨a,_,_,e,⟨KV.zip h3,⟨o,es,ep,I.hok.fz a _ h1,h2.ex,g1,g2,g3,?_⟩,?_,h4⟩,h⟩
  ·rw[List.map_fst_zip (aae h2.len.symm)];exact h2.nd
  ·rw[ZZ];exact Yy (Nat.min_le_left _ _) h2.sz
 ·rw[ae]at r;obtain⟨kvs,h1,h2⟩:=h;obtain⟨vs,l⟩:=I.jr h1;exact⟨_,kvs,vs,r,l,h2⟩
 ·exact h.elim
end
def dM (d:D) (k:Key->Prop):Prop:=match d with
 |.int i=>k (.inl i)
 |.str x=>k (.inr x)
 |_=>False
noncomputable def aG (kvs:List (Key×D)) (k:Key):Option D:=(kvs.find? λkv=>decide (kv.1=k)).map (·.2)
noncomputable def a9 (kvs:List (Key×D)) (k:Key) (v:D):List (Key×D):=
 if (kvs.any λkv=>decide (kv.1=k))=true then kvs.map (λkv=>if kv.1=k then (kv.1,v) else kv) else kvs++[(k,v)]
theorem qI (kvs:List (Key×D)) (k:Key) (v:D):(a9 kvs k v).length<=kvs.length+1:=by
 unfold a9;split
 ·rw[Ym];exact Nat.le_succ _
 ·rw[YB];exact Yr _
theorem js {G:Gx}{F:Fz}{P:Program}{w:World}{d:D}{k:Key->Prop}{u:Value} (h:dM d k) (r:ae G F d u):∃x,(bw P w).is x u=true/\k x:=by
 unfold dM at h;split at h
 ·rw[ae]at r;obtain⟨t,rfl⟩:=r;exact⟨_,wX P w _ t,h⟩
 ·rw[ae]at r;obtain⟨t,rfl⟩:=r;exact⟨_,wY P w _ t,h⟩
 ·exact h.elim
theorem KV.val {G:Gx}{F:Fz}{kvs:List (Key×D)}{vs:List (Key×Value)} (r:KV G F kvs vs) (k:Key):fL G F (aG kvs k) (valueAt vs k):=by
 unfold KV at r
 induction r with
 |nil=>exact aai
 |@cons p q ps qs h t ih=>
  by_cases e:p.1=k
  ·have e':q.1=k:=h.1.symm.trans e;rw[show valueAt (q::qs) k=some q.2 by simp [valueAt,Z0,e'],show aG (p::ps) k=some p.2 by simp [aG,Z0,e]];exact h.2
  ·have e':¬q.1=k:=λz=>e (h.1.trans z);rw[show valueAt (q::qs) k=valueAt qs k by simp [valueAt,Z0,e'],show aG (p::ps) k=aG ps k by simp [aG,Z0,e]];exact ih
theorem fL.so {G:Gx}{F:Fz}{o:Option D}{u:Option Value} (r:fL G F o u):o.isSome=u.isSome:=by
 cases o <;> cases u <;> first |rfl |exact r.elim
theorem KV.put {G:Gx}{F:Fz}{kvs:List (Key×D)}{vs:List (Key×Value)} (r:KV G F kvs vs) (k:Key) {y:D}{u:Value} (We:ae G F y u):KV G F (a9 kvs k y) (stored vs k u):=by
 have any:(kvs.any λkv=>decide (kv.1=k))=vs.any λkv=>decide (kv.1=k):=by
  unfold KV at r
  induction r with
  |nil=>rfl
  |cons h t ih=>rw[aaj,aaj,h.1,ih]
 unfold a9 stored;rw[any];by_cases e:(vs.any λkv=>decide (kv.1=k))=true
 ·rw[if_pos e,if_pos e];clear e any;unfold KV at r ⊢
  induction r with
  |nil=>exact .nil
  |@cons p q ps qs h t ih=>
   refine .cons ?_ ih;dsimp only;by_cases e:p.1=k
   ·rw[if_pos e,if_pos (h.1.symm.trans e)];exact⟨h.1,We⟩
   ·rw[if_neg e,if_neg λz=>e (h.1.trans z)];exact h
 ·rw[if_neg e,if_neg e];exact Paired.snoc r ⟨rfl,We⟩
def sI (C:Int->Int->Prop) (f:Int->Int->Int):Q2:=λx y M Q=>bS x λi=>bS y λj=>C i j/\Q (.int (f i j)) M
def qJ (f:Int->Int->Int):Q2:=λx y M Q=>bS x λi=>bS y λj=>Q (.int (f i j)) M
def CM (i j:Int):Prop:=qE i j\/E6 i j
noncomputable def nJ (a:Addr):Option MO->D
 |some (.lst ds)=>.lst ds
 |_=>.ref a
noncomputable def bP (d:D) (M:Mp):D:=match d with
 |.ref a=>nJ a (M a)
 |d=>d
def qK:Q2:=λx y M Q=>match x,y with
 |.int i,.int j=>Q (.int (i+j)) M
 |.str a,.str b=>a.length+b.length<=sizeLine/\Q (.str (a++b)) M
 |.tup a,.tup b=>a.length+b.length<=sizeLine/\Q (.tup (a++b)) M
 |x,y=>bf x M λa=>bf y M λb=>a.length+b.length<=sizeLine/\bL (a++b) M Q
def qL:Q2:=λx y M Q=>match x with
 |.int i=>bS y λj=>CM i j/\Q (.int (i * j)) M
 |x=>bf x M λds=>bS y λk=>-(2 ^ 63)<=k/\k<2 ^ 63/\ds.length * k.toNat<=sizeLine/\bL (Y' k.toNat ds).flatten M Q
def qM:Operator->Q2
 |.Add=>qK
 |.Sub=>qJ λi j=>i-j
 |.Mult=>qL
 |.FloorDiv=>sI (λ_ j=>0<j/\j<2 ^ 200) λi j=>i / j
 |.Mod=>sI (λ_ j=>0<j) λi j=>i % j
 |.Pow=>sI wZ λi j=>i ^ j.toNat
 |.LShift=>sI wZ λi j=>i * 2 ^ j.toNat
 |.RShift=>sI (λ_ j=>0<=j) λi j=>i / 2 ^ j.toNat
 |.BitAnd=>qJ λi j=>Builtin.bitAnd i j
 |_=>λ_ _ _ _=>False
section
variable {X:Cx}
theorem kZ {f:Value->Value->Sem Value}{C:Int->Int->Prop}{g:Int->Int->Int} (rule:∀(i j:Int) (t u:Tok) (s:Shared) (Q E:Value->Shared->Prop),C i j->Q (.int (g i j) s.toks) { s with toks:=s.toks+1 }->wpAny (model X.G.P X.G.w) X.A (f (.int i t) (.int j u)) Q E s):O2 X f (sI C g):=fun τ z Q R d e v u I r1 r2 q k=>by
 obtain⟨i,t,rfl,q⟩:=cN q r1;obtain⟨j,t',rfl,hc,q⟩:=cN q r2;exact rule i j t t' z.s _ _ hc (I.fin k Le.rfl bX q _)
theorem xm {f:Value->Value->Sem Value}{g:Int->Int->Int} (rule:∀(i j:Int) (t u:Tok) (s:Shared) (Q E:Value->Shared->Prop),Q (.int (g i j) s.toks) { s with toks:=s.toks+1 }->wpAny (model X.G.P X.G.w) X.A (f (.int i t) (.int j u)) Q E s):O2 X f (qJ g):=fun τ z Q R d e v u I r1 r2 q k=>by
 obtain⟨i,t,rfl,q⟩:=cN q r1;obtain⟨j,t',rfl,q⟩:=cN q r2;exact rule i j t t' z.s _ _ (I.fin k Le.rfl bX q _)
theorem ag.app {G:Gx}{F:Fz}:∀{ds es:List D}{us vs:List Value},ag G F ds us->ag G F es vs->ag G F (ds++es) (us++vs)
 |[],es,us,vs,r,r'=>by rw[ag]at r;subst r;exact r'
 |d::ds,es,us,vs,r,r'=>by rw[ag]at r;obtain⟨u,us,rfl,r1,r2⟩:=r;exact .cons r1 (ag.app r2 r')
theorem ag.nl {G:Gx}{F:Fz}{ds:List D}{us:List Value} (r:ag G F ds us):us=[] ↔ ds=[]:=by
 rw[<- List.length_eq_zero_iff,<- List.length_eq_zero_iff,r.len]
theorem FJ:O2 X (binaryOp .Add) qK:=fun τ z Q R d e v u I r1 r2 q k=>by
 have lst:∀{d e:D},ae X.G z.F d v->ae X.G z.F e u->(bf d z.M λa=>bf e z.M λb=>a.length+b.length<=sizeLine/\bL (a++b) z.M Q)->W X (binaryOp .Add v u) R z.s:=λr1 r2 q=>by
  obtain⟨a,ds,us,n,rfl,l,q⟩:=I.bf r1 q;obtain⟨b,es,vs,n',rfl,l',hz,q⟩:=I.bf r2 q;have hz':us.length+vs.length<=sizeLine:=by rw[<- l.r.len,<- l'.r.len];exact hz
  refine PySem.P.add_list l.e l'.e ?_ (by rw[Yn,Yn];exact hz');rw[show us.toArray++vs.toArray=(us++vs).toArray by simp];exact I.lst (t:=z.s.toks) (n:=0) k Le.rfl (l.r.app l'.r) (λb o e=>Yk _ e) (Yr _) (Yp _ rfl) (by rw[YB];exact hz') q
 unfold qK at q;split at q
 ·rw[ae]at r1 r2;obtain⟨t,rfl⟩:=r1;obtain⟨t',rfl⟩:=r2;exact add_int (I.fin k Le.rfl bX q _)
 ·rw[ae]at r1 r2;obtain⟨t,rfl⟩:=r1;obtain⟨t',rfl⟩:=r2;exact add_str (λt' tk=>I.fin k Le.rfl gC q.2 _) q.1
 ·obtain⟨a,us,o,rfl,l⟩:=I.cM r1;obtain⟨b,vs,o',rfl,l'⟩:=I.cM r2;rename_i ds es;have hz:us.length+vs.length<=sizeLine:=by rw[<- l.r.len,<- l'.r.len];exact q.1
  by_cases hx:us=[]
  ·cases l.r.nl.mp hx;subst hx;obtain⟨⟨cls,dd,data,sl⟩,ho,hc,n,hd⟩:=id l.p;obtain⟨⟨wE,ik,wP,kX⟩,ho2,fg,n2,gK⟩:=id l'.p;simp only at hc hd fg gK;subst hc hd fg gK;exact concat_meets ⟨_,ho,rfl⟩ ⟨_,ho2,rfl⟩ noFill_tuple_add seq_tuple_add PySem.F.slot_tuple_add PySem.F.entry_tuple_add (PySem.F.args_tuple_add_2 _ _)
    (tuple_addW0 a b _ vs.toArray n n2 dd ik sl kX (by simp)) ⟨ho,ho2,k (.tup es) z _ Le.rfl I r2 q.2⟩
  ·refine HT.E5 l.p l'.p hx (λe=>?_) (λe=>?_) hz
   ·rw[l'.r.nl.mp e,YH]at q;exact k (.tup ds) z _ Le.rfl I r1 q.2
   ·exact I.tup (t:=z.s.toks) k Le.rfl (l.r.app l'.r) (λb o e=>Yk _ e) (Yr _) (Yp _ rfl) ⟨rfl,rfl,⟨_,rfl⟩,by rw[YB];exact hz⟩ q.2
 ·exact lst r1 r2 q
end
end N
end
section
namespace L2
open PySem PySem.Spec PyProof.Rows PySem.W
section
variable {X:Cx}
section
open PySem.AutoSeq1 (wpAny_loadPart')
open PySem.MeetsSeq PySem.MeetsSeq2 PySem.MeetsSeq3 PySem.SeqAt
theorem FK (l b:Addr) (xs ys:Array Value) (n m:Nat) (dd:Option Addr) (sl:Array (Option Value)) (VN:¬(!xs.isEmpty && Zx (xs.size+ys.size))=true) (c1:xs.size<=sizeLine) (c2:xs.size+ys.size<=sizeLine+1) :
  Meets (Builtin.«list.extend» ⟨[.ref l,.ref b],[]⟩) (λ_ R s=>s.heap.get? l=some (seqObj "list" xs n)/\s.heap.get? b=some { cls:=.type "tuple",dict:=dd,data:=.seq ys m,slots:=sl }/\R (.ok (.ret .none)) { s with heap:=s.heap.update l (YW (·++ys)),toks:=s.toks }):=
 .of_wp λprog w A R s ⟨h1,h2,h3⟩=>by
  obtain⟨hp,g,d,tk,os⟩:=s;have f1:=AutoSeq1.idx_int;have f2:=AutoSeq1.sub_tuple_tuple;have f3:=AutoSeq1.sub_list_list;have f4:=AutoSeq1.sub_tuple_list;have f5:=AutoSeq1.sub_list_tuple;have c3:(xs++ys).size<=sizeLine+1:=by rw[Array.size_append];exact c2
  wp_walk using (wpAny_updateSeq h1 rfl (hz:=c1) (_hz':=c3)),YC h1,YC h2
  exact⟨_,rfl,h3⟩
end
end
end L2
namespace L2
open PySem PySem.Spec PyProof.Rows
theorem qN {env:Env}:∀ (names:List (Str×NameKind)) (al:List (Str×Addr)),(∀ y∈names,y.2=.free->∃ c,env.cells.lookup y.1=some c) ->
  (∀x c,al.lookup x=some c->env.cells.lookup x=some c) ->
  ∃cl,(forIn names al (λy cs=>if (y.2 == ZT)=true then (cellOf env y.1 >>= λc=>pure (ZW ((y.1,c)::cs))) else pure (ZW cs)):Sem (List (Str×Addr)))=pure cl /\
   (∀x c,cl.lookup x=some c->env.cells.lookup x=some c)/\(∀y∈names,y.2=.free->∃c,cl.lookup y.1=some c)/\∀x c,al.lookup x=some c->∃c',cl.lookup x=some c'
 |[],al,_,ha=>⟨al,rfl,ha,λy hy=>(nomatch hy),λx c h=>⟨c,h⟩⟩
 |(n,k)::r,al,h,ha=>by
  by_cases hk:k=.free
  ·subst hk;obtain⟨c,hc⟩:=h (n,.free) Ys rfl;have FL:∀ x c',((n,c)::al).lookup x=some c'->env.cells.lookup x=some c':=λx c' q=>by
    rw[Zc]at q;cases e:x == n with
    |true=>
     rw[e]at q;cases q;rw[eq_of_beq e];exact hc
    |false=>
     rw[e]at q;exact ha x c' q
   obtain⟨cl,e1,e2,e3,e4⟩:=qN r ((n,c)::al) (λy hy=>h y (Yt _ hy)) FL;refine⟨cl,?_,e2,λy hy hf=>?_,λx c' q=>?_⟩
   ·rw[List.forIn_cons];have UP:cellOf env n=pure c:=(by unfold cellOf;rw[hc]);simp only[beq_self_eq_true,if_true,UP,pure_bind];exact e1
   ·rcases List.mem_cons.mp hy with rfl |hy
    ·exact e4 n c (by simp)
    ·exact e3 y hy hf
   ·cases e:x == n with
    |true=>exact e4 x c (by rw[Zc,e])
    |false=>exact e4 x c' (by rw[Zc,e];exact q)
  ·obtain⟨cl,e1,e2,e3,e4⟩:=qN r al (λy hy=>h y (Yt _ hy)) ha;refine⟨cl,?_,e2,λy hy hf=>?_,e4⟩
   ·rw[List.forIn_cons];have hb:(k == ZT)=false:=(by simpa using hk);simp only[hb,Z6,if_false,pure_bind];exact e1
   ·rcases List.mem_cons.mp hy with rfl |hy
    ·exact absurd hf hk
    ·exact e3 y hy hf
theorem xn {scope:Scope}{env:Env} (h:∀ y∈scope.names,y.2=.free->∃ c,env.cells.lookup y.1=some c) :
  ∃cl,closureFor scope env=pure cl/\(∀x c,cl.lookup x=some c->env.cells.lookup x=some c)/\∀y∈scope.names,y.2=.free->∃c,cl.lookup y.1=some c:=by
 obtain⟨cl,e1,e2,e3,_⟩:=qN (env:=env) scope.names [] h (λx c q=>by simp at q);refine⟨cl,?_,e2,e3⟩;unfold closureFor
 first
  |exact e1
  |(simp only[bind_pure_comp,map_pure,bind_pure]at e1 ⊢;exact e1)
  |(rw[show (forIn scope.names [] _:Sem (List (Str×Addr)))=pure cl from e1];rfl)
theorem xo {env:Env}:∀ {names:List (Str×NameKind)}{x:Str},names.lookup x=some .free ->
  let l:=(names.map λ(n,k)=>if (k == ZT && env.scope.kind == .function && env.kindOf n == some .cell) then (n,NameKind.cell) else (n,k)).lookup x
  l=some .cell\/l=some .free
 |[],_,h=>by simp at h
 |(n,k)::r,x,h=>by
  have ih:=@xo env r x;simp only at ih ⊢;rw[Yu];cases hx:x == n with
  |true=>
   rw[Zc,hx]at h;cases h;by_cases hc:(ZT == ZT && env.scope.kind == .function && env.kindOf n == some .cell)=true
   ·left;simp only[hc,if_true,Zc,hx]
   ·right;simp only[if_neg hc,Zc,hx]
  |false=>
   rw[Zc,hx]at h;by_cases hc:(k == ZT && env.scope.kind == .function && env.kindOf n == some .cell)=true
   ·simp only[if_pos hc,Zc,hx];exact ih h
   ·simp only[if_neg hc,Zc,hx];exact ih h
theorem qO {env:Env}:∀ {names:List (Str×NameKind)}{x:Str}{k':NameKind},(∀ y∈names,y.2≠.cell)->(k'=.cell\/k'=.free) ->
  (names.map λ(n,k)=>if (k == ZT && env.scope.kind == .function && env.kindOf n == some .cell) then (n,NameKind.cell) else (n,k)).lookup x=some k'->(x,ZT)∈names
 |[],_,_,_,_,h=>by simp at h
 |(n,k)::r,x,k',hn,hk,h=>by
  rw[Yu]at h;cases hx:x == n with
  |true=>
   have e:x=n:=eq_of_beq hx;subst e;by_cases hc:(k == ZT && env.scope.kind == .function && env.kindOf x == some .cell)=true
   ·have hf:k=.free:=by
     simp only[Yq,beq_iff_eq]at hc;exact hc.1.1
    subst hf;exact Ys
   ·simp only[if_neg hc,Zc,hx]at h;have e2:k=k':=YY h;subst e2;rcases hk with rfl |rfl
    ·exact absurd rfl (hn _ Ys)
    ·exact Ys
  |false=>
   have ih:=@qO env r x k' (λy hy=>hn y (Yt _ hy)) hk;by_cases hc:(k == ZT && env.scope.kind == .function && env.kindOf n == some .cell)=true
   ·simp only[if_pos hc,Zc,hx]at h;exact Yt _ (ih h)
   ·simp only[if_neg hc,Zc,hx]at h;exact Yt _ (ih h)
theorem FN {prog:Program}{w:World}{A:Around}{s:Shared}{a1 tg iter:Expr}{a2:List Expr}{scope:Scope}{pos:Pos}{it al:Value}{env:Env}{P:Shared->Prop}{R:Result->Shared->Prop}
  (U4:∀s',P s'->R (.ok .next) s') (J:Nat->Shared->Prop)
  (turn:∀n s,J n s->wpAny (model prog w) A (pyNext it) (λr s1=>match r with
   |none=>P s1
   | some v=>wpAny (model prog w) A (letOwnedTupleGo tg it v) (λ_ s2=>wpAny (model prog w) A (assign tg env v) (λ_ s3=>
     wpAny (model prog w) A (forIn a2 true λc r=>if r=true then do let ok <- isTrue c env (eval c env);pure (ZW ok) else pure (ZW r)) (λok s4=>
      if ok=true then wpAny (model prog w) A (eval a1 env) (λx s5=>
       wpAny (model prog w) A (call (.builtin "list.append") [al,x]) (λ_ s6=>∃m,m<n/\J m s6) (λ_ _=>False) s5) (λ_ _=>False) s4
      else ∃m,m<n/\J m s4) (λ_ _=>False) s3) (λ_ _=>False) s2) (λ_ _=>False) s1) (λ_ _=>False) s)
  (n:Nat) (h:J n s):codeAny (model prog w) A (.compLoop (.ListComp a1 [⟨tg,iter,a2,0⟩] scope pos) 0 it al env) R s:=by
 refine codeAny_loop rfl J (λn s hJ=>?_) n h;show wpAny _ A ((compTurn (.ListComp a1 [⟨tg,iter,a2,0⟩] scope pos) 0 it al env).onRaise (λx=>do noteFrame x env;theTreesLotGoes x)) _ _ s
 refine wpAny_noted (Zm (E:=λ_ _=>False) ?_ (λ_ _ q=>q) λ_ _ q=>q.elim);rw[compTurn_list];refine Yj (wpAny_standAt (Yj (eF (turn n s hJ) λr s1 h1=>?_)));cases r with
 |none=>exact Yl (U4 _ h1)
 |some v=>
  refine Yj (eF h1 λ_ s2 h2=>Yj (eF h2 λ_ s3 h3=>Yj (eF h3 λok s4 h4=>?_)));cases ok with
  |false=>exact Yl ⟨rfl,h4⟩
  |true=>exact Yj (Yj (eF h4 λx s5 h5=>Yj (eF h5 λ_ s6 h6=>Yl (Yl ⟨rfl,h6⟩))))
end L2
namespace L2
open PySem PySem.Spec PyProof.Rows PySem.W
def xp (t T:String) (b:Bool):Prop:=∀K:PySem.W.Frag,PySem.W.kitOne K (.type t) (.type T)=some b
theorem qP (t:String):xp t t true:=λK=>by unfold PySem.W.kitOne;rw[if_pos (by simp)]
theorem FP:xp "int" "str" false:=λK=>by kernel_rfl
end L2
namespace L2
open PySem PySem.Spec PyProof.Rows
noncomputable def bA:Expr->Bool
 |.Starred _ _=>false
 |_=>true
noncomputable def aQ:List Expr->Bool
 |[]=>true
 |e::es=>bA e && aQ es
theorem bz {env:Env}{e:Expr}{es:List Expr} (h:bA e=true):starEach (e::es) env=(false,eval e env)::starEach es env:=by
 cases e <;> first |rfl |exact absurd h Y0
theorem dr {env:Env}{pos:Pos}:∀{es:List Expr},aQ es=true->(backTo pos (starEach es env)).any (·.1)=false
 |[],_=>rfl
 |e::es,h=>by
  have h':(bA e && aQ es)=true:=h;rw[Yq]at h';rw[bz h'.1];show (false ||(backTo pos (starEach es env)).any (·.1))=false;rw[dr h'.2];rfl
end L2
namespace L2
open PySem PySem.Spec PyProof.Rows
section
variable {X:Cx}{pos:Pos}{a b c e o:Expr}{es:List Expr}{ta tb tc te to:TE}{t u:XJ}{Wf XM:TT}{tA:TA}{st:Stmt}{rest:List Stmt}
theorem xq {env:Env}{cpos:Pos}{es:List Expr} (h:aQ es=true) (hl:es.length<29) :
  ((backTo cpos (starEach es env)).all (λx=>!x.1) && (backToKw cpos (keywordEach [] env)).all (λx=>x.1.isSome)
   && decide (es.length+([]:List Keyword).length+(if ([]:List Keyword).isEmpty then 0 else 1)<30))=true:=by
 have h1:(backTo cpos (starEach es env)).all (λx=>!x.1)=true:=by
  have:=dr (env:=env) (pos:=cpos) h;rw[List.all_eq_not_any_not];simpa using this
 have h2:(backToKw cpos (keywordEach [] env)).all (λx=>x.1.isSome)=true:=rfl;rw[h1,h2];simp;lia
variable {tg iter:Expr}{wi:TI}{g:TG}
variable {a2:List Expr}{scope:Scope}{Nt:List Str}{fr:List (Str×Nat)}{XN:ZC->TG}{XO:ZC->TT}{UT:ZC->TE}
end
end L2
namespace PL
open PySem L2
noncomputable def fW:Expr->Bool
 |.Call (.Name x _) [] [] _=>x == "super"
 |_=>false
theorem k4 {o:Expr}{f:Str}{env:Env}{s:Sem Value} (h:fW o=false):attributeBase o f env s=s:=by
 unfold attributeBase;split
 ·rename_i id _ _;have h:(id == ("super" : Str))=false:=h;have h':(id != ("super" : Str))=true:=by rw[bne,h];rfl
  rw[h',Bool.true_or,Bool.true_or,Bool.true_or];rfl
 ·rfl
end PL
namespace L2
open PySem
noncomputable def nK (sc:Scope) (N:List Str) (scope:Scope) (fr:List (Str×Nat)):Bool:=
 (scope.kind == .function) && scope.names.all (λy=>decide (y.2≠.cell)) && scope.names.all (λy=>decide (y.2=.local->scope.names.lookup y.1=some .local)) &&
  scope.names.all (λy=>decide (y.2=.free->sc.names.lookup y.1=some .cell)) && fr.all (λp=>decide (N[p.2]?=some p.1) && decide (scope.names.lookup p.1=some .free))
end L2
namespace L2
open PySem PySem.Spec PyProof.Rows
noncomputable def dN (s:Stmt):Arguments:=match s with
 |.FunctionDef _ a _ _ _ _ _ _ _ _=>a
 |_=>{ posonlyargs:=[],args:=[],vararg:=none,kwonlyargs:=[],kw_defaults:=[],kwarg:=none,defaults:=[] }
noncomputable def ar (s:Stmt):List Stmt:=match s with
 |.FunctionDef _ _ b _ _ _ _ _ _ _=>b
 |_=>[]
noncomputable def af (s:Stmt):Scope:=match s with
 |.FunctionDef _ _ _ _ _ _ sc _ _ _=>sc
 |_=>{ kind:=.function,names:=[],isGenerator:=false,isCoroutine:=false }
structure c5 (K:PySem.W.Frag) (x qual:Str) (st:Stmt) (f:Addr) (fd:FuncData):Prop where
 ex:∃(oc:Value) (od:Option Addr) (kV doc pm:Value) (an:Option Addr) (ap ct:Value) (bY:Array (Option Value)),
  fd=PySem.W.fnOf x qual (dN st) (ar st) (af st) .none kV doc pm an ap ct/\K.lookup f=some ⟨oc,od,.func fd,bY⟩/\PySem.W.codeIn K ap qual=true
 kp:PySem.W.keepIn K (.ref f)=true
section
variable {P:Program}{w:World}{K:PySem.W.Frag}{mg:Str->Option Value}{base:Heap}
theorem c5.il {x qual:Str}{st:Stmt}{f:Addr}{fd:FuncData}{ps:List Str} (F:c5 K x qual st f fd)
  (h:∀(kV doc pm:Value) (an:Option Addr) (ap ct:Value) (us:List Value),us.length=ps.length->bindArgs (PySem.W.fnOf x qual (dN st) (ar st) (af st) .none kV doc pm an ap ct) ⟨us,[]⟩=pure (ps.zip us)):bC K fd ps []:=by
 obtain⟨oc,od,kV,doc,pm,an,ap,ct,bY,rfl,lk,cL⟩:=F.ex;exact .all (h kV doc pm an ap ct)
theorem qQ {x qual:Str}{st:Stmt}{f:Addr}{oc:Value}{od an:Option Addr}{bY:Array (Option Value)}{kV doc pm ap ct:Value} (l:K.lookup f=some ⟨oc,od,.func (PySem.W.fnOf x qual (dN st) (ar st) (af st) .none kV doc pm an ap ct),bY⟩)
  (c:PySem.W.codeIn K ap qual=true) (k:PySem.W.keepIn K (.ref f)=true):c5 K x qual st f (PySem.W.fnOf x qual (dN st) (ar st) (af st) .none kV doc pm an ap ct):=⟨⟨oc,od,kV,doc,pm,an,ap,ct,bY,rfl,l,c⟩,k⟩
end
end L2
namespace L2
open PySem PySem.Spec PyProof.Rows
def nL (P:Program) (w:World) (A:Around) (s:Shared) (x y:Value):Prop:=∀(E:Value->Shared->Prop) (Q:Bool->Shared->Prop),Q true s->wpAny (model P w) A (eqBool x y) Q E s
section
open PySem.AutoSeq1 (wpAny_loadPart')
open PySem.MeetsSeq PySem.MeetsSeq2 PySem.MeetsSeq3 PySem.SeqAt
variable {P:Program}{w:World}{a b:Addr}{xs ys:Array Value}{ea eb:Nat}{da db:Option Addr}{sa sb:Array (Option Value)}
def xr (P:Program) (w:World) (a b:Addr) (xs ys:Array Value) (ea eb:Nat) (da db:Option Addr) (sa sb:Array (Option Value)):PySem.Spec:=λA R s=>
 s.heap.get? a=some { cls:=.type "list",dict:=da,data:=.seq xs ea,slots:=sa }/\s.heap.get? b=some { cls:=.type "list",dict:=db,data:=.seq ys eb,slots:=sb }/\(∀j (h1:j<xs.size) (h2:j<ys.size),nL P w A.in1 s xs[j] ys[j])/\R (.ok (.ret (.bool false))) s
theorem FQ (hz:xs.size=ys.size):∀(k i:Nat),xs.size-i=k->MeetsIn P w (Builtin.«list.__eq__.loop» ⟨[.ref a,.ref b,rawInt i,rawInt 3],[]⟩) (xr P w a b xs ys ea eb da db sa sb):=by
 intro k
 induction k with
 |zero=>
  intro i hk A R s ⟨h1,h2,h3,h4⟩;obtain⟨hp,g,d,tk,os⟩:=s
  wp_walk using YC h1,YC h2
  have x1:xs[((i:Nat):Int).toNat]?=none:=by simp;lia
  have x2:ys[((i:Nat):Int).toNat]?=none:=by simp;lia
  rw[x1,x2]
  wp_walk using YC h1,YC h2
  show R (.ok (.ret (.bool (xs.size != ys.size)))) _;rw[hz];simpa using h4
 |succ k ih=>
  intro i hk A R s ⟨h1,h2,h3,h4⟩;obtain⟨hp,g,d,tk,os⟩:=s
  wp_walk using YC h1,YC h2
  have l1:i<xs.size:=by lia
  have l2:i<ys.size:=by lia
  have x1:xs[((i:Nat):Int).toNat]?=some xs[i]:=by simp [l1]
  have x2:ys[((i:Nat):Int).toNat]?=some ys[i]:=by simp [l2]
  have x3:((i:Int)+1)=((i+1:Nat):Int):=by lia
  rw[x1,x2];refine Yj (h3 i l1 l2 _ _ ?_)
  wp_walk
  rw[x3];exact⟨Zn aar _,Zg entry_eq_loop (by
   rw[Y2 aar _];exact ih (i+1) (by lia) A R _ ⟨h1,h2,h3,h4⟩)⟩
theorem FR (hz:xs.size=ys.size):MeetsIn P w (Builtin.«list.__ne__» ⟨[.ref a,.ref b],[]⟩) (xr P w a b xs ys ea eb da db sa sb):=by
 intro A R s ⟨h1,h2,h3,h4⟩;obtain⟨hp,g,d,tk,os⟩:=s;have f3:=AutoSeq1.sub_list_list;have cH:¬(xs.size != ys.size)=true:=by simp [hz]
 wp_walk using YC h1,YC h2
 exact⟨Zn aar _,Zg entry_eq_loop (by
  rw[Y2 aar _];exact FQ hz _ 0 rfl A R _ ⟨h1,h2,h3,h4⟩)⟩
end
end L2
end
section
set_option maxHeartbeats 1000000
namespace N
open PySem PySem.Spec PyProof.Rows L2 PySem.W
def nM:D->Prop
 |.ak _ ds=>aM ds=true/\a4 ds<=50
 |_=>False
def qR:D->Prop
 |.lst ds=>∀d∈ds,nM d
 |d=>nM d
section
variable {G:Gx}{F:Fz}{M:Mp}{s:Shared}{A:Around}
theorem xu (ok:az G F M s.heap) (hu:A.units+60<cLine) {kvs:List (Key×D)}{vb:List (Key×Value)} (rb:KV G F kvs vb):∀{VO:List (Key×D)}{va:List (Key×Value)},KV G F VO va->(∀p∈VO,aG kvs p.1=some p.2/\aD p.2=true/\bc p.2<=50)->KeqHits A s vb va true
 |_,_,.nil,_=>.nil
 |p::VO,q::va,.cons wT t,h=>by
  obtain⟨h1,h2,h3⟩:=h p Ys;have hv:=KV.val rb p.1;rw[h1]at hv;cases e:valueAt vb p.1 with
  |none=>rw[e]at hv;exact hv.elim
  |some y=>
   rw[e]at hv;have he:=kW (G:=G) (F:=F) (M:=M) (A:=A) 50 ok (eE ok wT.2 h2) (eE ok hv h2) h3 (by lia);rw[fU _ h2]at he;exact KeqHits.hit (k:=q.1) (by rw[<- wT.1];exact e) he (xu ok hu rb t λp' nN=>h p' (Yt _ nN))
theorem xv:∀{kvs:List (Key×D)},(kvs.map (·.1)).Nodup->∀p∈kvs,aG kvs p.1=some p.2
 |q::r,nd,p,h=>by
  rw[Yu,Z9]at nd;unfold aG;rw[Z0];rcases List.mem_cons.mp h with e |h
  ·subst e;simp
  ·have:¬q.1=p.1:=λe=>nd.1 (e ▸ List.mem_map.mpr ⟨p,h,rfl⟩);simp only[this,decide_false];exact xv nd.2 p h
theorem xw:∀{ds:List D},aM ds=true->∀d∈ds,aD d=true/\bc d<=a4 ds
 |x::r,h,d,hd=>by
  rw[aM,Yq]at h;rw[a4];rcases List.mem_cons.mp hd with e |hd
  ·subst e;exact⟨h.1,Nat.le_max_left _ _⟩
  ·obtain⟨h1,h2⟩:=xw h.2 d hd;exact⟨h1,Yy h2 (Nat.le_max_right _ _)⟩
theorem xx (ok:az G F M s.heap) (hu:A.units+62<cLine) {d:D}{u v:Value} (h:nM d) (r1:ae G F d u) (r2:ae G F d v):nL G.P G.w A s u v:=by
 cases d with
 |ak ks ds=>
  obtain⟨k1,k2⟩:=h;rw[ae]at r1 r2;have bK:∀{u:Value},(∃a o us,u=.ref a/\F a=some (.dat o)/\kr G o ks us/\(a == sysModules)=false/\ag G F ds us)->∃a vs,u=.ref a/\(a == sysModules)=false/\KV G F (ks.zip ds) vs/\s.heap.DictOf (bw G.P G.w) a vs/\((ks.zip ds).map (·.1)).Nodup:=by
   rintro u ⟨a,o,us,e,h1,h2,h4,h3⟩;obtain⟨es,ep,g1,g2,g3⟩:=h2.bK;refine⟨a,_,e,h4,KV.zip h3,⟨o,es,ep,ok.fz a _ h1,h2.ex,g1,g2,g3,?_⟩,?_⟩
   ·rw[List.map_fst_zip (aae h2.len.symm)];exact h2.nd
   ·rw[List.map_fst_zip (aae (by rw[h3.len,h2.len]))];exact h2.nd
  obtain⟨a,va,rfl,n1,Wg,da,nd⟩:=bK r1;obtain⟨b,vb,rfl,n2,rb,db,_⟩:=bK r2;intro E Q q;unfold eqBool;refine Y3 ?_;refine ZI (λ_=>?_) (λ_=>?_)
  ·exact Yl (M:=model G.P G.w) (E:=E) q
  have FM:va.length=vb.length:=by rw[<- Wg.length,<- rb.length]
  refine Yj (keq_eq (knd:=bw G.P G.w) n1 n2 da db (by lia) (r:=true) (λ_=>xu ok (by show A.units+1+60<cLine;lia) rb Wg λp hp=>⟨xv nd p hp,?_⟩) ?_)
  ·obtain⟨h1,h2⟩:=xw k1 p.2 (ZP hp).2;exact⟨h1,Yy h2 k2⟩
  rw[FM];refine ZU ?_;simpa using q
 |_=>exact h.elim
section
open PySem.AutoSeq1 (wpAny_loadPart')
open PySem.MeetsSeq PySem.MeetsSeq2 PySem.MeetsSeq3 PySem.SeqAt
variable {P:Program}{w:World}{a b:Addr}{xs ys:Array Value}{ea eb:Nat}{da db:Option Addr}{sa sb:Array (Option Value)}
def xy (P:Program) (w:World) (a b:Addr) (xs ys:Array Value) (ea eb:Nat) (da db:Option Addr) (sa sb:Array (Option Value)):PySem.Spec:=λA R s=>
 s.heap.get? a=some { cls:=.type "list",dict:=da,data:=.seq xs ea,slots:=sa }/\s.heap.get? b=some { cls:=.type "list",dict:=db,data:=.seq ys eb,slots:=sb }/\(∀j (h1:j<xs.size) (h2:j<ys.size),nL P w A.in1 s xs[j] ys[j])/\R (.ok (.ret (.bool true))) s
theorem FT (hz:xs.size=ys.size):∀(k i:Nat),xs.size-i=k->MeetsIn P w (Builtin.«list.__eq__.loop» ⟨[.ref a,.ref b,rawInt i,rawInt 2],[]⟩) (xy P w a b xs ys ea eb da db sa sb):=by
 intro k
 induction k with
 |zero=>
  intro i hk A R s ⟨h1,h2,h3,h4⟩;obtain⟨hp,g,d,tk,os⟩:=s
  wp_walk using YC h1,YC h2
  have x1:xs[((i:Nat):Int).toNat]?=none:=by simp;lia
  have x2:ys[((i:Nat):Int).toNat]?=none:=by simp;lia
  rw[x1,x2]
  wp_walk using YC h1,YC h2
  show R (.ok (.ret (.bool (xs.size == ys.size)))) _;rw[hz];simpa using h4
 |succ k ih=>
  intro i hk A R s ⟨h1,h2,h3,h4⟩;obtain⟨hp,g,d,tk,os⟩:=s
  wp_walk using YC h1,YC h2
  have l1:i<xs.size:=by lia
  have l2:i<ys.size:=by lia
  have x1:xs[((i:Nat):Int).toNat]?=some xs[i]:=by simp [l1]
  have x2:ys[((i:Nat):Int).toNat]?=some ys[i]:=by simp [l2]
  have x3:((i:Int)+1)=((i+1:Nat):Int):=by lia
  rw[x1,x2];refine Yj (h3 i l1 l2 _ _ ?_)
  wp_walk
  rw[x3];exact⟨Zn aar _,Zg entry_eq_loop (by
   rw[Y2 aar _];exact ih (i+1) (by lia) A R _ ⟨h1,h2,h3,h4⟩)⟩
theorem FU (hz:xs.size=ys.size):MeetsIn P w (Builtin.«list.__eq__» ⟨[.ref a,.ref b],[]⟩) (xy P w a b xs ys ea eb da db sa sb):=by
 intro A R s ⟨h1,h2,h3,h4⟩;obtain⟨hp,g,d,tk,os⟩:=s;have f3:=AutoSeq1.sub_list_list;have cH:¬(xs.size != ys.size)=true:=by simp [hz]
 wp_walk using YC h1,YC h2
 exact⟨Zn aar _,Zg entry_eq_loop (by
  rw[Y2 aar _];exact FT hz _ 0 rfl A R _ ⟨h1,h2,h3,h4⟩)⟩
end
theorem FV (ok:az G F M s.heap) (hu:A.units+90<cLine) {d:D}{u v:Value} (h:qR d) (r1:ae G F d u) (r2:ae G F d v):nL G.P G.w A s u v:=by
 cases d with
 |lst ds=>
  rw[ae]at r1 r2;obtain⟨a,n,us,rfl,e1,_,q1⟩:=r1;obtain⟨b,m,vs,rfl,e2,_,q2⟩:=r2;have ho:=ok.fz a _ e1;have ho2:=ok.fz b _ e2;have l1:us.toArray.size=ds.length:=by rw[Yn,q1.len]
  have l2:vs.toArray.size=ds.length:=by rw[Yn,q2.len]
  intro E Q q;unfold eqBool;refine Y3 ?_;refine ZI (λ_=>?_) (λ_=>?_)
  ·exact Yl (M:=model G.P G.w) (E:=E) q
  refine Yj (wpAny_richCompare_same_room (op:=.Eq) ⟨_,ho,rfl⟩ ⟨_,ho2,rfl⟩ PySem.F.slot_list_eq (call_meetsIn PySem.F.slot_list_eq ⟨_,ho,rfl⟩ PySem.F.entry_list_eq (PySem.F.args_list_eq_2 _ _) (FU (P:=G.P) (w:=G.w) (by rw[l1,l2])) ⟨ho,ho2,λj h1 h2=>?_,?_⟩) (by lia))
  ·have g:j<ds.length:=(by rw[<- l1];exact h1);obtain⟨u1,e1,q1⟩:=d4 q1 (Yo g);obtain⟨u2,e2,q2⟩:=d4 q2 (Yo g);rw[(Array.getElem?_eq_some_iff.mp e1).2,(Array.getElem?_eq_some_iff.mp e2).2];exact xx ok (by show A.units+1+62<cLine;lia) (h _ (List.getElem_mem g)) q1 q2
  ·refine⟨λz=>(nomatch z),?_⟩;exact ZU q
 |ak ks ds=>exact xx (d:=.ak ks ds) ok (by lia) (show nM (.ak ks ds) from h) r1 r2
 |_=>exact h.elim
end
theorem FW {X:Cx} (hu:X.A.units+110<cLine) {τ:St} {z:Z}{ds:List D}{v u:Value}{R:Value->Shared->Prop} (I:aa X τ z) (r1:ae X.G z.F (.lst ds) v) (r2:ae X.G z.F (.lst ds) u) (h:∀d∈ds,qR d) (q:R (.bool false) z.s):W X (compareOp .NotEq v u) R z.s:=by
 obtain⟨a,us,n,rfl,l⟩:=I.fQ r1;obtain⟨b,vs,m,rfl,l'⟩:=I.fQ r2;have l1:us.toArray.size=ds.length:=by rw[Yn,l.r.len]
 have l2:vs.toArray.size=ds.length:=by rw[Yn,l'.r.len]
 obtain⟨⟨cls,dd,data,sl⟩,ho,hc,n,hd⟩:=id l.p.isList;obtain⟨⟨wE,ik,wP,kX⟩,ho2,fg,n2,gK⟩:=id l'.p.isList;simp only at hc hd fg gK;subst hc hd fg gK;refine wpAny_richCompare_same_room (op:=.NotEq) ⟨_,ho,rfl⟩ ⟨_,ho2,rfl⟩ F.slot_list_ne (call_meetsIn F.slot_list_ne ⟨_,ho,rfl⟩ F.entry_list_ne (F.args_list_ne_2 _ _) (FR (P:=X.G.P) (w:=X.G.w) (by rw[l1,l2])) ⟨ho,ho2,λj h1 h2=>?_,?_⟩) (by lia)
 ·have g:j<ds.length:=by rw[<- l1];exact h1
  obtain⟨u1,e1,q1⟩:=d4 l.r (Yo g);obtain⟨u2,e2,q2⟩:=d4 l'.r (Yo g);rw[(Array.getElem?_eq_some_iff.mp e1).2,(Array.getElem?_eq_some_iff.mp e2).2];exact FV I.hok (by show X.A.units+1+90<cLine;lia) (h _ (List.getElem_mem g)) q1 q2
 ·exact⟨λz=>(nomatch z),q⟩
end N
end
section
set_option maxHeartbeats 1000000
namespace N
open PySem PySem.Spec PyProof.Rows L2
section
variable {X:Cx}
theorem ag.fX {G:Gx}{F:Fz}{ds:List D}{us:List Value} (r:ag G F ds us):∀k:Nat,ag G F (Y' k ds).flatten (Y' k us).flatten
 | 0=>.nil
 |k+1=>by rw[aas,aas,List.flatten_cons,List.flatten_cons];exact r.app (ag.fX r k)
theorem FX:O2 X (binaryOp .Mult) qL:=fun τ z Q R d e v u I r1 r2 q k=>by
 have lst:∀{d:D},ae X.G z.F d v->(bf d z.M λds=>bS e λk=>-(2 ^ 63)<=k/\k<2 ^ 63/\ds.length * k.toNat<=sizeLine/\bL (Y' k.toNat ds).flatten z.M Q)->W X (binaryOp .Mult v u) R z.s:=λr1 q=>by
  obtain⟨a,ds,us,n,rfl,l,q⟩:=I.bf r1 q;obtain⟨j,t,rfl,h1,h2,hz,q⟩:=cN q r2;have hlen:us.toArray.size * j.toNat<=sizeLine:=by rw[Yn,<- l.r.len];exact hz
  have FY:¬us.toArray.size * j.toNat > (2 ^ 63-1) / 8:=by
   have:(sizeLine:Nat)<=(2 ^ 63-1) / 8:=(by decide);lia
  have p7:¬(!Builtin.List.listFitsIndex j)=true:=by rw[fitsIndex_both h1 h2];exact Y0
  have k6:¬Zx (us.toArray.size * j.toNat)=true:=by rw[qG hlen];exact Y0
  have FZ:List.foldl (λx1 x2=>x1++x2) #[] (Y' (if us.toArray.isEmpty=true then 0 else j.toNat) us.toArray)=(Y' j.toNat us).flatten.toArray:=by
   have f0:∀m:Nat,List.foldl (λx1 x2=>x1++x2) #[] (Y' m us.toArray)=(Y' m us).flatten.toArray:=λm=>by
    have:=w9 us m [];rw[List.nil_append]at this;exact this
   rw[f0];cases us with
   |nil=>simp
   |cons a r'=>rw[if_neg (by simp)]
  refine wpAny_binaryOp_repeat_ref (T:="list") (U:="int") (by decide) ⟨_,l.e,rfl⟩ (λs'=>typeIs_int s' j t) noFill_list_mul F.fills_int_mul F.slot_int_rmul repeat_list F.slot_int_index.lookup
   (call_meets F.slot_int_rmul (typeIs_int z.s j t) F.entry_int_rmul (F.args_int_rmul_2 _ _) (int___rmul___int_list j t a us.toArray n)
    ⟨l.e,rfl,⟨_,l.e,rfl⟩,call_meets F.slot_list_mul ⟨_,l.e,rfl⟩ F.entry_list_mul (F.args_list_mul_2 _ _) (AutoListH.list___mul___list_int_3 a us.toArray n j t p7 FY k6) ⟨l.e,?_⟩⟩)
  rw[FZ];exact I.lst (t:=z.s.toks) (n:=0) k Le.rfl (l.r.fX j.toNat) (λb o e=>Yk _ e) (Yr _) (Yp _ rfl) (by rw[E7,Nat.mul_comm,<- l.r.len];exact hz) q
 unfold qL at q;cases d with
 |int i=>
  rw[ae]at r1;obtain⟨t,rfl⟩:=r1;obtain⟨j,t',rfl,hc,q⟩:=cN q r2;exact mul_int (I.fin k Le.rfl bX q _) (hc.elim (·.ok) λh=>.of_bits (w8 h.1) (w8 h.2))
 |lst ds=>exact lst r1 q
 |ref a=>exact lst r1 q
 |_=>exact q.elim
theorem nP {f:Value->Value->Sem Value}:O2 X f λ_ _ _ _=>False:=λ_ _ _ _ _ _ _ _ _ _ _ q _=>q.elim
theorem xA:∀o:Operator,O2 X (binaryOp o) (qM o)
 |.Add=>FJ
 |.Sub=>xm λ_ _ _ _ _ _ _ q=>sub_int q
 |.Mult=>FX
 |.FloorDiv=>kZ λi j _ _ _ _ _ hc q=>by
  have h1:(0:Int)<j:=hc.1;have h2:j<2 ^ 200:=hc.2;have h3:j.natAbs<2 ^ 200:=by lia
  exact floordiv_int (by lia) (by rw[Int.fdiv_eq_ediv_of_nonneg i (by lia)];exact q) (.inl (PyProof.noPylong_of_log2 (YD ((Nat.log2_lt (by lia)).mpr h3) (by decide))))
 |.Mod=>kZ λi j _ _ _ _ _ hc q=>mod_int' (by lia) (by rw[Int.fmod_eq_emod_of_nonneg i (by lia)];exact q)
 |.Pow=>kZ λ_ _ _ _ _ _ _ hc q=>pow_int_small hc.1 hc.2.1 hc.2.2 q
 |.LShift=>kZ λ_ _ _ _ _ _ _ hc q=>lshift_int_small hc.1 hc.2.1 hc.2.2 q
 |.RShift=>kZ λi j _ _ _ _ _ hc q=>rshift_int hc (by rw[Int.fdiv_eq_ediv_of_nonneg i (E4 _)];exact q)
 |.BitAnd=>xm λ_ _ _ _ _ _ _ q=>and_int q
 |.MatMult=>nP
 |.Div=>nP
 |.BitOr=>nP
 |.BitXor=>nP
noncomputable def xB:D->Bool
 |.lst []=>true
 |_=>false
inductive eG (ne:Bool) (x y:D) (M:Mp) (k:Bool->Prop):Prop
 |mk (h:(aD (bP x M)=true/\aD (bP y M)=true/\bc (bP x M)<=100)\/((qC (bP x M)).isSome=true/\xB (bP y M)=true)) (q:k (aA (bP x M) (bP y M)))
 |dd (n:ne=true) (ds:List D) (hx:x=.lst ds) (hy:y=.lst ds) (h:∀d∈ds,qR d) (q:k true)
noncomputable def dO (x:D) (ds:List D):Bool:=ds.any λd=>aA d x
def xC (x y:D) (M:Mp) (k:Bool->Prop):Prop:=match y with
 |.ak _ _=>cn y M λkvs=>dM x λc=>k (aG kvs c).isSome
 |.str b=>match x with
  |.str a=>k (!(Builtin.Str.occurrences b a 0 b.length 1).isEmpty)
  |_=>False
 |.ref a=>(∃kvs,M a=some (.ak kvs)/\dM x λc=>k (aG kvs c).isSome)\/∃ds,M a=some (.lst ds)/\aD x=true/\aM ds=true/\a4 ds<=100/\k (dO x ds)
 |y=>dp y M λds=>aD x=true/\aM ds=true/\a4 ds<=100/\k (dO x ds)
structure fi (x y:D) (M:Mp) (k:Bool->Prop):Prop where
 h:xC x y M k
def nQ (x y:D) (k:Bool->Prop):Prop:=match y with
 |.aj=>k (nD x)
 |_=>False
def qS (x y:D) (k:Bool->Prop):Prop:=match x with
 |.int i=>bS y λj=>k (decide (i<j))
 |.str i=>match y with
  |.str j=>k (decide (i.cps.toList<j.cps.toList))
  |_=>False
 |_=>False
def nR (x y:D) (k:Int->Int->Prop):Prop:=bS x λi=>bS y λj=>k i j
def jt:CmpOp->D->D->Mp->(Bool->Prop)->Prop
 |.Eq=>λx y M k=>eG false x y M k
 |.NotEq=>λx y M k=>eG true x y M λb=>k (!b)
 |.Lt=>λx y M k=>qS x y k
 |.LtE=>λx y M k=>nR x y λi j=>k (decide (i<=j))
 |.Gt=>λx y M k=>nR x y λi j=>k (decide (j<i))
 |.GtE=>λx y M k=>nR x y λi j=>k (decide (j<=i))
 |.In=>λx y M k=>fi x y M k
 |.NotIn=>λx y M k=>fi x y M λb=>k (!b)
 |.Is=>λx y _ k=>nQ x y k
 |.IsNot=>λx y _ k=>nQ x y λb=>k (!b)
end
def OC (X:Cx) (f:Value->Value->Sem Value) (r:D->D->Mp->(Bool->Prop)->Prop):Prop:=∀ τ z (k:Bool->Prop) R d e v u,aa X τ z->ae X.G z.F d v->ae X.G z.F e u->r d e z.M k->(∀b t,k b->R (.bool b) { z.s with toks:=t })->W X (f v u) R z.s
def xD (r:D->D->Mp->(Bool->Prop)->Prop) (ta tb:DE):DE:=fun τ M q=>ta τ M λx M1=>tb τ M1 λy M2=>r x y M2 λb=>q (.bl b) M2
def xE (r:D->D->Mp->(Bool->Prop)->Prop) (ta tb:DE):DT:=fun τ M q=>ta τ M λx M1=>tb τ M1 λy M2=>r x y M2 λb=>q b M2
section
variable {X:Cx}{a b:Expr}{ta tb:DE}{pos:Pos}
theorem F3 {o:CmpOp}{r:D->D->Mp->(Bool->Prop)->Prop} (ho:OC X (compareOp o) r) (ha:PE X a ta) (hb:PE X b tb) (hm:behindInMarks o b=false):PE X (.Compare a [o] [b] pos) (xD r ta tb):=fun τ z Q R I h k=>
 wpAny_Compare1 (ha τ z _ _ I h λx z1 v l1 I1 r1 q1=>hb τ z1 _ _ I1 q1 λy z2 u l2 I2 r2 q2=>ho τ z2 _ _ x y v u I2 (r1.up l2.d) r2 q2 λb t q=>I2.fin k (l1.tr l2) kG q t) hm
theorem F4 {o:CmpOp}{r:D->D->Mp->(Bool->Prop)->Prop} (ho:OC X (compareOp o) r) (ha:PE X a ta) (hb:PE X b tb) (hm:behindInMarks o b=false):PT X (.Compare a [o] [b] pos) (xE r ta tb):=fun τ z Q R I h k=>
 wpAny_isTrue_Compare1 (ha τ z _ _ I h λx z1 v l1 I1 r1 q1=>hb τ z1 _ _ I1 q1 λy z2 u l2 I2 r2 q2=>ho τ z2 _ _ x y v u I2 (r1.up l2.d) r2 q2 λb t q=>ZU (k b ⟨z2.F,z2.M,{ z2.s with toks:=t }⟩ (l1.tr l2) (I2.mU t) q)) hm
end
section
variable {X:Cx}
theorem aa.xF {τ:St} {z:Z}{d:D}{u:Value} (I:aa X τ z) (r:ae X.G z.F d u) (h:aD (bP d z.M)=true):Sh X.G z.F z.s (bP d z.M) u:=by
 cases d with
 |ref a=>
  change aD (nJ a (z.M a))=true at h;show Sh X.G z.F z.s (nJ a (z.M a)) u;rw[ae]at r;subst r;cases e:z.M a with
  |none=>rw[e]at h;cases h
  |some o=>cases o with
   |lst ds=>rw[e]at h;obtain⟨us,n,l⟩:=I.eD e;exact .lst l.p.isList l.r h
   |_=>rw[e]at h;cases h
 |_=>exact eE I.hok r h
theorem aa.xG {τ:St} {z:Z}{d:D}{u:Value}{ds:List D} (I:aa X τ z) (r:ae X.G z.F d u) (h:bP d z.M=.lst ds):∃a us n,u=.ref a/\eC X.G z.F z.s.heap a ds us n:=by
 cases d with
 |ref a=>
  change nJ a (z.M a)=.lst ds at h;rw[ae]at r;cases e:z.M a with
  |none=>rw[e]at h;cases h
  |some o=>cases o with
   |lst es=>rw[e]at h;cases h;obtain⟨us,n,l⟩:=I.eD e;exact⟨a,us,n,r,l⟩
   |_=>rw[e]at h;cases h
 |lst es=>cases h;exact I.fQ r
 |_=>cases h
theorem xH (hu:X.A.units+110<cLine) {τ:St} {z:Z}{d e:D}{v u:Value}{k:Bool->Prop} (I:aa X τ z) (r1:ae X.G z.F d v) (r2:ae X.G z.F e u) (h:(aD (bP d z.M)=true/\aD (bP e z.M)=true/\bc (bP d z.M)<=100)\/((qC (bP d z.M)).isSome=true/\xB (bP e z.M)=true)) (q:k (aA (bP d z.M) (bP e z.M))):∃b,SeqAt.RcAt X.A z.s v u b/\SeqAt.RcNeAt X.A z.s v u (!b)/\k b:=by
 rcases h with ⟨h1,h2,h3⟩ |⟨h1,h2⟩
 ·have c:=E3 (A:=X.A) (n:=100) I.hok (I.xF r1 h1) (I.xF r2 h2) (Nat.le_succ_of_le h3) (by lia);exact⟨_,c.1,c.2,q⟩
 ·cases e1:bP d z.M with
  |lst ds=>cases e2:bP e z.M with
   |lst es=>cases es with
    |nil=>
     obtain⟨a,us,n,rfl,l⟩:=I.xG r1 e1;obtain⟨b,vs,n',rfl,l'⟩:=I.xG r2 e2;have:=l'.r;rw[ag]at this;subst this;rw[e1,e2]at q;cases ds with
     |nil=>
      have:=l.r;rw[ag]at this;subst this;exact⟨true,SeqAt.RcAt.lists (e:=λ_=>true) l.p.isList l'.p.isList rfl (by lia) λj h1=>absurd h1 (Nat.not_lt_zero j),SeqAt.RcNeAt.lists (e:=λ_=>true) l.p.isList l'.p.isList rfl (by lia) λj h1=>absurd h1 (Nat.not_lt_zero j),q⟩
     |cons d ds=>
      have:=l.r;rw[ag]at this;obtain⟨u,us,rfl,_⟩:=this;exact⟨false,SeqAt.RcAt.lists_lengths l.p.isList l'.p.isList (by simp) (by lia),SeqAt.RcNeAt.lists_lengths l.p.isList l'.p.isList (by simp) (by lia),q⟩
    |cons _ _=>rw[e2]at h2;cases h2
   |_=>rw[e2]at h2;cases h2
  |_=>rw[e1]at h1;cases h1
theorem F6 (hu:X.A.units+110<cLine):OC X (compareOp .Eq) (jt .Eq):=fun τ z k R d e v u I r1 r2 q K=>by
 cases q with
 |mk h q=>
  obtain⟨b,h1,_,q⟩:=xH hu I r1 r2 h q;exact h1 _ _ _ _ (K b z.s.toks q)
 |dd n=>cases n
theorem F7 (hu:X.A.units+110<cLine):OC X (compareOp .NotEq) (jt .NotEq):=fun τ z k R d e v u I r1 r2 q K=>by
 cases q with
 |mk h q=>
  obtain⟨b,_,h1,q⟩:=xH (k:=λb=>k (!b)) hu I r1 r2 h q;exact h1 _ _ _ _ (K (!b) z.s.toks q)
 |dd n ds hx hy h q=>subst hx;subst hy;exact FW hu I r1 r2 h (K false z.s.toks q)
open Classical in
theorem F8 {τ:St} {z:Z}{x:D}{v:Value}{ds:List D}{us:List Value} (hu:X.A.units+110<cLine) (I:aa X τ z) (r:ae X.G z.F x v) (rs:ag X.G z.F ds us) (h1:aD x=true) (h2:aM ds=true) (h3:a4 ds<=100) :
  ∃e:Value->Bool,(∀y,y∈us.toArray->SeqAt.EqAt X.A.in1 z.s y v (e y))/\us.toArray.any e=dO x ds:=by
 have key:∀{d:D}{y:Value},ae X.G z.F d y->aD d=true->decide (∃d',ae X.G z.F d' y/\aD d'=true/\aA d' x=true)=aA d x:=λ{d y} r k=>by
  rw[Zv,decide_eq_true_eq];exact⟨λ⟨d',a,b,c⟩=>by rw[wU d r a k b];exact c,λc=>⟨d,r,k,c⟩⟩
 refine⟨λy=>decide (∃d',ae X.G z.F d' y/\aD d'=true/\aA d' x=true),λy hy=>?_,?_⟩
 ·obtain⟨i,hi⟩:=List.getElem?_of_mem (by simpa using hy:y∈us);have hl:i<ds.length:=by rw[rs.len];exact (List.getElem?_eq_some_iff.mp hi).1
  obtain⟨W2,e,q⟩:=rs.get (Yo hl);rw[hi]at e;cases e;have m:=jm h2 (Yo hl);show SeqAt.EqAt X.A.in1 z.s y v (decide (∃d',ae X.G z.F d' y/\aD d'=true/\aA d' x=true));rw[key q m.1];exact kW 100 I.hok (eE I.hok q m.1) (eE I.hok r h1) (Yy m.2 h3) (by show X.A.units+1+100<cLine;lia)
 ·rw[show us.toArray.any (λy=>decide (∃d',ae X.G z.F d' y/\aD d'=true/\aA d' x=true))=us.any (λy=>decide (∃d',ae X.G z.F d' y/\aD d'=true/\aA d' x=true)) by simp];clear h3;unfold dO
  induction ds generalizing us with
  |nil=>rw[ag]at rs;subst rs;rfl
  |cons d ds ih=>
   rw[ag]at rs;obtain⟨u,us,rfl,q1,q2⟩:=rs;rw[aM,Yq]at h2;rw[aaj,aaj,key q1 h2.1,ih q2 h2.2]
theorem xI (hu:X.A.units+110<cLine) {τ:St} {z:Z}{d e:D}{v u:Value}{k:Bool->Prop} (I:aa X τ z) (r1:ae X.G z.F d v) (r2:ae X.G z.F e u) (h:fi d e z.M k):∃b,k b/\(∀Q E:Value->Shared->Prop,(∀t,Q (.bool b) { z.s with toks:=t })->wpAny (model X.G.P X.G.w) X.A (compareOp .In v u) Q E z.s)/\∀Q E:Value->Shared->Prop,(∀t,Q (.bool (!b)) { z.s with toks:=t })->wpAny (model X.G.P X.G.w) X.A (compareOp .NotIn v u) Q E z.s:=by
 have ak:∀{e:D},ae X.G z.F e u->(cn e z.M λkvs=>dM d λc=>k (aG kvs c).isSome)->∃b,k b/\(∀Q E:Value->Shared->Prop,(∀t,Q (.bool b) { z.s with toks:=t })->wpAny (model X.G.P X.G.w) X.A (compareOp .In v u) Q E z.s)/\∀Q E:Value->Shared->Prop,(∀t,Q (.bool (!b)) { z.s with toks:=t })->wpAny (model X.G.P X.G.w) X.A (compareOp .NotIn v u) Q E z.s:=λr2 q=>by
  obtain⟨a,kvs,vs,rfl,l,q⟩:=I.cn r2 q;obtain⟨c,hc,q⟩:=js (P:=X.G.P) (w:=X.G.w) q r1;have e:=(l.r.val c).so;exact⟨_,q,λQ E h=>wpAny_in_of hc l.n l.d.mapOf (by rw[<- e];exact h _),λQ E h=>wpAny_notIn_of hc l.n l.d.mapOf (by rw[<- e];exact h _)⟩
 have seq:∀{ds:List D}{us:List Value}{a:Addr},ag X.G z.F ds us->u=.ref a->(z.s.heap.IsList a us.toArray\/z.s.heap.IsTuple a us.toArray)->aD d=true/\aM ds=true/\a4 ds<=100/\k (dO d ds)->∃b,k b/\(∀Q E:Value->Shared->Prop,(∀t,Q (.bool b) { z.s with toks:=t })->wpAny (model X.G.P X.G.w) X.A (compareOp .In v u) Q E z.s)/\∀Q E:Value->Shared->Prop,(∀t,Q (.bool (!b)) { z.s with toks:=t })->wpAny (model X.G.P X.G.w) X.A (compareOp .NotIn v u) Q E z.s:=λrs W3 hs q=>by
  subst W3;obtain⟨f,f1,f2⟩:=F8 hu I r1 rs q.1 q.2.1 q.2.2.1;refine⟨_,q.2.2.2,λQ E h=>?_,λQ E h=>?_⟩
  ·rcases hs with hs |hs
   ·exact SeqAt.in_listAt f hs f1 (by rw[f2];exact h z.s.toks)
   ·exact SeqAt.in_tupleAt f hs f1 (by rw[f2];exact h z.s.toks)
  ·rcases hs with hs |hs
   ·exact SeqAt.notIn_listAt f hs f1 (by rw[f2];exact h z.s.toks)
   ·exact SeqAt.notIn_tupleAt f hs f1 (by rw[f2];exact h z.s.toks)
 replace h:=h.h;unfold xC at h;cases e with
 |ak ks ds=>exact ak r2 h
 |str b=>cases d with
  |str a=>
   rw[ae]at r1 r2;obtain⟨t,rfl⟩:=r1;obtain⟨t',rfl⟩:=r2;exact⟨_,h,λQ E q=>in_str (q z.s.toks),λQ E q=>notIn_str (q z.s.toks)⟩
  |_=>exact h.elim
 |ref a=>
  rcases h with h |⟨ds,h1,h⟩
  ·exact ak (e:=.ref a) r2 h
  ·rw[ae]at r2;obtain⟨us,n,l⟩:=I.eD h1;exact seq l.r r2 (.inl l.p.isList) h
 |lst ds=>obtain⟨a,us,n,e,l⟩:=I.fQ r2;exact seq l.r e (.inl l.p.isList) h
 |tup ds=>obtain⟨a,us,o,e,l⟩:=I.cM r2;exact seq l.r e (.inr l.p) h
 |_=>exact h.elim
theorem xJ {G:Gx}{F:Fz}{d:D}{u:Value} (r:ae G F d u):(u == Y6)=nD d:=by
 cases d with
 |aj=>rw[ae]at r;subst r;rfl
 |bl _=>rw[ae]at r;subst r;rfl
 |int _=>rw[ae]at r;obtain⟨t,rfl⟩:=r;rfl
 |str _=>rw[ae]at r;obtain⟨t,rfl⟩:=r;rfl
 |ref _=>rw[ae]at r;subst r;rfl
 |ty _=>rw[ae]at r;subst r;rfl
 |tup _=>rw[ae]at r;obtain⟨_,_,_,rfl,_⟩:=r;rfl
 |lst _=>rw[ae]at r;obtain⟨_,_,_,rfl,_⟩:=r;rfl
 |ak _ _=>rw[ae]at r;obtain⟨_,_,_,rfl,_⟩:=r;rfl
theorem xK {G:Gx}{F:Fz}{x y:D}{k:Bool->Prop}{u:Value} (h:nQ x y k) (r:ae G F y u):u=.none/\k (nD x):=by
 unfold nQ at h;split at h
 ·rw[ae]at r;exact⟨r,h⟩
 ·exact h.elim
theorem qT {o:CmpOp}{f:Int->Int->Bool} (rule:∀(i j:Int) (t u:Tok) (s:Shared) (Q E:Value->Shared->Prop),Q (.bool (f i j)) s->wpAny (model X.G.P X.G.w) X.A (compareOp o (.int i t) (.int j u)) Q E s):OC X (compareOp o) (λx y _ k=>nR x y λi j=>k (f i j)):=fun τ z k R d e v u I r1 r2 q K=>by
 obtain⟨i,t,rfl,q⟩:=cN q r1;obtain⟨j,t',rfl,q⟩:=cN q r2;exact rule i j t t' z.s _ _ (K _ z.s.toks q)
theorem xM (hu:X.A.units+110<cLine):∀o:CmpOp,OC X (compareOp o) (jt o)
 |.Eq=>F6 hu
 |.NotEq=>F7 hu
 |.In=>fun τ z k R d e v u I r1 r2 q K=>by
  obtain⟨b,q,h,_⟩:=xI hu I r1 r2 q;exact h _ _ λt=>K b t q
 |.NotIn=>fun τ z k R d e v u I r1 r2 q K=>by
  obtain⟨b,q,_,h⟩:=xI (k:=λb=>k (!b)) hu I r1 r2 q;exact h _ _ λt=>K (!b) t q
 |.Lt=>fun τ z k R d e v u I r1 r2 q K=>by
  replace q:qS d e k:=q;unfold qS at q;cases d with
  |int i=>
   rw[ae]at r1;obtain⟨t,rfl⟩:=r1;obtain⟨j,t',rfl,q⟩:=cN q r2;exact lt_int (K _ z.s.toks q)
  |str i=>cases e with
   |str j=>
    rw[ae]at r1 r2;obtain⟨t,rfl⟩:=r1;obtain⟨t',rfl⟩:=r2;exact lt_str (K _ z.s.toks q)
   |_=>exact q.elim
  |_=>exact q.elim
 |.LtE=>qT λ_ _ _ _ _ _ _ q=>le_int q
 |.Gt=>qT λ_ _ _ _ _ _ _ q=>gt_int q
 |.GtE=>qT λ_ _ _ _ _ _ _ q=>ge_int q
 |.Is=>fun τ z k R d e v u I r1 r2 q K=>by
  obtain⟨rfl,q⟩:=xK q r2;exact is_none_gen (by rw[xJ r1];exact K _ z.s.toks q)
 |.IsNot=>fun τ z k R d e v u I r1 r2 q K=>by
  obtain⟨rfl,q⟩:=xK (k:=λb=>k (!b)) q r2;exact isnot_none_gen (by rw[xJ r1];exact K _ z.s.toks q)
end
end N
end
section
set_option maxHeartbeats 1000000
namespace N
open PySem PySem.Spec PyProof.Rows L2
def xN (x:D) (M:Mp) (k:Bool->Prop):Prop:=match x with
 |.aj=>k false
 |.bl b=>k b
 |.int i=>k (i != 0)
 |.str y=>y.length<=sizeLine/\k ((y.length:Int) != 0)
 |.tup ds=>k (!ds.isEmpty)
 |.lst ds=>k (!ds.isEmpty)
 |.ak ks ds=>k (!(ks.zip ds).isEmpty)
 |.ref p=>(∃xs,M p=some (.lst xs)/\k (!xs.isEmpty))\/∃kvs,M p=some (.ak kvs)/\k (!kvs.isEmpty)
 |_=>False
section
variable {X:Cx}{a b:Expr}{ta tb:DE}{pos:Pos}
theorem xO {G:Gx}{F:Fz}{ds:List D}{us:List Value} (r:ag G F ds us):(!us.toArray.isEmpty)=!ds.isEmpty:=by
 cases ds with
 |nil=>rw[ag]at r;subst r;rfl
 |cons d ds=>rw[ag]at r;obtain⟨u,us,rfl,_⟩:=r;rfl
theorem gM {n:Nat} (h:n<=sizeLine):(n:Int)<2 ^ 63:=by have:=nG;lia
theorem F9 {τ:St} {z:Z}{d:D}{v:Value}{k:Bool->Prop}{R:Bool->Shared->Prop} (I:aa X τ z) (r:ae X.G z.F d v) (h:xN d z.M k) (K:∀b t,k b->R b { z.s with toks:=t }):W X (truthy v) R z.s:=by
 have hl:=nG;have lst:∀{ds:List D}{us:List Value}{a:Addr}{n:Nat},eC X.G z.F z.s.heap a ds us n->k (!ds.isEmpty)->W X (truthy (.ref a)) R z.s:=λl q=>wpAny_truthy_list l.p.isList (by rw[Yn];exact gM l.z) (by rw[xO l.r];exact K _ _ q);have ak:∀{kvs:List (Key×D)}{vs:List (Key×Value)}{a:Addr},jq X.G z.F z.s.heap a kvs vs->k (!kvs.isEmpty)->W X (truthy (.ref a)) R z.s:=λ{kvs vs a} l q=>by
  have e:kvs.isEmpty=vs.isEmpty:=by have:=l.r;unfold KV at this;cases this <;> rfl
  have e2:kvs.length=vs.length:=Paired.length l.r;exact wpAny_truthy_dict l.n l.d (by rw[<- e2];exact gM l.z) (by rw[<- e];exact K _ _ q)
 cases d with
 |aj=>rw[ae]at r;subst r;exact truthy_none (K _ z.s.toks h)
 |bl b=>rw[ae]at r;subst r;exact ZU (K _ z.s.toks h)
 |int i=>rw[ae]at r;obtain⟨t,rfl⟩:=r;exact PySem.P.truthy_int (K _ z.s.toks h)
 |str y=>rw[ae]at r;obtain⟨t,rfl⟩:=r;exact PySem.P.truthy_str (Int.not_le.mpr (gM h.1)) (K _ _ h.2)
 |tup ds=>obtain⟨a,us,o,rfl,l⟩:=I.cM r;exact truthy_tuple l.p (by rw[Yn];exact gM l.t.len) (by rw[xO l.r];exact K _ _ h)
 |lst ds=>obtain⟨a,us,n,rfl,l⟩:=I.fQ r;exact lst l h
 |ak ks ds=>obtain⟨a,kvs,vs,rfl,l,h⟩:=I.cn (k:=λkvs=>k (!kvs.isEmpty)) r h;exact ak l h
 |ref a=>
  rw[ae]at r;subst r;rcases h with ⟨xs,h1,h2⟩ |⟨kvs,h1,h2⟩
  ·obtain⟨us,n,l⟩:=I.eD h1;exact lst l h2
  ·obtain⟨vs,l⟩:=I.jr h1;exact ak l h2
 |ty _=>exact h.elim
def xP (ta:DE):DT:=fun τ M q=>ta τ M λx M1=>xN x M1 λb=>q b M1
theorem Ga (h:PE X a ta) (he:∀hY,isTrue a X.env hY=(do let v <- hY;standAt a.pos;holding [v] (truthy v))):PT X a (xP ta):=fun τ z Q R I q k=>
 isTrue_plain (h τ z _ _ I q λd z1 u l1 I1 r1 q1=>F9 I1 r1 q1 λb t q=>k b ⟨z1.F,z1.M,{ z1.s with toks:=t }⟩ l1 (I1.mU t) q) (he _)
def aB:Q2:=λx y M Q=>match x with
 |.str w=>bS y λi=>w.length<=sizeLine/\∃c,cz w.cps.toList i=some c/\Q (.str ⟨#[c]⟩) M
 |.tup ds=>bS y λi=>∃d,cz ds i=some d/\Q d M
 |.lst ds=>bS y λi=>∃d,cz ds i=some d/\Q d M
 |.ak ks ds=>dM y λc=>∃d,aG (ks.zip ds) c=some d/\Q d M
 |.ref a=>(∃ds,M a=some (.lst ds)/\bS y λi=>∃d,cz ds i=some d/\Q d M)\/∃kvs,M a=some (.ak kvs)/\dM y λc=>∃d,aG kvs c=some d/\Q d M
 |_=>False
theorem Gb (ha:PE X a ta) (hb:PE X b tb) (hs:∀o i,subscripted b false o i=operate [o,i] (getItem o i)):PE X (.Subscript a b pos) (kB aB ta tb):=fun τ z Q R I h k=>
 Subscript_ (ha τ z _ _ I h λx z1 v l1 I1 r1 q1=>hb τ z1 _ _ I1 q1 λy z2 u l2 I2 r2 q2=>by
  have hs:=hs v u;have r1:=r1.up l2.d;have l:=l1.tr l2;have hn:=nG;have lst:∀{ds:List D}{us:List Value}{c:Addr}{n:Nat},v=.ref c->eC X.G z2.F z2.s.heap c ds us n->(bS y λi=>∃d,cz ds i=some d/\Q d z2.M)->W X (subscriptTail a b v u) R z2.s:=λ{ds us c n} e p q=>by
   subst e;obtain⟨i,t,rfl,d,hd,q⟩:=cN q r2;obtain⟨j,h1,h2,h3,h4,h5⟩:=qF hd;obtain⟨w,Vr,io⟩:=p.r.get h2;have hl:=p.r.len;have hz:=p.z;have fin:=k d z2 w l I2 io q;by_cases h0:0<=i
   ·have hj:i.toNat=j:=(by rw[seqIndex_of h0 h5]at h1;exact YY h1);exact item_listR p.p.isList h0 (by lia) (by rw[hj];simpa using Vr) fin hs
   ·have hj:(i+(us.toArray.size:Int)).toNat=j:=by
     rw[seqIndex_neg (by lia) h4]at h1;rw[Yn,<- hl];exact YY h1
    exact subscriptTail_builtinR (x:=w) p.p.isList.typeIs slot_list_getitem.lookup (wpAny_getItem_list_neg (Q:=λr s'=>r=w/\R r s') p.p.isList (by lia) (by rw[Yn];lia) (by lia) (by rw[hj];simpa using Vr) ⟨rfl,fin⟩) hs
  have ak:∀{kvs:List (Key×D)}{vs:List (Key×Value)}{c:Addr},v=.ref c->jq X.G z2.F z2.s.heap c kvs vs->(dM y λc=>∃d,aG kvs c=some d/\Q d z2.M)->W X (subscriptTail a b v u) R z2.s:=λ{kvs vs c} e p q=>by
   subst e;obtain⟨c',hc,d,hd,q⟩:=js (P:=X.G.P) (w:=X.G.w) q r2;have hv:=p.r.val c';rw[hd]at hv;cases e:valueAt vs c' with
   |none=>rw[e]at hv;exact hv.elim
   |some w=>
    rw[e]at hv;exact tail_any (ops:=[.ref c,u]) p.d.typeIs PySem.F.slot_dict_getitem.lookup (wpAny_getItem_of hc p.d.mapOf e (I2.fin k l hv q _)) hs
  cases x with
  |str w=>
   rw[ae]at r1;obtain⟨t,rfl⟩:=r1;obtain⟨i,t',rfl,hz,c,he,q⟩:=cN q2 r2;obtain⟨j,h1,h2,h3,h4,h5⟩:=qF he;have hl:w.cps.toList.length=w.length:=(by simp [Str.length]);rw[hl]at h1 h4 h5;exact tail_any (typeIs_str z2.s w t) slot_str_getitem.lookup (getItem_str (c:=c) (by
    have e1:decide (i < -(2 ^ 63:Int))=false:=decide_eq_false (by lia);have e2:decide (i ≥ 2 ^ 63)=false:=decide_eq_false (by lia);rw[e1,e2,Bool.or_false]) (by rw[h1];simpa using h2) (I2.fin k l gC q _)) hs
  |tup ds=>
   obtain⟨c,us,o,rfl,p⟩:=I2.cM r1;obtain⟨i,t,rfl,d,hd,q⟩:=cN q2 r2;obtain⟨j,h1,h2,h3,h4,h5⟩:=qF hd;obtain⟨w,Vr,io⟩:=p.r.get h2;have hl:=p.r.len;have hz:=p.t.len;exact subscriptTail_builtinR (x:=w) p.p.typeIs slot_tuple_getitem.lookup (getItem_tuple (j:=j) (Q:=λr s'=>r=w/\R r s') p.p (by lia) (by lia) (by rw[Yn,<- hl];exact h1) (by simpa using Vr) ⟨rfl,k d z2 w l I2 io q⟩) hs
  |lst ds=>obtain⟨c,us,n,e,p⟩:=I2.fQ r1;exact lst e p q2
  |ak ks ds=>obtain⟨c,kvs,vs,e,p,q⟩:=I2.cn (k:=λkvs=>dM y λc=>∃d,aG kvs c=some d/\Q d z2.M) r1 q2;exact ak e p q
  |ref c=>
   rw[ae]at r1;rcases q2 with ⟨ds,h1,h2⟩ |⟨kvs,h1,h2⟩
   ·obtain⟨us,n,p⟩:=I2.eD h1;exact lst r1 p h2
   ·obtain⟨vs,p⟩:=I2.jr h1;exact ak r1 p h2
  |_=>exact q2.elim)
def nS:QS:=λo i d M k=>match o with
 |.ref a=>(∃xs,M a=some (.lst xs)/\bS i λn=>∃j,fh xs.length n=some j/\k (up M a (.lst (xs.set j d))))\/∃kvs,M a=some (.ak kvs)/\dM i λc=>kvs.length<sizeLine/\k (up M a (.ak (a9 kvs c d)))
 |_=>False
theorem ag.set {G:Gx}{F:Fz}{d:D}{u:Value} (r:ae G F d u):∀{ds:List D}{us:List Value} (i:Nat),ag G F ds us->ag G F (ds.set i d) (us.set i u)
 |[],us,i,h=>by rw[ag]at h;subst h;exact .nil
 |c::ds,us,0,h=>by rw[ag]at h;obtain⟨v,us,rfl,_,h2⟩:=h;exact .cons r h2
 |c::ds,us,i+1,h=>by rw[ag]at h;obtain⟨v,us,rfl,h1,h2⟩:=h;exact .cons h1 (ag.set r i h2)
theorem aa.xQ {τ:St} {z:Z}{p:Addr}{xs ys:List D}{us us':List Value}{n n' t:Nat}{h':Heap} (I:aa X τ z) (h:z.M p=some (.lst xs)) (sb:∀ b,b≠p->a8 z.s.heap h' b) (e:h'.get? p=some (bH us' n')) (r:ag X.G z.F ys us') (hz:us'.length<=sizeLine) :
  aa X τ ⟨z.F,up z.M p (.lst ys),{ z.s with heap:=h',toks:=t }⟩:=I.put h rfl (.inl rfl) sb ⟨_,e⟩ ⟨by rw[r.len];exact hz,us',n',r,e⟩
theorem Gd (hu:X.A.units+1<cLine):OS X nS:=fun τ z o i d ov iv u Q R I ro ri rd q k=>by
 unfold nS at q;cases o with
 |ref p=>
  rw[ae]at ro;subst ro;rcases q with ⟨xs,hp,q⟩ |⟨kvs,hp,q⟩
  ·obtain⟨n,t,rfl,j,hj,q⟩:=cN q ri;obtain⟨us,m,l⟩:=I.eD hp;obtain⟨h1,h2,h3,h4⟩:=w5 hj;have hl:=l.r.len;have hn:=nG;have hz:=l.z;have e:(z.s.heap.update p (YW (·.setIfInBounds j u))).get? p=some (bH (us.set j u) m):=by
    rw[YK _ l.e (by unfold bH;rw[w6];rfl)];unfold bH;rw[w6]
   have fin:R () { z.s with heap:=z.s.heap.update p (YW (·.setIfInBounds j u)) }:=
    k ⟨z.F,_,_⟩ Le.rfl (I.xQ (us:=us) (n:=m) (t:=z.s.toks) hp (λb hb o q=>(Zr _ _ (Zl hb)).trans q) e (ag.set rd j l.r) (by rw[List.length_set];exact hz)) q
   by_cases h0:0<=n
   ·have hk:n.toNat=j:=(by rw[seqIndex_of h0 h4]at h1;exact YY h1);exact PySem.W.ki_setAt l.e h0 (by lia) (by rw[Yn,<- hl];exact h4) (by rw[hk];exact fin)
   ·have hk:(n+(us.toArray.size:Int)).toNat=j:=by
     rw[seqIndex_neg (by lia) h3]at h1;rw[Yn,<- hl];exact YY h1
    exact PySem.W.ki_setBack l.e (by lia) (by rw[Yn,<- hl];exact h3) (by lia) (by rw[hk];exact fin)
  ·obtain⟨c,hc,hl,q⟩:=js (P:=X.G.P) (w:=X.G.w) q ri;obtain⟨vs,l⟩:=I.jr hp;refine wpAny_setItem_pairs (hsz:=by rw[<- Paired.length l.r];exact l.z) hc l.d λh' gN hs=>?_;have he:∃q,h'.get? p=some q:=let ⟨q,_,_,hq,_⟩:=gN;⟨q,hq⟩
   exact k ⟨z.F,_,_⟩ Le.rfl (I.put (o':=.ak (a9 kvs c d)) hp rfl (.inl rfl) (λb hb o q=>(hs.2 b hb).trans q) he ⟨Yy (qI _ _ _) hl,l.n,_,l.r.put c rd,gN⟩) q
 |_=>exact q.elim
end
end N
end
section
set_option maxHeartbeats 1000000
namespace N
open PySem PySem.Spec PyProof.Rows L2
abbrev XQ:=jd->Mp->Prop
abbrev Sp:=List D->Mp->QK->XQ->Prop
structure ju (G:Gx) (z z':Z) (s:Shared):Prop where
 s:z'.s=s
 l:Le z.F z'.F
 ok:az G z'.F z'.M z'.s.heap
 os:z'.s.os=z.s.os
 bare:AllBare z'.s.gens
def CR (G:Gx) (z:Z) (Q:QK) (E:XQ) (r:Result) (s:Shared):Prop:=match r with
 |.ok (.ret u)=>∃d z',ju G z z' s/\ae G z'.F d u/\Q d z'.M
 |.ok _=>False
 |.error e=>∃x z',ju G z z' s/\(∃a a0,e=.ref a/\dI z'.F z'.M z'.s.heap a x.C a0 (some .none))/\E x z'.M
structure a6 (G:Gx) (k:Nat) (f:Addr) (fd:FuncData) (ps:List Str) (sp:Sp):Prop where
 len:∀ds M Q E,sp ds M Q E->ds.length=ps.length
 dX:∀(A:Around) (outer:List Env) (z:Z) (args:Args) (us:List Value) (ds:List D) (Q:QK) (E:XQ),bq k A->dH G A outer z->BindsTo z.s fd args (ps.zip us)->ag G z.F ds us->sp ds z.M Q E ->
  codeAny (model G.P G.w) A (.call (.ref f) args) (CR G z Q E) z.s
section
variable {G:Gx}{F:Fz}{M:Mp}{h:Heap}{A:Around}{outer:List Env}{z z':Z}{s:Shared} (e:Fz)
theorem kr.xe {o:Obj}{ks:List Key}{us:List Value} (h:kr G o ks us):kr { G with ex:=e } o ks us:=⟨h.ex,h.bK,h.nd,h.len,h.sz⟩
mutual
theorem ae.xe:∀{d:D}{u:Value},ae G F d u->ae { G with ex:=e } F d u
 |.aj,u,h=>by rw[ae]at h ⊢;exact h
 |.bl _,u,h=>by rw[ae]at h ⊢;exact h
 |.int _,u,h=>by rw[ae]at h ⊢;exact h
 |.str _,u,h=>by rw[ae]at h ⊢;exact h
 |.ref _,u,h=>by rw[ae]at h ⊢;exact h
 |.ty _,u,h=>by rw[ae]at h ⊢;exact h
 |.tup ds,u,h=>by rw[ae]at h ⊢;obtain⟨a,o,us,q,h1,h2,h3⟩:=h;exact⟨a,o,us,q,h1,h2,h3.xe⟩
 |.lst ds,u,h=>by rw[ae]at h ⊢;obtain⟨a,o,us,q,h1,h2,h3⟩:=h;exact⟨a,o,us,q,h1,h2,h3.xe⟩
 |.ak ks ds,u,h=>by rw[ae]at h ⊢;obtain⟨a,o,us,q,h1,h2,h4,h3⟩:=h;exact⟨a,o,us,q,h1,h2.xe e,h4,h3.xe⟩
theorem ag.xe:∀{ds:List D}{us:List Value},ag G F ds us->ag { G with ex:=e } F ds us
 |[],us,h=>by rw[ag]at h ⊢;exact h
 |d::ds,us,h=>by rw[ag]at h ⊢;obtain⟨u,r,q,h1,h2⟩:=h;exact⟨u,r,q,h1.xe,h2.xe⟩
end
theorem az.xe (x:az G F M h):az { G with ex:=e } F M h:=⟨x.fz,λa o q=>⟨(x.ob a o q).1,by
 have y:=(x.ob a o q).2;cases o with
 |lst xs=>obtain⟨z,us,n,r,e1⟩:=y;exact⟨z,us,n,r.xe e,e1⟩
 |ak kvs=>obtain⟨z,y,vs,r,c⟩:=y;exact⟨z,y,vs,Paired.VJ (λ_ _ r=>⟨r.1,r.2.xe e⟩) r,c⟩
 |ins C dx fs=>
  obtain⟨d,z,ne,e1,mA,e2,r1,r2⟩:=y;refine⟨d,z,ne,e1,mA,e2,λf=>?_,r2⟩;have:=r1 f;cases q1:fs.lookup f <;> cases q2:mA f <;> rw[q1,q2]at this
  ·trivial
  ·exact this
  ·exact this
  ·exact ae.xe e this
 |own W2=>exact y
 |ja ps=>exact y⟩,x.tb⟩
theorem ju.xe (x:ju G z z' s):ju { G with ex:=e } z z' s:=⟨x.s,x.l,x.ok.xe e,x.os,x.bare⟩
theorem dH.xe (x:dH G A outer z) (l:Le e z.F):dH { G with ex:=e } A outer z:=⟨x.frames,⟨x.mod.ez,x.mod.cw,x.mod.gz,x.mod.je⟩,⟨x.bs.b,l⟩,x.bx,x.hok.xe e,x.bare⟩
theorem CR.xe {Q:QK}{E:XQ}{r:Result} (x:CR G z Q E r s):CR { G with ex:=e } z Q E r s:=by
 cases r with
 |error v=>obtain⟨y,z',h1,h2,h3⟩:=x;exact⟨y,z',h1.xe e,h2,h3⟩
 |ok fl=>
  cases fl with
  |ret u=>obtain⟨d,z',h1,h2,h3⟩:=x;exact⟨d,z',h1.xe e,h2.xe e,h3⟩
  |next=>exact x
  |brk=>exact x
  |cont=>exact x
end
section
variable {G:Gx}{j k:Nat}{f:Addr}{fd:FuncData}{ps:List Str}{sp k7:Sp}{A:Around}{outer:List Env}{z:Z}
theorem a6.mono (F:a6 G j f fd ps sp) (h:j<=k):a6 G k f fd ps sp:=⟨F.len,λA outer z args us ds Q E hr=>F.dX A outer z args us ds Q E (hr.mono h)⟩
theorem a6.imp (F:a6 G k f fd ps sp) (h:∀ds M Q E,k7 ds M Q E->sp ds M Q E):a6 G k f fd ps k7:=
 ⟨λds M Q E q=>F.len ds M Q E (h _ _ _ _ q),λA outer z args us ds Q E hr he hb hv hs=>F.dX A outer z args us ds Q E hr he hb hv (h _ _ _ _ hs)⟩
theorem dH.make (e:dH G A outer z) (C:Addr) (us:List Value) (kw:List (Str×Value)):dH G (A.under (.builtin "type.__call__" ⟨.ref C::us,kw⟩)) outer z:=
 ⟨by first |exact e.frames |(simpa [Around.under,Code.envs,Code.isFrame,T2] using e.frames),e.mod,e.bs,e.bx,e.hok,e.bare⟩
theorem dH.bk (e:dH G A outer z):∀b o,G.base.get? b=some o->z.s.heap.get? b=some o:=λb o q=>e.hok.fz b _ (e.bs.b b o q)
end
theorem xR {F P:Fz}{b:Addr} (h:F b=none):N.aK F P b=none:=by
 cases q:P b with
 |none=>rw[ey q];exact h
 |some f=>exact ew q
def fj (sp:Sp) (a5:List D) (E:XQ) (t:DA):DE:=fun τ M q=>t τ M λds M1=>sp (ds++a5) M1 q E
def dt (X:Cx) (E:XQ):Prop:=∀x τ M,E x M->X.x x τ M
theorem dt.at {X:Cx}{E:XQ} {τ:St} (h:dt X E):∀x M,E x M->X.x x τ M:=λx M=>h x τ M
def d6 (X:Cx) (ds:List D) (us:List Value):Prop:=∀ τ z,aa X τ z->ag X.G z.F ds us
theorem ag.append {G:Gx}{F:Fz}{ds es:List D}{us vs:List Value} (a:ag G F ds us) (b:ag G F es vs):ag G F (ds++es) (us++vs):=by
 induction ds generalizing us with
 |nil=>rw[ag]at a;subst a;exact b
 |cons d ds ih=>rw[ag]at a;obtain⟨u,us,rfl,h1,h2⟩:=a;exact .cons h1 (ih h2)
section
variable {X:Cx}{k:Nat}{f C:Addr}{fd:FuncData}{ps:List Str}{sp:Sp}{a5:List D}{ds:List Value}{E:XQ}{x m:Str}{p pos cm:Pos}{e o:Expr}{es:List Expr}{ta:DE}{t:DA} {τ:St} {z:Z}{Q:QK}{R:Value->Shared->Prop}
theorem aa.Ge {z':Z}{s:Shared} (I:aa X τ z) (h:ju X.G ⟨aT z.F (X.aO z.s.heap),z.M,z.s⟩ z' s):∃z2:Z,z2.s=s/\z2.M=z'.M/\Le z.F z2.F/\aa X τ z2/\bW z'.F z2.F:=by
 obtain⟨rfl,l,ok,os,bare⟩:=h;exact⟨⟨N.aK z'.F (X.aO z.s.heap),z'.M,z'.s⟩,rfl,rfl,Le.aK (λb e=>(I.fN e).2) l,I.after l ok os bare,bW.aK X.qc l⟩
theorem xS {Q0:QK}{r:Result}{s':Shared} (hx:∀ x M,E x M->X.x x τ M) (I:aa X τ z) (h:CR X.G ⟨aT z.F (X.aO z.s.heap),z.M,z.s⟩ Q E r s') (K:∀ u d (z2:Z),z2.s=s'->Le z.F z2.F->aa X τ z2->ae X.G z2.F d u->Q d z2.M->R u s') :
  (match (generalizing:=false) r with |.ok (.ret u)=>R u s' |.ok _=>False |.error e=>XE X e s'):=by
 cases r with
 |error e=>
  obtain⟨x,z',h,⟨a,a0,rfl,y⟩,q⟩:=h;obtain⟨rfl,l,ok,os,bare⟩:=h;refine⟨x,τ,⟨N.aK z'.F (X.aO z.s.heap),z'.M,z'.s⟩,a,a0,_,rfl,I.after l ok os bare,rfl,⟨xR y.f,y.m,y.nd,?_⟩,.inr (.inl rfl),hx _ _ q⟩;obtain⟨oe,vs,h1,h2,h3,T,oT,ts,h4,h5,h6⟩:=y.o;exact⟨oe,vs,h1,h2,h3,T,oT,ts,h4,xR h5,h6⟩
 |ok fl=>
  cases fl with
  |ret u=>
   obtain⟨d,z',h,r,q⟩:=h;obtain⟨z2,e1,e2,l,J,ld⟩:=I.Ge h;exact K u d z2 e1 l J (r.up ld) (by rw[e2];exact q)
  |next=>exact h.elim
  |brk=>exact h.elim
  |cont=>exact h.elim
theorem nT {K0:PySem.W.Frag}{x:Fz}{us:List Value}{vs:List D} (F:a6 { X.G with ex:=x } k f fd ps sp) (hr:bq k X.A) (hb:bC K0 fd ps ds) (hd:d6 X a5 ds) (hx:∀x M,E x M->X.x x τ M) (I:aa X τ z) (lx:Le x (aT z.F (X.aO z.s.heap))) (hk:K0.In z.s.heap) (r:ag X.G z.F vs us) (h:sp (vs++a5) z.M Q E) (K:KE X τ z.F Q R):W X (call (.ref f) us) R z.s:=by
 have r2:ag X.G z.F (vs++a5) (us++ds):=r.append (hd τ z I);have hl:(us++ds).length=ps.length:=by rw[<- r2.len];exact F.len _ _ _ _ h
 refine wpAny_call (Zy (F.dX X.A X.stk ⟨aT z.F (X.aO z.s.heap),z.M,z.s⟩ ⟨us,[]⟩ (us++ds) (vs++a5) Q E hr (I.qe.xe x lx) (hb z.s us hk hl) ((r2.up I.cc.d).xe x) h) λr s' hq=>?_);have:=xS (Q0:=Q) hx I (hq.xe X.G.ex) λu d z2 e l J r q=>e ▸ K d z2 u l J r q;cases r with
 |error e=>exact this
 |ok fl=>cases fl <;> exact this
theorem nU {us:List Value}{vs:List D} (F:a6 X.G k f fd ps sp) (hr:bq k X.A) (hb:bC X.G.K fd ps ds) (hd:d6 X a5 ds) (hx:∀x M,E x M->X.x x τ M) (I:aa X τ z) (r:ag X.G z.F vs us) (h:sp (vs++a5) z.M Q E) (K:KE X τ z.F Q R):W X (call (.ref f) us) R z.s:=
 nT (x:=X.G.ex) F hr hb hd hx I (I.bs.x.tr I.cc) I.bp r h K
theorem xU (F:a6 X.G k f fd ps sp) (hr:bq k X.A) (hg:Gl X x) (hm:X.G.mg x=some (.ref f)) (hk:PySem.W.keepIn X.G.K (.ref f)=true) (hb:bC X.G.K fd ps ds) (hd:d6 X a5 ds) (hx:dt X E)
  (ha:PA X (e::es) t) (ce:(x == ("__debug__" : Str))=false) (he:starEach (e::es) X.env=(false,eval e X.env)::starEach es X.env) (bv:(backTo pos (starEach es X.env)).any (·.1)=false) :
  PE X (.Call (.Name x p) (e::es) [] pos) (fj sp a5 E t):=fun τ z Q R I h K=>
 Y8 (fb I hg hm ce (PySem.W.callWith_K (h₀:=X.G.base) I.ok.mod.ez hk (ha pos τ z _ _ I h λvs z1 us l1 I1 r q=>⟨I1.bp,nU F hr hb hd hx.at I1 r q λd z2 u l2=>K d z2 u (l1.tr l2)⟩) he bv))
theorem Gf (F:a6 X.G k f fd ps sp) (hr:bq k X.A) (hg:Gl X x) (hm:X.G.mg x=some (.ref f)) (hk:PySem.W.keepIn X.G.K (.ref f)=true) (hb:bC X.G.K fd ps ds) (hd:d6 X a5 ds) (hx:dt X E)
  (ce:(x == ("__debug__" : Str))=false):PE X (.Call (.Name x p) [] [] pos) (fj sp a5 E dJ):=fun τ z Q R I h K=>
 Y8 (fb I hg hm ce (PySem.W.callWith_K0 I.bp hk (nU (us:=[]) F hr hb hd hx.at I .nil h K)))
end
theorem XE.qU {X:Cx}{E0:XQ}{z0:Z}{Q:QK}{e:Value}{s:Shared}{E:Value->Shared->Prop}{R:Unit->Shared->Prop} (h:XE X e s) (hx:∀ x τ M,X.x x τ M->E0 x M) (hF:X.F0=z0.F) (ho:X.os=z0.s.os) (k:∀ s',CR X.G z0 Q E0 (.error e) s'->R () s') :
  wpAny (model X.G.P X.G.w) X.A (leaving X.env e) R E s:=by
 obtain⟨x,τ,z,a,a0,fo,rfl,I,rfl,h1,h2,h3⟩:=h;obtain⟨hs,hf⟩:=I.ok.xs _ _ _ h3;exact Ed I hs hf h1 h2 λh' I' x'=>k _ ⟨x,⟨z.F,z.M,{ z.s with heap:=h' }⟩,⟨rfl,hF ▸ I'.f0,I'.hok,I'.os.trans ho,I'.bare⟩,⟨a,a0,rfl,x'⟩,hx _ _ _ h3⟩
noncomputable def start (N:List Str) (ds:List D):St:=ds.map some++Y' (N.length-ds.length) none
noncomputable def bQ (G:Gx) (N:List Str) (qual:Str) (scope:Scope) (f:Addr) (cd:Value) (A:Around) (outer:List Env) (z:Z) (E:XQ):Cx where
 G:=G
 A:=A.deeper (envOfC qual scope z.s.heap.objs.size f cd)
 N:=N
 os:=z.s.os
 env:=envOfC qual scope z.s.heap.objs.size f cd
 outer:=outer
 stk:=envOfC qual scope z.s.heap.objs.size f cd::outer
 fn:=λ_=>true
 calm:=true
 x:=λx _ M=>E x M
 F0:=z.F
theorem Gg {G:Gx}{N ps:List Str}{qual:Str}{scope:Scope}{f:Addr}{cd:Value}{A:Around}{outer:List Env}{z:Z}{s1:Shared}{E:XQ}{us:List Value}{ds:List D}
  (S:ay N ps scope) (hd:A.handled=none) (e0:dH G A outer z) (hl:ds.length=ps.length) (r:ag G z.F ds us)
  (x:InCallC z.s z.s.heap.objs.size (bindL (envOfC qual scope z.s.heap.objs.size f cd).kindOf (ps.zip us) λ_=>none) (cellsFrom (z.s.heap.objs.size+1) scope.names []) (bindC (envOfC qual scope z.s.heap.objs.size f cd).kindOf (ps.zip us) λ_=>none) s1) :
  aa (bQ G N qual scope f cd A outer z E) (start N ds) ⟨z.F,z.M,s1⟩:=by
 have bv:ps.length<=N.length:=by have:=congrArg List.length S.pre;rw[List.length_take]at this;lia
 obtain⟨h1,tk,rfl,hk⟩:=x.done;refine⟨⟨e0.mod,S.kind,rfl,rfl,λy w c h1 h2=>?_,λy hy=>?_,λ_=>hd,Around.frames_deeper e0.frames,.inr ⟨rfl,rfl⟩,λ_ _ _ _=>⟨rfl,rfl⟩⟩,e0.bs,rfl,e0.bare,e0.bx,⟨_,x.toInCall.ns,λi y v h1 h2 h3=>?_⟩,λy c h=>?_,⟨e0.hok.ck (Yr _),e0.hok.c0 (Yr _)⟩,e0.hok.keep λb _ o q=>hk b o q,?_,Le.rfl⟩
 ·exact name_of_addr x.apart (PySem.mem_of_lookup h1) (PySem.mem_of_lookup h2)
 ·have hy:scope.names.lookup y=some .cell\/scope.names.lookup y=some .free:=hy;rcases hy with hy |hy
  ·exact xl hy
  ·exact absurd rfl (S.Fm _ (PySem.mem_of_lookup hy))
 ·have hi:i<ds.length:=by
   unfold start at h2;by_cases hi:i<ds.length
   ·exact hi
   ·rw[Y1 (by simpa using hi),List.getElem?_replicate]at h2;split at h2 <;> cases h2
  have ha:ds[i]?=some v:=by
   unfold start at h2;rw[Y5 (by simpa using hi),Yz]at h2;cases e:ds[i]? with
   |none=>rw[e]at h2;cases h2
   |some a=>rw[e]at h2;cases h2;rfl
  obtain⟨u,hu,rv⟩:=r.get ha;have hp:ps[i]?=some y:=by rw[<- S.pre,List.getElem?_take_of_lt (by lia)];exact h1
  have xz:ps.Nodup:=by rw[<- S.pre];exact S.nd.sublist (List.take_sublist _ _)
  refine⟨u,rv,?_⟩;rcases S.xg y (Y4 hp) with k |k
  ·exact .inl ⟨k,xj xz hp hu k⟩
  ·obtain⟨c,e⟩:=xl (n:=z.s.heap.objs.size+1) k;refine .inr ⟨.inl k,c,e,?_⟩;have q:=x.cell y c e;rw[xk xz hp hu (by show scope.names.lookup y≠_;rw[k];decide)]at q;exact q
 ·have:=Nat.le_of_lt (x.above y c (PySem.mem_of_lookup h));exact⟨⟨_,x.cell y c h⟩,e0.hok.c0 this,.inl ⟨rfl,e0.hok.ck this⟩⟩
 ·unfold start;show _=N.length;rw[YB,Ym,List.length_replicate];lia
theorem nV {G:Gx}{k:Nat}{f:Addr}{name qual:Str}{params:Arguments}{body:List Stmt}{scope:Scope}{Vs kV doc pm ap ct oc:Value}{an od:Option Addr}{bY:Array (Option Value)}{N ps:List Str}{sp:Sp}
  (lk:G.K.lookup f=some ⟨oc,od,.func (PySem.W.fnOf name qual params body scope Vs kV doc pm an ap ct),bY⟩) (cL:PySem.W.codeIn G.K ap qual=true) (S:ay N ps scope) (len:∀ds M Q E,sp ds M Q E->ds.length=ps.length)
  (Gc:∀(A:Around) (outer:List Env) (z:Z) (M:Mp) (ds:List D) (Q:QK) (E:XQ),bq k (A.deeper (envOfC qual scope z.s.heap.objs.size f ap))->sp ds M Q E ->
   ∃t,bR (bQ G N qual scope f ap A outer z E) body t/\t { nx:=λ_ M'=>Q .aj M',rt:=Q } (start N ds) M) :
  a6 G (k+1) f (PySem.W.fnOf name qual params body scope Vs kV doc pm an ap ct) ps sp:=by
 refine⟨len,λA outer z args us ds Q E hr e0 hb r jp=>?_⟩;have hl:=len _ _ _ _ jp;have KX:G.K.In z.s.heap:=e0.mod.ez.keeps e0.bk;have je:z.s.heap.NoLimit:=e0.mod.je.keeps e0.bk;have Gh:∀y∈ps.zip us,scope.names.lookup y.1=some .local\/(scope.names.lookup y.1=some .cell/\((cellsFrom (z.s.heap.objs.size+1) scope.names []).lookup y.1).isSome=true):=λ⟨n,v⟩ hy=>by
  rcases S.xg n (ZP hy).1 with q |q
  ·exact .inl q
  ·exact .inr ⟨q,PySem.W.cellsFrom_some _ _ _ (.inl q)⟩
 refine codeAny_call_function hr.depth (KX _ _ lk) rfl S.Vq S.jn rfl (PySem.W.codeRec_of KX cL) (hb _ _ _ _ ?_);refine wpAny_newFunctionEnv_cells S.kind Gh λenv he s1 x=>?_;subst he;refine⟨je.keeps x.toInCall.keep,codeAny_func ?_⟩;obtain⟨t,ht,hq⟩:=Gc A outer z z.M ds Q E (hr.deeper _) jp;refine Zm (ht (start N ds) ⟨z.F,z.M,s1⟩ _ (λfl s'=>match fl with |.ret u=>CR G z Q E (.ok (.ret u)) s' |.next=>CR G z Q E (.ok (.ret .none)) s' |_=>False) (Gg S hr.hd e0 hl r x) hq
  ⟨fun τ z1 l J q=>⟨.aj,z1,⟨rfl,l,J.hok,J.os,J.bare⟩,by rw[ae],q⟩,λd τ z1 u l J rd q=>⟨d,z1,⟨rfl,l,J.hok,J.os,J.bare⟩,rd,q⟩,λ_ _ _ _ q=>q,λ_ _ _ _ q=>q⟩) (λfl s' hs=>?_) λe s' hs=>hs.qU (E0:=E) (z0:=z) (Q:=Q) (λ_ _ _ h=>h) rfl rfl λs2 h=>h
 cases fl <;> first |exact hs |exact False.elim hs
end N
end
section
set_option maxHeartbeats 1000000
namespace N
open PySem PySem.Spec PyProof.Rows L2
noncomputable def fk (f:Str) (d:D):List (Str×D)->List (Str×D)
 |[]=>[(f,d)]
 |p::r=>if p.1=f then (f,d)::r else p::fk f d r
theorem jv (g:Str) (p:Str×D) (r:List (Str×D)):(p::r).lookup g=if g=p.1 then some p.2 else r.lookup g:=by
 by_cases h:g=p.1
 ·rw[if_pos h,List.lookup,beq_iff_eq.mpr h]
 ·rw[if_neg h,List.lookup,beq_eq_false_iff_ne.mpr h]
theorem qV (f g:Str) (d:D):∀fs:List (Str×D),(fk f d fs).lookup g=if g=f then some d else fs.lookup g
 |[]=>jv g (f,d) []
 |p::r=>by
  unfold fk;by_cases h:p.1=f
  ·rw[if_pos h,jv,jv,h];by_cases q:g=f
   ·rw[if_pos q,if_pos q]
   ·rw[if_neg q,if_neg q,if_neg q]
  ·rw[if_neg h,jv,jv,qV f g d r];by_cases q:g=p.1
   ·rw[if_pos q,if_neg λe=>h (q.symm.trans e)];rw[if_pos q]
   ·rw[if_neg q,if_neg q]
theorem xV (f:Str) (d:D):∀fs:List (Str×D),(fk f d fs).length<=fs.length+1
 |[]=>Yr _
 |p::r=>by
  unfold fk;split
  ·exact Nat.le_succ _
  ·exact Nat.succ_le_succ (xV f d r)
theorem xW {g:Str}:∀{fs:List (Str×D)},fs.lookup g≠none->g∈fs.map (·.1)
 |[],h=>absurd rfl h
 |p::r,h=>by
  rw[jv]at h;by_cases q:g=p.1
  ·rw[q];exact Ys
  ·rw[if_neg q]at h;exact Yt _ (xW h)
theorem Gi {G:Gx}{F:Fz}{d:D}{u:Value} (r:ae G F d u):PySem.W.handedIn u=true:=by
 cases d <;> rw[ae]at r <;> first |(subst r;rfl) |(obtain⟨t,rfl⟩:=r;rfl) |(obtain⟨a,_,_,rfl,_⟩:=r;rfl) |(obtain⟨a,_,rfl,_⟩:=r;rfl)
def cq (d:D) (M:Mp) (k:Addr->Addr->Addr->List (Str×D)->Prop):Prop:=match d with
 |.ref a=>∃C dx fs,M a=some (.ins C dx fs)/\k a C dx fs
 |_=>False
def qW (K:PySem.W.Frag) (f:Str):Q1:=λx M q=>cq x M λa C dx fs=>∃d,(cP K C/\d5 K C f)/\fs.lookup f=some d/\q d M
def qX (K:PySem.W.Frag) (f:Str) (o d:D) (M:Mp) (k:Mp->Prop):Prop:=cq o M λa C dx fs=>(cP K C/\d5 K C f)/\fs.length<1000/\k (up M a (.ins C dx (fk f d fs)))
def k8 (C:Addr) (m:Str) (sp:Sp) (a5:List D) (E:XQ) (to:DE) (t:DA):DE:=fun τ M q=>to τ M λo M1=>cq o M1 λ_ C' _ fs=>C'=C/\fs.lookup m=none/\t τ M1 λds M2=>sp (o::(ds++a5)) M2 q E
def qY (C:Addr) (sp:Sp) (a5:List D) (E:XQ) (t:DA):DE:=fun τ M q=>t τ M λds M1=>∀x dx,M1 x=none->M1 dx=none->dx≠x ->
 sp (.ref x::(ds++a5)) (up (up M1 dx (.own x)) x (.ins C dx [])) (λv M2=>v=.aj/\q (.ref x) M2) E
section
variable {X:Cx} {τ:St} {z:Z}{C:Addr}{f m:Str}{o e value:Expr}{es:List Expr}{to tv:DE}{t:DA}{pos cm qZ T3 p:Pos}{d:D}{v u:Value}
theorem aa.cq {k:Addr->Addr->Addr->List (Str×D)->Prop} (I:aa X τ z) (r:ae X.G z.F d u) (h:cq d z.M k):∃a C dx fs mA,u=.ref a/\z.M a=some (.ins C dx fs)/\ip z.s.heap a dx C mA/\(∀f,fL X.G z.F (fs.lookup f) (mA f))/\PySem.Within mA (fs.map (·.1))/\z.M dx=some (.own a)/\k a C dx fs:=by
 unfold N.cq at h;split at h
 ·rename_i a;obtain⟨C,dx,fs,e,h⟩:=h;rw[ae]at r;obtain⟨d,_,ne,ob,mA,n,rr,q⟩:=(I.hok.ob a _ e).2;exact⟨a,C,dx,fs,mA,r,e,⟨ob,n,ne⟩,rr,q,d,h⟩
 ·exact h.elim
theorem Gj {b:Bool}:O1 X (λv=>getAttr v f b) (qW X.G.K f):=fun τ z Q R d v I r h k=>by
 obtain⟨a,C,dx,fs,mA,rfl,e,O,rr,_,_,d',⟨c,n⟩,l,q⟩:=I.cq r h;have rf:=rr f;rw[l]at rf;cases e':mA f with
 |none=>rw[e']at rf;exact rf.elim
 |some w=>rw[e']at rf;exact Ft I.bp O (c.get f) c.hd n e' (Gi rf) (k d' ⟨z.F,z.M,_⟩ w Le.rfl (I.mU _) rf q)
theorem Gk {Q:Mp->Prop}{R:Unit->Shared->Prop}{od:D}{ov:Value} (I:aa X τ z) (ro:ae X.G z.F od ov) (rd:ae X.G z.F d u) (h:qX X.G.K f od d z.M Q) (k:∀z',z'.F=z.F->aa X τ z'->Q z'.M->R () z'.s):W X (setAttr ov f u) R z.s:=by
 obtain⟨a,C,dx,fs,mA,rfl,e,O,rr,wi,ho,⟨c,n⟩,hl,q⟩:=I.cq ro h;have hz:(fs.map (·.1)).length<=sizeLine:=by rw[Ym,aao];lia
 refine Fv I.bp O c.sa c.WZ n.FC c.hd wi hz λh' O' sb=>k ⟨z.F,_,_⟩ rfl (I.put (o':=.ins C dx (fk f d fs)) e rfl (.inr ho) (λb hb o q=>(sb.2 b hb).trans q) (let ⟨o,_,_,e',_⟩:=O'.ns;⟨o,e'⟩) ?_) q
 refine⟨by rw[ax O.ne];exact ho,Yy (xV f d fs) hl,O.ne,O'.obj,_,O'.ns,λg=>?_,λg hg=>xW ?_⟩
 ·show fL _ _ ((fk f d fs).lookup g) (if g=f then some u else mA g)
  rw[qV];by_cases q:g=f
  ·rw[if_pos q,if_pos q];exact rd
  ·rw[if_neg q,if_neg q];exact rr g
 ·rw[qV];by_cases q:g=f
  ·rw[if_pos q];exact YI d
  ·have hg:(if g=f then some u else mA g)≠none:=hg
   rw[if_neg q]at hg ⊢;have:=rr g;cases e1:fs.lookup g with
   |some _=>exact YI _
   |none=>rw[e1]at this;cases e2:mA g with
    |none=>exact absurd e2 hg
    |some _=>rw[e2]at this;exact this.elim
variable {k:Nat}{g:Addr}{fd:FuncData}{ps:List Str}{sp:Sp}{a5:List D}{ds:List Value}{E:XQ}{x:Str}
theorem xX {pl:Sem Bool}{args:List Expr} (ho:PE X o to) (c:cP X.G.K C) (hm:jo X.G.K C m g) (F:a6 X.G k g fd ps sp) (hr:bq k X.A) (hb:bC X.G.K fd ps ds) (hd:d6 X a5 ds) (hx:dt X E)
  (ht:eval (.Call (.Attribute o m cm) args [] pos) X.env=(do
   let ov <- eval o X.env
   standAt cm.atName
   let (f,first) <- holding [ov] (getMethod ov m pl)
   callWith pos f first (backTo pos (starEach args X.env)) (backToKw pos (keywordEach [] X.env))))
  (ha:∀ τ z a R Q,aa X τ z->t τ z.M Q->(∀ds z' us,Le z.F z'.F->aa X τ z'->ag X.G z'.F ds us->Q ds z'.M->W X (call (.ref g) (.ref a::us)) R z'.s)->W X (callWith pos (.ref g) [.ref a] (backTo pos (starEach args X.env)) (backToKw pos (keywordEach [] X.env))) R z.s) :
  PE X (.Call (.Attribute o m cm) args [] pos) (k8 C m sp a5 E to t):=fun τ z Q R I h K=>
 PySem.W.methodCall_KW (pl:=pl) (ho τ z _ _ I h λod z1 u l1 I1 r1 q1=>by
  obtain⟨a,C',dx,fs,mA,rfl,e,O,rr,wi,ho,rfl,l,q⟩:=I1.cq r1 q1;have hn:mA m=none:=by have:=rr m;rw[l]at this;cases e2:mA m with
   |none=>rfl
   |some _=>rw[e2]at this;exact this.elim
  exact Fu I1.bp O (c.get m) hm.bK hm.fn hn (ha τ z1 a R _ I1 q λds z2 us l2 I2 r2 q2=>nU F hr hb hd hx.at I2 (.cons (r1.up l2.d) r2) q2 λd z3 u l3=>K d z3 u (l1.tr (l2.tr l3)))) ht
theorem Gm {pl:Sem Bool} (ho:PE X o to) (c:cP X.G.K C) (hm:jo X.G.K C m g) (F:a6 X.G k g fd ps sp) (hr:bq k X.A) (hb:bC X.G.K fd ps ds) (hd:d6 X a5 ds) (hx:dt X E) (ha:PA X (e::es) t)
  (cf:starEach (e::es) X.env=(false,eval e X.env)::starEach es X.env) (bv:(backTo pos (starEach es X.env)).any (·.1)=false)
  (ht:eval (.Call (.Attribute o m cm) (e::es) [] pos) X.env=(do
   let ov <- eval o X.env
   standAt cm.atName
   let (f,first) <- holding [ov] (getMethod ov m pl)
   callWith pos f first (backTo pos (starEach (e::es) X.env)) (backToKw pos (keywordEach [] X.env)))):PE X (.Call (.Attribute o m cm) (e::es) [] pos) (k8 C m sp a5 E to t):=
 xX ho c hm F hr hb hd hx ht fun τ z a R Q I q K=>PySem.W.callWith_K (first:=[.ref a]) (h₀:=X.G.base) I.ok.mod.ez hm.kp (ha pos τ z _ _ I q λds z2 us l2 I2 r2 q2=>⟨I2.bp,K ds z2 us l2 I2 r2 q2⟩) cf bv
theorem Gq {pl:Sem Bool} (ho:PE X o to) (c:cP X.G.K C) (hm:jo X.G.K C m g) (F:a6 X.G k g fd ps sp) (hr:bq k X.A) (hb:bC X.G.K fd ps ds) (hd:d6 X a5 ds) (hx:dt X E)
  (ht:eval (.Call (.Attribute o m cm) [] [] pos) X.env=(do
   let ov <- eval o X.env
   standAt cm.atName
   let (f,first) <- holding [ov] (getMethod ov m pl)
   callWith pos f first (backTo pos (starEach [] X.env)) (backToKw pos (keywordEach [] X.env)))):PE X (.Call (.Attribute o m cm) [] [] pos) (k8 C m sp a5 E to dJ):=
 xX ho c hm F hr hb hd hx ht fun τ z a R Q I q K=>PySem.W.callWith_K0 (first:=[.ref a]) I.bp hm.kp (K [] z [] Le.rfl I .nil q)
theorem aa.made (I:aa X τ z):aa X τ ⟨z.F,up (up z.M z.s.heap.objs.size (.own (z.s.heap.objs.size+1))) (z.s.heap.objs.size+1) (.ins C z.s.heap.objs.size []),{ z.s with heap:=(z.s.heap.push PySem.W.emptyDict).push (PySem.W.instObj C z.s.heap.objs.size) }⟩:=by
 have e1:(z.s.heap.push PySem.W.emptyDict).get? z.s.heap.objs.size=some PySem.W.emptyDict:=Yp z.s.heap rfl;have e2:((z.s.heap.push PySem.W.emptyDict).push (PySem.W.instObj C z.s.heap.objs.size)).get? (z.s.heap.objs.size+1)=some (PySem.W.instObj C z.s.heap.objs.size):=by
  have:=Yp (z.s.heap.push PySem.W.emptyDict) (o:=PySem.W.instObj C z.s.heap.objs.size) rfl
  rwa [YR]at this
 have e3:(z.s.heap.push PySem.W.emptyDict).Ns z.s.heap.objs.size (λ_=>none):=⟨PySem.W.emptyDict,#[],_,e1,rfl,(λe he=>absurd he (by simp)),λ_=>rfl⟩;have ne:z.s.heap.objs.size≠z.s.heap.objs.size+1:=Yx (ZK _);have I1:=I.lay (a:=z.s.heap.objs.size) (o:=.own (z.s.heap.objs.size+1)) (h':=z.s.heap.push PySem.W.emptyDict) (t:=z.s.toks) (λb u q=>Yk _ q) (Yr _) ⟨_,e1⟩;exact I1.lay (a:=z.s.heap.objs.size+1) (o:=.ins C z.s.heap.objs.size []) (t:=z.s.toks) (λb u q=>Yk _ q) (aae (YR _ _))
  ⟨by rw[ax ne];exact au,YE _,ne,e2,λ_=>none,(Heap.Ns1.of_empty e3).at λo q=>Yk _ q,λ_=>aai,λy hy=>absurd rfl hy⟩
theorem xY {us:List Value}{vs:List D}{Q:QK}{R:Value->Shared->Prop} (M:Mk X.G.K C g) (F:a6 X.G k g fd ps sp) (hr:bq (k+1) X.A) (hb:bC X.G.K fd ps ds) (hd:d6 X a5 ds) (hx:dt X E) (I:aa X τ z) (r:ag X.G z.F vs us)
  (h:∀x dx,z.M x=none->z.M dx=none->dx≠x->sp (.ref x::(vs++a5)) (up (up z.M dx (.own x)) x (.ins C dx [])) (λv M2=>v=.aj/\Q (.ref x) M2) E) (K:KE X τ z.F Q R):W X (call (.ref C) us) R z.s:=by
 have hq:=h (z.s.heap.objs.size+1) z.s.heap.objs.size (I.hok.c0 (Nat.le_succ _)) (I.hok.c0 (Yr _)) (Yx (ZK _));have I2:=aa.made (C:=C) I;have r2:ag X.G z.F (D.ref (z.s.heap.objs.size+1)::(vs++a5)) (YF (z.s.heap.objs.size+1)::(us++ds)):=.cons (by rw[ae]) (r.append (hd τ z I));have hl:(YF (z.s.heap.objs.size+1)::us++ds).length=ps.length:=by
  have e:=r2.len;rw[F.len _ _ _ _ hq]at e;exact e.symm
 refine wpAny_call (FA (f:=g) I.bp M.FE M.init (beq_iff_eq.mp M.fn) (Zy (F.dX _ X.stk _ ⟨YF (z.s.heap.objs.size+1)::us,[]⟩ (YF (z.s.heap.objs.size+1)::(us++ds)) _ _ E (hr.make C us [])
  (I2.qe.make C us []) (hb _ (YF (z.s.heap.objs.size+1)::us) I2.bp hl) (r2.up I2.cc.d) hq) λr s' hq'=>?_))
 have:=xS (Q0:=Q) (R:=λu s'=>u=.none/\R (.ref (z.s.heap.objs.size+1)) s') hx.at I2 hq' λu d z2 e l J r q=>by
  obtain⟨rfl,q⟩:=q;rw[ae]at r;exact⟨r,e ▸ K _ z2 _ l J (by rw[ae]) q⟩
 cases r with
 |error e=>exact this
 |ok fl=>cases fl <;> exact this
theorem Gr (M:Mk X.G.K C g) (F:a6 X.G k g fd ps sp) (hr:bq (k+1) X.A) (hg:Gl X x) (hm:X.G.mg x=some (.ref C)) (hb:bC X.G.K fd ps ds) (hd:d6 X a5 ds) (hx:dt X E)
  (ha:PA X (e::es) t) (ce:(x == ("__debug__" : Str))=false) (he:starEach (e::es) X.env=(false,eval e X.env)::starEach es X.env) (bv:(backTo pos (starEach es X.env)).any (·.1)=false) :
  PE X (.Call (.Name x p) (e::es) [] pos) (qY C sp a5 E t):=fun τ z Q R I h K=>
 Y8 (fb I hg hm ce (PySem.W.callWith_K (h₀:=X.G.base) I.ok.mod.ez M.kp (ha pos τ z _ _ I h λvs z1 us l1 I1 r q=>⟨I1.bp,xY M F hr hb hd hx I1 r q λd z2 u l2=>K d z2 u (l1.tr l2)⟩) he bv))
theorem Gs (M:Mk X.G.K C g) (F:a6 X.G k g fd ps sp) (hr:bq (k+1) X.A) (hg:Gl X x) (hm:X.G.mg x=some (.ref C)) (hb:bC X.G.K fd ps ds) (hd:d6 X a5 ds) (hx:dt X E)
  (ce:(x == ("__debug__" : Str))=false):PE X (.Call (.Name x p) [] [] pos) (qY C sp a5 E dJ):=fun τ z Q R I h K=>
 Y8 (fb I hg hm ce (PySem.W.callWith_K0 I.bp M.kp (xY (us:=[]) M F hr hb hd hx I .nil h K)))
end
end N
end
section
set_option maxHeartbeats 1000000
namespace N
open PySem PySem.Spec PyProof.Rows L2
def xZ:Q1:=λx M q=>bS x λi=>q (.int (-i)) M
abbrev DO:=St->Mp->(Option Int->Mp->Prop)->Prop
def x5:DO:=λ_ M q=>q none M
def x6 (t:DE):DO:=fun τ M q=>t τ M λx M1=>bS x λi=>q (some i) M1
noncomputable def du (xs:List D) (lo hi:Option Int):List D:=(xs.drop (HT.aB xs.length 0 lo)).take (HT.aB xs.length xs.length hi-HT.aB xs.length 0 lo)
def q8 (x:D) (lo hi:Option Int) (M:Mp) (Q:QK):Prop:=match x with
 |.tup ds=>Q (.tup (du ds lo hi)) M
 |.str w=>w.length<=sizeLine/\Q (.str (Txt.slice w lo hi)) M
 |x=>bf x M λxs=>bL (du xs lo hi) M Q
def x7 (te:DE) (tl th:DO):DE:=fun τ M q=>te τ M λx M1=>tl τ M1 λl M2=>th τ M2 λh M3=>q8 x l h M3 q
def q9:Q1:=λx M q=>match x with
 |.tup ds=>q (.tup ds.reverse) M
 |x=>bf x M λds=>bL ds.reverse M q
section
variable {X:Cx}{e:Expr}{te:DE}{lo hi:Option Expr}{tl th:DO}{pos p2 p3 p4:Pos}
theorem x8 {op:UnaryOp}{r:Q1} (ho:O1 X (unaryOp op) r) (h:PE X e te):PE X (.UnaryOp op e pos) (ji r te):=fun τ z Q R I q k=>
 UnaryOp_ (h τ z _ _ I q λd z1 u l1 I1 r1 q1=>ho τ z1 Q R d u I1 r1 q1 λd z2 u l2=>k d z2 u (l1.tr l2))
theorem x9:O1 X (unaryOp .USub) xZ:=fun τ z Q R d v I r q k=>by
 obtain⟨i,t,rfl,q⟩:=cN q r;exact neg_int (I.fin k Le.rfl bX q _)
def PO (X:Cx) (e:Option Expr) (t:DO):Prop:=∀ τ z Q R,aa X τ z->t τ z.M Q->(∀o z' u,Le z.F z'.F->aa X τ z'->IsPart u o->Q o z'.M->R u z'.s)->W X (evalPart e X.env) R z.s
theorem Gu:PO X none x5:=fun τ z Q R I h k=>by rw[evalPart_none];exact Yl (k none z .none Le.rfl I .none h)
theorem Gv (h:PE X e te):PO X (some e) (x6 te):=fun τ z Q R I hw k=>by
 rw[evalPart_some];exact h τ z _ _ I hw λd z1 u l1 I1 r1 q1=>by
  obtain⟨i,t,rfl,q⟩:=cN q1 r1;exact k (some i) z1 _ l1 I1 (.int i t) q
theorem ya (xs:List D) (lo hi:Option Int):(du xs lo hi).length<=xs.length:=by
 unfold du;rw[List.length_take,List.length_drop];lia
theorem ag.cJ {G:Gx}{F:Fz}{ds:List D}{us:List Value} (r:ag G F ds us) (i j:Nat):ag G F ((ds.drop i).take j) ((us.drop i).take j):=by
 have VP:∀(i:Nat) {ds:List D}{us:List Value},ag G F ds us->ag G F (ds.drop i) (us.drop i):=λi=>by
  induction i with
  |zero=>exact λr=>r
  |succ i ih=>intro ds us r;cases ds with
   |nil=>rw[ag]at r;subst r;exact .nil
   |cons d ds=>rw[ag]at r;obtain⟨u,us,rfl,_,r⟩:=r;exact ih r
 have tk:∀(i:Nat) {ds:List D}{us:List Value},ag G F ds us->ag G F (ds.take i) (us.take i):=λi=>by
  induction i with
  |zero=>exact λr=>by rw[List.take_zero,List.take_zero];exact .nil
  |succ i ih=>intro ds us r;cases ds with
   |nil=>rw[ag]at r;subst r;exact .nil
   |cons d ds=>rw[ag]at r;obtain⟨u,us,rfl,h,r⟩:=r;exact .cons h (ih r)
 exact tk j (VP i r)
theorem ag.rev {G:Gx}{F:Fz}:∀{ds:List D}{us:List Value},ag G F ds us->ag G F ds.reverse us.reverse
 |[],us,r=>by rw[ag]at r;subst r;exact .nil
 |d::ds,us,r=>by rw[ag]at r;obtain⟨u,us,rfl,h,r⟩:=r;rw[Zz,Zz];exact (ag.rev r).app (.cons h .nil)
theorem Gw {τ:St} {z:Z}{x:D}{v vl vu:Value}{lo hi:Option Int}{sl:Addr}{Q:QK}{R:Value->Shared->Prop} (I:aa X τ z) (r:ae X.G z.F x v) (hs:z.s.heap.IsSliceOf sl vl vu .none) (pl:IsPart vl lo) (pu:IsPart vu hi) (q:q8 x lo hi z.M Q) (K:KE X τ z.F Q R) :
  ∃T id,typeLookup (.type T) "__getitem__"=pure (some (.builtin id))/\z.s.TypeIs v T/\W X (getItem v (.ref sl)) R z.s:=by
 have lst:(bf x z.M λxs=>bL (du xs lo hi) z.M Q)->∃T id,typeLookup (.type T) "__getitem__"=pure (some (.builtin id))/\z.s.TypeIs v T/\W X (getItem v (.ref sl)) R z.s:=λq=>by
  obtain⟨a,ds,us,n,rfl,l,q⟩:=I.bf r q;have hlen:=l.r.len;have hz:=l.z;have hc:(du ds lo hi).length<=sizeLine:=Yy (ya ds lo hi) (by rw[hlen];exact hz);refine⟨"list",_,slot_list_getitem.lookup,l.p.isList.typeIs,wpAny_getItem_list_slice l.p.isList hs pl pu .none (by simp) ?_ (by rw[Yn] <;> lia)⟩;have rc:ag X.G z.F (du ds lo hi) _:=l.r.cJ (HT.aB ds.length 0 lo) (HT.aB ds.length ds.length hi-HT.aB ds.length 0 lo);rw[Ff,<- hlen];exact I.lst (n:=0) (t:=z.s.toks) K Le.rfl rc (λb ob q=>Yk _ q) (Yr _) (Yp _ rfl) (by rw[<- rc.len];exact hc) q
 unfold q8 at q;split at q
 ·rename_i ds;obtain⟨a,us,o,rfl,p⟩:=I.cM r;have hl:=p.r.len;have hlen:us.toArray.size=ds.length:=by rw[Yn];exact hl.symm
  refine⟨"tuple",_,PyProof.Rows.slot_tuple_getitem.lookup,p.p.typeIs,?_⟩;by_cases w:HT.aB ds.length 0 lo=0/\HT.aB ds.length ds.length hi=ds.length
  ·have e:du ds lo hi=ds:=by
    unfold du;rw[w.1,w.2,List.drop_zero,Nat.sub_zero,List.take_length]
   rw[e]at q;exact Fh p.p hs pl pu (by rw[hlen];exact w) (K _ z _ Le.rfl I r q)
  ·have rc:ag X.G z.F (du ds lo hi) _:=p.r.cJ (HT.aB ds.length 0 lo) (HT.aB ds.length ds.length hi-HT.aB ds.length 0 lo);refine HT.Fd p.p hs pl pu (by rw[hlen];exact w) ?_ (by rw[Yn];exact p.t.len);rw[hlen];exact I.tup (t:=z.s.toks) K Le.rfl rc (λb ob q=>Yk _ q) (Yr _) (Yp _ rfl) ⟨rfl,rfl,⟨_,rfl⟩,by rw[<- rc.len];exact Yy (ya ds lo hi) (by rw[hl];exact p.t.len)⟩ q
 ·rename_i w;rw[ae]at r;obtain⟨t,rfl⟩:=r;obtain⟨hz,q⟩:=q;have fin:∀ (t':Tok) (k:Nat),R (.str (Txt.slice w lo hi) t') { z.s with toks:=k }:=λt' k=>I.fin K Le.rfl gC q _;refine⟨"str",_,F.slot_str_getitem.lookup,typeIs_str _ _ _,?_⟩;obtain⟨os,cO,gL,ev⟩:=hs;have Wh:∀ {v:Value}{o:Option Int},IsPart v o->∃ l:Option (Int×Tok),v=(match l with | some p=>.int p.1 p.2 | none=>.none)/\o=l.map (·.1):=λp=>by
   cases p with
   |none=>exact⟨none,rfl,rfl⟩
   |int i t=>exact⟨some (i,t),rfl,rfl⟩
  obtain⟨l,rfl,rfl⟩:=Wh pl;obtain⟨u,rfl,rfl⟩:=Wh pu;refine wpAny_getItem_str_slice (l:=l) (u:=u) (st:=none) ⟨os,cO,gL,?_⟩ rfl (post_val_or_str ⟨Yy (Txt.slice_le w _ _) hz,fin⟩);cases l <;> cases u <;> exact ev
 ·exact lst q
theorem Gy (he:PE X e te) (hl:PO X lo tl) (hu:PO X hi th) (hs:∀o i,subscripted (.Slice lo hi none p2) false o i=operate [i,o] (getItem o i)):PE X (.Subscript e (.Slice lo hi none p2) pos) (x7 te tl th):=fun τ z Q R I h K=>
 Subscript_ (he τ z _ _ I h λx z1 v l1 I1 r1 q1=>wpAny_Slice (hl τ z1 _ _ I1 q1 λl z2 vl l2 I2 pl q2=>hu τ z2 _ _ I2 q2 λu z3 vu l3 I3 pu q3=>by
  rw[evalPart_none];have I4:aa X τ ⟨z3.F,z3.M,{ z3.s with heap:=z3.s.heap.push { cls:=.type "slice",data:=.fields #[vl,vu,.none] } }⟩:=I3.kept (t:=z3.s.toks) λb ob q=>Yk _ q;obtain⟨T,id,hT,ht,hg⟩:=Gw I4 (r1.up (l2.tr l3).d) (Heap.IsSliceOf.new ..) pl pu q3 λd z u l=>K d z u ((l1.tr (l2.tr l3)).tr l);exact Yl (tail_any (ops:=[.ref z3.s.heap.objs.size,v]) ht hT hg (hs _ _))))
theorem Gz {k:Nat} (he:PE X e te) (hs:∀o i,subscripted (.Slice none none (some (.UnaryOp .USub (.Constant (.int 1) k p3) p4)) p2) false o i=operate [o,i] (getItem o i)):PE X (.Subscript e (.Slice none none (some (.UnaryOp .USub (.Constant (.int 1) k p3) p4)) p2) pos) (ji q9 te):=fun τ z Q R I h K=>
 Subscript_ (he τ z _ _ I h λx z1 v l1 I1 r1 q1=>wpAny_Slice (by
  rw[evalPart_none];refine Yl (Yl ?_);rw[evalPart_some];refine x8 x9 (te:=UI (.int 1)) wy τ z1 (λy M=>y=.int (-1)/\M=z1.M) _ I1 ⟨rfl,rfl⟩ λy z2 u l2 I2 r2 q2=>?_;obtain⟨rfl,q2⟩:=q2;rw[ae]at r2;obtain⟨t,rfl⟩:=r2;have I4:aa X τ ⟨z2.F,z2.M,{ z2.s with heap:=z2.s.heap.push { cls:=.type "slice",data:=.fields #[.none,.none,.int (-1) t] } }⟩:=I2.kept (t:=z2.s.toks) λb ob q=>Yk _ q;have r1:=r1.up l2.d;have K:KE X τ z2.F Q R:=λd z u l=>K d z u ((l1.tr l2).tr l);rw[<- q2]at q1;have lst:(bf x z2.M λds=>bL ds.reverse z2.M Q)->W X (subscriptTail e (.Slice none none (some (.UnaryOp .USub (.Constant (.int 1) k p3) p4)) p2) v (.ref z2.s.heap.objs.size)) R { z2.s with heap:=z2.s.heap.push { cls:=.type "slice",data:=.fields #[.none,.none,.int (-1) t] } }:=λq=>by
   obtain⟨a,ds,us,n,rfl,l,q⟩:=I4.bf r1 q;have hz:=l.z;refine tail_any (ops:=[.ref a,.ref z2.s.heap.objs.size]) (T:="list") l.p.isList.typeIs slot_list_getitem.lookup ?_ (hs _ _);refine wpAny_getItem_list_slice l.p.isList (Heap.IsSliceOf.new ..) .none .none (.int (-1) t) (by simp) ?_ (by rw[Yn] <;> lia);rw[PySem.W.krv_pick];exact I4.lst (n:=0) (t:=z2.s.toks) K Le.rfl l.r.rev (λb ob q=>Yk _ q) (Yr _) (Yp _ rfl) (by rw[Z1];exact hz) q
  unfold q9 at q1;split at q1
  ·obtain⟨a,us,o,rfl,p⟩:=I4.cM r1;refine tail_any (ops:=[.ref a,.ref z2.s.heap.objs.size]) (T:="tuple") p.p.typeIs slot_tuple_getitem.lookup (FH p.p (Heap.IsSliceOf.new ..) ?_ (by rw[Yn];exact p.t.len)) (hs _ _);exact I4.tup (t:=z2.s.toks) K Le.rfl p.r.rev (λb ob q=>Yk _ q) (Yr _) (Yp _ rfl) ⟨rfl,rfl,⟨_,rfl⟩,by rw[Z1];exact p.t.len⟩ q1
  ·exact lst q1))
end
end N
end
section
set_option maxHeartbeats 1000000
namespace N
open PySem PySem.Spec PyProof.Rows L2 PyProof.V
def GA (x:D) (M:Mp) (k:Nat->Prop):Prop:=match x with
 |.str w=>w.length<=sizeLine/\k w.length
 |.tup ds=>k ds.length
 |.lst ds=>k ds.length
 |.ak ks ds=>k (ks.zip ds).length
 |.ref p=>(∃xs,M p=some (.lst xs)/\k xs.length)\/∃kvs,M p=some (.ak kvs)/\k kvs.length
 |_=>False
def n1 (r:Q1):QN:=λds M q=>match ds with
 |[x]=>r x M q
 |_=>False
def yb:QN:=n1 λx M q=>GA x M λn=>q (.int n) M
def ra:QN:=n1 λx M q=>dp x M λds=>q (.tup ds) M
def yc:QN:=n1 λx M q=>match x with
 |.int i=>q (.int i) M
 |.bl b=>q (.int (if b then 1 else 0)) M
 |_=>False
def rh:QN:=λds M q=>match ds with
 |[.int i,.int j]=>q (.int (if j > i then j else i)) M
 |[x]=>bf x M λds=>∃ns:List Int,ds=ns.map D.int/\0<ns.length/\∀m,m∈ns->(∀a∈ns,a<=m)->q (.int m) M
 |_=>False
def yd (f:List Bool->Bool):QN:=n1 λx M q=>bf x M λds=>∃bs:List Bool,ds=bs.map D.bl/\q (.bl (f bs)) M
abbrev CB (X:Cx) (f:Value) (r:QN):Prop:=ON X (λus=>call f us) r
def UU (r:QN) (t:DA):DE:=fun τ M q=>t τ M λds M1=>r ds M1 q
section
variable {X:Cx}{x:Str}{p pos:Pos}{e:Expr}{es:List Expr}{t:DA}{id T:String}{r:QN}
theorem rj (hc:CB X (.builtin id) r) (hg:Gl X x) (hm:X.G.mg x=none) (hv:bootBuiltins x=some (.builtin id)) (ha:PA X (e::es) t) (hn:x≠"__name__") (ce:(x == ("__debug__" : Str))=false)
  (he:starEach (e::es) X.env=(false,eval e X.env)::starEach es X.env) (bv:(backTo pos (starEach es X.env)).any (·.1)=false):PE X (.Call (.Name x p) (e::es) [] pos) (UU r t):=fun τ z Q R I h k=>
 Y8 (eB I hg hm hv hn ce (PyProof.Rows.callWith_builtin1 (ha pos τ z _ _ I h λds z1 us l1 I1 r1 q1=>hc τ z1 Q R ds us I1 r1 q1 λd z2 u l2=>k d z2 u (l1.tr l2)) he bv))
theorem GB (hc:CB X (.type T) r) (hg:Gl X x) (hm:X.G.mg x=none) (hv:bootBuiltins x=some (.type T)) (ha:PA X (e::es) t) (hn:x≠"__name__") (ce:(x == ("__debug__" : Str))=false)
  (he:starEach (e::es) X.env=(false,eval e X.env)::starEach es X.env) (bv:(backTo pos (starEach es X.env)).any (·.1)=false):PE X (.Call (.Name x p) (e::es) [] pos) (UU r t):=fun τ z Q R I h k=>
 Y8 (eB I hg hm hv hn ce (Ze (ha pos τ z _ _ I h λds z1 us l1 I1 r1 q1=>hc τ z1 Q R ds us I1 r1 q1 λd z2 u l2=>k d z2 u (l1.tr l2)) he bv))
theorem jw {f:List Value->Sem Value}{r:Q1} (h:O1 X (λv=>f [v]) r):ON X f (n1 r):=fun τ z Q R ds us I rs q k=>by
 unfold n1 at q;split at q
 ·obtain⟨u,rfl,ru⟩:=gI rs;exact h τ z Q R _ u I ru q k
 ·exact q.elim
theorem GC:CB X (.builtin "len") yb:=jw fun τ z Q R d v I r q k=>by
 have fin:∀{n m:Nat} (t:Nat),n=m->Q (.int n) z.M->R (.int m z.s.toks) { z.s with toks:=t }:=λt e q=>I.fin k Le.rfl (e ▸ bX) q _;have lst:∀{ds:List D}{us:List Value}{a:Addr}{n:Nat},eC X.G z.F z.s.heap a ds us n->Q (.int ds.length) z.M->W X (call (.builtin "len") [.ref a]) R z.s:=λl q=>Calls.call_len_list l.p.isList (by rw[Yn];exact gM l.z) (I.fin k Le.rfl (by rw[Yn,<- l.r.len];exact bX) q _);have ak:∀{kvs:List (Key×D)}{vs:List (Key×Value)}{a:Addr},jq X.G z.F z.s.heap a kvs vs->Q (.int kvs.length) z.M->W X (call (.builtin "len") [.ref a]) R z.s:=λl q=>by
  have e:=Paired.length l.r;refine call_len_dict l.n l.d (by rw[<- e];exact gM l.z) ?_;rw[<- e];exact I.fin k Le.rfl bX q _
 cases d with
 |str y=>rw[ae]at r;obtain⟨t,rfl⟩:=r;exact len_str (Int.not_le.mpr (gM q.1)) (I.fin k Le.rfl bX q.2 _)
 |tup ds=>obtain⟨a,us,o,rfl,l⟩:=I.cM r;exact len_tuple l.p (by rw[Yn];exact gM l.t.len) (I.fin k Le.rfl (by rw[Yn,<- l.r.len];exact bX) q _)
 |lst ds=>obtain⟨a,us,n,rfl,l⟩:=I.fQ r;exact lst l q
 |ak ks ds=>obtain⟨a,kvs,vs,rfl,l,h⟩:=I.cn (k:=λkvs=>Q (.int kvs.length) z.M) r q;exact ak l h
 |ref a=>
  rw[ae]at r;subst r;rcases q with ⟨xs,h1,h2⟩ |⟨kvs,h1,h2⟩
  ·obtain⟨us,n,l⟩:=I.eD h1;exact lst l h2
  ·obtain⟨vs,l⟩:=I.jr h1;exact ak l h2
 |_=>exact q.elim
theorem GD:CB X (.type "int") yc:=jw fun τ z Q R d v I r q k=>by
 cases d with
 |int i=>rw[ae]at r;obtain⟨t,rfl⟩:=r;exact call_int_int (k _ z _ Le.rfl I bX q)
 |bl b=>rw[ae]at r;subst r;exact call_int_bool (I.fin k Le.rfl bX q _)
 |_=>exact q.elim
theorem aa.dp {τ:St} {z:Z}{d:D}{u:Value}{k:List D->Prop} (I:aa X τ z) (r:ae X.G z.F d u) (h:dp d z.M k):∃a ds us,u=.ref a/\k ds/\ag X.G z.F ds us/\us.length<=sizeLine/\((∃n,z.s.heap.get? a=some (bH us n))\/(d=.tup ds/\IsTup z.s.heap a us.toArray)):=by
 unfold N.dp at h;split at h
 ·obtain⟨a,us,o,rfl,l⟩:=I.cM r;exact⟨a,_,us,rfl,h,l.r,l.t.len,.inr ⟨rfl,l.p⟩⟩
 ·obtain⟨a,ds,us,n,rfl,l,q⟩:=I.bf r h;exact⟨a,ds,us,rfl,q,l.r,l.z,.inl ⟨n,l.e⟩⟩
theorem GF:CB X (.type "tuple") ra:=jw fun τ z Q R d v I ru q k=>by
 obtain⟨a,ds,us,rfl,q,r,hz,h⟩:=I.dp ru q;rcases h with ⟨n,e⟩ |⟨rfl,p⟩
 ·refine call_tuple_list ⟨_,e,rfl,_,rfl⟩ (λh' kp=>?_) (by rw[Yn];exact hz);exact (I.kept (t:=z.s.toks) kp).tup (t:=z.s.toks) k Le.rfl r (λb o e=>Yk _ e) (Yr _) (Yp _ rfl) ⟨rfl,rfl,⟨_,rfl⟩,hz⟩ q
 ·exact call_tuple_same p (k _ z _ Le.rfl I ru q)
theorem ints_of {G:Gx}{F:Fz}:∀{ns:List Int}{us:List Value},ag G F (ns.map D.int) us->IntsAre us ns
 |[],us,r=>by rw[Zp,ag]at r;subst r;exact .nil
 |n::ns,us,r=>by rw[Yu,ag]at r;obtain⟨u,us,rfl,h,r⟩:=r;rw[ae]at h;obtain⟨t,rfl⟩:=h;exact .cons n t (ints_of r)
theorem GG (hc:X.calm=true):CB X (.builtin "max") rh:=fun τ z Q R ds us I rs q k=>by
 unfold rh at q;split at q
 ·rename_i i j;obtain⟨u,v,rfl,h1,h2⟩:=ff rs;rw[ae]at h1 h2;obtain⟨t,rfl⟩:=h1;obtain⟨t',rfl⟩:=h2;refine max_two_ints (I.ok.hd hc) λh' tk kp=>k _ ⟨z.F,z.M,_⟩ _ Le.rfl (I.kept (t:=tk) kp) ?_ q;by_cases hj:j > i
  ·rw[if_pos hj,if_pos hj];exact bX
  ·rw[if_neg hj,if_neg hj];exact bX
 ·obtain⟨u,rfl,ru⟩:=gI rs;obtain⟨a,ds,its,n,rfl,l,ns,rfl,h0,q⟩:=I.bf ru q;have hi:IntsAre its ns:=ints_of l.r;have hl:z.s.heap.IsList a its.toArray:=l.p.isList;obtain⟨xs,hx⟩:=hi.allInts.items;have hn:numsOf its.toArray.toList=ns:=by rw[show its.toArray.toList=its from rfl,hi.numsOf]
  rw[hx]at hl hn;rw[nums_intItems]at hn;have hsz:0<xs.size:=by
   have:=congrArg List.length hn;rw[Ym,YG]at this;lia
  refine max_intList (I.ok.hd hc) hl hsz λv h' tk hv hk=>?_;obtain⟨t,rfl⟩:=intItems_at hv;obtain⟨h1,h2⟩:=argBest_gt (numAt xs) (xs.size-1);refine k _ ⟨z.F,z.M,_⟩ _ Le.rfl (I.kept (t:=tk) hk) bX (q _ ?_ λa ha=>?_)
  ·rw[<- hn,numAt_eq];exact getD_mem (by rw[Ym,YG];lia)
  ·rw[<- hn]at ha;obtain⟨j,hj,rfl⟩:=mem_getD ha;rw[Ym,YG]at hj;rw[<- numAt_eq];exact h2 j (by lia)
 ·exact q.elim
theorem aa.GH {τ:St} {z:Z}{s':Shared} (I:aa X τ z) (g:s'.gens=z.s.gens) (d:s'.drawn=z.s.drawn) (o:s'.os=z.s.os) (k:∀b ob,z.s.heap.get? b=some ob->s'.heap.get? b=some ob):aa X τ ⟨z.F,z.M,s'⟩:=by
 obtain⟨h',VQ,d',dL,re⟩:=s';obtain rfl:VQ=z.s.gens:=g;obtain rfl:d'=z.s.drawn:=d;obtain rfl:re=z.s.os:=o;exact I.kept (t:=dL) k
theorem ye {G:Gx}{F:Fz}:∀{bs:List Bool}{us:List Value}{i:Nat}{v:Value},ag G F (bs.map D.bl) us->us[i]?=some v->v=.bool (bs.getD i false)
 |[],us,i,v,r,e=>by rw[Zp,ag]at r;subst r;simp at e
 |b::bs,us,0,v,r,e=>by rw[Yu,ag]at r;obtain⟨u,us,rfl,h,r⟩:=r;rw[ae]at h;subst h;cases e;rfl
 |b::bs,us,i+1,v,r,e=>by rw[Yu,ag]at r;obtain⟨u,us,rfl,h,r⟩:=r;exact ye (i:=i) r e
theorem yf (f:Bool->Bool):∀bs:List Bool,(ZA bs.length).map (λi=>bs.getD i false)=bs
 |[]=>rfl
 |b::bs=>by rw[Yv,List.range_succ_eq_map,Yu,Zq];exact congrArg (b::·) (yf f bs)
theorem GI (hc:X.calm=true):CB X (.builtin "any") (yd (·.any _root_.id)):=jw fun τ z Q R d v I ru q k=>by
 obtain⟨p,ds,its,n,rfl,l,bs,rfl,q⟩:=I.bf ru q;have hl:z.s.heap.IsList p its.toArray:=l.p.isList;have ne:p≠z.s.heap.objs.size:=Yx (Yw l.e);have W:=(Walks.list (prog:=X.G.P) (w:=X.G.w) (A:=X.A.in1) (I.ok.hd hc) z.s.heap.objs.size p ne its.toArray).toS;have lb:its.length=bs.length:=by have:=l.r.len;rw[Ym]at this;exact this.symm
 refine call_any_walkS (wpAny_pyIter_list hl ?_);refine⟨z.s.heap.objs.size,_,_,_,_,_,_,λi=>bs.getD i false,rfl,W,⟨⟨_,Yp _ rfl,rfl,rfl⟩,hl.push _⟩,?_,λs' hm=>?_⟩
 ·intro i v s' Q' E' hP hq';have e:=ye (i:=i) (v:=v) l.r (by simpa using hP);subst e;exact ZU hq'
 ·have J:=I.GH hm.gens hm.drawn hm.os λb o e=>hm.heap b o (λhb=>absurd (Yw e) ((List.mem_singleton.mp hb) ▸ ZL _)) (Yk _ e);refine k (.bl (bs.any _root_.id)) ⟨z.F,z.M,s'⟩ _ Le.rfl J ?_ q;have e:(ZA its.toArray.size).any (λi=>bs.getD i false)=bs.any _root_.id:=by
   rw[Yn,lb];exact (List.any_map (f:=λi=>bs.getD i false) (p:=_root_.id)).symm.trans (by rw[yf _root_.id])
  rw[e,ae]
end
end N
end
section
set_option maxHeartbeats 1000000
namespace N
open PySem PySem.Spec PyProof.Rows L2
abbrev QM:=D->QN
def OM (X:Cx) (id:String) (r:QM):Prop:=∀ τ z Q R d v ds us,aa X τ z->ae X.G z.F d v->ag X.G z.F ds us->r d ds z.M Q->KE X τ z.F Q R->W X (call (.builtin id) (v::us)) R z.s
def yg (T:String) (x:D) (M:Mp):Prop:=match x with
 |.str _=>T="str"
 |.tup _=>T="tuple"
 |.lst _=>T="list"
 |.ak _ _=>T="dict"
 |.ref a=>(T="list"/\∃xs,M a=some (.lst xs))\/(T="dict"/\∃kvs,M a=some (.ak kvs))
 |_=>False
def k9 (T:String) (r:QM) (to:DE) (t:DA):DE:=fun τ M q=>to τ M λx M1=>yg T x M1/\t τ M1 λds M2=>r x ds M2 q
def fY (o:D) (M:Mp) (k:Addr->List D->Prop):Prop:=match o with
 |.ref l=>∃xs,M l=some (.lst xs)/\k l xs
 |_=>False
def rl:QM:=λo ds M q=>match ds with
 |[y]=>fY o M λl xs=>xs.length<sizeLine/\q .aj (up M l (.lst (xs++[y])))
 |_=>False
def rn:QM:=λo ds M q=>match ds with
 |[]=>fY o M λl xs=>∃y,xs[xs.length-1]?=some y/\q y (up M l (.lst xs.dropLast))
 |_=>False
def rq:QM:=λo ds M q=>match ds with
 |[y]=>fY o M λl xs=>dp y M λys=>xs.length+ys.length<=sizeLine/\q .aj (up M l (.lst (xs++ys)))
 |_=>False
def rx:QM:=λo ds M q=>match ds with
 |[y]=>cn o M λkvs=>dM y λk=>q ((aG kvs k).getD .aj) M
 |[y,w]=>cn o M λkvs=>dM y λk=>q ((aG kvs k).getD w) M
 |_=>False
section
variable {X:Cx}{o e:Expr}{es:List Expr}{to:DE}{t:DA}{name:Str}{cm cpos:Pos}{T id:String}{r:QM} {τ:St} {z:Z}
theorem ry {x:D}{v:Value} (I:aa X τ z) (r:ae X.G z.F x v) (ty:yg T x z.M):z.s.TypeIs v T/\∀a,v=.ref a->∃ob,z.s.heap.get? a=some ob/\ob.dict=none:=by
 have lst:∀{ds:List D}{us:List Value}{a:Addr}{n:Nat},eC X.G z.F z.s.heap a ds us n->z.s.TypeIs (.ref a) "list"/\∀b,YF a=.ref b->∃ob,z.s.heap.get? b=some ob/\ob.dict=none:=λl=>⟨l.p.isList.typeIs,λb e=>by cases e;exact⟨_,l.e,rfl⟩⟩;have ak:∀{kvs:List (Key×D)}{vs:List (Key×Value)}{a:Addr},jq X.G z.F z.s.heap a kvs vs->z.s.TypeIs (.ref a) "dict"/\∀b,YF a=.ref b->∃ob,z.s.heap.get? b=some ob/\ob.dict=none:=λl=>by
  obtain⟨o,_,_,e,ex,_⟩:=l.d;exact⟨⟨o,e,ex.1⟩,λb q=>by cases q;exact⟨o,e,ex.2.1⟩⟩
 cases x with
 |str w=>rw[ae]at r;obtain⟨t,rfl⟩:=r;cases (show T="str" from ty);exact⟨typeIs_str z.s w t,λ_ e=>nomatch e⟩
 |tup ds=>obtain⟨a,us,o,rfl,l⟩:=I.cM r;cases (show T="tuple" from ty);exact⟨l.p.typeIs,λb e=>by cases e;exact⟨_,l.e,l.t.dict⟩⟩
 |lst ds=>obtain⟨a,us,n,rfl,l⟩:=I.fQ r;cases (show T="list" from ty);exact lst l
 |ak ks ds=>obtain⟨a,kvs,vs,rfl,l,_⟩:=I.cn (k:=λ_=>True) r trivial;cases (show T="dict" from ty);exact ak l
 |ref a=>
  rw[ae]at r;subst r;rcases ty with ⟨rfl,xs,h⟩ |⟨rfl,kvs,h⟩
  ·obtain⟨us,n,l⟩:=I.eD h;exact lst l
  ·obtain⟨vs,l⟩:=I.jr h;exact ak l
 |_=>exact ty.elim
theorem GJ (pa:PlainAttrs T) (slot:Slot T name id) (lg:typeOf (.builtin id)=pure (.type "method_descriptor")) (hm:OM X id r) (ho:PE X o to)
  (fZ:attributeBase o name X.env (eval o X.env)=eval o X.env) (cQ:(cm.endLine == cpos.line)=true):PE X (.Call (.Attribute o name cm) [] [] cpos) (k9 T r to dJ):=fun τ z Q R I h k=>
 wpAny_Call_method0_late fZ cQ (ho τ z _ _ I h λx z1 v l1 I1 r1 q1=>by
  obtain⟨h1,h2⟩:=ry I1 r1 q1.1;exact⟨T,id,pa,slot,lg,h1,h2,Calls.callWith_builtin rfl (PySem.evalArgs_none (hm τ z1 Q R x v [] [] I1 r1 .nil q1.2 λd z2 u l2=>k d z2 u (l1.tr l2)))⟩)
theorem GK (pa:PlainAttrs T) (slot:Slot T name id) (lg:typeOf (.builtin id)=pure (.type "method_descriptor")) (hm:OM X id r) (ho:PE X o to) (ha:PA X (e::es) t)
  (fZ:attributeBase o name X.env (eval o X.env)=eval o X.env)
  (Go:((backTo cpos (starEach (e::es) X.env)).all (λx=>!x.1) && (backToKw cpos (keywordEach [] X.env)).all (λx=>x.1.isSome)
   && decide ((e::es).length+([]:List Keyword).length+(if ([]:List Keyword).isEmpty then 0 else 1)<30))=true)
  (cQ:(cm.endLine == cpos.line)=true) (hs:starEach (e::es) X.env=(false,eval e X.env)::starEach es X.env) (GL:(backTo cpos (starEach es X.env)).any (·.1)=false) :
  PE X (.Call (.Attribute o name cm) (e::es) [] cpos) (k9 T r to t):=fun τ z Q R I h k=>
 wpAny_Call_method_late fZ Go cQ rfl (ho τ z _ _ I h λx z1 v l1 I1 r1 q1=>by
  obtain⟨h1,h2⟩:=ry I1 r1 q1.1;refine⟨T,id,pa,slot,lg,h1,h2,?_⟩;have hA:=ha cpos τ z1 _ (λus s=>W X (call (.builtin id) (v::us)) R s) I1 q1.2 λds z2 us l2 I2 r2 q2=>hm τ z2 Q R x v ds us I2 (r1.up l2.d) r2 q2 λd z3 u l3=>k d z3 u (l1.tr (l2.tr l3));rw[hs]at hA ⊢;exact Calls.callWith_builtin (by show (false ||(backTo cpos (starEach es X.env)).any (·.1))=false;rw[GL] <;> rfl) (Calls.evalArgs_plain hA))
theorem aa.fY {d:D}{u:Value}{k:Addr->List D->Prop} (I:aa X τ z) (r:ae X.G z.F d u) (h:fY d z.M k):∃a ds us n,u=.ref a/\z.M a=some (.lst ds)/\eC X.G z.F z.s.heap a ds us n/\k a ds:=by
 unfold N.fY at h;split at h
 ·obtain⟨xs,h1,h2⟩:=h;rw[ae]at r;obtain⟨us,n,l⟩:=I.eD h1;exact⟨_,xs,us,n,r,h1,l,h2⟩
 ·exact h.elim
theorem aa.nW {a:Addr}{xs ys:List D}{us us':List Value}{n t:Nat}{f:Array Value->Array Value} (I:aa X τ z) (h:z.M a=some (.lst xs)) (e:z.s.heap.get? a=some (bH us n)) (hf:f us.toArray=us'.toArray) (r:ag X.G z.F ys us') (hz:us'.length<=sizeLine) :
  aa X τ ⟨z.F,up z.M a (.lst ys),{ z.s with heap:=z.s.heap.update a (YW f),toks:=t }⟩:=by
 have q:=PySem.IsL.update e f;rw[hf]at q;exact I.xQ (us:=us) (n:=n) h (λb hb o q=>(Zr _ _ (Zl hb)).trans q) q r hz
theorem GN:OM X "list.append" rl:=fun τ z Q R d v ds us I rv rs h k=>by
 unfold rl at h;split at h
 ·obtain⟨u,rfl,ru⟩:=gI rs;obtain⟨a,xs,its,n,rfl,hM,l,hz,q⟩:=I.fY rv h;have hl:=l.r.len;refine call_meets F.slot_list_append ⟨_,l.e,rfl⟩ F.entry_list_append (F.args_list_append_2 _ _) (PySem.list_append a its.toArray n u (by rw[Yn];lia)) ⟨l.e,?_⟩;exact k .aj ⟨z.F,_,_⟩ _ Le.rfl (I.nW (us':=its++[u]) hM l.e (by simp) (l.r.app (.cons ru .nil)) (by rw[YB,List.length_singleton];lia)) (by rw[ae]) q
 ·exact h.elim
theorem ag.init {G:Gx}{F:Fz}{ds:List D}{us:List Value} (r:ag G F ds us):ag G F ds.dropLast us.dropLast:=by
 rw[List.dropLast_eq_take,List.dropLast_eq_take,<- r.len];exact r.cJ 0 _
theorem GO:OM X "list.pop" rn:=fun τ z Q R d v ds us I rv rs h k=>by
 unfold rn at h;split at h
 ·rw[ag]at rs;subst rs;obtain⟨a,xs,its,n,rfl,hM,l,y,hy,q⟩:=I.fY rv h;have hl:=l.r.len;have hz:=l.z;obtain⟨u,hu,ru⟩:=l.r.get hy;have GP:its.toArray[its.toArray.size-1]?=some u:=by
   show its.toArray[its.length-1]?=some u;rw[<- ZE,<- hl];exact hu
  refine call_meets F.slot_list_pop ⟨_,l.e,rfl⟩ F.entry_list_pop (F.args_list_pop_1 _) (MeetsSeq.list_pop_last a its.toArray n u GP (by rw[Yn];lia)) ⟨l.e,?_⟩;refine k y ⟨z.F,_,_⟩ _ Le.rfl (I.nW (us':=its.dropLast) hM l.e ?_ l.r.init (by rw[List.length_dropLast];lia)) ru q;show its.toArray.eraseIdxIfInBounds (its.toArray.size-1)=its.dropLast.toArray;rw[Yn,List.eraseIdxIfInBounds_toArray,FI]
 ·exact h.elim
theorem GR:OM X "dict.get" rx:=fun τ z Q R d v ds us I rv rs h k=>by
 have val:∀{kvs:List (Key×D)}{vs:List (Key×Value)}{c:Key}{w:D}{r:Value},KV X.G z.F kvs vs->ae X.G z.F w r->ae X.G z.F ((aG kvs c).getD w) ((valueAt vs c).getD r):=λ{kvs vs c w r} rel io=>by
  have:=rel.val c;cases e1:aG kvs c <;> cases e2:valueAt vs c <;> rw[e1,e2]at this <;> first |exact this.elim |exact io |exact this
 unfold rx at h;split at h
 ·obtain⟨u,rfl,ru⟩:=gI rs;obtain⟨a,kvs,vs,rfl,l,h⟩:=I.cn rv h;obtain⟨c,hc,q⟩:=js (P:=X.G.P) (w:=X.G.w) h ru;exact call_meetsIn PySem.F.slot_dict_get l.d.typeIs PySem.F.entry_dict_get (PySem.F.args_dict_get_2 _ _) (meets_dict_get (bw X.G.P X.G.w) a hc l.n) ⟨_,l.d.mapOf,I.fin k Le.rfl (val l.r (by rw[ae])) q _⟩
 ·obtain⟨u,w,rfl,ru,io⟩:=ff rs;obtain⟨a,kvs,vs,rfl,l,h⟩:=I.cn rv h;obtain⟨c,hc,q⟩:=js (P:=X.G.P) (w:=X.G.w) h ru;exact call_meetsIn PySem.F.slot_dict_get l.d.typeIs PySem.F.entry_dict_get (PySem.F.args_dict_get_3 _ _ _) (meets_dict_get_default (bw X.G.P X.G.w) a hc l.n w) ⟨_,l.d.mapOf,I.fin k Le.rfl (val l.r io) q _⟩
 ·exact h.elim
end
end N
end
section
namespace L2
open PySem PySem.Spec PyProof.Rows PySem.W
section
variable {prog:Program}{w:World}{A:Around}{E:Value->Shared->Prop}{s:Shared}
theorem GS:typeLookup (.type "tuple") "keys"=pure none:=by rw[ZJ,Zb];kernel_rfl
theorem GU:typeLookup (.type "list") "keys"=pure none:=by rw[ZJ,Zb];kernel_rfl
theorem GV {a:Addr}{o:Obj}{xs:Array Value}{k:Nat}{Q:Option Value->Shared->Prop} (hx:s.heap.get? a=some o) (hc:o.cls=.type "tuple") (iq:o.data=.seq xs k) (hd:o.dict=none) (hA:A.handled=none)
  (h:∀h' tk,(∀b o,s.heap.get? b=some o->h'.get? b=some o)->Q none { s with heap:=h',toks:=tk }):wpAny (model prog w) A (getAttr? (.ref a) "keys") Q E s:=by
 obtain⟨c,ak,dat,sl⟩:=o;simp only at hc iq hd;subst hc iq hd;obtain⟨hp,g,d,tk,os⟩:=s;have hT:∀dL,(⟨hp,g,d,dL,os⟩:Shared).TypeIs (.ref a) "tuple":=λ_=>⟨_,hx,rfl⟩;have f1:=sub_AttributeError;have f3:=F.slot_tuple_getattribute.lookup;have f4:=F.slot_tuple_getattribute.bind (.ref a);have f5:=am_tuple_getattr_none;have rz:(["__module__","__name__","__qualname__","__doc__","__annotations__"]:List Str).contains "keys"=false:=by decide
 unfold getAttr? getAttrBy? getAttrBy
 repeat (any_goals (first |assumption |exact hT _ |((with_reducible show wpAny _ _ (call (Value.builtin "tuple.__getattribute__") _ _) _ _ _);refine call_meets F.slot_tuple_getattribute (hT _) am_entry_tuple_getattribute (F.args_tuple_getattribute_2 _ _) (meets_getattribute_miss_tuple a xs k sl "keys" _ GS rz) ⟨hx,hA,λh' dL e cI=>?_⟩) |wp_step))
 obtain⟨t',u',he⟩:=cI.there;show wpAny _ _ (getattributeRaised _ _ _ _ _ _ _) _ _ _;unfold getattributeRaised
 repeat (any_goals (first |assumption |wp_step))
 exact h _ _ cI.keeps
theorem GW {a:Addr}{o:Obj}{xs:Array Value}{k:Nat}{Q:Option Value->Shared->Prop} (hx:s.heap.get? a=some o) (hc:o.cls=.type "list") (iq:o.data=.seq xs k) (hd:o.dict=none) (hA:A.handled=none)
  (h:∀h' tk,(∀b o,s.heap.get? b=some o->h'.get? b=some o)->Q none { s with heap:=h',toks:=tk }):wpAny (model prog w) A (getAttr? (.ref a) "keys") Q E s:=by
 obtain⟨c,ak,dat,sl⟩:=o;simp only at hc iq hd;subst hc iq hd;obtain⟨hp,g,d,tk,os⟩:=s;have hT:∀dL,(⟨hp,g,d,dL,os⟩:Shared).TypeIs (.ref a) "list":=λ_=>⟨_,hx,rfl⟩;have f1:=sub_AttributeError;have f3:=F.slot_list_getattribute.lookup;have f4:=F.slot_list_getattribute.bind (.ref a);have f5:=am_list_getattr_none;have rz:(["__module__","__name__","__qualname__","__doc__","__annotations__"]:List Str).contains "keys"=false:=by decide
 unfold getAttr? getAttrBy? getAttrBy
 repeat (any_goals (first |assumption |exact hT _ |((with_reducible show wpAny _ _ (call (Value.builtin "list.__getattribute__") _ _) _ _ _);refine call_meets F.slot_list_getattribute (hT _) am_entry_list_getattribute (F.args_list_getattribute_2 _ _) (meets_getattribute_miss_list a xs k sl "keys" _ GU rz) ⟨hx,hA,λh' dL e cI=>?_⟩) |wp_step))
 obtain⟨t',u',he⟩:=cI.there;show wpAny _ _ (getattributeRaised _ _ _ _ _ _ _) _ _ _;unfold getattributeRaised
 repeat (any_goals (first |assumption |wp_step))
 exact h _ _ cI.keeps
theorem yh:entryFor table "dict.update.loop"=some Builtin.«dict.update.loop»:=entryFor_of_tree (by kernel_rfl)
theorem jx:plainId "dict.update.loop"=true:=by decide +kernel
variable {I:Addr}{fp wr:List Addr}{n:Nat}{P:Nat->Value->Prop}{St:Nat->Heap->Prop}
def yi (prog:Program) (w:World) (A:Around) (d:Addr) (n:Nat) (P:Nat->Value->Prop) (DK:Nat->Heap->Prop):Prop:=
 ∀(i:Nat) (v:Value) (s:Shared),i<n->P i v->DK i s.heap->∃(a:Addr) (o:Obj) (xs:Array Value) (m:Nat) (k x:Value),v=.ref a/\s.heap.get? a=some o/\o.cls=.type "tuple"/\o.data=.seq xs m/\xs.toList=[k,x] /\
  ∀(Q:Unit->Shared->Prop) (E:Value->Shared->Prop),(∀h' tk,DK (i+1) h'->ZM d s.heap h'->Q () { s with heap:=h',toks:=tk })->wpAny (model prog w) A (dictSet d k x) Q E s
theorem GX {R:Result->Shared->Prop}{DK:Nat->Heap->Prop} (W:Walks prog w A.in1 I fp wr n P St) (d:Addr) (jy:d ∉ fp) (hfr:∀ i h h',DK i h->(∀ b o,b ∉ wr->h.get? b=some o->h'.get? b=some o)->DK i h') (put:yi prog w A.in1 d n P DK) (res:Value) :
  ∀(k i:Nat) (t:Tok) (s:Shared),n-i=k->i<=n->St i s.heap->DK i s.heap ->
  (∀h' tk,DK n h'->(∀b o,b ∉ d::wr->s.heap.get? b=some o->h'.get? b=some o)->R (.ok (.ret res)) { s with heap:=h',toks:=tk }) ->
  codeAny (model prog w) A (.builtin "dict.update.loop" ⟨[.ref d,.ref I,.int i t,res],[]⟩) R s:=by
 have T4:d ∉ wr:=λh=>jy (W.sub _ h);intro k
 induction k with
 |zero=>
  intro i t s hk hi cf hD U4;have GY:i=n:=by lia
  subst GY;refine Zg yh ?_;rw[Y2 jx _];show wpAny _ A.in1 (pyNext (.ref I) >>= _) _ _ s;refine Yj (W.done s _ _ cf λh' tk hm=>?_);dsimp only;unfold Builtin.Dict.addKeywords;refine Yj (Yl ?_);exact Yl (U4 h' tk (hfr _ _ _ hD hm) λb o hb e=>hm b o (λz=>hb (Yt _ z)) e)
 |succ k ih=>
  intro i t s hk hi cf hD U4;have bd:i<n:=by lia
  refine Zg yh ?_;rw[Y2 jx _];show wpAny _ A.in1 (pyNext (.ref I) >>= _) _ _ s;refine Yj (W.item i s _ _ bd cf λv h' tk hP GZ hm=>?_);dsimp only;obtain⟨a,o,xs,m,XR,x,rfl,ho,hc,iq,G0,G2⟩:=put i v { s with heap:=h',toks:=tk } bd hP (hfr _ _ _ hD hm);refine Yj (Y3 (Yj (wpAny_tryCatch ?_)));unfold Builtin.Dict.pairItems;refine Yj (wpAny_typeOf (T:="tuple") ⟨o,ho,hc⟩ ?_);rw[if_pos (by decide)];refine Yj (ZR ho iq (Yl ?_));dsimp only[Option.getD_some];rw[G0];dsimp only;refine Y3 (G2 _ _ λic dL G3 hs=>?_);refine Yl ⟨Zn jx _,?_⟩;have:=ih (i+1) 0 { s with heap:=ic,toks:=dL } (by lia) bd (W.frame _ _ _ GZ λb hb o e=>(hs.2 b (λz=>jy (z ▸ hb))).trans e) G3 (λh3 G4 G5 G6=>U4 h3 G4 G5 λb o hb e=>G6 b o hb ((hs.2 b (λz=>hb (by simp [z]))).trans (hm b o (λz=>hb (Yt _ z)) e)));exact this
end
end L2
namespace L2
open PySem PySem.Spec PyProof.Rows PySem.W
structure nX (prog:Program) (w:World) (T:String) (r:Addr) (n:Nat) (P:Nat->Value->Prop) (OK:Heap->Prop):Prop where
 type:∀s:Shared,OK s.heap->s.TypeIs (.ref r) T
 there:∀h:Heap,OK h->r<h.objs.size
 keep:∀h h':Heap,OK h->(∀o,h.get? r=some o->h'.get? r=some o)->OK h'
 notDict:(aac T != aac "dict")=true
 rA:∀(A:Around) (E:Value->Shared->Prop) (s:Shared) (Q:Option Value->Shared->Prop),A.handled=none->OK s.heap->(∀h' tk,(∀b o,s.heap.get? b=some o->h'.get? b=some o)->Q none { s with heap:=h',toks:=tk })->wpAny (model prog w) A (getAttr? (.ref r) "keys") Q E s
 iter:∀(A:Around) (s:Shared),A.handled=none->OK s.heap->∃(oI:Obj) (St:Nat->Heap->Prop),
  (∀(E:Value->Shared->Prop) (Q:Value->Shared->Prop),Q (.ref s.heap.objs.size) { s with heap:=s.heap.push oI }->wpAny (model prog w) A (pyIter (.ref r)) Q E s) /\
  Walks prog w A s.heap.objs.size [s.heap.objs.size,r] [s.heap.objs.size] n P St/\St 0 (s.heap.push oI)
section
variable {prog:Program}{w:World}{A:Around}{E:Value->Shared->Prop}{s:Shared}{T:String}{r:Addr}{n:Nat}{P:Nat->Value->Prop}{OK:Heap->Prop}
theorem G7 {k:Nat}{its:Array Value}:nX prog w "list" r its.size (λi v=>its[i]?=some v) (λh=>h.get? r=some { cls:=.type "list",data:=.seq its k }) where
 type:=λs h=>⟨_,h,rfl⟩
 there:=λh e=>Yw e
 keep:=λh h' e k=>k _ e
 notDict:=by decide
 rA:=λA E s Q hA e q=>GW e rfl rfl rfl hA q
 iter:=λA s hA e=>by
  have hl:s.heap.IsList r its:=⟨_,e,rfl,k,rfl⟩;have ne:r≠s.heap.objs.size:=Yx (Yw e);exact⟨_,_,λ_ _ q=>wpAny_pyIter_list hl q,Walks.list hA s.heap.objs.size r ne its,⟨⟨_,Yp _ rfl,rfl,rfl⟩,hl.push _⟩⟩
theorem G8 {its:Array Value}:nX prog w "tuple" r its.size (λi v=>its[i]?=some v) (λh=>∃o k,h.get? r=some o/\o.cls=.type "tuple"/\o.data=.seq its k/\o.dict=none) where
 type:=λs ⟨o,k,h,c,_⟩=>⟨_,h,c⟩
 there:=λh ⟨o,k,e,_⟩=>Yw e
 keep:=λh h' ⟨o,k,e,c⟩ q=>⟨o,k,q _ e,c⟩
 notDict:=by decide
 rA:=λA E s Q hA ⟨o,k,e,c,d,z⟩ q=>GV e c d z hA q
 iter:=λA s hA ⟨o,k,e,c,d,z⟩=>by
  have hl:s.heap.IsTuple r its:=⟨o,e,c,k,d⟩;have ne:r≠s.heap.objs.size:=Yx (Yw e);exact⟨_,_,λ_ _ q=>aah hl q,Walks.tuple hA s.heap.objs.size r ne its,⟨⟨_,Yp _ rfl,rfl,rfl⟩,hl.push _⟩⟩
theorem G9 {DK:Nat->Heap->Prop}{Q:Value->Shared->Prop} (K:nX prog w T r n P OK) (hA:A.handled=none) (hok:OK s.heap) (UM:DK 0 (s.heap.push { cls:=.type "dict",data:=.dict #[] }))
  (hfr:∀i h h' (it:Addr),s.heap.objs.size<it->DK i h->(∀b o,b≠it->h.get? b=some o->h'.get? b=some o)->DK i h') (put:∀A':Around,A'.units<=A.units+5->yi prog w A' s.heap.objs.size n P DK)
  (h:∀h' tk,DK n h'->(∀b o,s.heap.get? b=some o->h'.get? b=some o)->Q (.ref s.heap.objs.size) { s with heap:=h',toks:=tk }):wpAny (model prog w) A (call (.type "dict") [.ref r]) Q E s:=by
 refine callType_codes (Q₁:=λobj s₁=>obj=.ref s.heap.objs.size/\s₁={ s with heap:=s.heap.push { cls:=.type "dict",data:=.dict #[] } }) F.kt_called_dict (F.kt_typeCall_dict_1 _) F.entry_dict_init (kt_code_dict_new _ ⟨rfl,rfl⟩) ?_;rintro obj s₁ ⟨rfl,rfl⟩;have k1:∀ b o,s.heap.get? b=some o->(s.heap.push { cls:=.type "dict",data:=.dict #[] }).get? b=some o:=λb o e=>Yk _ e;have rB:OK (s.heap.push { cls:=.type "dict",data:=.dict #[] }):=K.keep _ _ hok λo e=>k1 _ o e;have xL:(Shared.TypeIs { s with heap:=s.heap.push { cls:=.type "dict",data:=.dict #[] } } (.ref s.heap.objs.size) "dict"):=⟨_,Yp _ rfl,rfl⟩;refine⟨xL,F.args_dict_init_2 _ _,?_⟩;unfold Builtin.«dict.__init__»;refine Yj ?_;unfold Builtin.Dict.selfAndRest;refine Yj (wpAny_notOrdered_dict xL ?_);show wpAny _ _ (pure (s.heap.objs.size,[YF r])) _ _ _;refine Yl ?_;show wpAny _ _ (Builtin.Dict.updateFrom "dict.__init__" s.heap.objs.size (.ref r) [] .none) _ _ _;unfold Builtin.Dict.updateFrom;refine Yj (wpAny_typeOf (K.type _ rB) ?_);rw[if_pos K.notDict];refine Yj (K.rA A.in1.in1 _ { s with heap:=s.heap.push { cls:=.type "dict",data:=.dict #[] } } _ hA rB λh2 x0 k2=>?_);simp only[Option.isNone_none,if_true];refine Yj (wpAny_rule ?_);have Ha:OK h2:=K.keep _ _ rB λo e=>k2 _ o e;obtain⟨oI,St,hit,W,st⟩:=K.iter A.in1.in1 { s with heap:=h2,toks:=x0 } hA Ha;have nY:s.heap.objs.size<h2.objs.size:=Yw (k2 _ _ (Yp _ rfl));refine Yj (hit _ _ ?_);have hr:r<s.heap.objs.size:=K.there _ hok;have loop:=GX (A:=A.in1) (R:=wants (λr' s₂=>r'=.none/\Q (.ref s.heap.objs.size) s₂) E) (DK:=DK) W s.heap.objs.size (by
   simp only[YZ,YJ,or_false,not_or];exact⟨Yx nY,Zf hr⟩)
  (λi h h' x k=>hfr i h h' h2.objs.size nY x λb o hb e=>k b o (by simpa using hb) e) (put _ (by show A.units+1+1<=_;lia)) .none n 0 0 { s with heap:=h2.push oI,toks:=x0 } rfl (YE _) st
  (hfr 0 _ _ h2.objs.size nY UM λb o _ e=>Yk _ (k2 b o e)) (λh' tk hD hk=>⟨rfl,h h' tk hD λb o e=>hk b o (by
   have hb:=Yw e;simp only[YZ,YJ,or_false,not_or];exact⟨Yx hb,Yx (Y7 hb nY)⟩) (Yk _ (k2 b o (k1 b o e)))⟩)
 first
  |exact Yl ⟨Zn jx _,loop⟩
  |exact Yl (Yl ⟨Zn jx _,loop⟩)
  |exact Yj (Yl (Yl ⟨Zn jx _,loop⟩))
end
end L2
end
section
set_option maxHeartbeats 1000000
namespace N
open PySem PySem.Spec PyProof.Rows L2
def ir (kvs:List (Key×D)) (M:Mp) (q:QK):Prop:=q (.ak (kvs.map (·.1)) (kvs.map (·.2))) M\/∀p,M p=none->q (.ref p) (up M p (.ak kvs))
noncomputable def bT (kvs:List (Key×D)):List (Key×D):=kvs.foldl (λal kv=>a9 al kv.1 kv.2) []
def yj:DE:=λ_ M q=>ir [] M q
def rC:List (DE×DE)->St->Mp->(List (Key×D)->Mp->Prop)->Prop
 |[],_,M,q=>q [] M
 |(tk,tv)::r,τ,M,q=>tk τ M λx M1=>dM x λc=>tv τ M1 λy M2=>rC r τ M2 λkvs M3=>q ((c,y)::kvs) M3
def yk (ps:List (DE×DE)):DE:=fun τ M q=>rC ps τ M λkvs M2=>ir (bT kvs) M2 q
noncomputable def iu:Key->D
 |.inl i=>.int i
 |.inr x=>.str x
noncomputable def eH (p:Key×D):D:=.tup [iu p.1,p.2]
def yl:QN:=n1 λx M q=>(cn x M λkvs=>ir kvs M q)\/dp x M λds=>∃kvs:List (Key×D),ds=kvs.map eH/\ir (bT kvs) M q
section
variable {X:Cx} {τ:St} {z:Z}
theorem aa.nZ (I:aa X τ z):sysModules<z.s.heap.objs.size:=Y7 (by decide) (I.ok.mod.cw.keeps I.bk).lt
theorem lh {G:Gx}{F:Fz}:∀{kvs:List (Key×D)}{vs:List (Key×Value)},KV G F kvs vs->ag G F (kvs.map (·.2)) (vs.map (·.2))/\kvs.map (·.1)=vs.map (·.1)
 |_,_,.nil=>⟨.nil,rfl⟩
 |_,_,.cons r t=>⟨.cons r.2 (lh t).1,by rw[Yu,Yu,r.1,(lh t).2]⟩
theorem ym (vs:List (Key×Value)):(vs.map (·.1)).zip (vs.map (·.2))=vs:=by
 induction vs with
 |nil=>rfl
 |cons p r ih=>rw[Yu,Yu,Zo,ih]
theorem az.Hb {G:Gx}{F:Fz}{M:Mp}{h:Heap}{a:Addr}{o:MO} (x:az G F M h) (hF:F a=none) (hM:M a=none) (new:d1 G F (N.up M a o) h a o):az G F (N.up M a o) h:=
 ⟨x.fz,λb u e=>by
  by_cases hb:b=a
  ·subst hb;rw[au]at e;cases e;exact⟨hF,new⟩
  ·rw[ax hb]at e;exact⟨(x.ob b u e).1,(x.ob b u e).2.go Le.rfl.d (λ_ _ _ q=>q) λc q=>by rw[ax (di q hM)];exact q⟩,x.tb⟩
theorem aa.yn {a:Addr}{o:Obj} (I:aa X τ z) (f:Fp X z a) (e:z.s.heap.get? a=some o):Le z.F (N.up z.F a (.dat o))/\aa X τ ⟨N.up z.F a (.dat o),z.M,z.s⟩:=
 ⟨Le.new f.f,I.go (Le.new f.f) (I.hok.jb f.f f.m e) (λb hb=>⟨a8.s λ_ e=>e,I.cy hb,ax λq=>f.o (q ▸ hb)⟩) rfl I.bare⟩
theorem aa.take {a:Addr}{o:MO} (I:aa X τ z) (f:Fp X z a) (new:d1 X.G z.F (N.up z.M a o) z.s.heap a o):aa X τ ⟨z.F,N.up z.M a o,z.s⟩:=
 I.go Le.rfl (I.hok.Hb f.f f.m new) (λb hb=>⟨a8.s λ_ e=>e,(ax (show b≠a from λq=>f.o (q ▸ hb))).trans (I.cy hb),rfl⟩) rfl I.bare
theorem aa.rD {ds:List D}{us:List Value}{a:Addr}{n:Nat}{Q:QK}{R:Value->Shared->Prop}{F:Fz} (I:aa X τ z) (f:Fp X z a) (k:KE X τ F Q R) (l:Le F z.F) (r:ag X.G z.F ds us) (ho:z.s.heap.get? a=some (bH us n)) (hz:us.length<=sizeLine) (q:bL ds z.M Q):R (.ref a) z.s:=by
 rcases q with q |q
 ·obtain⟨l1,J⟩:=I.yn f ho;exact k (.lst ds) ⟨N.up z.F a (.dat (bH us n)),z.M,z.s⟩ _ (l.tr l1) J (m9 au hz (r.up l1.d)) q
 ·exact k (.ref a) ⟨z.F,N.up z.M a (.lst ds),z.s⟩ _ l (I.take (o:=.lst ds) f ⟨by rw[r.len];exact hz,us,n,r,ho⟩) qo (q a f.m)
theorem aa.yo {kvs:List (Key×D)}{vs:List (Key×Value)}{a:Addr}{Q:QK}{R:Value->Shared->Prop}{F:Fz} (I:aa X τ z) (f:Fp X z a) (nZ:(a == sysModules)=false) (k:KE X τ F Q R) (l:Le F z.F) (r:KV X.G z.F kvs vs) (ho:z.s.heap.DictOf (bw X.G.P X.G.w) a vs) (hz:kvs.length<=sizeLine) (q:ir kvs z.M Q):R (.ref a) z.s:=by
 rcases q with q |q
 ·obtain⟨o,es,ep,e,ex,g1,g2,g3,nd⟩:=ho;obtain⟨l1,J⟩:=I.yn f e;obtain⟨k1,k2⟩:=lh (r.up l1.d);refine k (.ak (kvs.map (·.1)) (kvs.map (·.2))) ⟨N.up z.F a (.dat o),z.M,z.s⟩ _ (l.tr l1) J ?_ q;rw[ae];refine⟨a,o,vs.map (·.2),rfl,au,⟨ex,⟨es,ep,g1,g2,?_⟩,by rw[k2];exact nd,by rw[k2,Ym,Ym],by rw[Ym];exact hz⟩,nZ,k1⟩;rw[k2,ym];exact g3
 ·exact k (.ref a) ⟨z.F,N.up z.M a (.ak kvs),z.s⟩ _ l (I.take (o:=.ak kvs) f ⟨hz,nZ,vs,r,ho⟩) qo (q a f.m)
theorem aa.yq {a:Addr} (I:aa X τ z) (hp:z.s.heap.objs.size<=a):(a == sysModules)=false:=beq_eq_false_iff_ne.mpr (Zl (Yx (YD I.nZ hp)))
theorem aa.ak {kvs:List (Key×D)}{vs:List (Key×Value)}{h':Heap}{a:Addr}{t:Nat}{Q:QK}{R:Value->Shared->Prop}{F:Fz} (I:aa X τ z) (k:KE X τ F Q R) (l:Le F z.F) (r:KV X.G z.F kvs vs) (kp:∀b,a8 z.s.heap h' b) (hp:z.s.heap.objs.size<=a) (ho:h'.DictOf (bw X.G.P X.G.w) a vs) (hz:kvs.length<=sizeLine) (q:ir kvs z.M Q):R (.ref a) { z.s with heap:=h',toks:=t }:=
 (I.kept (t:=t) kp).yo (I.kL hp) (I.yq hp) k l r ho hz q
variable {pos:Pos}{keys:List (Option Expr)}{values:List Expr}{ps:List (DE×DE)}{k v:Expr}{tk tv:DE}
theorem Hc:PE X (.Dict [] [] pos) yj:=fun τ z Q R I h k=>
 wpAny_Dict_empty (I.ak (vs:=[]) (t:=z.s.toks) k Le.rfl .nil (λ_ _ q=>Yk _ q) (Yr _) (Heap.DictOf.new _) (YE _) h)
def PP (X:Cx) (pos:Pos) (keys:List (Option Expr)) (values:List Expr) (ps:List (DE×DE)):Prop:=∀ τ z Q R,aa X τ z->rC ps τ z.M Q ->
 (∀kvs z' rs ws,Le z.F z'.F->aa X τ z'->Carries (bw X.G.P X.G.w) ws rs->KV X.G z'.F kvs rs->kvs.length=keys.length->Q kvs z'.M->R ws z'.s)->W X (evalPairs (pairTrees keys values X.env pos)) R z.s
theorem Hd:PP X pos [] [] []:=fun τ z Q R I h k=>pairTrees_nil_walk (k [] z [] [] Le.rfl I aai .nil rfl h)
theorem He (hk:PE X k tk) (hv:PE X v tv) (hr:PP X pos keys values ps):PP X pos (some k::keys) (v::values) ((tk,tv)::ps):=fun τ z Q R I h K=>
 pairTrees_cons_walk (hk τ z _ _ I h λx z1 u l1 I1 r1 q1=>by
  obtain⟨c,hc,q1⟩:=js (P:=X.G.P) (w:=X.G.w) q1 r1;exact hv τ z1 _ _ I1 q1 λy z2 w l2 I2 r2 q2=>hr τ z2 _ _ I2 q2 λkvs z3 rs ws l3 I3 ca rel hl q3=>K ((c,y)::kvs) z3 ((c,w)::rs) ((u,w)::ws) (l1.tr (l2.tr l3)) I3 ⟨hc,rfl,ca⟩ (.cons ⟨rfl,r2.up l3.d⟩ rel) (by rw[Yv,Yv,hl]) q3)
theorem KV.bT:∀{more:List (Key×D)}{rs:List (Key×Value)}{G:Gx}{F:Fz}{kvs:List (Key×D)}{vs:List (Key×Value)},KV G F more rs->KV G F kvs vs->KV G F (more.foldl (λal kv=>a9 al kv.1 kv.2) kvs) (merged vs rs)/\(more.foldl (λal kv=>a9 al kv.1 kv.2) kvs).length<=kvs.length+more.length:=by
 intro more rs G F kvs vs r;unfold KV at r
 induction r generalizing kvs vs with
 |nil=>intro q;exact⟨q,Yr _⟩
 |@cons p q ps qs h t ih=>
  intro r0;have e:KV G F (a9 kvs p.1 p.2) (stored vs q.1 q.2):=by
   have:=r0.put p.1 h.2;rw[<- h.1];exact this
  refine⟨(ih e).1,Yy (ih e).2 ?_⟩;have:=qI kvs p.1 p.2;rw[Yv];lia
theorem Hf (h:PP X pos keys values ps) (rE:keys.all (·.isSome)=true) (hl:keys.length=values.length) (h0:keys≠[]) (Hg:keys.length<=15):PE X (.Dict keys values pos) (yk ps):=fun τ z Q R I q K=>by
 have hb:=Yr z.s.heap.objs.size;have e0:(z.s.heap.push { cls:=.type "dict",data:=.dict #[] }).get? z.s.heap.objs.size=some { cls:=.type "dict",data:=.dict #[] }:=Yp _ rfl;have I1:aa X τ ⟨z.F,z.M,{ z.s with heap:=z.s.heap.push { cls:=.type "dict",data:=.dict #[] } }⟩:=I.kept (t:=z.s.toks) λ_ _ q=>Yk _ q;have fp:∀b∈[z.s.heap.objs.size],Fp X ⟨z.F,z.M,{ z.s with heap:=z.s.heap.push { cls:=.type "dict",data:=.dict #[] } }⟩ b:=λb m=>by rw[List.mem_singleton.mp m];exact I.kL hb
 obtain⟨lp,I2⟩:=I1.kK fp;refine wpAny_Dict_walk (knd:=bw X.G.P X.G.w) rE hl h0 Hg (h τ _ _ _ I2 q λkvs z3 rs ws l3 I3 ca rel hk q3=>?_);have yr:=l3 _ _ (dj (gG (List.mem_singleton.mpr rfl) e0));have h3:z3.s.heap.get? z.s.heap.objs.size=some { cls:=.type "dict",data:=.dict #[] }:=I3.hok.fz _ _ yr;obtain⟨l4,I4⟩:=I3.jl (F:=z.F) (λb m=>⟨(fp b m).f,(fp b m).o⟩) l3 I.bs I.bx I.f0;have Hh:=rel.up (bW.aK jk l3);obtain⟨rm,hm⟩:=KV.bT Hh (kvs:=[]) (vs:=[]) .nil;obtain⟨o,es,ep,e,rest⟩:=Heap.DictOf.new (knd:=bw X.G.P X.G.w) z.s.heap;rw[e0]at e;cases e;refine⟨rs,ca,⟨_,es,ep,h3,rest⟩,λh' gN hs=>?_⟩;have yt:z3.M z.s.heap.objs.size=none:=by
  cases r':z3.M z.s.heap.objs.size with
  |none=>rfl
  |some o'=>have:=(I3.hok.ob _ o' r').1;rw[yr]at this;cases this
 have f4:aK z3.F (aP [z.s.heap.objs.size] (z.s.heap.push { cls:=.type "dict",data:=.dict #[] })) z.s.heap.objs.size=none:=ew (gG (List.mem_singleton.mpr rfl) e0);have nO:=(fp _ (List.mem_singleton.mpr rfl)).o;have I5:=I4.turn (t:=z3.s.toks+ws.length) (h':=h') (λb hb o q=>(hs.2 b hb).trans q) f4 yt nO;exact I5.yo (a:=z.s.heap.objs.size) ⟨f4,yt,nO⟩ (I.yq hb) K l4 rm gN (Yy hm (by rw[hk,aao,List.length_nil];lia)) q3
theorem yu {kvs:List (Key×D)}{i:Nat}{p:Key×D} (h:kvs[i]?=some p):bT (kvs.take (i+1))=a9 (bT (kvs.take i)) p.1 p.2:=by
 rw[List.take_add_one,h];unfold bT;rw[List.foldl_append];rfl
theorem Hi (kvs:List (Key×D)) (k:Key) (v:D):(a9 kvs k v).length<=kvs.length+1:=by
 unfold a9;split
 ·rw[Ym];lia
 ·rw[YB];exact Yr _
theorem rF (kvs:List (Key×D)):∀i,(bT (kvs.take i)).length<=i
 | 0=>by simp [bT]
 |i+1=>by
  have ih:=rF kvs i;cases h:kvs[i]? with
  |none=>rw[List.take_add_one,h,Option.toList_none,YH];lia
  |some p=>rw[yu h];have:=Hi (bT (kvs.take i)) p.1 p.2;lia
theorem Hj {G:Gx}{F:Fz}{P:Program}{w:World}{k:Key}{u:Value} (r:ae G F (iu k) u):(bw P w).is k u=true:=by
 cases k with
 |inl i=>rw[iu,ae]at r;obtain⟨t,rfl⟩:=r;exact wX P w _ t
 |inr x=>rw[iu,ae]at r;obtain⟨t,rfl⟩:=r;exact wY P w _ t
theorem yv {kvs:List (Key×D)}{its:List Value}{T:String}{a:Addr}{OK:Heap->Prop}{Q:QK}{R:Value->Shared->Prop} (hc:X.calm=true) (I:aa X τ z) (rs:ag X.G z.F (kvs.map eH) its) (hz:its.length<=sizeLine) (hok:OK z.s.heap) (S:nX X.G.P X.G.w T a its.toArray.size (λi v=>its.toArray[i]?=some v) OK)
  (q:ir (bT kvs) z.M Q) (k:KE X τ z.F Q R):W X (call (.type "dict") [.ref a]) R z.s:=by
 have lt:∀b,z.F b≠none\/z.M b≠none->b<z.s.heap.objs.size:=λb h=>by
  rcases h with h |h
  ·cases e:z.F b with
   |none=>exact absurd e h
   |some f=>exact (I.hok.fz b f e).lt
  ·cases e:z.M b with
   |none=>exact absurd e h
   |some f=>exact (I.hok.ob b f e).2.lt
 have lk:kvs.length=its.length:=by rw[<- rs.len,Ym]
 refine G9 (DK:=λi h=>az X.G z.F z.M h/\∃vs,KV X.G z.F (bT (kvs.take i)) vs/\h.DictOf (bw X.G.P X.G.w) z.s.heap.objs.size vs) S (I.ok.hd hc) hok ⟨I.hok.keep λb _ o e=>Yk _ e,[],.nil,Heap.DictOf.new _⟩ (λi h h' it hit x k=>?_) (λA' T5 i v s' hi hP hD=>?_) λh' tk hD keep=>?_
 ·obtain⟨ok,vs,rel,o,es,ep,e,rest⟩:=x;exact⟨ok.keep λb hb o e=>k b o (Yx (Y7 (lt b hb) hit)) e,vs,rel,o,es,ep,k _ _ (Yx hit) e,rest⟩
 ·obtain⟨ok,vs,rel,dd⟩:=hD;have e1:its[i]?=some v:=by simpa using hP
  have cR:i<kvs.length:=by rw[lk];exact (List.getElem?_eq_some_iff.mp e1).1
  have f6:kvs[i]?=some kvs[i]:=Yo cR;obtain⟨u,hu,r1⟩:=rs.get (i:=i) (d:=eH kvs[i]) (by rw[Yz,f6];rfl);rw[e1]at hu;cases hu;rw[eH,ae]at r1;obtain⟨b,o,us,rfl,h1,h2,h3⟩:=r1;obtain⟨W4,W5,rfl,q1,q2⟩:=ff h3;obtain⟨n,hd⟩:=h2.data;refine⟨b,o,_,n,W4,W5,rfl,ok.fz b _ h1,h2.cls,hd,rfl,λQ E hq=>?_⟩;have hv:vs.length<=sizeLine:=by
   rw[<- Paired.length rel];exact Yy (rF kvs i) (by lia)
  refine wpAny_dictSet_pairs (hsz:=hv) (Hj q1) dd λh2 ik sb=>hq _ _ ⟨ok.keep λb hb o e=>sb.extBut b o (Yx (lt b hb)) e,_,?_,ik⟩ sb;rw[yu f6];exact rel.put kvs[i].1 q2
 ·obtain⟨ok,vs,rel,dd⟩:=hD;have ls:its.toArray.size=kvs.length:=by rw[Yn,lk]
  rw[ls,List.take_length]at rel;have hl:(bT kvs).length<=sizeLine:=by
   have:=rF kvs kvs.length;rw[List.take_length]at this;lia
  exact I.ak (t:=tk) k Le.rfl rel (λb o e=>keep b o e) (Yr _) dd hl q
open PySem.W in
theorem Hk (hc:X.calm=true):CB X (.type "dict") yl:=jw fun τ z Q R d v I r q k=>by
 rcases q with q |q
 ·obtain⟨a,kvs,vs,rfl,l,q⟩:=I.cn r q;refine kt_call_dict l.n l.d (by rw[<- Paired.length l.r];exact l.z) λh' hm hs=>?_;exact I.ak (t:=z.s.toks) k Le.rfl l.r (λb o e=>hs.extBut b o (Yx (Yw e)) (Yk _ e)) (Yr _) hm l.z q
 ·unfold dp at q;split at q
  ·obtain⟨kvs,rfl,q⟩:=q;obtain⟨a,us,o,rfl,l⟩:=I.cM r;obtain⟨n,hd⟩:=l.t.data;exact yv hc I l.r l.t.len ⟨o,n,l.e,l.t.cls,hd,l.t.dict⟩ G8 q k
  ·obtain⟨a,ds,us,n,rfl,l,kvs,rfl,q⟩:=I.bf r q;exact yv hc I l.r l.z l.e G7 q k
end
theorem Hl {X:Cx}:OM X "list.extend" rq:=fun τ z Q R d v ds us I rv rs h k=>by
 unfold rq at h;split at h
 ·obtain⟨u,rfl,ru⟩:=gI rs;obtain⟨a,xs,its,n,rfl,hM,l,h⟩:=I.fY rv h;have hl:=l.r.len;unfold dp at h;split at h
  ·obtain⟨hz,q⟩:=h;obtain⟨b,f7,⟨cls,dd,data,sl⟩,rfl,l2⟩:=I.cM ru;obtain⟨e1,e2,⟨n2,e3⟩,_⟩:=l2.t;have hl2:=l2.r.len;have he:=l2.e;simp only at e1 e3;subst e1 e3;have hsz:its.toArray.size+f7.toArray.size<=sizeLine:=(by rw[Yn,Yn];lia);have k6:¬(!its.toArray.isEmpty && Zx (its.toArray.size+f7.toArray.size))=true:=by
    rw[qG hsz,Bool.and_false];exact Y0
   refine call_meets F.slot_list_extend ⟨_,l.e,rfl⟩ F.entry_list_extend (F.args_list_extend_2 _ _) (FK a b its.toArray f7.toArray n n2 dd sl k6 (by rw[Yn];lia) (by lia)) ⟨l.e,he,?_⟩;exact k .aj ⟨z.F,_,_⟩ _ Le.rfl (I.nW (us':=its++f7) hM l.e (by simp) (l.r.app l2.r) (by rw[YB];lia)) (by rw[ae]) q
  ·obtain⟨b,ys,f7,n2,rfl,l2,hz,q⟩:=I.bf ru h;have hl2:=l2.r.len;have hsz:its.toArray.size+f7.toArray.size<=sizeLine:=(by rw[Yn,Yn];lia);have k6:¬(!its.toArray.isEmpty && Zx (its.toArray.size+f7.toArray.size))=true:=by
    rw[qG hsz,Bool.and_false];exact Y0
   refine call_meets F.slot_list_extend ⟨_,l.e,rfl⟩ F.entry_list_extend (F.args_list_extend_2 _ _) (AutoSeq1.list_extend_list_list_0 a its.toArray n b f7.toArray n2 k6 (by rw[Yn];lia) (by lia)) ⟨l.e,l2.e,?_⟩;exact k .aj ⟨z.F,_,_⟩ _ Le.rfl (I.nW (us':=its++f7) hM l.e (by simp) (l.r.app l2.r) (by rw[YB];lia)) (by rw[ae]) q
 ·exact h.elim
end N
end
section
set_option maxHeartbeats 1000000
namespace N
open PySem PySem.Spec PyProof.Rows L2
def cS (ok:Mp->Prop) (g:G) (tc:DT) (te:DE) (τ:St) (k:List D->Mp->Prop):List D->List D->Mp->Prop
 |[],ys,M=>ok M/\ys.length<sizeLine/\k ys M
 |x::xs,ys,M=>ok M/\ys.length<sizeLine/\bM g x τ M fun τ1 M0=>tc τ1 M0 λb M1=>if b=true then te τ1 M1 λy M2=>cS ok g tc te τ k xs (ys++[y]) M2 else cS ok g tc te τ k xs ys M1
noncomputable def dv (n:Nat) (fr:List (Str×Nat)) (τ:St):St:=Y' n none++fr.map λp=>(τ[p.2]?).join
def rG (n:Nat) (fr:List (Str×Nat)) (g:G) (ti:DI) (tc:DT) (te:DE):DE:=fun τ M q=>ti τ M λxs ok M1=>cS ok g tc te (dv n fr τ) (λys M2=>bL ys M2 q) xs [] M1
def Hm (n:Nat) (fr:List (Str×Nat)) (g:G) (ti:DI) (tc:DT) (te:DE) (j:Nat):DS:=λe τ M=>ti τ M λxs ok M1=>cS ok g tc te (dv n fr τ) (λys M2=>bL ys M2 λd M3=>e.nx (τ.set j (some d)) M3) xs [] M1
noncomputable def dw (X:Cx) (scope:Scope) (N':List Str) (cl:List (Str×Addr)) (C:Addr):Cx where
 G:=X.G
 A:=X.A
 N:=N'
 os:=X.os
 env:=compEnvC scope cl C X.env
 outer:=X.stk
 stk:=X.stk
 fn:=λ_=>false
 calm:=X.calm
 x:=λ_ _ _=>False
 F0:=X.F0
def PF (X:Cx) (a2:List Expr) (t:DT):Prop:=∀ τ z Q R,aa X τ z->t τ z.M Q->KT X τ z.F Q R ->
 W X (forIn a2 true λc r=>if r=true then do let ok <- isTrue c X.env (eval c X.env);pure (ZW ok) else pure (ZW r)) R z.s
def gO:DT:=λ_ M q=>q true M
theorem Hn {X:Cx}:PF X [] gO:=fun τ z Q R I h k=>wpAny_tests_nil (k true z Le.rfl I h)
theorem Ho {X:Cx}{c:Expr}{t:DT} (h:PT X c t):PF X [c] t:=fun τ z Q R I q k=>wpAny_tests_one (h τ z Q R I q k)
noncomputable def G.lt (k:Nat):G->Bool
 |.one i=>decide (i<k)
 |.many is=>is.all λi=>decide (i<k)
theorem yw:∀(is:List Nat) (ds:List D) (τ:St) (k:Nat),(is.all λi=>decide (i<k))=true->(fc is ds τ).length=τ.length/\(fc is ds τ).drop k=τ.drop k
 |[],ds,τ,k,_=>by unfold fc;exact⟨rfl,rfl⟩
 |i::is,[],τ,k,_=>by unfold fc;exact⟨rfl,rfl⟩
 |i::is,d::ds,τ,k,h=>by
  rw[List.all_cons,Yq]at h;obtain⟨h1,h2⟩:=yw is ds (τ.set i (some d)) k h.2;unfold fc;exact⟨h1.trans List.length_set,h2.trans (List.drop_set_of_lt (of_decide_eq_true h.1))⟩
theorem Hr {g:G}{k:Nat} (h:g.lt k=true) {x:D} {τ:St} {M:Mp}{Q:St->Mp->Prop} (q:bM g x τ M Q):bM g x τ M fun τ2 M2=>Q τ2 M2/\τ2.length=τ.length/\τ2.drop k=τ.drop k:=by
 cases g with
 |one i=>exact⟨q,List.length_set,List.drop_set_of_lt (of_decide_eq_true h)⟩
 |many is=>
  have imp:∀{k k':List D->Prop},(∀ds,k ds->k' ds)->dp x M k->dp x M k':=λ{k k'} f h=>by
   cases x <;> first |exact f _ h |exact h |(obtain⟨ds,h1,h2⟩:=h;exact⟨ds,h1,f _ h2⟩)
  exact imp (λds p=>⟨p.1,p.2,yw is ds τ k h⟩) q
structure iw (X:Cx) (scope:Scope) (Nt:List Str) (fr:List (Str×Nat)):Prop where
 kind:scope.kind=.function
 cell:∀y∈scope.names,y.2≠.cell
 names:∀y∈scope.names,y.2=.local->scope.names.lookup y.1=some .local
 free:∀y∈scope.names,y.2=.free->X.env.kindOf y.1=some .cell
 fr:∀p∈fr,X.N[p.2]?=some p.1/\scope.names.lookup p.1=some .free
section
variable {X:Cx} {τ:St} {z:Z}{tg a1 iter:Expr}{a2:List Expr}{scope:Scope}{pos:Pos}{Nt:List Str}{fr:List (Str×Nat)}{g:G}{tc:DT}{te:DE}{cl:List (Str×Addr)}{C:Addr}
theorem Ht {h1:Heap}{t1:Nat}{m:Str->Option Value} (L:iw X scope Nt fr) (I:aa X τ z) (bZ:∀ x c,cl.lookup x=some c->X.env.cells.lookup x=some c) (lj:∀ y∈scope.names,y.2=.free->∃ c,cl.lookup y.1=some c)
  (hC:z.s.heap.objs.size<=C) (old:∀b,a8 z.s.heap h1 b) (hn:h1.Ns C m):aa (dw X scope (Nt++fr.map (·.1)) cl C) (dv Nt.length fr τ) ⟨aT z.F (X.aO z.s.heap),z.M,{ z.s with heap:=h1,toks:=t1 }⟩:=by
 have e0:=I.qe;refine⟨⟨I.ok.mod,L.kind,I.ok.cw,I.ok.gz,λx y c e1 e2=>I.ok.inj x y c (bZ _ _ e1) (bZ _ _ e2),λx hx=>?_,I.ok.hd,I.ok.frames,.inl rfl,λ_ _ _ h=>h.elim⟩,e0.bs,I.os,I.bare,e0.bx,⟨m,hn,λi x v lq h2 h3=>?_⟩,λx c e=>?_,⟨I.mV.ck hC,I.hok.c0 hC⟩,I.mV.keep λb _=>old b,?_,I.f0.tr I.cc⟩
 ·have cI:((relabel scope X.env).names.lookup x=some .cell\/(relabel scope X.env).names.lookup x=some .free):=hx;rcases cI with q |q
  ·exact lj _ (qO L.cell (.inl rfl) q) rfl
  ·exact lj _ (qO L.cell (.inr rfl) q) rfl
 ·have rH:(Nt++fr.map (·.1))[i]?=some x:=lq;have hi:¬i<Nt.length:=λhi=>by
   unfold dv at h2;rw[Y5 (by simpa using hi),List.getElem?_replicate]at h2;split at h2 <;> cases h2
  unfold dv at h2;rw[Y1 (by simpa using hi),List.length_replicate,Yz]at h2;rw[Y1 (by lia),Yz]at rH;cases e:fr[i-Nt.length]? with
  |none=>rw[e]at h2;cases h2
  |some p=>
   rw[e]at h2 rH;have ex:p.1=x:=YY rH;have UW:(τ[p.2]?).join=some v:=YY h2;obtain⟨hN,hfr⟩:=L.fr p (Y4 e);have es:τ[p.2]?=some (some v):=by
    cases q:τ[p.2]? with
    |none=>rw[q]at UW;cases UW
    |some o=>rw[q]at UW;exact congrArg some UW
   have hkc:=L.free (p.1,.free) (PySem.mem_of_lookup hfr) rfl;obtain⟨XS,T6,Hu⟩:=I.loc;obtain⟨u,ru,lk⟩:=Hu p.2 p.1 v hN es (.inr (.inl hkc));refine⟨u,ru.up I.cc.d,?_⟩;rcases lk with ⟨kk,_⟩ |⟨_,c,hc,m7⟩
   ·rw[hkc]at kk;cases kk
   ·obtain⟨c',fP⟩:=lj _ (PySem.mem_of_lookup hfr) rfl;have hcc:=bZ _ _ fP;rw[hc]at hcc;cases hcc;subst ex;refine .inr ⟨xo hfr,c,fP,?_⟩;obtain⟨o,q1,q2⟩:=m7;exact⟨o,old _ _ q1,q2⟩
 ·have hc:=bZ x c e;obtain⟨⟨v,o,q1,q2⟩,hM,hF⟩:=I.cell x c hc;refine⟨⟨v,o,old _ _ q1,q2⟩,hM,.inr ⟨rfl,?_⟩⟩;rcases hF with ⟨hf,hF⟩ |⟨hf,o',hF⟩
  ·refine⟨o,dj ?_⟩;unfold Cx.aO;rw[if_neg (I.gA hc),if_pos ⟨x,hf,hc⟩,q1];rfl
  ·exact⟨o',I.cc c _ hF⟩
 ·unfold dv;show _=(Nt++fr.map (·.1)).length;simp
end
end N
end
section
set_option maxHeartbeats 1000000
namespace N
open PySem PySem.Spec PyProof.Rows L2
section
variable {X:Cx} {τ:St} {z:Z}{tg a1 iter:Expr}{a2:List Expr}{scope:Scope}{pos:Pos}{Nt:List Str}{fr:List (Str×Nat)}{g:G}{tc:DT}{te:DE}{cl:List (Str×Addr)}
structure yx (X:Cx) (τ:St) (z:Z) (fin:List D->Mp->Prop) (L C:Addr) (z':Z) (ys:List D) (its:List Value) (n:Nat) (m':Str->Option Value):Prop where
 le:Le z.F z'.F
 lr:aa X τ z'
 fl:Fp X z' L
 U5:Fp X z' C
 ne:L≠C
 ns:z'.s.heap.Ns C m'
 obj:z'.s.heap.get? L=some (bH its n)
 rel:ag X.G z'.F ys its
 sz:its.length<=sizeLine
 fin:fin ys z'.M
theorem lu {a b:Addr} (h:b∈[a]):b=a:=List.mem_singleton.mp h
theorem rI {X:Cx} {τ:St} {z:Z}{b:Addr}{f:Fo} (I:aa X τ z) (h:z.F b=some f):z.M b=none:=by
 cases q:z.M b with
 |none=>rfl
 |some o=>have:=(I.hok.ob b o q).1;rw[h]at this;cases this
theorem yy {it:Addr}{xs:List D}{ok:Mp->Prop}{fin:List D->Mp->Prop}{E:Value->Shared->Prop}{RR:Value->Addr->Result->Shared->Prop}
  (L:iw X scope Nt fr) (lm:X.calm=true) (I:aa X τ z) (bZ:∀x c,cl.lookup x=some c->X.env.cells.lookup x=some c) (lj:∀y∈scope.names,y.2=.free->∃c,cl.lookup y.1=some c)
  (hit:qw X tg xs ok z it) (hg:∀C,PG (dw X scope (Nt++fr.map (·.1)) cl C) tg (bM g)) (lA:g.lt Nt.length=true) (hc:∀C,PF (dw X scope (Nt++fr.map (·.1)) cl C) a2 tc) (he:∀C,PE (dw X scope (Nt++fr.map (·.1)) cl C) a1 te)
  (w0:cS ok g tc te (dv Nt.length fr τ) fin xs [] z.M)
  (Hv:∀A C z' ys its n m',yx X τ z fin A C z' ys its n m'->RR (.ref A) C (.ok .next) z'.s) :
  wpAny (model X.G.P X.G.w) X.A (newList []) (λal s3=>wpAny (model X.G.P X.G.w) X.A (newFunctionEnv scope X.env.globals cl [] X.env.qual none .none (some X.env)) (λyz s4=>
   codeAny (model X.G.P X.G.w) X.A (.compStart (.ListComp a1 [⟨tg,iter,a2,0⟩] scope pos) 0 (.ref it) al { yz with scope:=relabel scope X.env }) (RR al yz.locals) s4) E s3) E z.s:=by
 obtain⟨T,t0,f0⟩:=hit;rename_i fp tn;refine YV (wpAny_newFunctionEnv L.cell (by intro y hy;simp at hy) (λh1 b0 dP=>?_) L.kind);dsimp only at b0 dP ⊢;generalize rJ:z.s.heap.push { cls:=.type "list",dict:=none,data:=.seq ([]:List Value).toArray }=H2 at b0 dP ⊢;have hC:H2.objs.size=z.s.heap.objs.size+1:=by rw[<- rJ,YR]
 have old:∀b,a8 z.s.heap h1 b:=λb o q=>
  dP.extBut b o (by rw[hC];exact Yx (Zk (Yw q))) (Yk _ (rJ ▸ Yk _ q))
 have lB:z.s.heap.objs.size≠H2.objs.size:=by rw[hC];exact Yx (ZK _)
 have iy:h1.get? z.s.heap.objs.size=some (bH [] 0):=dP.extBut _ _ lB (Yk _ (rJ ▸ Yp _ rfl));have jz:z.s.heap.objs.size<=H2.objs.size:=by rw[hC];exact Nat.le_succ _
 have I0:=Ht (t1:=z.s.toks+([]:List (Str×Value)).length) (C:=H2.objs.size) L I bZ lj jz old b0;have n7:tn 0 h1:=T.keep 0 _ _ t0 λb _=>old b;have bd:∀b∈fp,b<z.s.heap.objs.size:=λb hb=>let ⟨o,q⟩:=T.obj 0 _ t0 b hb;Yw q
 generalize iz:z.s.heap.objs.size=a at lB iy jz bd;generalize H2.objs.size=C at lB b0 dP jz I0;generalize hX:dw X scope (Nt++fr.map (·.1)) cl C=X' at I0;have Vt:X'.G=X.G:=by subst hX;rfl
 have Wi:X'.A=X.A:=by subst hX;rfl
 have XU:X'.env=compEnvC scope cl C X.env:=by subst hX;rfl
 have Wj:X'.calm=true:=by subst hX;exact lm
 have n8:PG X' tg (bM g):=by subst hX;exact hg _
 have fP:PF X' a2 tc:=by subst hX;exact hc _
 have hV:PE X' a1 te:=by subst hX;exact he _
 have go:∀{α:Type} {t:Env->Sem α}{R:α->Shared->Prop}{s:Shared},W X' (t X'.env) R s->wpAny (model X.G.P X.G.w) X.A (t (compEnvC scope cl C X.env)) R (λ_ _=>False) s:=λh=>by
  subst hX;exact Zm h (λ_ _ q=>q) λ_ _ q=>(q.no λ_ _ _ h=>h).elim
 have own:∀b,cx X' b->b=C\/cx X b:=λb hb=>by
  subst hX;rcases hb with h |⟨x,h⟩
  ·exact .inl h
  ·exact .inr (.inr ⟨x,bZ x b h⟩)
 have n9:∀b∈fp,¬cx X' b:=λb hb o=>by
  rcases own b o with h |h
  ·exact absurd (YD (bd b hb) jz) (by rw[h];exact ZL _)
  ·exact (f0 b hb).o h
 have rK:¬cx X' a:=λo=>by
  rcases own a o with h |h
  ·exact lB h
  ·exact absurd (I.fM h) (by rw[iz];exact ZL _)
 have rL:∀b∈fp,b≠a:=λb hb=>Yx (bd b hb)
 -- the state between two T7
 let J:Nat->Shared->Prop:=λn s'=>∃i ys its c z',z'.s=s'/\Le (aT z.F (X.aO z.s.heap)) z'.F/\aa X' (dv Nt.length fr τ) z'/\ag X.G z'.F ys its/\tn i z'.s.heap/\(∀b∈fp,Fp X' z' b)/\Fp X' z' a/\z'.s.heap.get? a=some (bH its c) /\
  cS ok g tc te (dv Nt.length fr τ) fin (xs.drop i) ys z'.M/\n+i=xs.length
 have loop:∀ s3:Shared,s3={ z.s with heap:=h1,toks:=z.s.toks+([]:List (Str×Value)).length } ->
   codeAny (model X.G.P X.G.w) X.A (.compLoop (.ListComp a1 [⟨tg,iter,a2,0⟩] scope pos) 0 (.ref it) (.ref a) (compEnvC scope cl C X.env)) (RR (.ref a) C) s3:=by
  rintro s3 rfl;refine FN (P:=λs'=>∃z' ys its n m',z'.s=s'/\yx X τ z fin a C z' ys its n m') (λs' ⟨z',ys,its,n,m',e,q⟩=>e ▸ Hv _ _ z' ys its n m' q) J ?_ xs.length
   ⟨0,[],[],0,⟨aT z.F (X.aO z.s.heap),z.M,_⟩,rfl,Le.rfl,I0,.nil,n7,λb hb=>⟨?_,(f0 b hb).m,n9 b hb⟩,⟨I.mV.ck (aae iz),I.hok.c0 (aae iz),rK⟩,iy,w0,rfl⟩
  ·rintro n s' ⟨i,ys,its,c,z1,rfl,l1,I1,rv,st,Vu,Wk,W6,w,hn⟩;have lC:∀b∈[a],Fp X' z1 b:=λb hb=>(by rw[lu hb];exact Wk);obtain⟨lp,Ip⟩:=I1.kK lC;have pA:aP [a] z1.s.heap a=some (.pin (bH its c)):=gG (List.mem_singleton.mpr rfl) W6;have yA:∀b∈fp,Fp X' ⟨aT z1.F (aP [a] z1.s.heap),z1.M,z1.s⟩ b:=λb hb=>⟨(e9 (kJ λm=>rL b hb (lu m))).trans (Vu b hb).f,(Vu b hb).m,(Vu b hb).o⟩;have lz:Le z.F (aT z1.F (aP [a] z1.s.heap)):=I.cc.tr (l1.tr lp);cases hx:xs[i]? with
   |none=>
    have hl:xs.length<=i:=List.getElem?_eq_none_iff.mp hx;rw[List.drop_of_length_le hl]at w;have A1:=T.done X' Vt Wj i _ ⟨aT z1.F (aP [a] z1.s.heap),z1.M,z1.s⟩ (λ_ _=>False) Ip lz yA st w.1 hl;rw[Wi]at A1;refine eF A1 λr s1 ⟨hr,I2⟩=>?_;subst hr;obtain⟨l3,I3⟩:=I2.jl (F:=z1.F) (λb hb=>⟨(lC b hb).f,(lC b hb).o⟩) Le.rfl I1.bs I1.bx I1.f0;have e2:s1.heap.get? a=some (bH its c):=I2.hok.fz a _ (dj pA);have hL:X'.env.locals=C:=(by subst hX;rfl);obtain⟨m',yB,_⟩:=I3.loc;rw[hL]at yB;have l4:=l1.tr l3;have cO:s1.os=z.s.os:=by have:=I3.os;subst hX;exact this.trans I.os.symm
    have I5:=I.after (z':=⟨aK (aT z1.F (aP [a] z1.s.heap)) (aP [a] z1.s.heap),z1.M,s1⟩) l4 (by rw[<- Vt];exact I3.hok) cO I3.bare;have Hw:aK (aT z1.F (aP [a] z1.s.heap)) (aP [a] z1.s.heap) a=none:=ew pA;have Hx:aK (aT z1.F (aP [a] z1.s.heap)) (aP [a] z1.s.heap) C=none:=by have:=I3.free.1;rw[hL]at this;exact this
    have Hy:z1.M C=none:=by have:=I3.free.2;rw[hL]at this;exact this
    have no:∀{b:Addr},z.s.heap.objs.size<=b->X.aO z.s.heap b=none:=λ{b} hb=>by
     cases q:X.aO z.s.heap b with
     |none=>rfl
     |some f=>exact absurd (YD (I.fM (I.fN (h:=z.s.heap) (by rw[q];exact YI f)).1) hb) (ZL _)
    have nO:∀{b:Addr},z.s.heap.objs.size<=b->¬cx X b:=λhb o=>absurd (YD (I.fM o) hb) (ZL _);exact⟨_,ys,its,c,m',rfl,⟨Le.aK (λb e=>(I.fN e).2) l4,I5,⟨(ey (no (aae iz))).trans Hw,Wk.m,nO (aae iz)⟩,⟨(ey (no (iz ▸ jz))).trans Hx,Hy,nO (iz ▸ jz)⟩,lB,yB,e2,
     (rv.up l3.d).up (bW.aK X.qc l4),by rw[<- rv.len];exact Nat.le_of_lt w.2.1,w.2.2⟩⟩
   |some d=>
    obtain⟨rM,hd⟩:=List.getElem?_eq_some_iff.mp hx;rw[List.drop_eq_getElem_cons rM,hd]at w;have A1:=T.item X' Vt Wj i _ ⟨aT z1.F (aP [a] z1.s.heap),z1.M,z1.s⟩ d (λ_ _=>False) Ip lz yA st w.1 hx;rw[Wi]at A1;refine eF A1 λr s1 ⟨u,hr,h4⟩=>?_;subst hr;refine eF h4 λ_ s5 h5=>?_;obtain⟨l5,I5,r5,t5,n5⟩:=h5;rename_i F5;have f5:∀b∈fp,Fp X' ⟨F5,z1.M,s5⟩ b:=λb hb=>⟨n5 b hb,(Vu b hb).m,n9 b hb⟩;obtain⟨Vv,Iq⟩:=I5.kK f5
    -- the aO are T9 off,the list may have grown
    have off:∀ {τ7:St} {z7:Z}{f8:List D}{og:List Value}{c':Nat}{h9:Heap},Le (aT F5 (aP fp s5.heap)) z7.F->aa X' τ7 z7->τ7.length=(dv Nt.length fr τ).length->τ7.drop Nt.length=(dv Nt.length fr τ).drop Nt.length->(∀ b,b≠a->a8 z7.s.heap h9 b)->h9.get? a=some (bH og c') ->
      (∀F,bW z7.F F->ag X.G F f8 og)->cS ok g tc te (dv Nt.length fr τ) fin (xs.drop (i+1)) f8 z7.M->∃m,m<n/\J m { z7.s with heap:=h9 }:=λ{τ7 z7 f8 og c' h9} l7 I7 len VP kp o9 rel w7=>by
     obtain⟨u1,u2⟩:=I7.jl (fp:=fp) (h:=s5.heap) (F:=F5) (λb hb=>⟨n5 b hb,n9 b hb⟩) l7 I5.bs I5.bx I5.f0;have bK:∀b∈fp,∃o,s5.heap.get? b=some o/\z7.F b=some (.pin o):=λb hb=>by
      obtain⟨o,ho⟩:=T.obj _ _ t5 b hb;exact⟨o,ho,l7 b _ (dj (gG hb ho))⟩
     have l8:Le (aT z1.F (aP [a] z1.s.heap)) (aK z7.F (aP fp s5.heap)):=l5.tr u1;obtain⟨v1,v2⟩:=u2.jl (fp:=[a]) (h:=z1.s.heap) (F:=z1.F) (λb hb=>⟨(lC b hb).f,(lC b hb).o⟩) l8 I1.bs I1.bx I1.f0;have g0:=l8 a _ (dj pA);have Vw:z7.M a=none:=rI (z:=⟨aK z7.F (aP fp s5.heap),z7.M,z7.s⟩) u2 g0;have Vx:aK (aK z7.F (aP fp s5.heap)) (aP [a] z1.s.heap) a=none:=ew pA;have v3:=(v2.turn (t:=z7.s.toks) kp Vx Vw rK).D6 len.symm λk v q=>by
      have hk:¬k<Nt.length:=λhk=>by
       unfold dv at q;rw[Y5 (by simpa using hk),List.getElem?_replicate]at q;split at q <;> cases q
      have y:∀l:St,l[k]?=(l.drop Nt.length)[k-Nt.length]?:=λl=>by
       rw[List.getElem?_drop]
       congr 1
       lia
      rw[y,VP,<- y];exact q
     refine⟨n-1,by lia,i+1,f8,og,c',⟨_,_,_⟩,rfl,l1.tr v1,v3,rel _ λb o e=>bW.aK jk l8 b o (bW.aK jk l7 b o e),?_,λb hb=>?_,⟨Vx,Vw,rK⟩,o9,w7,by lia⟩
     ·refine T.keep _ _ _ t5 λb hb o ho=>kp b (rL b hb) o ?_;obtain⟨o',h1,h2⟩:=bK b hb;rw[ho]at h1;cases h1;exact I7.hok.fz b _ h2
     ·obtain⟨o',h1,h2⟩:=bK b hb;refine⟨(ey (kJ λm=>rL b hb (lu m))).trans (ew (gG hb h1)),rI (z:=z7) I7 h2,n9 b hb⟩
    refine go (t:=λenv=>assign tg env u) (n8 _ ⟨_,z1.M,s5⟩ d u _ _ Iq (r5.up Vv.d) (Hr lA w.2.2) fun τ6 z6 l6 I6 q6=>?_);obtain⟨q6,yC,yD⟩:=q6;refine go (t:=λenv=>forIn a2 true λc r=>if r=true then do let ok <- isTrue c env (eval c env);pure (ZW ok) else pure (ZW r)) (fP τ6 z6 _ _ I6 q6 λHz z7 l7 I7 q7=>?_)
    have yE:∀{τ8:St} {z8:Z},Le (aT F5 (aP fp s5.heap)) z8.F->aa X' τ8 z8->z8.s.heap.get? a=some (bH its c):=λl8 I8=>I8.hok.fz a _ (l8 a _ (Vv a _ (l5 a _ (dj pA))));cases Hz with
    |false=>
     rw[if_neg Y0]at q7 ⊢;exact off (h9:=z7.s.heap) (l6.tr l7) I7 yC yD (λ_ _ _ e=>e) (yE (l6.tr l7) I7) (λF l=>rv.up λb o e=>l b o ((l6.tr l7) b _ (Vv b _ (l5 b _ (lp b _ e))))) q7
    |true=>
     rw[if_pos rfl]at q7 ⊢;refine go (t:=λenv=>eval a1 env) (hV τ6 z7 _ _ I7 q7 λy z8 v l8 I8 W7 W8=>?_);have l8:=l6.tr (l7.tr l8);refine append_at (hsz:=by rw[Yn,<- rv.len];exact Nat.le_of_lt w.2.1) (yE l8 I8) λh9 sb o9=>?_;rw[show its.toArray.push v=(its++[v]).toArray by simp]at o9;exact off (h9:=h9) l8 I8 yC yD (λb hb o q=>(sb.2 b hb).trans q) o9 (λF l=>(rv.up λb o e=>l b o (l8 b _ (Vv b _ (l5 b _ (lp b _ e))))).app (.cons (by rw[<- Vt];exact W7.up l) .nil)) W8
  ·exact (e9 (by
    cases q:X.aO z.s.heap b with
    |none=>rfl
    |some f=>exact absurd (I.fN (h:=z.s.heap) (by rw[q];exact YI f)).1 (f0 b hb).o)).trans (f0 b hb).f
 exact codeAny_compStart_list (loop _ rfl) (T.self X.A 0 _ _ _ n7 (loop _ rfl))
theorem HA {ti:DI} (L:iw X scope Nt fr) (lm:X.calm=true) (hi:PI X tg iter ti) (hg:∀ cl C,PG (dw X scope (Nt++fr.map (·.1)) cl C) tg (bM g)) (lA:g.lt Nt.length=true)
  (hc:∀cl C,PF (dw X scope (Nt++fr.map (·.1)) cl C) a2 tc) (he:∀cl C,PE (dw X scope (Nt++fr.map (·.1)) cl C) a1 te) (hs:∀x,foldedSetIterable iter X.env x=pure x) :
  PE X (.ListComp a1 [⟨tg,iter,a2,0⟩] scope pos) (rG Nt.length fr g ti tc te):=fun τ z Q R I h k=>by
 obtain⟨cl,e1,e2,e3⟩:=xn (scope:=scope) (env:=X.env) λy hy hf=>I.ok.has _ (.inl (L.free y hy hf));rw[eval_ListComp];refine wpAny_comprehension_free (use:=none) rfl hs e1 L.kind L.names (hi τ z _ _ I h λxs ok z2 it l2 I2 hit w0=>?_);refine yy (RR:=λal C r s'=>compPost (model X.G.P X.G.w) X.A (XE X) none R al C r s') L lm I2 e2 e3 hit (hg cl) lA (hc cl) (he cl) w0 λA C z' ys its n m' q=>?_;refine⟨m',q.ns,λh' sb=>?_⟩;have J:=q.lr.turn (t:=z'.s.toks) (h':=h') (λb hb o e=>(sb.2 b hb).trans e) q.U5.f q.U5.m q.U5.o;exact J.rD ⟨q.fl.f,q.fl.m,q.fl.o⟩ k (l2.tr q.le) q.rel ((sb.2 A q.ne).trans q.obj) q.sz q.fin
theorem HB {ti:DI}{y:Str}{j:Nat}{py jA:Pos} (L:iw X scope Nt fr) (lm:X.calm=true) (hN:fR X [j] [y]) (hi:PI X tg iter ti) (hg:∀ cl C,PG (dw X scope (Nt++fr.map (·.1)) cl C) tg (bM g)) (lA:g.lt Nt.length=true)
  (hc:∀cl C,PF (dw X scope (Nt++fr.map (·.1)) cl C) a2 tc) (he:∀cl C,PE (dw X scope (Nt++fr.map (·.1)) cl C) a1 te) (hs:∀x,foldedSetIterable iter X.env x=pure x)
  (lD:swapsWith (.ListComp a1 [⟨tg,iter,a2,0⟩] scope pos) (some (.Name y py)) jA.line X.env=pure true) :
  PS X (.Assign [.Name y py] (.ListComp a1 [⟨tg,iter,a2,0⟩] scope pos) jA) (Hm Nt.length fr g ti tc te j):=fun τ z e R I h k=>by
 obtain⟨cl,e1,e2,e3⟩:=xn (scope:=scope) (env:=X.env) λy hy hf=>I.ok.has _ (.inl (L.free y hy hf));rw[exec_Assign_Name_used _ _ _ _ lD];refine Yj (wpAny_standAt (Yj ?_));show W X (do let _ <- comprehension (.ListComp a1 [⟨tg,iter,a2,0⟩] scope pos) scope X.env _ (newList []) false (eval iter X.env) (some (assign (.Name y py) X.env))) _ z.s
 refine Yj (eF (wpAny_comprehension_free (use:=some (assign (.Name y py) X.env)) (Q:=λ_ s'=>R .next s') rfl hs e1 L.kind L.names (hi τ z _ _ I h λxs ok z2 it l2 I2 hit w0=>?_)) λ_ s' hq=>Yl (Yl hq));refine yy (RR:=λal C r s'=>compPost (model X.G.P X.G.w) X.A (XE X) (some (assign (.Name y py) X.env)) (λ_ s'=>R .next s') al C r s') L lm I2 e2 e3 hit (hg cl) lA (hc cl) (he cl) w0 λA C z' ys its n m' q=>?_;obtain⟨oC,es,ep,HC,rest⟩:=id q.ns;have VR:∀b∈[C],Fp X z' b:=λb hb=>by rw[lu hb];exact q.U5
 obtain⟨lp,Ip⟩:=q.lr.kK VR;have Wn:aP [C] z'.s.heap C=some (.pin oC):=gG (List.mem_singleton.mpr rfl) HC;have W9:Fp X ⟨aT z'.F (aP [C] z'.s.heap),z'.M,z'.s⟩ A:=⟨(e9 (kJ λm=>q.ne (lu m))).trans q.fl.f,q.fl.m,q.fl.o⟩;show W X (assign (.Name y py) X.env (.ref A)) (λ_ s'=>∃m,_/\_) z'.s;refine Ip.rD (R:=λv s'=>W X (assign (.Name y py) X.env v) _ s') W9 (λd z3 u l3 I3 r3 q3=>?_) Le.rfl (q.rel.up lp.d) q.obj q.sz q.fin;refine wH hN τ z3 d u (fun τ' M'=>τ'=τ.set j (some d)/\M'=z3.M) _ I3 r3 ⟨rfl,rfl⟩ fun τ4 z4 l4 I4 q4=>?_;have g4:=(l3.tr l4) C _ (dj Wn);have h4:z4.s.heap.get? C=some oC:=I4.hok.fz C _ g4;refine⟨m',⟨oC,es,ep,h4,rest⟩,λic sb=>?_⟩;obtain⟨u1,u2⟩:=I4.jl (fp:=[C]) (F:=z'.F) (λb hb=>⟨(VR b hb).f,(VR b hb).o⟩) (l3.tr l4) q.lr.bs q.lr.bx q.lr.f0;have I6:=u2.turn (t:=z4.s.toks) (h':=ic) (λb hb o e=>(sb.2 b hb).trans e) (ew Wn) (rI (z:=z4) I4 g4) q.U5.o;refine k.nx τ4 ⟨_,_,_⟩ ((l2.tr q.le).tr u1) I6 ?_;rw[q4.1];show e.nx _ z4.M;rw[q4.2];exact q3
end
end N
end
section
set_option maxHeartbeats 1000000
namespace N
open PySem PySem.Spec PyProof.Rows L2
def cA (G:Gx) (k:Nat) (f:Addr) (sp:Sp):Prop:=∃(fd:FuncData) (ps:List Str) (K:PySem.W.Frag),a6 G k f fd ps sp/\PySem.W.keepIn K (.ref f)=true/\bC K fd ps []/\∀z:Z,Mod G->Bs G z.F->az G z.F z.M z.s.heap->K.In z.s.heap
def rN (d:D) (k:Addr->Prop):Prop:=match d with
 |.ref a=>k a
 |_=>False
def yF (ca:Addr->Sp->Prop) (E:XQ) (ta:DE) (t:DA):DE:=fun τ M q=>ta τ M λx M1=>rN x λf=>∃sp,ca f sp/\t τ M1 λds M2=>sp ds M2 q E
noncomputable def yG:D->String->Option Bool
 |.tup _,"tuple"=>some true
 |.str _,"tuple"=>some false
 |.str _,"bool"=>some false
 |.str _,"str"=>some true
 |.str _,"int"=>some false
 |.int _,"tuple"=>some false
 |.int _,"bool"=>some false
 |.int _,"str"=>some false
 |.int _,"int"=>some true
 |.bl _,"bool"=>some true
 |_,_=>none
def rO:QN:=λds M q=>match ds with
 |[x,.ty "list"]=>bf x M λ_=>q (.bl true) M
 |[x,.ty T]=>∃b,yG x T=some b/\q (.bl b) M
 |[.int _,.tup [.ty "str",.ty "int"]]=>q (.bl true) M
 |[.str _,.tup [.ty "str",.ty "int"]]=>q (.bl true) M
 |_=>False
section
variable {X:Cx}{x:Str}{pos:Pos}{T:String}
theorem yH (hg:Gl X x) (hm:X.G.mg x=none) (hv:bootBuiltins x=some (.type T)) (hn:x≠"__name__") (ce:(x == ("__debug__" : Str))=false):PE X (.Name x pos) (UI (.ty T)):=fun τ z Q R I h k=>
 eB I hg hm hv hn ce (k (.ty T) z _ Le.rfl I (by rw[ae]) h)
theorem yI {k:Nat}{ca:Addr->Sp->Prop}{E:XQ}{Vy e:Expr}{es:List Expr}{ta:DE}{t:DA} (hC:∀ f sp,ca f sp->cA X.G k f sp) (hr:bq k X.A) (hx:dt X E) (hf:PE X Vy ta) (ha:PA X (e::es) t)
  (cf:starEach (e::es) X.env=(false,eval e X.env)::starEach es X.env) (bv:(backTo pos (starEach es X.env)).any (·.1)=false)
  (rP:eval (.Call Vy (e::es) [] pos) X.env=(do callWith pos (<- eval Vy X.env) [] (backTo pos (starEach (e::es) X.env)) (backToKw pos (keywordEach [] X.env)))) :
  PE X (.Call Vy (e::es) [] pos) (yF ca E ta t):=fun τ z Q R I h K=>
 Call_ (hf τ z _ _ I h λd z1 u l1 I1 r1 q1=>by
  unfold rN at q1;split at q1
  ·obtain⟨sp,hc,q1⟩:=q1;rw[ae]at r1;subst r1;obtain⟨fd,ps,K0,F,hk,hb,hi⟩:=hC _ sp hc;exact PySem.W.callWith_K (hi z1 I1.ok.mod I1.bs I1.hok) hk (ha pos τ z1 _ _ I1 q1 λvs z2 us l2 I2 r q=>⟨hi z2 I2.ok.mod I2.bs I2.hok,nT (x:=X.G.ex) (a5:=[]) (ds:=[]) F hr hb (λ_ _ _=>.nil) hx.at I2 (I2.bs.x.tr I2.cc) (hi z2 I2.ok.mod I2.bs I2.hok) r (by rw[YH];exact q) λd z3 u l3=>K d z3 u (l1.tr (l2.tr l3))⟩) cf bv
  ·exact q1.elim) rP
theorem HD:CB X (.builtin "isinstance") rO:=fun τ z Q R ds us I rs q k=>by
  have tp:∀ {t:Value},ae X.G z.F (.tup [.ty "str",.ty "int"]) t->∃ a dd n sl,t=.ref a/\z.s.heap.get? a=some { cls:=.type "tuple",dict:=dd,data:=.seq [aac "str",aac "int"].toArray n,slots:=sl }:=λr=>by
    obtain⟨a,us,⟨cls,dd,data,sl⟩,rfl,l⟩:=I.cM r;obtain⟨e1,_,⟨n,e3⟩,_⟩:=l.t;obtain⟨u1,u2,rfl,q1,q2⟩:=ff l.r;rw[ae]at q1 q2;have he:=l.e;simp only at e1 e3;subst e1 e3 q1 q2;exact⟨a,dd,n,sl,rfl,he⟩
  unfold rO at q;split at q
  · obtain⟨u,v,rfl,ru,rv⟩:=ff rs;rw[ae]at rv;subst rv;obtain⟨a,ds,us,n,rfl,l,q⟩:=I.bf ru q;exact PySem.W.kia_one (K:=X.G.K) PySem.W.kitx_list I.bp ⟨_,l.e,rfl⟩ (qP "list" X.G.K) (λz=>nomatch z) λtk=>I.fin k Le.rfl (by rw[ae]) q _
  · rename_i x T;obtain⟨b,hb,q⟩:=q;obtain⟨u,v,rfl,ru,rv⟩:=ff rs;rw[ae]at rv;subst rv;have bl:∀ {b:Bool},ae X.G z.F (.bl b) (.bool b):=(by intro b;rw[ae]);unfold yG at hb;split at hb <;> cases hb
    · obtain⟨a,us,o,rfl,l⟩:=I.cM ru;exact IsiPair.tuple_tuple l.e l.t.cls (k _ z _ Le.rfl I bl q)
    all_goals rw[ae]at ru
    all_goals first
      | (obtain⟨t,rfl⟩:=ru
         first
          |exact IsiPair.str_tuple (I.fin k Le.rfl bl q _)
          |exact IsiPair.str_bool (I.fin k Le.rfl bl q _)
          |exact IsiPair.str_str (k _ z _ Le.rfl I bl q)
          |exact IsiPair.str_int (I.fin k Le.rfl bl q _)
          |exact IsiPair.int_tuple (I.fin k Le.rfl bl q _)
          |exact IsiPair.int_bool (I.fin k Le.rfl bl q _)
          |exact IsiPair.int_str (I.fin k Le.rfl bl q _)
          |exact IsiPair.int_int (k _ z _ Le.rfl I bl q))
      |(subst ru;exact IsiPair.bool_bool (k _ z _ Le.rfl I bl q))
  · obtain⟨u,v,rfl,ru,rv⟩:=ff rs;obtain⟨a,dd,n,sl,rfl,h1⟩:=tp rv;rw[ae]at ru;obtain⟨t,rfl⟩:=ru;refine PySem.W.kia_tup (its:=[.type "str",.type "int"]) PySem.W.kitx_int I.bp aai h1 ?_ (λz=>nomatch z) λtk=>I.fin k Le.rfl (by rw[ae]) q _;unfold PySem.W.kitAny;rw[FP X.G.K];show PySem.W.kitAny X.G.K (.type "int") [.type "int"]=_;unfold PySem.W.kitAny;rw[qP "int" X.G.K]
  · obtain⟨u,v,rfl,ru,rv⟩:=ff rs;obtain⟨a,dd,n,sl,rfl,h1⟩:=tp rv;rw[ae]at ru;obtain⟨t,rfl⟩:=ru;refine PySem.W.kia_tup (its:=[.type "str",.type "int"]) PySem.W.kitx_str I.bp aai h1 ?_ (λz=>nomatch z) λtk=>I.fin k Le.rfl (by rw[ae]) q _;unfold PySem.W.kitAny;rw[qP "str" X.G.K]
  · exact q.elim
theorem jB {G:Gx}{F:Fz}:∀{us:List Value}{ys:List Str},StrsAre us ys->ag G F (ys.map D.str) us
 |_,_,.nil=>.nil
 |_,_,.cons x t r=>.cons gC (jB r)
end
end N
end
section
set_option maxHeartbeats 1000000
namespace N
open PySem PySem.Spec PyProof.Rows L2
open PySem.W (kdu_collect kdl_dict)
def yJ:QN:=n1 λx M q=>cn x M λkvs=>∃ss:List Str,kvs.map (·.1)=ss.map Zs/\ss.length<64/\∀ys:List Str,ys.Perm ss->sortedS ys=true->bL (ys.map D.str) M q
theorem yK:∀{al:List Value}{ss:List Str},al.length=ss.length->(∀(i:Nat) (v:Value) (x:Str),al[i]?=some v->ss[i]?=some x->∃t,v=.str x t)->StrsAre al ss
 |[],[],_,_=>.nil
 |[],_::_,h,_=>by cases h
 |_::_,[],h,_=>by cases h
 |v::al,x::ss,h,g=>by
  obtain⟨t,rfl⟩:=g 0 v x rfl rfl;exact .cons x t (yK (by simpa using h) λi v' x' h1 h2=>g (i+1) v' x' h1 h2)
theorem HE {X:Cx} (hc:X.calm=true):CB X (.builtin "sorted") yJ:=jw fun τ z Q R d v I r q k=>by
 obtain⟨a,kvs,vs,rfl,l,ss,hk,gP,q⟩:=I.cn r q;obtain⟨ep,iA⟩:=l.d.dictAt;have hlen:kvs.length=vs.length:=Paired.length l.r;have rQ:kvs.length=ss.length:=by have:=congrArg List.length hk;rw[Ym,Ym]at this;exact this
 have z0:=l.z;refine Calls.call_function_entry kind_sorted plain_sorted entry_sorted (args_sorted1 _) ?_;unfold Builtin.«sorted»;refine Yj (m:=checkCount "sorted" 1 1 _) (Yl ?_);refine Yj (kdu_collect (A:=X.A.in1) (kdl_dict (knd:=bw X.G.P X.G.w) (kvs:=vs) (ep:=ep) l.n) (I.ok.hd hc) iA (by rw[<- hlen];exact z0) λh' tk al keep items=>?_);have hl:al.toList.length=vs.length:=by rw[YG];exact items.1
 refine Yj (wpAny_newList ?_ (by rw[hl,<- hlen];exact z0));have hS:StrsAre al.toList ss:=yK (by rw[hl,<- hlen,rQ]) λi v x h1 h2=>by
  obtain⟨c,y,hx,HF⟩:=items.2 i v (by rw[<- ZE];exact h1);have e1:(vs.map (·.1))[i]?=some c:=by rw[Yz,hx];rfl
  rw[<- (lh l.r).2,hk,Yz,h2]at e1;have e2:Zs x=c:=YY e1;subst e2;rcases dY (show e7 (Zs x) _=true from HF) with ⟨i,t,e1,_⟩ |⟨y,t,e1,e2⟩
  ·cases e1
  ·cases e1;exact⟨t,e2⟩
 have eI:(h'.push { cls:=.type "list",data:=.seq al.toList.toArray }).get? h'.objs.size=some (seqObj "list" al.toList.toArray 0):=Yp _ rfl;refine Yj (Y3 (YQ slot_list_sort ⟨_,eI,rfl⟩ entry_list_sort (list_sort_treeK strKind_oneLt eI hS.keysOf (λv₁ v₂ rest e=>keyKind_strs (by rw[<- e];exact hS)) (by rw[hl,<- hlen,rQ];exact gP) λbn UA Uz=>⟨_,rfl,?_⟩) (args_list_sort _)));obtain⟨ys,b1,b2,b3⟩:=sorted_out_str hS UA Uz;refine Yl ⟨_,rfl,?_⟩;obtain⟨e,rR⟩:=sortedHeap_at (out:=(arrOf bn).map (·.2)) eI;have rs:=jB (G:=X.G) (F:=z.F) b1;have J:=I.kept (t:=tk) keep;refine J.lst (n:=e) (t:=tk) k Le.rfl rs (λb o hb=>?_) (Yr _) ?_ (by rw[<- rs.len,Ym,b2.length_eq,<- rQ];exact z0) (q ys b2 b3)
 ·have bd:b<h'.objs.size:=Yw hb;rw[sortedHeap_old (Yx bd) (by rw[YR];exact Zk bd)];exact Yk _ hb
 ·rw[rR];rfl
end N
end
section
namespace L2
open PySem PySem.Spec PyProof.Rows
theorem HG (t:SetTable) (n:Nat):(t.orStandIn n).led=t.led:=by
 unfold SetTable.orStandIn;split <;> rfl
theorem HH (t:SetTable) (es:Array (Int×Value)) (h:Int) (x:Value):(layNew t es h x).2.1.led=t.led:=by
 unfold layNew;split
 ·exact HG _ _
 ·rfl
theorem yL {yM HI HJ:Nat}{led plain:Bool}{hs:Array Int}{r:SetTable×Array Nat} (h:SetTable.laid yM HI HJ led plain hs=some r):r.1.led=led/\r.1.plain=plain:=by
 unfold SetTable.laid at h;cases hc:SetTable.layClean yM hs with
 |none=>rw[hc]at h;cases h
 |some XW=>rw[hc]at h;cases h;exact⟨rfl,rfl⟩
theorem HK (t:SetTable) (es:Array (Int×Value)) (n:Nat):(relayAll t es n).2.1.led=t.led:=by
 unfold relayAll;cases hr:t.relaid (es.map (·.1)) n with
 |none=>rfl
 |some r=>
  obtain⟨t',order⟩:=r;have:=yL hr;dsimp only;split
  ·exact this.1
  ·rfl
theorem HM (t:SetTable) (es:Array (Int×Value)) (n:Nat) (hp:t.plain=false):(relayAll t es n).2.1.plain=false:=by
 unfold relayAll;cases hr:t.relaid (es.map (·.1)) n with
 |none=>rfl
 |some r=>
  obtain⟨t',order⟩:=r;have:=yL hr;dsimp only;split
  ·exact this.2.trans hp
  ·rfl
noncomputable def eJ:Value->Str
 |.str x _=>x
 |_=>Str.empty
noncomputable def eK (es:List (Int×Value)):List Str:=es.map λe=>eJ e.2
def cB (prog:Program) (w:World) (h:Heap) (a:Addr) (zs:List Str):Prop:=
 ∃(es:Array (Int×Value)) (ep:Nat) (t:SetTable),h.get? a=some { cls:=.type "set",dict:=none,data:=.set es ep t,slots:=#[] }/\ElemsOf (strKind prog w) es.toList/\t.fits es.size=true /\
  t.led=(!w.params.followText "set-order")/\(t.plain=false\/es=#[])/\es.size<4000/\(eK es.toList).Nodup/\∀x,x∈eK es.toList ↔ x∈zs
theorem cB.at {prog:Program}{w:World}{h h':Heap}{a:Addr}{zs:List Str} (S:cB prog w h a zs) (k:∀o,h.get? a=some o->h'.get? a=some o):cB prog w h' a zs:=by
 obtain⟨es,ep,t,ho,r⟩:=S;exact⟨es,ep,t,k _ ho,r⟩
section
variable {prog:Program}{w:World}{A:Around}{E:Value->Shared->Prop}{s:Shared}{a:Addr}{zs:List Str}
theorem yN {es:List (Int×Value)} (h:ElemsOf (strKind prog w) es) {e:Int×Value} (he:e∈es):∃t,e.2=.str (eJ e.2) t/\e.1=(strKind prog w).hash (eJ e.2):=by
 obtain⟨⟨k,hk,hh⟩,_⟩:=h e he;obtain⟨t,ht⟩:=Value.isStrOf_shape (x:=k) (v:=e.2) hk;have:eJ e.2=k:=by rw[ht];rfl
 exact⟨t,by rw[this];exact ht,by rw[this];exact hh⟩
theorem yO {es:List (Int×Value)} (h:ElemsOf (strKind prog w) es) (x:Str):(∃e∈es,(strKind prog w).is x e.2=true) ↔ x∈eK es:=by
 constructor
 ·rintro⟨e,he,hx⟩;obtain⟨t,ht⟩:=Value.isStrOf_shape (x:=x) (v:=e.2) hx;exact List.mem_map.mpr ⟨e,he,by rw[ht];rfl⟩
 ·intro hx;obtain⟨e,he,rfl⟩:=List.mem_map.mp hx;obtain⟨t,ht,_⟩:=yN h he;refine⟨e,he,?_⟩;rw[ht];exact strKind_is _ _ _ _
theorem yP {es jC:Array (Int×Value)}{ep:Nat}{t t':SetTable}{Q:Unit->Shared->Prop} (ho:s.heap.get? a=some { cls:=.type "set",dict:=none,data:=.set es ep t,slots:=#[] }) (hz:jC.size<4096)
  (h:∀h',ZM a s.heap h'->h'.get? a=some { cls:=.type "set",dict:=none,data:=.set jC (ep+1) t',slots:=#[] }->Q () { s with heap:=h' }):wpAny (model prog w) A (storeSet a jC t') Q E s:=by
 refine wpAny_storeSet_of (ep:=ep) (t:=t) ho rfl (h _ (YO s.heap a _) ?_) (fits_of_scanBound hz);have:=YK (Obj.putSet jC t') ho (by rw[putSet_of (ep:=ep) (t:=t) jC t' rfl];rfl);rw[this,putSet_of (ep:=ep) (t:=t) jC t' rfl]
theorem HN {l l':List Str}{x:Str} (p:List.Perm l' (l++[x])) (nd:l.Nodup) (h:x ∉ l):l'.Nodup:=by
 refine p.nodup_iff.mpr (List.nodup_append.mpr ⟨nd,by simp,λy hy z hz=>?_⟩);rw[List.mem_singleton.mp hz];exact λe=>h (e ▸ hy)
theorem HO {x:Str}{tk:Tok}{Q:Bool->Shared->Prop} (S:cB prog w s.heap a zs) (hl:zs.length<3900)
  (h:∀b h',ZM a s.heap h'->cB prog w h' a (zs++[x])->Q b { s with heap:=h' }):wpAny (model prog w) A (setAddHashed a (.str x tk) ((strKind prog w).hash x)) Q E s:=by
 obtain⟨es,ep,t,ho,d7,hf,jD,bv,hsz,nd,hm⟩:=S;have Ua:es.size<3950:=by
  have:=List.Nodup.length_le_of_subset nd λy hy=>(hm y).mp hy;rw[eK,Ym,YG]at this;lia
 have nH:(strKind prog w).is x (.str x tk)=true:=strKind_is _ _ _ _;have cC:(Value.str x tk).scannable=true:=rfl;unfold setAddHashed setAddHashedIn;refine Y3 (Yj (Zt ho rfl hf ?_));dsimp only;rw[byScan_of cC (by show es.size<4096;lia) d7,if_pos rfl];unfold setAddByScan;refine Yj (Yj (wpAny_rule (Yj (wpAny_setScan_of nH ho rfl hf d7 ?_))));cases hr:List.findIdx? (λe=>(strKind prog w).is x e.2) es.toList with
 |some j=>
  obtain⟨hj,HP,_⟩:=List.findIdx?_eq_some_iff_getElem.mp hr;have hx:x∈zs:=(hm x).mp ((yO d7 x).mp ⟨es.toList[j],List.getElem_mem hj,HP⟩);refine Yl (Yl ?_);refine h false s.heap (Heap.SameBut.refl a s.heap) ⟨es,ep,t,ho,d7,hf,jD,bv,hsz,nd,λy=>?_⟩;rw[hm y,ZQ,List.mem_singleton];exact⟨.inl,λz=>z.elim id λe=>e ▸ hx⟩
 |none=>
  have hx:x ∉ eK es.toList:=λz=>by
   obtain⟨e,he,q⟩:=(yO d7 x).mpr z;have:=List.findIdx?_eq_none_iff.mp hr e he;rw[q]at this;cases this
  have jE:=layNew_perm t es ((strKind prog w).hash x) (.str x tk);have jF:=layNew_fits t es ((strKind prog w).hash x) (.str x tk);have jG:=HH t es ((strKind prog w).hash x) (.str x tk);dsimp only;generalize layNew t es ((strKind prog w).hash x) (.str x tk)=L at jE jF jG ⊢;obtain⟨co,t1,Ub,Uc⟩:=L;dsimp only at jE jF jG ⊢;rw[Array.toList_push]at jE;have yQ:ElemsOf (strKind prog w) co.toList:=(d7.push nH cC).perm jE;have lE:(eK co.toList).Perm (eK es.toList++[x]):=by
   have:=jE.map (λe:Int×Value=>eJ e.2);rw[YS]at this;exact this
  have yR:=HN lE nd hx;have jH:∀y,y∈eK co.toList ↔ y∈zs++[x]:=λy=>by
   rw[lE.mem_iff,ZQ,ZQ,hm y]
  have hs1:co.size=es.size+1:=by
   have:=jE.length_eq;rw[YB,YG,YG]at this;simpa using this
  have Wq:∀(b:Bool) {s₁:Shared}{Q':Unit->Shared->Prop},Q' () s₁->wpAny (model prog w) A (match b with |true=>rule "set.scan.the-table-gave-way" |false=>pure ()) Q' E s₁:=λb s₁ Q' q=>by
   cases b
   ·exact Yl q
   ·exact wpAny_rule q
  refine Yj (Wq _ ?_);cases e:t1.plain
  case' false=>
   rw[if_neg Y0];refine Yj (Yl ?_);simp only[if_true];have hf2:=jF;have hl2:t1.led=t.led:=jG;have lF:t1.plain=false:=e;clear e jF jG;generalize t1=t2 at hf2 hl2 lF ⊢
  case' true=>
   rw[if_pos rfl,hashByValue_scannable 8 cC];refine Yj (Yl ?_);simp only[show plainKind (.str x tk)=false from rfl,Z6,if_false];have hf2:=SetTable.fits_plain_off jF;have hl2:({ t1 with plain:=false }:SetTable).led=t.led:=jG;have lF:({ t1 with plain:=false }:SetTable).plain=false:=rfl;clear e jF jG;generalize ({ t1 with plain:=false }:SetTable)=t2 at hf2 hl2 lF ⊢
  all_goals
   refine Yj (yP ho (by lia) λh1 yS yT=>?_);split
   ·have hp:=relayAll_perm t2 co (SetTable.grown co.size);have hfr:=relayAll_fits t2 co (SetTable.grown co.size);have hlr:=HK t2 co (SetTable.grown co.size);have rS:=HM t2 co (SetTable.grown co.size) lF;generalize relayAll t2 co (SetTable.grown co.size)=R at hp hfr hlr rS ⊢;obtain⟨rT,t3,g2⟩:=R;dsimp only at hp hfr hlr rS ⊢;have hs2:rT.size=co.size:=(by rw[<- YG,hp.length_eq,YG]);have nN:(eK rT.toList).Perm (eK co.toList):=hp.map _;refine Yj (Wq _ (Yj (yP (s:={ s with heap:=h1 }) yT (by lia) λh2 HQ ho2=>Yl (Yl ?_))));exact h true h2 (yS.trans HQ) ⟨rT,_,t3,ho2,yQ.perm hp,hfr,by rw[hlr,hl2,jD],.inl rS,by lia,nN.nodup_iff.mpr yR,λy=>(nN.mem_iff).trans (jH y)⟩
   ·exact Yl (Yl (h true h1 yS ⟨co,_,t2,yT,yQ,hf2,by rw[hl2,jD],.inl lF,by lia,yR,jH⟩))
end
end L2
namespace L2
open PySem PySem.Spec PyProof.Rows
theorem yU:∀{vs:List Value}{ss:List Str}{i:Nat}{v:Value},StrsAre vs ss->vs[i]?=some v->∃(x:Str) (t:Tok),ss[i]?=some x/\v=.str x t
 |_,_,i,v,.nil,e=>by simp at e
 |_,_,0,v,.cons x t _,e=>by simp at e;exact⟨x,t,rfl,e.symm⟩
 |_,_,i+1,v,.cons x t r,e=>by
  obtain⟨y,u,h1,h2⟩:=yU (i:=i) r (by simpa using e);exact⟨y,u,by simpa using h1,h2⟩
section
variable {prog:Program}{w:World}{A:Around}{E:Value->Shared->Prop}{s:Shared}
noncomputable def eL (w:World):Obj:={ cls:=.type "set",dict:=none,data:=.set #[] 0 (.fresh 0 0 (!w.params.followText "set-order")) }
theorem HR {h:Heap}{a:Addr} (e:h.get? a=some (eL w)):cB prog w h a []:=by
 refine⟨#[],0,_,e,λx hx=>?_,by rfl,rfl,.inr rfl,by decide,List.nodup_nil,λx=>Iff.rfl⟩;simp at hx
theorem HS (a:Value) {Q₁:Value->Shared->Prop} (h:Q₁ (.ref s.heap.objs.size) { s with heap:=s.heap.push (eL w) }) :
  codeAny (model prog w) A (.call (.builtin "set.__new__") ⟨[.type "set",a],[]⟩) (wants Q₁ E) s:=by
 refine codeAny_of_tree ?_;show wpAny _ A.in1 (checkBuiltinCall "set.__new__" ⟨[.type "set",a],[]⟩ >>= λ_=>again (.builtin "set.__new__" ⟨[.type "set",a],[]⟩)) _ _ s;refine Yj (wpAny_of_eq (F.newCall_set_1 a) (Yl ⟨Zn F.plain_set_new _,Zg F.entry_set_new ?_⟩));rw[Y2 F.plain_set_new _];unfold Builtin.«set.__new__» Builtin.Frozenset.newClass;have hsub:=sub_set_self;obtain⟨hp,g,d,tk,os⟩:=s;dsimp only at h ⊢
 wp_walk
 refine wpAny_askSetting (Yl ?_);dsimp only;simp only[newObj];exact Yj (wpAny_alloc (Yl (Yl h)))
end
end L2
namespace L2
open PySem PySem.Spec PyProof.Rows
theorem oh {ys N:List Str} (h:∀x∈ys,x∈N):∀x,x∈ys ↔ x∈N.filter (λz=>decide (z∈ys)):=λx=>by
 rw[List.mem_filter,decide_eq_true_iff];exact⟨λz=>⟨h x z,z⟩,λz=>z.2⟩
theorem cB.mem {prog:Program}{w:World}{h:Heap}{a:Addr}{zs zs':List Str} (S:cB prog w h a zs) (e:∀x,x∈zs ↔ x∈zs'):cB prog w h a zs':=by
 obtain⟨es,ep,t,ho,r1,r2,r3,r4,r5,Ws,r7⟩:=S;exact⟨es,ep,t,ho,r1,r2,r3,r4,r5,Ws,λx=>(r7 x).trans (e x)⟩
section
variable {prog:Program}{w:World}{A:Around}{R:Result->Shared->Prop}{I:Addr}{fp wr:List Addr}{G:Array GenState->Array GenState->Prop}{n:Nat}{P:Nat->Value->Prop}{St:Nat->Shared->Prop}
theorem HU (W:WalksS prog w A.in1 I fp wr G n P St) (S:Addr) (hS:S ∉ fp) (zs:List Str) (hn:n=zs.length) (HV:∀ i v,P i v->∃ (x:Str) (t:Tok),zs[i]?=some x/\v=.str x t) {N:List Str} (hN:N.length<3900) (hb:∀ x∈zs,x∈N) :
  ∀(k i:Nat) (s:Shared),n-i=k->i<=n->St i s->cB prog w s.heap S (zs.take i)->(∀s',Moved (S::wr) G s s'->cB prog w s'.heap S zs->R (.ok (.ret .none)) s') ->
   codeAny (model prog w) A (.builtin "set.update.loop" ⟨[.ref S,.ref I],[]⟩) R s:=by
 have hw:S ∉ wr:=λh=>hS (W.sub _ h);have sub:∀b∈wr,b∈S::wr:=λb h=>Yt _ h;intro k
 induction k with
 |zero=>
  intro i s hk hi st hs q;obtain rfl:i=n:=by lia
  refine Zg F.entry_set_update_loop ?_;rw[Y2 F.plain_set_update_loop _];show wpAny _ A.in1 (pyNext (.ref I) >>= _) _ _ s;refine Yj (W.done s _ _ st λs' m=>?_);refine Yl (q s' (m.mono sub) ?_);rw[List.take_of_length_le (by lia)]at hs;exact hs.at λo e=>m.heap S o hw e
 |succ k ih=>
  intro i s hk hi st hs q;have lt:i<n:=by lia
  refine Zg F.entry_set_update_loop ?_;rw[Y2 F.plain_set_update_loop _];show wpAny _ A.in1 (pyNext (.ref I) >>= _) _ _ s;refine Yj (W.item i s _ _ lt st λv s1 hP n7 m=>?_);obtain⟨x,t,hx,rfl⟩:=HV i v hP;have hs1:=hs.at (h':=s1.heap) λo e=>m.heap S o hw e;show wpAny _ A.in1 (holding [Value.str x t] (setAdd S (.str x t)) >>= _) _ _ s1;unfold setAdd;refine Yj (Y3 (Y3 (Yj ((strKind prog w).pyHash (k:=x) (strKind_is _ _ _ _) ?_))));have hsm:=hs1.mem (oh (ys:=zs.take i) (λx hx=>hb x (List.mem_of_mem_take hx)));refine HO (s:={ s1 with toks:=s1.toks+1 }) hsm (YA (List.length_filter_le _ _) hN) λb h' oi HW=>?_;have hs2:=HW.mem (zs':=zs.take i++[x]) (λy=>by rw[ZQ,ZQ,<- oh (ys:=zs.take i) (λx hx=>hb x (List.mem_of_mem_take hx)) y]);have e2:zs.take i++[x]=zs.take (i+1):=by rw[List.take_add_one,hx];rfl
  rw[e2]at hs2;refine Yl ⟨Zn F.plain_set_update_loop _,ih (i+1) _ (by lia) lt (W.frame _ s1 _ _ n7 (Nat.le_succ _) λc hc o e=>?_) hs2 λs2 m2 q2=>?_⟩
  ·rw[oi.2 c λz:c=S=>hS (z ▸ hc)];exact e
  ·exact q s2 (Moved.trans W.gtrans ((m.mono sub).then_heap (Nat.le_succ _) λc o hc e=>by rw[oi.2 c λz:c=S=>hc (z ▸ Ys)];exact e) m2) q2
end
section
variable {prog:Program}{w:World}{A:Around}{E:Value->Shared->Prop}{s:Shared}
theorem HX {l:Addr}{its:Array Value}{zs:List Str}{Q:Value->Shared->Prop} (hh:A.handled=none) (hl:s.heap.IsList l its) (hi:StrsAre its.toList zs) {N:List Str} (hN:N.length<3900) (hb:∀ x∈zs,x∈N)
  (h:∀(h':Heap) (tk:Nat),cB prog w h' s.heap.objs.size zs->(∀b o,s.heap.get? b=some o->h'.get? b=some o)->Q (.ref s.heap.objs.size) { s with heap:=h',toks:=tk }) :
  wpAny (model prog w) A (call (.type "set") [.ref l]) Q E s:=by
 obtain⟨c,tl,Ud⟩:=F.called_set.mro;have made:=F.called_set.made;have sub:=F.called_set.sub;refine wpAny_call (codeAny_of_tree ?_);show wpAny _ _ (callAny (.type "set") _) _ _ _;refine Yl ⟨Code.quiet_builtin _ (by decide +kernel),Zg F.entry_type_call ?_⟩;rw[Around.under_plain (weight_type_call_type "set" [.ref l] []) rfl];have g1:=F.called_set.notType;have g2:=F.called_set.canCreate;have g3:=F.typeCall_set_1 (.ref l)
 repeat (any_goals (first |assumption |wp_step))
 refine Zy (HS (.ref l) (E:=E) (Q₁:=λu s1=>u=.ref s.heap.objs.size/\s1={ s with heap:=s.heap.push (eL w) }) ⟨rfl,rfl⟩) λr s1 hr=>?_;cases r with
 |error e=>exact hr
 |ok fl=>
  cases fl with
  |ret obj=>
   obtain⟨rfl,rfl⟩:=hr;have hS:(s.heap.push (eL w)).get? s.heap.objs.size=some (eL w):=Yp _ rfl;have hT:Shared.TypeIs { s with heap:=s.heap.push (eL w) } (.ref s.heap.objs.size) "set":=⟨_,hS,rfl⟩;have Ue:∀{k:Nat},Shared.TypeIs { s with heap:=s.heap.push (eL w),toks:=k } (.ref s.heap.objs.size) "set":=⟨_,hS,rfl⟩;have li:=F.called_set.init.lookup;have bi:=F.called_set.init.bind (.ref s.heap.objs.size)
   repeat (any_goals (first |assumption |wp_step))
   refine Zy (codeAny_call_builtin (R:=wants (λr s2=>r=.none/\∃h' tk,s2={ s with heap:=h',toks:=tk }/\cB prog w h' s.heap.objs.size zs/\(∀b o,s.heap.get? b=some o->h'.get? b=some o)) E) F.called_set.init.plain F.entry_set_init (check_set_init_1 hT ?_)) λr2 s2 rU=>?_
   ·obtain⟨ol,yV,bZ,nl,yW⟩:=hl;obtain⟨oc,od,Uf,os⟩:=ol;simp only at bZ yW;subst bZ;subst yW;have HY:(s.heap.push (eL w)).get? l=some { cls:=.type "list",dict:=od,data:=.seq its nl,slots:=os }:=Yk _ yV;have e1:=F.sub_list_set;have e2:=F.sub_list_frozenset;have e3:(aac "list" == aac "dict")=false:=(by decide);have lG:(s.heap.push (eL w)).IsList l its:=⟨_,HY,rfl,nl,rfl⟩;unfold Builtin.«set.__init__» noKeywords Builtin.Frozenset.updateFrom;generalize HZ:pyIter=PI
    wp_walk
    subst HZ;refine wpAny_pyIter_list lG (Yj (wpAny_runValue ?_));have Vz:l<s.heap.objs.size:=Yw yV;have H0:A.in1.in1.in1.handled=none:=(by simp [hh]);have Wu:l≠(s.heap.push (eL w)).objs.size:=(by rw[YR];exact Yx (Zk Vz));have W':s.heap.objs.size ∉ [(s.heap.push (eL w)).objs.size,l]:=by
     rw[YR];simp only[YZ,YJ,or_false,not_or];exact⟨Yx (ZK _),Zf Vz⟩
    have len:its.size=zs.length:=(by rw[<- YG];exact hi.length);have val:∀(i:Nat) (v:Value),its[i]?=some v->∃(x:Str) (t:Tok),zs[i]?=some x/\v=.str x t:=λi v e=>yU hi (by rw[ZE];exact e);refine HU ((Walks.list H0 _ l Wu its).toS) s.heap.objs.size W' zs len val hN hb (its.size-0) 0 _ (by lia) (YE _) ⟨⟨_,Yp _ rfl,rfl,rfl⟩,(lG.push _)⟩ ?start ?fin
    case start=>
     rw[List.take_zero];exact HR (Yk _ hS)
    case fin=>
     intro s' m e8;obtain⟨h',VQ,d',dL,re⟩:=s';have UQ:VQ=s.gens:=m.gens;have VS:d'=s.drawn:=m.drawn;have UX:re=s.os:=m.os;subst UQ;subst VS;subst UX;refine Yl ?_;show wpAny _ _ (ret Y6) _ _ _;refine Yl ⟨rfl,h',dL,rfl,e8,λb o e=>?_⟩;have lb:=Yw e;refine m.heap b o ?_ (Yk _ (Yk _ e));simp only[YZ,YJ,or_false,not_or];exact⟨Yx lb,by rw[YR];exact Yx (Zk lb)⟩
   ·cases r2 with
    |error e=>exact rU
    |ok f2=>
     cases f2 with
     |ret r=>
      obtain⟨rfl,h',tk,rfl,e8,k⟩:=rU
      repeat (any_goals (first |assumption |wp_step))
      exact h _ _ e8 k
     |_=>exact rU.elim
  |_=>exact hr.elim
end
end L2
namespace L2
open PySem PySem.Spec PyProof.Rows
theorem gQ:Slot "set_iterator" "__next__" "set_iterator.__next__":=.of (owner:="set_iterator") (n:="__next__") (by rw[ZJ,Zb];kernel_rfl) (by decide +kernel) (by decide +kernel) (by decide +kernel) (by first |exact .inl (by decide +kernel) |exact .inr (by decide +kernel)) (by rw[Z8];kernel_rfl)
theorem yX:Slot "set_iterator" "__iter__" "set_iterator.__iter__":=.of (owner:="set_iterator") (n:="__iter__") (by rw[ZJ,Zb];kernel_rfl) (by decide +kernel) (by decide +kernel) (by decide +kernel) (by first |exact .inl (by decide +kernel) |exact .inr (by decide +kernel)) (by rw[Z8];kernel_rfl)
theorem yY:entryFor table "set_iterator.__next__"=some Builtin.«set_iterator.__next__»:=entryFor_of_tree (by kernel_rfl)
theorem yZ:Manifest.owners.lookup (String.ofList ['r','o','t','a','r','e','t','i','_','t','e','s'].reverse)=some Manifest.sig_set_iterator:=by kernel_rfl
theorem y0 (a:Value):argsOk "set_iterator.__next__" ⟨[a],[]⟩:=by
 unfold argsOk;rw[signature?_of (id:="set_iterator.__next__") (n:=['_','_','t','x','e','n','_','_']) (o:=['r','o','t','a','r','e','t','i','_','t','e','s']) (by kernel_rfl) yZ];kernel_rfl
theorem H3:entryFor table "set.__iter__"=some Builtin.«frozenset.__iter__»:=entryFor_alias (id':="frozenset.__iter__") (by kernel_rfl) rfl (by decide +kernel) (by kernel_rfl)
theorem rV {α:Type}:∀(l:List α) (i:Nat) (h:i<l.length),(l[i]::l.eraseIdx i).Perm l
 |x::l,0,_=>.refl _
 |x::l,i+1,h=>by
  have hi:i<l.length:=by simpa using h
  have:=rV l i hi;show (l[i]::x::l.eraseIdx i).Perm (x::l);exact (List.Perm.swap x l[i] _).trans (List.Perm.cons x this)
section
variable {M:Model}{prog:Program}{w:World}{A:Around}{E:Value->Shared->Prop}{s:Shared}
theorem H4 {ia:Source}{n:Nat}{Q:Nat->Shared->Prop} (h0:n≠0) (h:∀i d,i<n->Q i { s with drawn:=d }):wpAny M A (choose ia n) Q E s:=fun Γ p hΓ=>by
 show Sem.wp M Γ (.choose ia n .pure) _ _ p s;rw[Sem.wp_choose];exact⟨h0,h _ _ (Nat.mod_lt _ (by lia))⟩
theorem y3 {α:Type}:∀(n:Nat) (xs:List α) (s:Shared) (Q:List α->Shared->Prop),xs.length=n->(∀ys d,ys.Perm xs->Q ys { s with drawn:=d })->wpAny M A (drawOrder n xs) Q E s
 | 0,xs,s,Q,hl,q=>by
  have:xs=[]:=List.length_eq_zero_iff.mp hl;subst this;exact Yl (q [] s.drawn (.refl _))
 |n+1,[],s,Q,hl,q=>by simp at hl
 |n+1,x::xs,s,Q,hl,q=>by
  unfold drawOrder;refine Yj (H4 (by simp) λi d hi=>?_);rw[Yo hi];dsimp only;refine Yj (y3 n _ _ _ (by rw[List.length_eraseIdx,if_pos hi];simp at hl ⊢;lia) λys d' p=>Yl (q _ d' ?_));exact (List.Perm.cons _ p).trans (rV _ _ hi)
theorem y4 {α:Type} (next:Nat->Nat):∀(fuel k:Nat) (left:List α) (out:Array α),left.length=fuel->(pickOrder.go next fuel k left out).toList.Perm (out.toList++left)
 | 0,k,left,out,hl=>by
  have:left=[]:=List.length_eq_zero_iff.mp hl;subst this;unfold pickOrder.go;simp
 |fuel+1,k,left,out,hl=>by
  have hi:next k % left.length<left.length:=Nat.mod_lt _ (by lia)
  unfold pickOrder.go;rw[Yo hi];dsimp only;refine (y4 next fuel (k+1) _ _ (by rw[List.length_eraseIdx,if_pos hi];lia)).trans ?_
  rw[Array.toList_push,YT];exact List.Perm.append_left _ (rV _ _ hi)
theorem rW {α:Type} (next:Nat->Nat) (xs:Array α):(pickOrder next xs).toList.Perm xs.toList:=by
 have:=y4 next xs.size 0 xs.toList #[] (by simp)
 simpa [pickOrder] using this
noncomputable def d8 (first:Value) (i:Nat) (a:Addr) (n ep:Nat):Obj:={ cls:=.type "set_iterator",data:=.fields #[first,.int i 0,.ref a,.int n 0,.int ep 0] }
theorem y5 {α:Type} {Q':α->Shared->Prop}{E':Value->Shared->Prop} (hh:A.handled=none) (h:∀ e h',Shared.TypeIs { s with heap:=h' } e "StopIteration"->(∀ b o,s.heap.get? b=some o->h'.get? b=some o)->E' e { s with heap:=h' }) :
  wpAny (model prog w) A.in1 (newExc (.type "StopIteration") [] >>= λe=>(raiseNew e:Sem α)) Q' E' s:=by
 refine Yj ?_;simp only[newExc,newTuple];refine Yj (YV ?_ (by size_fits));refine Yj (m:=firstArgMember _ _) (wpAny_of_eq (a:=Y6) (by first |rfl |(simp only[firstArgMember];rfl)) (YV ?_ (by size_fits)))
 simp only[raiseNew];refine Yj (wpAny_handled ?_);rw[show A.in1.handled=none from hh];refine Yj (Yl (wpAny_throw (h (.ref _) _ ⟨_,Yp _ rfl,rfl⟩ λb o e=>Yk _ (Yk _ e))))
def fm (h:Heap) (a:Addr) (es:Array (Int×Value)) (ep:Nat) (t:SetTable):Prop:=h.get? a=some { cls:=.type "set",dict:=none,data:=.set es ep t,slots:=#[] }/\t.fits es.size=true
theorem rX {a:Addr}{es:Array (Int×Value)}{ep:Nat}{t:SetTable}{Q:Array (Int×Value)->Shared->Prop} (S:fm s.heap a es ep t) (h:Q es s):wpAny (model prog w) A (setEntries a) Q E s:=by
 unfold setEntries;exact Yj (Zt S.1 rfl S.2 (Yl h))
theorem jI {I:Addr}{vs:Array Value}{k:Nat}{v:Value}{Q:Unit->Shared->Prop} (ho:s.heap.get? I=some { cls:=.type "set_iterator",data:=.fields vs }) (hk:k<vs.size)
  (h:∀h',(∀b o,b≠I->s.heap.get? b=some o->h'.get? b=some o)->h'.get? I=some { cls:=.type "set_iterator",data:=.fields (vs.setIfInBounds k v) }->Q () { s with heap:=h' }):wpAny (model prog w) A (setField (.ref I) k v) Q E s:=by
 refine Z7 ho rfl hk (h _ (λb o hb e=>?_) ?_)
 ·exact (Zr _ _ (Zl hb)).trans e
 ·have:=YK (Za (·.setIfInBounds k v)) ho (aad (ZG rfl _));rw[this];rfl
theorem oj {I a:Addr}{slot i n ep:Nat}{es:Array (Int×Value)}{t:SetTable}{r:Option (Value×Nat)}{Q:Option Value->Shared->Prop} (hh:A.handled=none) (hI:s.heap.get? I=some (d8 (.int slot 0) i a n ep)) (S:fm s.heap a es ep t) (hn:es.size=n)
  (hr:∀(A':Around) (E':Value->Shared->Prop) (Q':Option (Value×Nat)->Shared->Prop),Q' r s->wpAny (model prog w) A' (setNext a slot i ep) Q' E' s)
  (h:match r with
   |some (x,nx)=>∀h',(∀b o,b≠I->s.heap.get? b=some o->h'.get? b=some o)->h'.get? I=some (d8 (.int nx 0) (i+1) a n ep)->Q (some x) { s with heap:=h' }
   |none=>∀h',(∀b o,b≠I->s.heap.get? b=some o->h'.get? b=some o)->Q none { s with heap:=h' }):wpAny (model prog w) A (pyNext (.ref I)) Q E s:=by
 have hT:s.TypeIs (.ref I) "set_iterator":=⟨_,hI,rfl⟩;unfold pyNext;refine Yj (ZF (YM (name:=Zw "__next__") hT gQ (YQ gQ hT yY ?_ (y0 _))));unfold Builtin.«set_iterator.__next__»;refine Yj (Yl ?_);refine Yj (wpAny_fieldsOf hI rfl ?_);refine Yj (rX S ?_);rw[if_neg (by rw[hn];simp)];refine Yj (hr _ _ _ ?_);have XX:((slot:Int)).toNat=slot:=aak _;cases r with
 |some p=>
  obtain⟨x,nx⟩:=p;dsimp only at h ⊢;refine Yj (jI hI (by simp) λh1 k1 i1=>Yj (jI (s:={ s with heap:=h1 }) i1 (by simp) λh2 k2 i2=>?_));exact Yl ⟨_,rfl,Yl (h h2 (λb o hb e=>k2 b o hb (k1 b o hb e)) (by rw[i2];simp [d8,rawInt]))⟩
 |none=>
  dsimp only at h ⊢;refine Yj (jI hI (by simp) λh1 k1 i1=>?_);refine y5 (s:={ s with heap:=h1 }) hh λe h2 lH k2=>?_;refine Yj (ZX (T:="StopIteration") (b:=true) lH isSubtype_stop ?_);exact Yl (h h2 λb o hb e=>k2 b o (k1 b o hb e))
end
end L2
namespace L2
open PySem PySem.Spec PyProof.Rows PySem.W
section
variable {prog:Program}{w:World}{A:Around}{E:Value->Shared->Prop}{s:Shared}
theorem y6 {I a tp:Addr}{i n ep:Nat}{es:Array (Int×Value)}{t:SetTable}{vs:Array Value}{m:Nat}{Q:Option Value->Shared->Prop} (hh:A.handled=none) (hI:s.heap.get? I=some (d8 (.ref tp) i a n ep)) (S:fm s.heap a es ep t) (hn:es.size=n)
  (hP:s.heap.get? tp=some { cls:=.type "tuple",data:=.seq vs m })
  (h:(∃(j:Nat) (u:Tok) (e:Int×Value),vs[i]?=some (.int j u)/\es[j]?=some e/\∀h',(∀b o,b≠I->s.heap.get? b=some o->h'.get? b=some o)->h'.get? I=some (d8 (.ref tp) (i+1) a n ep)->Q (some e.2) { s with heap:=h' }) \/
   (vs[i]?=none/\∀h',(∀b o,b≠I->s.heap.get? b=some o->h'.get? b=some o)->Q none { s with heap:=h' })):wpAny (model prog w) A (pyNext (.ref I)) Q E s:=by
 have hT:s.TypeIs (.ref I) "set_iterator":=⟨_,hI,rfl⟩;unfold pyNext;refine Yj (ZF (YM (name:=Zw "__next__") hT gQ (YQ gQ hT yY ?_ (y0 _))));unfold Builtin.«set_iterator.__next__»;refine Yj (Yl ?_);refine Yj (wpAny_fieldsOf hI rfl ?_);refine Yj (rX S ?_);rw[if_neg (by rw[hn];simp)];dsimp only;refine Yj (ZR hP rfl ?_);dsimp only;rw[aak];rcases h with ⟨j,u,e,h1,h2,h3⟩ |⟨h1,h2⟩
 ·rw[h1];dsimp only;rw[aak,aak];have sn:∀ {R:Value->Shared->Prop}{E':Value->Shared->Prop}{A':Around},R e.2 s->wpAny (model prog w) A' (setNextDrawn a j ep) R E' s:=λ{R E' A'} q=>by
   unfold setNextDrawn;refine Yj (Zt S.1 rfl S.2 ?_);dsimp only;rw[if_neg (by simp),h2];exact Yj (Yl (Yl q))
  refine Yj (sn (Yj (jI hI (by simp) λh' k1 i1=>?_)));exact Yl ⟨_,rfl,Yl (h3 h' k1 (by rw[i1];simp [d8,rawInt]))⟩
 ·rw[h1];dsimp only;refine Yj (jI hI (by simp) λh3 k3 i3=>Yj (jI (s:={ s with heap:=h3 }) i3 (by simp) λh4 VT i4=>?_));refine y5 (s:={ s with heap:=h4 }) hh λe h5 lH k5=>?_;refine Yj (ZX (T:="StopIteration") (b:=true) lH isSubtype_stop ?_);exact Yl (h2 h5 λb o hb e=>k5 b o (VT b o hb (k3 b o hb e)))
theorem iB {Q:Bool->Shared->Prop} (h:Q (w.params.followText "set-order") s):wpAny (model prog w) A setsByText Q E s:=by
 unfold setsByText;exact Yj (wpAny_askSetting (Yl h))
theorem rY {I:Addr}{o:Obj}{Q:Value->Shared->Prop} (hI:s.heap.get? I=some o) (hc:o.cls=.type "set_iterator") (h:Q (.ref I) s):wpAny (model prog w) A (pyIter (.ref I)) Q E s:=by
 have hT:s.TypeIs (.ref I) "set_iterator":=⟨_,hI,hc⟩;have H1:entryFor table "set_iterator.__iter__"=some Builtin.«dict_keyiterator.__iter__»:=entryFor_alias (id':="dict_keyiterator.__iter__") (by kernel_rfl) rfl (by decide +kernel) (by kernel_rfl);have arg:argsOk "set_iterator.__iter__" ⟨[.ref I],[]⟩:=by
  unfold argsOk;rw[signature?_of (id:="set_iterator.__iter__") (n:=['_','_','r','e','t','i','_','_']) (o:=['r','o','t','a','r','e','t','i','_','t','e','s']) (by kernel_rfl) yZ];kernel_rfl
 refine wpAny_pyIter_slot hT yX (YQ yX hT H1 ?_ arg);unfold Builtin.«dict_keyiterator.__iter__»;refine Yj (Yl ?_);exact Yl ⟨_,rfl,"set_iterator",_,hT,gQ.lookup,h⟩
theorem H5 {I a:Addr} (cH:a≠I) {es:Array (Int×Value)}{ep:Nat}{t:SetTable} (bt:w.params.followText "set-order"=true) (hh:A.handled=none) :
  WalksS prog w A I [I,a] [I] (λx y=>y=x) es.size (λi v=>((pickOrder (w.params.setOrder a ep) es).toList.map (·.2))[i]?=some v) (λi s=>s.heap.get? I=some (d8 (.int 0 0) i a es.size ep)/\fm s.heap a es ep t) where
 sub:=λb hb=>by simp at hb;simp [hb]
 grefl:=λ_=>rfl
 gtrans:=λ_ _ _ h1 h2=>h2.trans h1
 frame:=λi s h' tk st _ k=>⟨k I (by simp) _ st.1,k a (by simp) _ st.2.1,st.2.2⟩
 item:=λi s Q E hi st q=>by
  have hs:(pickOrder (w.params.setOrder a ep) es).toList.length=es.size:=by rw[(rW _ es).length_eq,YG]
  have cR:i<(pickOrder (w.params.setOrder a ep) es).toList.length:=by lia
  have hx:(pickOrder (w.params.setOrder a ep) es)[i]?=some ((pickOrder (w.params.setOrder a ep) es).toList[i]):=by rw[<- ZE];exact Yo cR
  refine oj (slot:=0) (r:=some (((pickOrder (w.params.setOrder a ep) es).toList[i]).2,0)) hh st.1 st.2 rfl (λA' E' Q' q'=>?_) λh' k hI=>?_
  ·unfold setNext;refine Yj (Zt st.2.1 rfl st.2.2 (Yj (iB ?_)));rw[bt,if_pos rfl,if_neg (by simp)];unfold setWalk;refine Yj (Yj (Zt st.2.1 rfl st.2.2 (Yj (iB ?_))));rw[bt,if_pos rfl];refine Yj (wpAny_askSetting (Yl (Yl ?_)));show Q' (((pickOrder (w.params.setOrder a ep) es)[i]?).map λe=>(e.2,0)) s;rw[hx];exact q'
  ·refine q _ _ ?_ ⟨hI,k a _ cH st.2.1,st.2.2⟩ ⟨λb o hb e=>k b o (λz=>hb (by simp [z])) e,rfl,rfl,rfl,Yr _⟩;rw[Yz,Yo cR];rfl
 done:=λs Q E st q=>by
  have hs:(pickOrder (w.params.setOrder a ep) es).toList.length=es.size:=by rw[(rW _ es).length_eq,YG]
  have hx:(pickOrder (w.params.setOrder a ep) es)[es.size]?=none:=by rw[<- ZE];exact List.getElem?_eq_none (by lia)
  refine oj (slot:=0) (r:=none) hh st.1 st.2 rfl (λA' E' Q' q'=>?_) λh' k=>q _ ⟨λb o hb e=>k b o (λz=>hb (by simp [z])) e,rfl,rfl,rfl,Yr _⟩;unfold setNext;refine Yj (Zt st.2.1 rfl st.2.2 (Yj (iB ?_)));rw[bt,if_pos rfl,if_neg (by simp)];unfold setWalk;refine Yj (Yj (Zt st.2.1 rfl st.2.2 (Yj (iB ?_))));rw[bt,if_pos rfl];refine Yj (wpAny_askSetting (Yl (Yl ?_)));show Q' (((pickOrder (w.params.setOrder a ep) es)[es.size]?).map λe=>(e.2,0)) s;rw[hx];exact q'
 self:=λi s Q E st q=>rY st.1 rfl q
theorem H6 {I a:Addr} (cH:a≠I) {es:Array (Int×Value)}{ep:Nat}{t:SetTable} (bt:w.params.followText "set-order"=false) (led:t.led=true) (h1:es.size<=1) (hh:A.handled=none) :
  WalksS prog w A I [I,a] [I] (λx y=>y=x) es.size (λi v=>(es.toList.map (·.2))[i]?=some v) (λi s=>s.heap.get? I=some (d8 (.int (if i=0 then 0 else t.place.getD 0 0+1:Nat) 0) i a es.size ep)/\fm s.heap a es ep t) where
 sub:=λb hb=>by simp at hb;simp [hb]
 grefl:=λ_=>rfl
 gtrans:=λ_ _ _ h1 h2=>h2.trans h1
 frame:=λi s h' tk st _ k=>⟨k I (by simp) _ st.1,k a (by simp) _ st.2.1,st.2.2⟩
 item:=λi s Q E hi st q=>by
  obtain rfl:i=0:=by lia
  have hz:es.size=1:=by lia
  have hp:t.place.size=1:=by
   have:=st.2.2;simp only[SetTable.fits,Yq,beq_iff_eq]at this;lia
  have rZ:(!t.plain && decide (es.size > 1))=false:=by rw[hz];simp
  refine oj (slot:=0) (r:=some ((es[0]'(by lia)).2,t.place.getD 0 0+1)) hh (by simpa using st.1) st.2 rfl (λA' E' Q' q'=>?_) λh' k hI=>?_
  ·unfold setNext;refine Yj (Zt st.2.1 rfl st.2.2 (Yj (iB ?_)));rw[bt,if_neg Y0];dsimp only;refine ZI (λz=>absurd (rZ.symm.trans (show (!t.plain && decide (es.size > 1))=true from z)) Y0) (λ_=>?_);refine Yj ?_;show wpAny _ _ (if (!t.led && !es.isEmpty)=true then _ else pure PUnit.unit) _ _ s
   rw[led,if_neg (by simp)];refine Yl (Yl ?_);have eb:SetTable.below t.place 0=0:=by
    unfold SetTable.below;rw[hp];simp [SetTable.below.go]
   rw[eb,Y9 (show 0<es.size by lia),Y9 (show 0<t.place.size by lia)];have UQ:t.place.getD 0 0=t.place[0]'(by lia):=(by rw[ZO,Y9 (show 0<t.place.size by lia)];rfl);rw[UQ]at q';exact q'
  ·refine q _ _ ?_ ⟨by rw[if_neg (by lia)];exact hI,k a _ cH st.2.1,st.2.2⟩ ⟨λb o hb e=>k b o (λz=>hb (by simp [z])) e,rfl,rfl,rfl,Yr _⟩;rw[Yz,ZE,Y9 (show 0<es.size by lia)];rfl
 done:=λs Q E st q=>by
  have hp:t.place.size=es.size:=by
   have:=st.2.2;simp only[SetTable.fits,Yq,beq_iff_eq]at this;lia
  have rZ:(!t.plain && decide (es.size > 1))=false:=by simp;lia
  refine oj (r:=none) hh st.1 st.2 rfl (λA' E' Q' q'=>?_) λh' k=>q _ ⟨λb o hb e=>k b o (λz=>hb (by simp [z])) e,rfl,rfl,rfl,Yr _⟩;unfold setNext;refine Yj (Zt st.2.1 rfl st.2.2 (Yj (iB ?_)));rw[bt,if_neg Y0];dsimp only;refine ZI (λz=>absurd (rZ.symm.trans (show (!t.plain && decide (es.size > 1))=true from z)) Y0) (λ_=>?_);refine Yj ?_;show wpAny _ _ (if (!t.led && !es.isEmpty)=true then _ else pure PUnit.unit) _ _ s
  rw[led,if_neg (by simp)];refine Yl (Yl ?_);have eb:SetTable.below t.place (if es.size=0 then 0 else t.place.getD 0 0+1)=es.size:=by
   rcases Nat.lt_or_ge es.size 1 with hz |hz
   ·have z0:es.size=0:=(by lia);unfold SetTable.below;rw[hp,z0];simp [SetTable.below.go]
   ·have z1:es.size=1:=(by lia);have UQ:∀d,t.place.getD 0 d=t.place[0]'(by lia):=λd=>(by rw[ZO,Y9 (show 0<t.place.size by lia)];rfl);unfold SetTable.below;rw[hp,z1];simp [SetTable.below.go,UQ]
  rw[eb,Array.getElem?_eq_none (Yr _)];exact q'
 self:=λi s Q E st q=>rY st.1 rfl q
theorem H7 {I a tp:Addr} (cH:a≠I) (H8:tp≠I) {es:Array (Int×Value)}{ep m:Nat}{t:SetTable}{ps:List Nat} (hp:ps.Perm (ZA es.size)) (hh:A.handled=none) :
  WalksS prog w A I [I,a,tp] [I] (λx y=>y=x) es.size (λi v=>(ps.map λj=>(es.getD j (0,.none)).2)[i]?=some v)
   (λi s=>s.heap.get? I=some (d8 (.ref tp) i a es.size ep)/\fm s.heap a es ep t/\s.heap.get? tp=some { cls:=.type "tuple",data:=.seq (ps.map λi=>rawInt (i:Nat)).toArray m }) where
 sub:=λb hb=>by simp at hb;simp [hb]
 grefl:=λ_=>rfl
 gtrans:=λ_ _ _ h1 h2=>h2.trans h1
 frame:=λi s h' tk st _ k=>⟨k I (by simp) _ st.1,⟨k a (by simp) _ st.2.1.1,st.2.1.2⟩,k tp (by simp) _ st.2.2⟩
 item:=λi s Q E hi st q=>by
  have hl:ps.length=es.size:=by rw[hp.length_eq,ZN]
  have cR:i<ps.length:=by lia
  have hj:ps[i]<es.size:=List.mem_range.mp (hp.mem_iff.mp (List.getElem_mem cR));refine y6 hh st.1 st.2.1 rfl st.2.2 (.inl ⟨ps[i],0,es[ps[i]],?_,Y9 hj,λh' k hI=>?_⟩)
  ·simp [Yo cR,rawInt]
  ·refine q _ _ ?_ ⟨hI,⟨k a _ cH st.2.1.1,st.2.1.2⟩,k tp _ H8 st.2.2⟩ ⟨λb o hb e=>k b o (λz=>hb (by simp [z])) e,rfl,rfl,rfl,Yr _⟩;rw[Yz,Yo cR];simp [ZO,Y9 hj]
 done:=λs Q E st q=>by
  have hl:ps.length=es.size:=by rw[hp.length_eq,ZN]
  refine y6 hh st.1 st.2.1 rfl st.2.2 (.inr ⟨?_,λh' k=>q _ ⟨λb o hb e=>k b o (λz=>hb (by simp [z])) e,rfl,rfl,rfl,Yr _⟩⟩);simp [hl]
 self:=λi s Q E st q=>rY st.1 rfl q
end
end L2
namespace L2
open PySem PySem.Spec PyProof.Rows PySem.W
section
variable {prog:Program}{w:World}{A:Around}{E:Value->Shared->Prop}{s:Shared}
theorem H9 {a:Addr}{zs:List Str}{Q:Value->Shared->Prop} (S:cB prog w s.heap a zs)
  (h:∀(I:Addr) (h':Heap) (d:Drawn) (fp:List Addr) (St:Nat->Shared->Prop) (os:List Value),(∀b o,s.heap.get? b=some o->h'.get? b=some o)->(∀b∈fp,s.heap.objs.size<=b\/b=a)->s.heap.objs.size<=I ->
   (∃ys:List Str,StrsAre os ys/\ys.Nodup/\∀x,x∈ys ↔ x∈zs)->(∀A':Around,A'.handled=none->WalksS prog w A' I fp [I] (λx y=>y=x) os.length (λi v=>os[i]?=some v) St)->(∀tk,St 0 { s with heap:=h',drawn:=d,toks:=tk })->Q (.ref I) { s with heap:=h',drawn:=d }) :
  wpAny (model prog w) A (pyIter (.ref a)) Q E s:=by
 obtain⟨es,ep,t,ho,d7,hf,jD,bv,hsz,nd,hm⟩:=S;have hT:s.TypeIs (.ref a) "set":=⟨_,ho,rfl⟩;have S0:fm s.heap a es ep t:=⟨ho,hf⟩;have la:a<s.heap.objs.size:=Yw ho;have iC:∀os:List Value,os.Perm (es.toList.map (·.2))->∃ys:List Str,StrsAre os ys/\ys.Nodup/\∀x,x∈ys ↔ x∈zs:=λos p=>by
  have all:∀v∈os,∃u,v=.str (eJ v) u:=λv hv=>by
   obtain⟨e,he,rfl⟩:=List.mem_map.mp (p.mem_iff.mp hv);obtain⟨u,h1,_⟩:=yN d7 he;exact⟨u,h1⟩
  have are:∀l:List Value,(∀v∈l,∃u,v=.str (eJ v) u)->StrsAre l (l.map eJ):=by
   intro l
   induction l with
   |nil=>intro _;exact .nil
   |cons v l ih=>
    intro hv;obtain⟨u,e⟩:=hv v Ys;have:=ih λx hx=>hv x (Yt _ hx);rw[Yu];rw[e];exact .cons _ u this
  have pp:(os.map eJ).Perm (eK es.toList):=by
   have:=p.map eJ;rw[Zq]at this;exact this
  exact⟨os.map eJ,are os all,pp.nodup_iff.mpr nd,λx=>(pp.mem_iff).trans (hm x)⟩
 refine wpAny_pyIter_slot hT F.slot_set_iter (YQ F.slot_set_iter hT H3 ?_ (F.args_set_iter_1 _));unfold Builtin.«frozenset.__iter__» Builtin.Frozenset.slot0;refine Yj (Yl ?_);unfold Builtin.Frozenset.sizeOf;refine Yj (Yj (rX S0 (Yl ?_)));unfold setDrawn;refine Yj (Yj (Zt S0.1 rfl S0.2 (Yj (iB (Yl ?_)))));have y7:a≠s.heap.objs.size:=Yx la;cases bt:w.params.followText "set-order" with
 |true=>
  refine ZI (λz=>absurd z (by simp)) (λ_=>?_);refine Yj (Yl ?_);refine Yj (wpAny_setEpoch_of S0.1 rfl S0.2 ?_);unfold newFields;refine Yj (YV (Yl ⟨_,rfl,"set_iterator",_,⟨_,Yp _ rfl,rfl⟩,gQ.lookup,?_⟩) (by size_fits));have pp:=(rW (w.params.setOrder a ep) es).map (·.2);have ol:((pickOrder (w.params.setOrder a ep) es).toList.map (·.2)).length=es.size:=by rw[pp.length_eq];simp
  refine h s.heap.objs.size _ s.drawn [s.heap.objs.size,a] (λi s'=>s'.heap.get? s.heap.objs.size=some (d8 (.int 0 0) i a es.size ep)/\fm s'.heap a es ep t) ((pickOrder (w.params.setOrder a ep) es).toList.map (·.2)) (λb o e=>Yk _ e) (λb hb=>?_) (Yr _) (iC _ pp) (λA' hA=>by rw[ol];exact H5 y7 (t:=t) bt hA) (λtk=>⟨Yp _ rfl,Yk _ S0.1,S0.2⟩);simp at hb;rcases hb with rfl |rfl
  ·exact .inl (Yr _)
  ·exact .inr rfl
 |false=>
  rw[bt]at jD;rcases Nat.lt_or_ge 1 es.size with h2 |h1
  ·have pl:t.plain=false:=by
    rcases bv with z |z
    ·exact z
    ·rw[z]at h2;simp at h2
   refine ZI (λ_=>?_) (λz=>absurd (show (!false && (!t.plain && decide (es.size > 1)))=true by rw[pl];simp;lia) z);refine Yj (y3 es.size (ZA es.size) s _ (by simp) λps d hp=>?_);refine Yj (wpAny_newTuple ?_ (by rw[Ym,hp.length_eq,ZN];exact fits_of_scanBound (by show es.size<4096;lia)));have o1:∀{o:Obj}{b:Addr},s.heap.get? b=some o->(s.heap.push { cls:=.type "tuple",data:=.seq (ps.map λ(i:Nat)=>rawInt i).toArray }).get? b=some o:=λe=>Yk _ e;refine Yj (wpAny_setEpoch_of (o1 S0.1) rfl S0.2 ?_);unfold newFields;refine Yj (YV (Yl ⟨_,rfl,"set_iterator",_,⟨_,Yp _ rfl,rfl⟩,gQ.lookup,?_⟩) (by size_fits));have hl:ps.length=es.size:=(by rw[hp.length_eq,ZN]);have pp:(ps.map λj=>(es.getD j (0,.none)).2).Perm (es.toList.map (·.2)):=by
    refine (hp.map _).trans ?_;have e:(ZA es.size).map (λj=>(es.getD j (0,.none)).2)=es.toList.map (·.2):=by
     refine List.ext_getElem? λi=>?_;rw[Yz,Yz];by_cases hi:i<es.size
     ·have UA:(ZA es.size)[i]?=some i:=(by simp [hi]);have Uz:es.toList[i]?=some es[i]:=(by simp [hi]);rw[UA,Uz];simp [ZO,Y9 hi]
     ·have UA:(ZA es.size)[i]?=none:=(by simp;lia);have Uz:es.toList[i]?=none:=(by simp;lia);rw[UA,Uz];rfl
    rw[e]
   have eM:(s.heap.push { cls:=.type "tuple",data:=.seq (ps.map λ(i:Nat)=>rawInt i).toArray }).objs.size=s.heap.objs.size+1:=YR _ _;have n1:a≠(s.heap.push { cls:=.type "tuple",data:=.seq (ps.map λ(i:Nat)=>rawInt i).toArray }).objs.size:=(by rw[eM];exact Yx (Zk la));have n2:s.heap.objs.size≠(s.heap.push { cls:=.type "tuple",data:=.seq (ps.map λ(i:Nat)=>rawInt i).toArray }).objs.size:=(by rw[eM];exact Yx (ZK _));refine h (s.heap.push { cls:=.type "tuple",data:=.seq (ps.map λ(i:Nat)=>rawInt i).toArray }).objs.size _ d [(s.heap.push { cls:=.type "tuple",data:=.seq (ps.map λ(i:Nat)=>rawInt i).toArray }).objs.size,a,s.heap.objs.size]
    (λi s'=>s'.heap.get? (s.heap.push { cls:=.type "tuple",data:=.seq (ps.map λ(i:Nat)=>rawInt i).toArray }).objs.size=some (d8 (.ref s.heap.objs.size) i a es.size ep)/\fm s'.heap a es ep t/\s'.heap.get? s.heap.objs.size=some { cls:=.type "tuple",data:=.seq (ps.map λi=>rawInt (i:Nat)).toArray 0 })
    (ps.map λj=>(es.getD j (0,.none)).2) (λb o e=>Yk _ (o1 e)) (λb hb=>?_) (by rw[eM];exact Nat.le_succ _) (iC _ pp) (λA' hA=>by rw[Ym,hl];exact H7 (m:=0) n1 n2 (t:=t) (ep:=ep) hp hA) (λtk=>⟨Yp _ rfl,⟨Yk _ (o1 S0.1),S0.2⟩,Yk _ (Yp _ rfl)⟩)
   simp only[YZ,YJ,or_false]at hb;rcases hb with rfl |rfl |rfl
   ·exact .inl (by rw[eM];exact Nat.le_succ _)
   ·exact .inr rfl
   ·exact .inl (Yr _)
  ·refine ZI (λz=>absurd (show (!false && (!t.plain && decide (es.size > 1)))=true from z) (by simp;lia)) (λ_=>?_);refine Yj (Yl ?_);refine Yj (wpAny_setEpoch_of S0.1 rfl S0.2 ?_);unfold newFields;refine Yj (YV (Yl ⟨_,rfl,"set_iterator",_,⟨_,Yp _ rfl,rfl⟩,gQ.lookup,?_⟩) (by size_fits));have ol:(es.toList.map (·.2)).length=es.size:=(by simp);refine h s.heap.objs.size _ s.drawn [s.heap.objs.size,a] (λi s'=>s'.heap.get? s.heap.objs.size=some (d8 (.int (if i=0 then 0 else t.place.getD 0 0+1:Nat) 0) i a es.size ep)/\fm s'.heap a es ep t) (es.toList.map (·.2)) (λb o e=>Yk _ e) (λb hb=>?_) (Yr _) (iC _ (.refl _)) (λA' hA=>by rw[ol];exact H6 y7 (t:=t) bt (by simpa using jD) h1 hA) (λtk=>⟨Yp _ rfl,Yk _ S0.1,S0.2⟩)
   simp at hb;rcases hb with rfl |rfl
   ·exact .inl (Yr _)
   ·exact .inr rfl
theorem H' {r:Addr}{Q:Bool->Shared->Prop} (hT:s.TypeIs (.ref r) "set") (h:Q false s):wpAny (model prog w) A (Builtin.List.listLengthHint (.ref r)) Q E s:=by
 unfold Builtin.List.listLengthHint;refine Yj (wpAny_specialOf hT PySem.F.slot_set_len.lookup ?_);generalize y8:("set.__len__" : String)=Ia
 wp_delta
 rw[show splitId Ia=some ("set","__len__") from by subst y8;decide +kernel];subst y8;refine Yj (ZX (T:="set") (b:=true) hT (by rw[Z8];kernel_rfl) ?_);refine ZI (λz=>absurd z (by decide)) (λ_=>ZI (λ_=>Yj (wpAny_typeOf hT (Yl h))) (λz=>absurd (by decide +kernel) z))
theorem Ib {a : Addr} {zs : List Str} {R : List Value -> Shared -> Prop} (hh : A.handled = none) (S : cB prog w s.heap a zs) (hz : zs.length < 3900)
    (h:∀(h':Heap) (tk:Nat) (d:Drawn) (os:List Value) (ys:List Str),(∀b o,s.heap.get? b=some o->h'.get? b=some o)->StrsAre os ys->ys.Nodup->(∀x,x∈ys ↔ x∈zs)->R os { s with heap:=h',toks:=tk,drawn:=d }) :
    wpAny (model prog w) A (collect (.ref a)) R E s:=by
  have la:a<s.heap.objs.size:=let ⟨_,_,_,ho,_⟩:=S;Yw ho
  unfold collect;refine Yj (wpAny_runValue (Zg entry_proto_collect' ?_));rw[Y2 PySem.F.plain_proto_collect _];show wpAny _ A.in1 (newList [] >>= λu=>again (.builtin "list.__iadd__" ⟨[u,.ref a],[]⟩)) _ _ s;refine Yj (YV (Yl ⟨Zn PySem.F.plain_list_iadd _,Zg entry_list_iadd' ?_⟩));rw[Y2 PySem.F.plain_list_iadd _];have hL:(s.heap.push { cls:=.type "list",data:=.seq ([]:List Value).toArray }).get? s.heap.objs.size=some { cls:=.type "list",data:=.seq #[] }:=Yp _ rfl;have S1:cB prog w (s.heap.push { cls:=.type "list",data:=.seq ([]:List Value).toArray }) a zs:=S.at λo e=>Yk _ e;have hT:Shared.TypeIs { s with heap:=s.heap.push { cls:=.type "list",data:=.seq ([]:List Value).toArray } } (.ref a) "set":=let ⟨_,_,_,ho,_⟩:=S1;⟨_,ho,rfl⟩
  have eM:(s.heap.push { cls:=.type "list",data:=.seq ([]:List Value).toArray }).objs.size=s.heap.objs.size+1:=YR _ _;have k0:∀b o,s.heap.get? b=some o->(s.heap.push { cls:=.type "list",data:=.seq ([]:List Value).toArray }).get? b=some o:=λb o e=>Yk _ e;show wpAny _ A.in1 (Builtin.List.listExtendWith (.ref s.heap.objs.size) (.ref a) (.ref s.heap.objs.size)) _ _ _;generalize s.heap.push { cls:=.type "list",data:=.seq ([]:List Value).toArray }=g1 at hL S1 hT eM k0 ⊢;have y9:s.heap.objs.size≠a:=Zf la;unfold Builtin.List.listExtendWith;refine Yj (wpAny_typeOf (T:="set") hT ?_);have e1:Builtin.List.listSameRef (.ref s.heap.objs.size) (.ref a)=false:=by simp [Builtin.List.listSameRef,y9]
  simp only[e1,show (aac "set" == aac "list")=false by decide,show (aac "set" == aac "tuple")=false by decide,Bool.or_false,Z6,if_false];refine Yj (H9 S1 λI h2 d fp St os k2 Ic hI are W st=>?_);obtain⟨ys,sa,nd,mem⟩:=are;have r6:=k2 _ _ hL;have nf:s.heap.objs.size ∉ fp:=λz=>by
    rcases Ic _ z with q |q
    · rw[eM]at q;lia
    · exact y9 q
  have Wu:s.heap.objs.size≠I:=by rw[eM]at hI;lia
  have lH:Shared.TypeIs { s with heap:=h2,drawn:=d } (.ref a) "set":=let ⟨_,_,_,ho,_⟩:=S1;⟨_,k2 _ _ ho,rfl⟩
  refine Yj (Y3 (H' lH ?_));have lo:os.length=ys.length:=sa.length;have fit:os.length<=sizeLine:=by
    have:=List.Nodup.length_le_of_subset nd λy hy=>(mem y).mp hy;exact Yy (show os.length<=4000 by lia) (by decide)
  have key : ∀ (g : Heap) (c tk : Nat), St 0 { s with heap := g, drawn := d, toks := tk } -> (∀ b o, b ≠ s.heap.objs.size -> h2.get? b = some o -> g.get? b = some o) -> g.get? s.heap.objs.size = some { cls := .type "list", data := .seq #[] c } ->
      codeAny (model prog w) A (.builtin "list.extend.loop" ⟨[.ref s.heap.objs.size,.ref I,.ref s.heap.objs.size],[]⟩) (λr s'=>∃ (h':Heap) (tk:Nat) (al:Array Value) (c':Nat),r=.ok (.ret (.ref s.heap.objs.size))/\s'={ s with heap:=h',toks:=tk,drawn:=d }/\(∀ b o,s.heap.get? b=some o->h'.get? b=some o) /\
        h'.get? s.heap.objs.size=some { cls:=.type "list",dict:=none,data:=.seq al c',slots:=#[] }/\ItemsOf (λi v=>os[i]?=some v) al os.length) { s with heap:=g,drawn:=d,toks:=tk }:=by
    intro g c tk bn kg hg;refine codeAny_extend_loopS (W A.in1 (by simpa using hh)) fit s.heap.objs.size nf (.ref s.heap.objs.size) os.length 0 _ #[] c rfl (YE _) bn hg (ItemsOf.nil _) λs' al c' m hS' iy=>?_;obtain⟨hx,gx,dx,Xd,Xe⟩:=s';have UQ:gx=s.gens:=m.gens;have VS:dx=d:=m.drawn;have UX:Xe=s.os:=m.os;subst UQ;subst VS;subst UX;refine⟨hx,Xd,al,c',rfl,rfl,λb o e=>?_,hS',iy⟩;have lb:=Yw e;refine m.heap b o ?_ (kg b o (Yx lb) (k2 b o (k0 b o e)));simp only[YZ,YJ,or_false,not_or];exact⟨Yx lb,Yx (Y7 lb (by rw[eM]at hI;exact hI))⟩
  have fin : ∀ (r : Result) (s' : Shared), (∃ (h' : Heap) (tk : Nat) (al : Array Value) (c' : Nat), r = .ok (.ret (.ref s.heap.objs.size)) ∧ s' = { s with heap := h', toks := tk, drawn := d } ∧ (∀ b o, s.heap.get? b = some o → h'.get? b = some o) ∧
        h'.get? s.heap.objs.size=some { cls:=.type "list",dict:=none,data:=.seq al c',slots:=#[] }/\ItemsOf (λi v=>os[i]?=some v) al os.length)->∃(h':Heap) (tk c':Nat),r=.ok (.ret (.ref s.heap.objs.size))/\s'={ s with heap:=h',toks:=tk,drawn:=d }/\h'.get? s.heap.objs.size=some { cls:=.type "list",dict:=none,data:=.seq os.toArray c',slots:=#[] }/\R os { s with heap:=h',toks:=tk,drawn:=d }:=by
    rintro r s' ⟨h',tk,al,c',rfl,rfl,k,hS',iy⟩;have e:al=os.toArray:=by
      refine Array.ext (by rw[Yn];exact iy.1) λi h1 h2=>?_;have:=iy.2 i al[i] (Y9 h1);rw[Yn]at h2;rw[Yo h2]at this;injection this with this;rw[<- this];simp
    subst e;exact⟨h',tk,c',rfl,rfl,hS',h h' tk d os ys k sa nd mem⟩
  refine ZI (λ_=>?Ie) (λ_=>Yl ⟨Zn PySem.F.plain_extend_loop _,Zy (key h2 0 s.toks (st _) (λb o _ e=>e) r6) λr s' y=>?last⟩)
  case last=>
    obtain⟨h',tk,c',rfl,rfl,hS',q⟩:=fin r s' y;show wpAny _ A (load s.heap.objs.size >>= _) _ _ _;exact Yj (wpAny_load hS' (Yl q))
  case Ie=>
    refine Yj (wpAny_rule (Yj ?_));show wpAny _ _ (updateSeq s.heap.objs.size (·.push .none) >>= λ_=>updateSeq s.heap.objs.size (·.pop)) _ _ _;refine Yj (wpAny_updateSeq r6 rfl ?_);have u2:=YK (YW (·.push Y6)) r6 rfl;refine wpAny_updateSeq (hz:=by seq_fits) u2 rfl ?_;have u3:=YK (YW (·.pop)) u2 rfl;have y':∀b o,b≠s.heap.objs.size->h2.get? b=some o->((h2.update s.heap.objs.size (YW (·.push Y6))).update s.heap.objs.size (YW (·.pop))).get? b=some o:=λb o hb e=>(Zr _ _ (Zl hb)).trans ((Zr _ _ (Zl hb)).trans e);refine Yl ⟨Zn PySem.F.plain_extend_loop _,Zy (key _ _ s.toks ((W A hh).frame 0 _ _ _ (st s.toks) (Yr _) λb hb o e=>y' b o (λz=>nf (z ▸ hb)) e) y' u3) λr s' y=>?_⟩;obtain⟨h',tk,c',rfl,rfl,hS',q⟩:=fin r s' y;show wpAny _ A (load s.heap.objs.size >>= _) _ _ _;exact Yj (wpAny_load hS' (Yl q))
end
end L2
end
section
set_option maxHeartbeats 1000000
namespace N
open PySem PySem.Spec PyProof.Rows L2
def za (ta:DE):DE:=fun τ M q=>ta τ M λx M1=>bf x M1 λds=>∃zs N:List Str,ds=zs.map D.str/\N.length<64/\(∀x∈zs,x∈N)/\∀ys:List Str,ys.Nodup->(∀x,x∈ys ↔ x∈zs)->sortedS ys=true->bL (ys.map D.str) M1 q
section
variable {X:Cx} {τ:St} {z:Z}
theorem aa.Ig (I:aa X τ z) (d:Drawn):aa X τ ⟨z.F,z.M,{ z.s with drawn:=d }⟩:=⟨I.ok,I.bs,I.os,I.bare,I.bx,I.loc,I.cell,I.free,I.hok,I.len,I.f0⟩
theorem zb {G:Gx}{F:Fz}:∀{ys:List Str}{us:List Value},ag G F (ys.map D.str) us->StrsAre us ys
 |[],us,r=>by rw[Zp,ag]at r;subst r;exact .nil
 |y::ys,us,r=>by rw[Yu,ag]at r;obtain⟨u,us,rfl,h,r⟩:=r;rw[ae]at h;obtain⟨t,rfl⟩:=h;exact .cons _ _ (zb r)
theorem Ih {a:Addr}{zs:List Str}{Q:QK}{R:Value->Shared->Prop}{F:Fz} (hc:X.calm=true) (I:aa X τ z) (S:cB X.G.P X.G.w z.s.heap a zs) (gP:zs.length<64) (k:KE X τ F Q R) (l:Le F z.F)
  (q:∀ys:List Str,ys.Nodup->(∀x,x∈ys ↔ x∈zs)->sortedS ys=true->bL (ys.map D.str) z.M Q):W X (call (.builtin "sorted") [.ref a]) R z.s:=by
 refine Calls.call_function_entry kind_sorted plain_sorted entry_sorted (args_sorted1 _) ?_;unfold Builtin.«sorted»;refine Yj (m:=checkCount "sorted" 1 1 _) (Yl ?_);refine Yj (Ib (A:=X.A.in1) (I.ok.hd hc) S (by lia) λh' tk d os ss keep hS nd mem=>?_);have hl:os.length=ss.length:=hS.length;have le:ss.length<=zs.length:=List.Nodup.length_le_of_subset nd λy hy=>(mem y).mp hy;have fit:os.length<=sizeLine:=Yy (show os.length<=64 by lia) (by decide);refine Yj (wpAny_newList ?_ fit);have eI:(h'.push { cls:=.type "list",data:=.seq os.toArray }).get? h'.objs.size=some (seqObj "list" os.toArray 0):=Yp _ rfl;refine Yj (Y3 (YQ slot_list_sort ⟨_,eI,rfl⟩ entry_list_sort (list_sort_treeK strKind_oneLt eI hS.keysOf (λv₁ v₂ rest e=>keyKind_strs (by rw[<- e];exact hS)) (by lia) λbn UA Uz=>⟨_,rfl,?_⟩) (args_list_sort _)));obtain⟨ys,b1,b2,b3⟩:=sorted_out_str hS UA Uz;refine Yl ⟨_,rfl,?_⟩;have J:aa X τ ⟨z.F,z.M,{ z.s with heap:=h',toks:=tk,drawn:=d }⟩:=(I.kept (t:=tk) keep).Ig d;obtain⟨e,rR⟩:=sortedHeap_at (out:=(arrOf bn).map (·.2)) eI;have rs:=jB (G:=X.G) (F:=z.F) b1;refine J.lst (n:=e) (t:=tk) k l rs (λb o hb=>?_) (Yr _) ?_ (by rw[<- rs.len,Ym,b2.length_eq,<- hl];exact fit) (q ys (b2.nodup_iff.mpr nd) (λx=>b2.mem_iff.trans (mem x)) b3)
 ·have bd:b<h'.objs.size:=Yw hb;rw[sortedHeap_old (Yx bd) (by rw[YR];exact Zk bd)];exact Yk _ hb
 ·rw[rR];rfl
theorem Ii {e:Expr}{te:DE}{p1 p2 gR dz:Pos} (hc:X.calm=true) (r8:Gl X "sorted") (jH:X.G.mg "sorted"=none) (r9:Gl X "set") (sd:X.G.mg "set"=none) (he:PE X e te) (hs:bA e=true) :
  PE X (.Call (.Name "sorted" p1) [.Call (.Name "set" p2) [e] [] dz] [] gR) (za te):=fun τ z Q R I h k=>by
 refine Y8 (eB I r8 jH (by decide +kernel:bootBuiltins "sorted"=some (.builtin "sorted")) (by decide) (by decide) ?_);refine PyProof.Rows.callWith_builtin1 ?_ (bz rfl) rfl;rw[bz (e:=.Call (.Name "set" p2) [e] [] dz) rfl];show W X (spliced ((false,eval (.Call (.Name "set" p2) [e] [] dz) X.env)::backTo gR (starEach [] X.env))) _ z.s;refine Zu ?_;refine Y8 (eB I r9 sd (by decide +kernel:bootBuiltins "set"=some (.type "set")) (by decide) (by decide) ?_);refine Ze ?_ (bz hs) rfl;refine dm he gD (bz hs) dz τ z (λds M=>n1 (λd M Q=>bf d M λes=>∃zs N:List Str,es=zs.map D.str/\N.length<64/\(∀x∈zs,x∈N)/\∀ys:List Str,ys.Nodup->(∀x,x∈ys ↔ x∈zs)->sortedS ys=true->bL (ys.map D.str) M Q) ds M Q) _ I h λds z1 us l1 I1 r1 q1=>?_;unfold n1 at q1;dsimp only at q1;split at q1
 case h_2=>exact q1.elim
 obtain⟨u,rfl,ru⟩:=gI r1;obtain⟨a,ds,its,n,rfl,l,zs,N,rfl,gP,hb,q⟩:=I1.bf ru q1;have are:StrsAre its zs:=zb l.r;refine HX (A:=X.A) (its:=its.toArray) (N:=N) (I1.ok.hd hc) ⟨_,l.e,rfl,n,rfl⟩ (by simpa using are) (by lia) hb λh' tk S keep=>?_;refine ZY ?_;exact Ih hc (I1.kept (t:=tk) keep) (S.mem (oh hb)) (YA (List.length_filter_le _ _) gP) k l1 λys h1 h2 h3=>q ys h1 (λx=>(h2 x).trans (oh hb x).symm) h3
end
end N
end
section
namespace L2
open PySem PySem.Spec PyProof.Rows PySem.W
section
variable {prog:Program}{w:World}{A:Around}{E:Value->Shared->Prop}{s:Shared}
theorem Ij {M:Model}{a:Addr}{o:Obj}{Q:Option Obj->Shared->Prop} (ho:s.heap.get? a=some o) (h:Q (some o) s):wpAny M A (Sem.loadIfAlive a Sem.pure) Q E s:=fun Γ p x=>by
 rw[Sem.wp_loadIfAlive,ho];exact h
def se (h:Heap) (e it a:Addr) (b:Bool) (i:Nat):Prop:=∃f5,h.get? e=some { cls:=.type "enumerate",data:=.fields #[rawInt (a:Int),.bool b,.ref it,rawInt (i:Int),.none,f5] }
theorem Ik {e it l a:Addr}{b:Bool}{i:Nat}{items:Array Value}{x:Value}{oa:Obj}{Q:Option Value->Shared->Prop} (he:se s.heap e it a b i) (ha:s.heap.get? a=some oa)
  (hit:s.heap.IsTupleIter it l i) (hl:s.heap.IsTuple l items) (hx:items[i]?=some x) (ne:e≠it) (nl:l≠e) (gS:l≠it) (na:a≠e) (Il:a≠it)
  (q:∀h' tk,se h' e it a true (i+1)->h'.IsTupleIter it l (i+1)->h'.get? s.heap.objs.size=some { cls:=.type "tuple",data:=.seq #[.int i tk,x] }->h'.objs.size=s.heap.objs.size+1 ->
   (∀c o,c≠e->c≠it->s.heap.get? c=some o->h'.get? c=some o)->Q (some (.ref s.heap.objs.size)) { s with heap:=h',toks:=tk+1 }):wpAny (model prog w) A (pyNext (.ref e)) Q E s:=by
 obtain⟨f5,he⟩:=he;have hT:s.TypeIs (.ref e) "enumerate":=⟨_,he,rfl⟩;unfold pyNext;refine Yj (ZF (YM (name:=Zw "__next__") hT F.slot_enumerate_next
  (YQ F.slot_enumerate_next hT F.entry_enumerate_next ?_ (F.args_enumerate_next_1 _))))
 show wpAny _ _ (field (.ref e) 2 >>= _) _ _ _;refine Yj (YU he rfl (x:=.ref it) rfl ?_);refine Yj (pZ hit hl hx λh1 Im om=>?_);have sf:h1.get? e=_:=om.extBut _ _ ne he;obtain⟨VU,oo,lI⟩:=id Im;obtain⟨hp,g,d,tk,os⟩:=s;have Io:h1.get? a=some oa:=om.extBut _ _ Il ha;have z1:h1.objs.size=hp.objs.size:=om.1
 wp_walk using YC sf
 have zz:((h1.update e (Za λx=>x.setIfInBounds 3 (rawInt ((i:Int)+1)))).update e (Za λx=>x.setIfInBounds 4 Y6)).objs.size=hp.objs.size:=by rw[Z3,Z3,z1]
 have b1:∀c o,c≠e->h1.get? c=some o->((h1.update e (Za λx=>x.setIfInBounds 3 (rawInt ((i:Int)+1)))).update e (Za λx=>x.setIfInBounds 4 Y6)).get? c=some o:=λc o n q=>
  (YO ..).extBut c o n ((YO ..).extBut c o n q)
 have e3:((h1.update e (Za λx=>x.setIfInBounds 3 (rawInt ((i:Int)+1)))).update e (Za λx=>x.setIfInBounds 4 Y6)).get? e=some { cls:=.type "enumerate",data:=.fields #[rawInt (a:Int),.bool b,.ref it,rawInt ((i:Int)+1),.none,f5] }:=
  YK (Za λx=>x.setIfInBounds 4 Y6) (YK (Za λx=>x.setIfInBounds 3 (rawInt ((i:Int)+1))) sf rfl) rfl
 generalize ((h1.update e (Za λx=>x.setIfInBounds 3 (rawInt ((i:Int)+1)))).update e (Za λx=>x.setIfInBounds 4 Y6))=h2 at *;have tp:=Yp h2 (o:={ cls:=.type "tuple",data:=.seq #[.int (i:Int) tk,x] }) rfl;have kp:∀c o,h2.get? c=some o->(h2.push { cls:=.type "tuple",data:=.seq #[.int (i:Int) tk,x] }).get? c=some o:=λc o q=>Yk _ q;have sz:(h2.push { cls:=.type "tuple",data:=.seq #[.int (i:Int) tk,x] }).objs.size=hp.objs.size+1:=by rw[YR,zz]
 rw[zz]at tp;refine Ij (o:=oa) (kp _ _ (b1 _ _ na Io)) ?_;have e4:=kp _ _ e3;have k2:∀c o,c≠e->c≠it->hp.get? c=some o->(h2.push { cls:=.type "tuple",data:=.seq #[.int (i:Int) tk,x] }).get? c=some o:=λc o n n' q=>kp _ _ (b1 c o n (om.extBut c o n' q));have zc:=kp _ _ (b1 it _ ne.symm oo);dsimp only;generalize (h2.push { cls:=.type "tuple",data:=.seq #[.int (i:Int) tk,x] })=h3 at *;rw[zz];cases b with
 |true=>
  refine Yj (YU e4 rfl (x:=.bool true) rfl (Yl (Yl ⟨_,rfl,Yl (q h3 tk ⟨f5,e4⟩ ⟨_,zc,lI⟩ tp sz k2)⟩)))
 |false=>
  refine Yj (YU e4 rfl (x:=.bool false) rfl ?_);have n:e≠hp.objs.size:=Yx (Yw he);refine Yj (Z7 e4 rfl (by show 1<6;decide) (Yl (Yl ⟨_,rfl,Yl (q _ tk ⟨f5,YK _ e4 rfl⟩ ⟨VU,(YO ..).extBut _ _ ne.symm zc,lI⟩ ((YO ..).extBut _ _ n.symm tp) (by rw[Z3];exact sz) λc o n1 n2 z=>(YO ..).extBut _ _ n1 (k2 c o n1 n2 z))⟩)))
theorem Ir {e it l:Addr}{i:Nat}{items:Array Value}{f0 f1 f5:Value}{Q:Option Value->Shared->Prop} (hh:A.handled=none)
  (he:s.heap.get? e=some { cls:=.type "enumerate",data:=.fields #[f0,f1,.ref it,rawInt (i:Int),.none,f5] }) (hit:s.heap.IsTupleIter it l i) (hl:s.heap.IsTuple l items) (hx:items[i]?=none)
  (hQ:∀h',aab it s.heap h'->Q none { s with heap:=h' }):wpAny (model prog w) A (pyNext (.ref e)) Q E s:=by
 have hT:s.TypeIs (.ref e) "enumerate":=⟨_,he,rfl⟩;unfold pyNext;refine Yj (ZF (YM (name:=Zw "__next__") hT F.slot_enumerate_next
  (YQ F.slot_enumerate_next hT F.entry_enumerate_next ?_ (F.args_enumerate_next_1 _))))
 show wpAny _ _ (field (.ref e) 2 >>= _) _ _ _;refine Yj (YU he rfl (x:=.ref it) rfl ?_);refine Yj (mP hh hit hl hx λh' x hV cI=>?_);obtain⟨o,ho,hc⟩:=cI;refine Yj (ZX (T:="StopIteration") (b:=true) ⟨o,ho,hc⟩ isSubtype_stop ?_);exact Yl (hQ _ hV)
def sg (h:Heap) (e it:Addr) (i:Nat) (as:List Addr):Prop:=(as=[]/\∃old,IsEnum h e it (i:Int) old)\/∃a r b,as=a::r/\se h e it a b i
def oq (h:Heap) (items:Array Value) (as:List Addr):Prop:=∀(j:Nat) (b:Addr),as[j]?=some b->∃tk x,items[j]?=some x/\h.get? b=some { cls:=.type "tuple",data:=.seq #[.int (j:Int) tk,x] }
theorem It {e it l:Addr}{i:Nat}{items:Array Value}{x:Value}{as:List Addr}{Q:Option Value->Shared->Prop} (hh:A.handled=none) (he:sg s.heap e it i as) (hA:oq s.heap items as)
  (hit:s.heap.IsTupleIter it l i) (hl:s.heap.IsTuple l items) (hx:items[i]?=some x) (ne:e≠it) (nl:l≠e) (gS:l≠it) (na:∀a∈as,a≠e/\a≠it)
  (q:∀h' tk,sg h' e it (i+1) (as++[s.heap.objs.size])->h'.IsTupleIter it l (i+1)->h'.get? s.heap.objs.size=some { cls:=.type "tuple",data:=.seq #[.int i tk,x] }->h'.objs.size=s.heap.objs.size+1 ->
   (∀c o,c≠e->c≠it->s.heap.get? c=some o->h'.get? c=some o)->Q (some (.ref s.heap.objs.size)) { s with heap:=h',toks:=tk+1 }):wpAny (model prog w) A (pyNext (.ref e)) Q E s:=by
 rcases he with ⟨rfl,old,he⟩ |⟨a,r,b,rfl,he⟩
 ·refine wpAny_pyNext_enum_itemD (Draws.tuple (A:=A.in1) hh it l gS items) he ⟨hit,hl⟩ (Array.getElem?_eq_some_iff.mp hx).1 ne (by simp only[YZ,YJ,or_false,not_or];exact⟨ne,nl.symm⟩) λu h' tk hP Z' J T n k=>?_;have hP:items[i]?=some u:=hP;rw[hx]at hP;cases hP;exact q h' tk (.inr ⟨_,[],false,rfl,x,by have Z2:=Z';unfold IsEnumOut at Z2;rw[Int.natCast_add];exact Z2⟩) J.1 T n k
 ·obtain⟨tk,y,_,ha⟩:=hA 0 a rfl;obtain⟨n1,n2⟩:=na a (by simp);exact Ik he ha hit hl hx ne nl gS n1 n2 λh' tk z1 z2 z3 z4 z5=>q h' tk (.inr ⟨a,r++[_],true,rfl,z1⟩) z2 z3 z4 z5
theorem Iu {R:Result->Shared->Prop} (hh:A.handled=none) {e it l S:Addr}{items:Array Value} (hz:items.size<sizeLine) (ne:e≠it) (nl:l≠e) (gS:l≠it) (ns:S≠e) (sh:S≠it) (Iw:l≠S) (res:Value) (n0:Nat) (le:e<n0) (li:it<n0) (Vz:S<n0) :
  ∀(k i:Nat) (s:Shared) (as:List Addr) (c:Nat),items.size-i=k->i<=items.size->sg s.heap e it i as->s.heap.IsTupleIter it l i->s.heap.IsTuple l items->s.heap.get? S=some { cls:=.type "list",data:=.seq (as.map YF).toArray c }->oq s.heap items as->as.length=i ->
   n0<=s.heap.objs.size->(∀a∈as,n0<=a)->as.Pairwise (· < ·) ->
   (∀h' tk iE c',(∀b o,b≠e->b≠it->b≠S->s.heap.get? b=some o->h'.get? b=some o)->h'.get? S=some { cls:=.type "list",data:=.seq (iE.map YF).toArray c' }->oq h' items iE->iE.length=items.size->(∀a∈iE,n0<=a)->iE.Pairwise (· < ·) ->
    R (.ok (.ret res)) { s with heap:=h',toks:=tk })->codeAny (model prog w) A (.builtin "list.extend.loop" ⟨[.ref S,.ref e,res],[]⟩) R s:=by
 intro k
 induction k with
 |zero=>
  intro i s as c hk hi he hit hl hS hA la hn h0 pw q;have cR:i=items.size:=by lia
  subst cR;refine Zg F.entry_extend_loop ?_;rw[Y2 F.plain_extend_loop];unfold Builtin.«list.extend.loop»;have fin:∀h',aab it s.heap h'->R (.ok (.ret res)) { s with heap:=h' }:=λh' eb=>q h' s.toks as c (λb o _ n2 _ z=>eb b o n2 z) (eb _ _ sh hS) (λj b z=>by
   obtain⟨tk,x,z1,z2⟩:=hA j b z;exact⟨tk,x,z1,eb _ _ (Zf (YD li (h0 b (Y4 z)))) z2⟩) la h0 pw
  have nx:items[items.size]?=none:=by simp
  rcases he with ⟨_,old,he⟩ |⟨a,r,b,_,f5,he⟩
  ·exact Yj (DQ hh he hit hl nx λh' eb=>Yl (fin h' eb))
  ·exact Yj (Ir hh he hit hl nx λh' eb=>Yl (fin h' eb))
 |succ k ih=>
  intro i s as c hk hi he hit hl hS hA la hn h0 pw q;have bd:i<items.size:=by lia
  obtain⟨x,hx⟩:∃x,items[i]?=some x:=⟨items[i],by simp [bd]⟩;refine Zg F.entry_extend_loop ?_;rw[Y2 F.plain_extend_loop];unfold Builtin.«list.extend.loop»;refine Yj (It hh he hA hit hl hx ne nl gS (λa ha=>⟨Zf (YD le (h0 a ha)),Zf (YD li (h0 a ha))⟩) λh' tk hV p6 T' n' kp=>?_);have hS':=kp S _ ns sh hS;refine (show wpAny _ _ (updateSeq S (λy=>y.push (.ref s.heap.objs.size)) >>= _) _ _ _ from Yj (wpAny_updateSeq hS' rfl ?_ (by rw[Yn,Ym,la];lia) (by rw[Array.size_push,Yn,Ym,la];lia)));have Ix:S<s.heap.objs.size:=Yw hS;have sb:=YO h' S (YW λy=>y.push (.ref s.heap.objs.size));have Iy:=YK (YW λy=>y.push (.ref s.heap.objs.size)) hS' rfl;obtain⟨c',Iz⟩:∃c',(h'.update S (YW λy=>y.push (.ref s.heap.objs.size))).get? S=some { cls:=.type "list",data:=.seq ((as++[s.heap.objs.size]).map YF).toArray c' }:=by
   have VV:((as++[s.heap.objs.size]).map YF).toArray=((as.map YF).toArray).push (.ref s.heap.objs.size):=(by simp);rw[VV];exact⟨_,Iy⟩
  have rM:∀a∈as,a<s.heap.objs.size:=λa ha=>by
   obtain⟨j,hj⟩:=List.getElem?_of_mem ha;obtain⟨_,_,_,z⟩:=hA j a hj;exact Yw z
  refine Yl ⟨Zn F.plain_extend_loop _,ih (i+1) _ (as++[s.heap.objs.size]) c' (by lia) bd ?_ ?_ ?_ Iz ?_ (by simp [la]) ?_ ?_ ?_ ?_⟩
  ·rcases hV with ⟨z,_⟩ |⟨a,r,b,z,f5,z'⟩
   ·simp at z
   ·exact .inr ⟨a,r,b,z,f5,sb.extBut _ _ ns.symm z'⟩
  ·exact p6.at λo z=>sb.extBut _ _ sh.symm z
  ·exact hl.at λo z=>sb.extBut _ _ Iw (kp _ _ nl gS z)
  ·intro j b hj;by_cases hb:j<as.length
   ·rw[Y5 hb]at hj;obtain⟨tk,y,z1,z2⟩:=hA j b hj;have:=h0 b (Y4 hj);exact⟨tk,y,z1,sb.extBut _ _ (Zf (YD Vz this)) (kp _ _ (Zf (YD le this)) (Zf (YD li this)) z2)⟩
   ·rw[Y1 (by lia)]at hj;have IB:j-as.length=0:=by
     rcases Nat.eq_zero_or_pos (j-as.length) with z |z
     ·exact z
     ·rw[List.getElem?_eq_none (by simp;lia)]at hj;cases hj
    rw[IB]at hj;cases hj;have:j=i:=(by lia);subst this;exact⟨tk,x,hx,sb.extBut _ _ (Zf Ix) T'⟩
  ·show n0<=(h'.update S _).objs.size;rw[Z3,n'];lia
  ·intro a ha;rcases List.mem_append.mp ha with z |z
   ·exact h0 a z
   ·rw[List.mem_singleton.mp z];exact hn
  ·rw[List.pairwise_append];exact⟨pw,List.pairwise_singleton _ _,λa ha b hb=>by rw[List.mem_singleton.mp hb];exact rM a ha⟩
  ·intro ic IC ID IE kk z2 z3 z4 z5 z6;exact q ic IC ID IE (λb o n1 n2 n3 z=>kk b o n1 n2 n3 (sb.extBut _ _ n3 (kp b o n1 n2 z))) z2 z3 z4 z5 z6
theorem IF:typeLookup (.type "enumerate") "__len__"=pure none:=by rw[ZJ,Zb];kernel_rfl
theorem IG:typeLookup (.type "enumerate") "__length_hint__"=pure none:=by rw[ZJ,Zb];kernel_rfl
theorem IH {Q:Value->Shared->Prop} (hh:A.handled=none) {e it l:Addr}{items:Array Value}{old:Value} (hz:items.size<sizeLine) (he:IsEnum s.heap e it 0 old) (hit:s.heap.IsTupleIter it l 0) (hl:s.heap.IsTuple l items) (ne:e≠it) (nl:l≠e) (gS:l≠it)
  (q:∀h' tk as c,(∀b o,b≠e->b≠it->s.heap.get? b=some o->h'.get? b=some o)->h'.get? s.heap.objs.size=some { cls:=.type "list",data:=.seq (as.map YF).toArray c }->oq h' items as->as.length=items.size->(∀a∈as,s.heap.objs.size<a)->as.Pairwise (· < ·) ->
   Q (.ref s.heap.objs.size) { s with heap:=h',toks:=tk }):wpAny (model prog w) A (call (.type "list") [.ref e]) Q E s:=by
 have le:=Yw he;obtain⟨VU,oo,lI⟩:=id hit;obtain⟨ol,lG,hl2⟩:=id hl;have li:=Yw oo;have ll:=Yw lG;refine callType_codes F.called_list (F.typeCall_list_1 _) F.entry_list_init (code_list_new (Q₁:=λv s1=>v=.ref s.heap.objs.size/\s1={ s with heap:=s.heap.push { cls:=.type "list",data:=.seq #[] } }) _ ⟨rfl,rfl⟩) ?_;rintro obj s1 ⟨rfl,rfl⟩;have h0:=Yp s.heap (o:={ cls:=.type "list",data:=.seq #[] }) rfl;refine⟨⟨_,h0,rfl⟩,F.args_list_init_2 _ _,?_⟩;have kp:∀c o,s.heap.get? c=some o->(s.heap.push { cls:=.type "list",data:=.seq #[] }).get? c=some o:=λc o z=>Yk _ z;have sf:=kp _ _ he;have Ug:=kp _ _ oo;have Uh:=kp _ _ lG;have f1:=IF;have f2:=IG;have sz:(s.heap.push { cls:=.type "list",data:=.seq #[] }).objs.size=s.heap.objs.size+1:=YR ..;obtain⟨hp,g,d,tk,os⟩:=s;dsimp only at *
 wp_walk using YC h0
 obtain⟨c1,zd⟩:∃c,((hp.push { cls:=.type "list",data:=.seq #[] }).update hp.objs.size (YW λx=>#[])).get? hp.objs.size=some { cls:=.type "list",data:=.seq #[] c }:=⟨_,YK _ h0 rfl⟩;have k1:∀c o,hp.get? c=some o->((hp.push { cls:=.type "list",data:=.seq #[] }).update hp.objs.size (YW λx=>#[])).get? c=some o:=λc o z=>(YO ..).extBut _ _ (Yx (Yw z)) (kp _ _ z);have eM:((hp.push { cls:=.type "list",data:=.seq #[] }).update hp.objs.size (YW λx=>#[])).objs.size=hp.objs.size+1:=by rw[Z3,sz]
 generalize ((hp.push { cls:=.type "list",data:=.seq #[] }).update hp.objs.size (YW λx=>#[]))=h1 at *;have si:=k1 _ _ he;have hT:Shared.TypeIs (⟨h1,g,d,tk,os⟩:Shared) (.ref e) "enumerate":=⟨_,si,rfl⟩;have ns:(Builtin.List.listSameRef (YF hp.objs.size) (YF e))=false:=by
  show (hp.objs.size == e)=false;simpa using Zf le
 refine YC si (Yl ?_);rw[ns];refine Yj (wpAny_pyIter_enum si (Yj (Y3 ?_)));unfold Builtin.List.listLengthHint;refine Yj (wpAny_specialOf hT f1 ?_);refine (show wpAny _ _ (specialOf (.ref e) "__length_hint__" >>= _) _ _ _ from Yj (wpAny_specialOf hT f2 (Yl ?_)));refine (show wpAny _ _ (rule "list.extend.makes-room" >>= _) _ _ _ from Yj (wpAny_rule ?_));refine (show wpAny _ _ (Builtin.List.listTouch (.ref hp.objs.size) >>= _) _ _ _ from ?_);unfold Builtin.List.listTouch;obtain⟨c2,ze⟩:∃c,(h1.update hp.objs.size (YW λx=>x.push .none)).get? hp.objs.size=some { cls:=.type "list",data:=.seq #[.none] c }:=⟨_,YK _ zd rfl⟩;obtain⟨c3,II⟩:∃c,((h1.update hp.objs.size (YW λx=>x.push .none)).update hp.objs.size (YW λx=>x.pop)).get? hp.objs.size=some { cls:=.type "list",data:=.seq #[] c }:=⟨_,YK _ ze rfl⟩;have k3:∀c o,hp.get? c=some o->((h1.update hp.objs.size (YW λx=>x.push .none)).update hp.objs.size (YW λx=>x.pop)).get? c=some o:=λc o z=>(YO ..).extBut _ _ (Yx (Yw z)) ((YO ..).extBut _ _ (Yx (Yw z)) (k1 _ _ z));have IJ:((h1.update hp.objs.size (YW λx=>x.push .none)).update hp.objs.size (YW λx=>x.pop)).objs.size=hp.objs.size+1:=by rw[Z3,Z3,eM]
 refine Yj (Yj (show wpAny _ _ (updateSeq hp.objs.size λx=>x.push .none) _ _ _ from wpAny_updateSeq zd rfl ?_ (YE _) (by show 1<=sizeLine+1;lia)));refine (show wpAny _ _ (updateSeq hp.objs.size λx=>x.pop) _ _ _ from wpAny_updateSeq ze rfl ?_ (by show 1<=sizeLine;decide) (YE _));dsimp only;generalize ((h1.update hp.objs.size (YW λx=>x.push .none)).update hp.objs.size (YW λx=>x.pop))=h3 at *;refine Yl ⟨Zn F.plain_extend_loop _,Iu (A:=A.in1) hh hz ne nl gS (Zf le) (Zf li) (Yx ll) _ (hp.objs.size+1) (Zk le) (Zk li) (ZK _) _ 0 _ [] c3 rfl (YE _) (.inl ⟨rfl,old,k3 _ _ he⟩) (hit.at λo z=>k3 _ _ z) (hl.at λo z=>k3 _ _ z) II (λj b z=>by cases z) rfl (aae IJ.symm) (λ_ z=>nomatch z) .nil
  λh' dL iE c' kk z2 z3 z4 z5 z6=>⟨rfl,q h' dL iE c' (λb o n1 n2 z=>kk b o n1 n2 (Yx (Yw z)) (k3 _ _ z)) z2 z3 z4 z5 z6⟩⟩
end
end L2
end
section
set_option maxHeartbeats 1000000
namespace N
open PySem PySem.Spec PyProof.Rows L2
open Classical in
noncomputable def cu (F:Fz) (as:List Addr) (h:Heap):Fz:=λb=>if b∈as then (h.get? b).map Fo.dat else F b
section
variable {X:Cx} {τ:St} {z:Z}
theorem ot {F:Fz}{as:List Addr}{h:Heap}{b:Addr}{o:Obj} (hb:b∈as) (e:h.get? b=some o):cu F as h b=some (.dat o):=by unfold cu;rw[if_pos hb,e];rfl
theorem jJ {F:Fz}{as:List Addr}{h:Heap}{b:Addr} (hb:b ∉ as):cu F as h b=F b:=if_neg hb
theorem aa.many {as:List Addr}{h':Heap}{t:Nat} (I:aa X τ z) (kp:∀ b,a8 z.s.heap h' b) (new:∀ b∈as,z.s.heap.objs.size<=b):Le z.F (cu z.F as h')/\aa X τ ⟨cu z.F as h',z.M,{ z.s with heap:=h',toks:=t }⟩:=by
  have l:Le z.F (cu z.F as h'):=λb f e=>by
    rw[jJ λhb=>by rw[I.hok.ck (new b hb)]at e;cases e];exact e
  have ok:az X.G (cu z.F as h') z.M h':=by
   refine⟨λb f e=>?_,λb o e=>?_,I.hok.tb.go (λT p q e=>?_) l.d λT _ _ _=>kp T⟩
   · by_cases hb:b∈as
     · cases q:h'.get? b with
       |none=>unfold cu at e;rw[if_pos hb,q]at e;cases e
       |some o=>rw[ot hb q]at e;cases e;exact q
     · rw[jJ hb]at e;exact (I.hok.fz b f e).go (kp b)
   case refine_3=>
     by_cases hb:T∈as
     · cases r:h'.get? T with
       |none=>unfold cu at e;rw[if_pos hb,r]at e;cases e
       |some o=>rw[ot hb r]at e;cases e
     · rw[jJ hb]at e;exact e
   · have hb:b ∉ as:=λm=>by have:=I.hok.c0 (new b m);rw[e]at this;cases this
     exact⟨(jJ hb).trans (I.hok.ob b o e).1,(I.hok.ob b o e).2.go l.d (λc _=>kp c) λ_ q=>q⟩
  exact⟨l,I.go l ok (λb hb=>⟨(kp b).s,I.cy hb,jJ λm=>ZL _ (YD (I.fM hb) (new b m))⟩) rfl I.bare⟩
def zg (ta:DE):DE:=fun τ M q=>ta τ M λx M1=>match x with
 |.tup ds=>ds.length<sizeLine/\bL (gJ ds) M1 q
 |_=>False
theorem zh {G:Gx}{F:Fz}:∀ {ds:List D}{us:List Value}{as:List Addr}{k:Nat},ag G F ds us->as.length=us.length->(∀ (j:Nat) (b:Addr),as[j]?=some b->∃ tk x,us[j]?=some x/\F b=some (.dat { cls:=.type "tuple",data:=.seq #[.int ((k+j:Nat):Int) tk,x] })) ->
  ag G F (ds.mapIdx λi d=>.tup [.int ((k+i:Nat):Int),d]) (as.map YF)
 |[],us,as,k,r,l,h=>by
  rw[ag]at r;subst r;rw[List.length_eq_zero_iff.mp l];exact .nil
 |d::ds,us,as,k,r,l,h=>by
  rw[ag]at r;obtain⟨u,us,rfl,r1,r2⟩:=r;cases as with
  |nil=>cases l
  |cons a as=>
   obtain⟨tk,x,e1,e2⟩:=h 0 a rfl;cases e1;rw[List.mapIdx_cons,Yu];refine .cons ?_ ?_
   ·rw[ae];exact⟨a,_,[.int ((k+0:Nat):Int) tk,u],rfl,e2,⟨rfl,rfl,⟨_,rfl⟩,by show 2<=sizeLine;decide⟩,.cons bX (.cons r1 .nil)⟩
   ·have:=zh (k:=k+1) (as:=as) r2 (aaq l) λj b hb=>by
     obtain⟨tk,x,e1,e2⟩:=h (j+1) b hb;exact⟨tk,x,e1,by rw[show k+1+j=k+(j+1) by lia];exact e2⟩
    have e:(λ(i:Nat) (d:D)=>D.tup [.int ((k+(i+1):Nat):Int),d])=λi d=>.tup [.int ((k+1+i:Nat):Int),d]:=(by funext i d;rw[show k+(i+1)=k+1+i by lia]);rw[e];exact this
theorem IK {e:Expr}{te:DE}{p1 p2 gR dz:Pos} (hc:X.calm=true) (r8:Gl X "list") (jH:X.G.mg "list"=none) (r9:Gl X "enumerate") (sd:X.G.mg "enumerate"=none) (he:PE X e te) (hs:bA e=true) :
  PE X (.Call (.Name "list" p1) [.Call (.Name "enumerate" p2) [e] [] dz] [] gR) (zg te):=fun τ z Q R I h k=>by
 refine Y8 (eB I r8 jH (by decide +kernel:bootBuiltins "list"=some (.type "list")) (by decide) (by decide) ?_);refine Ze ?_ (bz rfl) rfl;rw[bz (e:=.Call (.Name "enumerate" p2) [e] [] dz) rfl];show W X (spliced ((false,eval (.Call (.Name "enumerate" p2) [e] [] dz) X.env)::backTo gR (starEach [] X.env))) _ z.s;refine Zu ?_;refine Y8 (eB I r9 sd boot_enumerate (by decide) (by decide) ?_);refine Ze ?_ (bz hs) rfl;refine dm he gD (bz hs) dz τ z (λds M=>n1 (λd M Q=>match d with
  |.tup ds=>ds.length<sizeLine/\bL (gJ ds) M Q
  |_=>False) ds M Q) _ I h λds z1 us l1 I1 r1 q1=>?_
 unfold n1 at q1;dsimp only at q1;split at q1
 case h_2=>exact q1.elim
 obtain⟨u,rfl,ru⟩:=gI r1;split at q1
 case h_2=>exact q1.elim
 rename_i ds;obtain⟨hz,q⟩:=q1;obtain⟨a,us,o,rfl,l⟩:=I1.cM ru;have hl:=l.r.len;refine DP l.p λh' Z J n2 keep=>?_;refine ZY ?_;have hL:h'.IsTuple a us.toArray:=(show z1.s.heap.IsTuple a us.toArray from l.p).at λo e=>keep _ _ e;obtain⟨ol,e1,_⟩:=id l.p;have la:=Yw e1;refine IH (s:={ z1.s with heap:=h' }) (I1.ok.hd hc) (by rw[Yn,<- hl];exact hz) Z J hL (Zf (ZK _)) (Yx (Zk la)) (Yx la) λh2 tk as c kp hS hA ln hn pw=>?_;have kk:∀b,a8 z1.s.heap h2 b:=λb o e=>kp b o (Yx (Zk (Yw e))) (Yx (Yw e)) (keep b o e);have sz:z1.s.heap.objs.size<=h'.objs.size:=by rw[n2];lia
 obtain⟨l2,I2⟩:=I1.many (as:=as) (t:=tk) kk λb hb=>Yy sz (Nat.le_of_lt (hn b hb));have rs:ag X.G (cu z1.F as h2) (gJ ds) (as.map YF):=by
  have:=zh (k:=0) (as:=as) (l.r.up l2.d) (by rw[ln,Yn]) λj b hb=>by
   obtain⟨tk,x,e1,e2⟩:=hA j b hb;exact⟨tk,x,by simpa using e1,ot (Y4 hb) (by rw[Nat.zero_add];exact e2)⟩
  simpa [gJ] using this
 have fp:Fp X ⟨cu z1.F as h2,z1.M,{ z1.s with heap:=h2,toks:=tk }⟩ h'.objs.size:=⟨(jJ (F:=z1.F) (h:=h2) λm=>ZL _ (hn _ m)).trans (I1.hok.ck sz),I1.hok.c0 sz,λo=>ZL _ (YD (I1.fM o) sz)⟩;exact I2.rD (n:=c) fp k (l1.tr l2) rs hS (by rw[Ym,ln,Yn,<- hl];exact Nat.le_of_lt hz) q
end
end N
end
section
set_option maxHeartbeats 1000000
namespace N
open PySem PySem.Spec PyProof.Rows L2
section
variable {X:Cx} {τ:St} {z:Z}
end
end N
end
section
set_option maxHeartbeats 1000000
namespace N
open PySem PySem.Spec PyProof.Rows L2
mutual
inductive Fr (M K:Mp):D->D->Prop
 |rfl {d:D}:Fr M K d d
 |lst {p:Addr}{ds es:List D}:M p=some (.lst ds)->K p=none->f9 M K ds es->Fr M K (.ref p) (.lst es)
 |ak {p:Addr}{kvs:List (Key×D)}{es:List D}:M p=some (.ak kvs)->K p=none->f9 M K (kvs.map (·.2)) es->Fr M K (.ref p) (.ak (kvs.map (·.1)) es)
 |tup {ds es:List D}:f9 M K ds es->Fr M K (.tup ds) (.tup es)
 |IL {ds es:List D}:f9 M K ds es->Fr M K (.lst ds) (.lst es)
inductive f9 (M K:Mp):List D->List D->Prop
 |rfl {ds:List D}:f9 M K ds ds
 |cons {d e:D}{ds es:List D}:Fr M K d e->f9 M K ds es->f9 M K (d::ds) (e::es)
end
structure cg (K M:Mp):Prop where
 sub:∀a o,K a=some o->M a=some o
 own:∀a b,K a≠none->M b=some (.own a)->K b=some (.own a)
theorem cg.rfl {M:Mp}:cg M M:=⟨λ_ _ h=>h,λ_ _ _ h=>h⟩
noncomputable def c6 (F:Fz) (M K:Mp) (h:Heap):Fz:=λa=>match M a,K a with
 |some _,none=>(h.get? a).map Fo.dat
 |_,_=>F a
section
variable {G:Gx}{F:Fz}{M K:Mp}{h:Heap}
theorem d9 (x:az G F M h):Le F (c6 F M K h):=λa f e=>by
 unfold c6;cases q:M a with
 |none=>exact e
 |some o=>have:=(x.ob a o q).1;rw[e]at this;cases this
theorem zi {a:Addr}{o:MO}{ob:Obj} (hM:M a=some o) (hK:K a=none) (e:h.get? a=some ob):c6 F M K h a=some (.dat ob):=by
 unfold c6;rw[hM,hK];show (h.get? a).map Fo.dat=_;rw[e];rfl
theorem zj (x:az G F M h) (s:cg K M):az G (c6 F M K h) K h:=by
 refine⟨λa f e=>?_,λa o e=>?_,x.tb.go (λT p q e=>?_) (d9 x).d λ_ _ _ _ _ e=>e⟩
 case refine_3=>
  unfold c6 at e;split at e
  ·cases q:h.get? T <;> rw[q]at e <;> cases e
  ·exact e
 ·unfold c6 at e;split at e
  ·cases q:h.get? a with
   |none=>rw[q]at e;cases e
   |some ob=>rw[q]at e;cases e;exact q
  ·exact x.fz a f e
 ·have hM:=s.sub a o e;obtain⟨h1,h2⟩:=x.ob a o hM;refine⟨by unfold c6;rw[hM,e];exact h1,h2.go (d9 x).d (λ_ _ _ q=>q) λb q=>s.own a b (by rw[e];exact YI o) q⟩
mutual
theorem Fr.rel (x:az G F M h):∀{d e:D}{u:Value},Fr M K d e->ae G F d u->ae G (c6 F M K h) e u
 |_,_,u,.rfl,r=>r.up (d9 x).d
 |_,_,u,.lst h1 h2 h3,r=>by
  rw[ae]at r;subst r;obtain⟨_,hz,us,n,rs,e⟩:=x.ob _ _ h1;exact m9 (zi h1 h2 e) (by rw[<- rs.len];exact hz) (h3.rel x rs)
 |_,_,u,.ak (kvs:=kvs) h1 h2 h3,r=>by
  rw[ae]at r;subst r;obtain⟨_,hz,hs,vs,rs,o,es,ep,e,ex,g1,g2,g3,nd⟩:=x.ob _ _ h1;obtain⟨k1,k2⟩:=lh rs;rw[ae];refine⟨_,o,vs.map (·.2),rfl,zi h1 h2 e,⟨ex,⟨es,ep,g1,g2,?_⟩,by rw[k2];exact nd,by rw[k2,Ym,Ym],by rw[Ym];exact hz⟩,hs,h3.rel x k1⟩;rw[k2,ym];exact g3
 |_,_,u,.tup h3,r=>by
  rw[ae]at r ⊢;obtain⟨a,o,us,e,h1,h2,rs⟩:=r;exact⟨a,o,us,e,d9 x a _ h1,h2,h3.rel x rs⟩
 |_,_,u,.IL h3,r=>by
  rw[ae]at r ⊢;obtain⟨a,n,us,e,h1,h2,rs⟩:=r;exact⟨a,n,us,e,d9 x a _ h1,h2,h3.rel x rs⟩
theorem f9.rel (x:az G F M h):∀{ds es:List D}{us:List Value},f9 M K ds es->ag G F ds us->ag G (c6 F M K h) es us
 |_,_,us,.rfl,r=>r.up (d9 x).d
 |_,_,us,.cons h1 h2,r=>by
  rw[ag]at r;obtain⟨u,us,rfl,r1,r2⟩:=r;exact .cons (h1.rel x r1) (h2.rel x r2)
end
end
theorem aa.IM {X:Cx} {τ:St} {z:Z}{K:Mp} (I:aa X τ z) (s:cg K z.M):aa X τ ⟨c6 z.F z.M K z.s.heap,K,z.s⟩ where
 ok:=I.ok
 bs:=I.bs.up (d9 I.hok)
 os:=I.os
 bare:=I.bare
 bx:=λenv h=>let ⟨h1,L,o,h2,h3,h4⟩:=I.bx env h;⟨h1,L,o,h2,d9 I.hok _ _ h3,h4⟩
 loc:=let ⟨m,h1,h2⟩:=I.loc;⟨m,h1,λi x d a b c=>let ⟨u,r,l⟩:=h2 i x d a b c;⟨u,r.up (d9 I.hok).d,l⟩⟩
 cell:=λx c h=>by
  obtain⟨h1,h2,h3⟩:=I.cell x c h;have e:c6 z.F z.M K z.s.heap c=z.F c:=by unfold c6;rw[h2]
  refine⟨h1,?_,?_⟩
  ·cases q:K c with
   |none=>exact q
   |some o=>rw[s.sub c o q]at h2;cases h2
  ·dsimp only;rw[e];exact h3
 free:=by
  obtain⟨h1,h2⟩:=I.free;refine⟨by dsimp only;unfold c6;rw[h2];exact h1,?_⟩;cases q:K X.env.locals with
  |none=>exact q
  |some o=>rw[s.sub _ o q]at h2;cases h2
 hok:=zj I.hok s
 f0:=I.f0.tr (d9 I.hok)
 len:=I.len
noncomputable def cT (a:Addr) (d:D):Option D->Option D
 |some (.ref b)=>if b=a then some d else some (.ref b)
 |o=>o
theorem IP {M:Mp}{a:Addr}{o:MO} (h:M a=some o) (n:∀b,o≠.own b):cg (rm M a) M:=⟨λb u e=>by
 by_cases z:b=a
 ·rw[z,mQ]at e;cases e
 ·rw[p8 z]at e;exact e,λb c e q=>by
 by_cases z:c=a
 ·rw[z,h]at q;cases q;exact absurd rfl (n b)
 ·rw[p8 z];exact q⟩
theorem aa.zl {X:Cx} {τ:St} {z:Z}{a:Addr}{o:MO}{d:D} (I:aa X τ z) (h:z.M a=some o) (n:∀b,o≠.own b) (f:Fr z.M (rm z.M a) (.ref a) d):∃F',Le z.F F'/\aa X (τ.map (cT a d)) ⟨F',rm z.M a,z.s⟩:=by
 have I':=I.IM (IP h n);refine⟨_,d9 I.hok,{ I' with loc:=?_,len:=by rw[Ym];exact I.len }⟩;obtain⟨m,h1,h2⟩:=I'.loc;refine⟨m,h1,λi x e hx he hv=>?_⟩;rw[Yz]at he;obtain⟨y,hy,hs⟩:=Option.map_eq_some_iff.mp he;cases y with
 |none=>cases hs
 |some y=>
  obtain⟨u,r,l⟩:=h2 i x y hx hy hv;cases y with
  |ref b=>
   unfold cT at hs;dsimp only at hs;split at hs
   ·rename_i e0;subst e0;cases hs;rw[ae]at r;exact⟨u,by rw[r];exact f.rel I.hok (by rw[ae]),l⟩
   ·cases hs;exact⟨u,r,l⟩
  |_=>cases hs;exact⟨u,r,l⟩
inductive ec (P:St->Mp->Prop):St->Mp->Prop
 |rfl {τ:St} {M:Mp}:P τ M->ec P τ M
 |lst {τ:St} {M:Mp} (a:Addr) (ds:List D):M a=some (.lst ds)->ec P (τ.map (cT a (.lst ds))) (rm M a)->ec P τ M
 |ak {τ:St} {M:Mp} (a:Addr) (kvs:List (Key×D)):M a=some (.ak kvs)->ec P (τ.map (cT a (.ak (kvs.map (·.1)) (kvs.map (·.2))))) (rm M a)->ec P τ M
theorem KS.IQ {X:Cx}{F:Fz}{e:En}{R:Flow->Shared->Prop} (k:KS X F e R):KS X F { e with nx:=ec e.nx } R where
 rt:=k.rt
 bk:=k.bk
 ct:=k.ct
 nx:=fun τ z l I h=>by
  have go:∀{τ:St} {M:Mp},ec e.nx τ M->∀z:Z,z.M=M->Le F z.F->aa X τ z->R .next z.s:=λh=>by
   induction h with
   |rfl h=>intro z e l I;subst e;exact k.nx _ z l I h
   |lst a ds h1 _ ih=>
    intro z e l I;subst e;obtain⟨F',l',I'⟩:=I.zl h1 (λb q=>by cases q) (.lst h1 mQ .rfl);exact ih ⟨F',rm z.M a,z.s⟩ rfl (l.tr l') I'
   |ak a kvs h1 _ ih=>
    intro z e l I;subst e;obtain⟨F',l',I'⟩:=I.zl h1 (λb q=>by cases q) (.ak h1 mQ .rfl);exact ih ⟨F',rm z.M a,z.s⟩ rfl (l.tr l') I'
  exact go h z rfl l I
def zm (ti:DI) (g:DG) (tb:DS):DS:=λe τ M=>qx ti g tb { e with nx:=ec e.nx } τ M
theorem IS {X:Cx}{st:Stmt}{ti:DI}{g:DG}{tb:DS} (h:PS X st (qx ti g tb)):PS X st (zm ti g tb):=fun τ z e R I q k=>h τ z _ R I q k.IQ
end N
end
section
set_option maxHeartbeats 1000000
namespace N
open PySem PySem.Spec PyProof.Rows L2 PySem.W
structure zo (G:Gx) (F0:Fz) (d:Addr) (ks:List Key) (ds:List D) (n ep:Nat):Prop where
 bK:∀{F M h},Le F0 F->az G F M h->∃vs,KV G F (ks.zip ds) vs/\h.DictAt (bw G.P G.w) d vs ep/\vs.length=n
 len:(ks.zip ds).length=n
theorem sj {X:Cx} {τ:St} {z:Z}{ks:List Key}{ds:List D}{u:Value} (I:aa X τ z) (r:ae X.G z.F (.ak ks ds) u):∃a n ep vs,u=.ref a/\zo X.G z.F a ks ds n ep/\z.s.heap.DictAt (bw X.G.P X.G.w) a vs ep/\vs.length=n/\(a == sysModules)=false:=by
 rw[ae]at r;obtain⟨a,o,us,rfl,h1,h2,h4,h3⟩:=r;obtain⟨es,ep,g1,g2,g3⟩:=h2.bK;have hl:=h3.len;have key:∀{F M h},Le z.F F->az X.G F M h->∃vs,KV X.G F (ks.zip ds) vs/\h.DictAt (bw X.G.P X.G.w) a vs ep/\vs.length=(ks.zip us).length:=λ{F M h} l ok=>
  ⟨ks.zip us,KV.zip (h3.up l.d),⟨o,es,ok.fz a _ (l a _ h1),h2.ex,g1,g2,g3,by rw[List.map_fst_zip (by rw[h2.len];exact Yr _)];exact h2.nd⟩,rfl⟩
 obtain⟨vs,q1,q2,q3⟩:=key Le.rfl I.hok;exact⟨a,(ks.zip us).length,ep,vs,rfl,⟨key,by rw[ZZ,ZZ,hl]⟩,q2,q3,h4⟩
theorem IT {G:Gx}{F:Fz}{P:Program}{w:World}{k:Key}{u:Value} (h:(bw P w).is k u=true):ae G F (iu k) u:=by
 rcases dY (k:=k) (v:=u) h with ⟨i,t,rfl,rfl⟩ |⟨x,t,rfl,rfl⟩
 ·exact bX
 ·exact gC
theorem sm {G:Gx}{F:Fz}:∀{a:List (Key×D)}{b:List (Key×Value)}{i:Nat}{p:Key×D},KV G F a b->a[i]?=some p->∃q,b[i]?=some q/\p.1=q.1/\ae G F p.2 q.2
 |_,_,_,_,.nil,e=>by simp at e
 |_,_,0,_,.cons r _,e=>by simp at e;subst e;exact⟨_,rfl,r.1,r.2⟩
 |_,_,i+1,_,.cons _ t,e=>by
  obtain⟨q,h1,h2⟩:=sm (i:=i) t (by simpa using e);exact⟨q,by simpa using h1,h2⟩
section
variable {G:Gx}{F0:Fz}{d it:Addr}{ks:List Key}{ds:List D}{n ep:Nat}{tg:Expr}{nC:List Expr}{kk:Nat}{tp:Pos}
theorem IU (S:zo G F0 d ks ds n ep):gF G tg ((ks.zip ds).map λp=>iu p.1) (λ_=>True) F0 [it] it (λi h=>h.IsKeyIter it d i n ep) where
 obj:=λi h st c hc=>by
  rw[List.mem_singleton.mp hc];obtain⟨o,q,_⟩:=st;exact⟨o,q⟩
 keep:=λi h h' st k=>by
  obtain⟨o,q,r⟩:=st;exact⟨o,k it (List.mem_singleton.mpr rfl) _ q,r⟩
 item:=by
  intro X hG hc i τ z d' E I l hf st hok hd;subst hG;rw[Yz]at hd;obtain⟨p,hp,rfl⟩:=Option.map_eq_some_iff.mp hd;obtain⟨vs,rel,da,lv⟩:=S.bK l I.hok;obtain⟨q,hq,e1,r2⟩:=sm rel hp;rw[<- lv]at st ⊢;refine wpAny_pyNext_dict_item (k:=q.1) (v:=q.2) st da hq λkey h' hk bn sb=>⟨_,rfl,?_⟩;refine letGo_keyiter (s':={ z.s with heap:=h' }) bn ?_;exact⟨Le.rfl,I.d2 (t:=z.s.toks) hf λc hc o e=>sb.extBut c o (by simpa using hc) e,by rw[e1];exact IT hk,bn,λb hb=>(hf b hb).f⟩
 done:=by
  intro X hG hc i τ z E I l hf st hok hd;subst hG;obtain⟨vs,rel,da,lv⟩:=S.bK l I.hok;rw[<- lv]at st;refine wpAny_pyNext_dict_end (I.ok.hd hc) st da ?_ λh' eb=>⟨rfl,I.d2 (t:=z.s.toks) hf λb hb o e=>eb b o (by simpa using hb) e⟩;rw[Ym,Paired.length rel]at hd;simp;lia
 self:=λ_ _ _ _ _ st h=>wpAny_pyIter_keyiter st h
end
section
variable {X:Cx}{o e:Expr}{to te:DE}{tg:Expr}{nC:List Expr}{kk:Nat}{tp q p:Pos}
def zp (t:DE):DI:=fun τ M k=>t τ M λd M1=>match d with
 |.ak ks ds=>k ((ks.zip ds).map λp=>iu p.1) (λ_=>True) M1
 |.str x=>x.cps.all (·<128)=true/\k (nj x) (λ_=>True) M1
 |d=>h8 d M1 λxs ok=>k xs ok M1
theorem IV (hl:PE X e te):PI X tg e (zp te):=fun τ z k R I h K=>hl τ z _ _ I h λd z1 u l1 I1 r1 q1=>by
 have go:h8 d z1.M (λxs ok=>k xs ok z1.M)->W X (pyIter u) R z1.s:=λq1=>by
  obtain⟨q,a,xs,ok,rfl,S,hok,q1⟩:=I1.ia r1 q1;obtain⟨us,r,hz,hq⟩:=S X τ z1 rfl I1 Le.rfl hok;have fin:R (.ref z1.s.heap.objs.size) { z1.s with heap:=z1.s.heap.push { cls:=.type (fK q),data:=.fields #[.ref a,.int 0 0] } }:=
   K xs ok ⟨z1.F,z1.M,_⟩ _ l1 (I1.kept (t:=z1.s.toks) λb o e=>Yk _ e) (kP I1 (Yr _) (EG S) ⟨_,Yp _ rfl,rfl,rfl⟩) q1
  cases q with
  |true=>exact aah hq fin
  |false=>exact wpAny_pyIter_list hq fin
 cases d with
 |str x=>
  rw[ae]at r1;obtain⟨t,rfl⟩:=r1;exact wpAny_pyIter_ascii q1.1 (K _ _ ⟨z1.F,z1.M,_⟩ _ l1 (I1.kept (t:=z1.s.toks) λb o e=>Yk _ e) (kP I1 (Yr _) EH ⟨_,Yp _ rfl,rfl,rfl⟩) q1.2)
 |ak ks ds=>
  obtain⟨a,n,ep,vs,rfl,S,da,lv,lo⟩:=sj I1 r1;refine wpAny_pyIter_dict (knd:=bw X.G.P X.G.w) lo da ?_;rw[lv];exact K _ _ ⟨z1.F,z1.M,_⟩ _ l1 (I1.kept (t:=z1.s.toks) λb o e=>Yk _ e) (kP I1 (Yr _) (IU S) ⟨_,Yp _ rfl,rfl,rfl⟩) q1
 |_=>exact go q1
def su (Q:List Key->List D->Mp->Prop):QK:=λd M=>match d with
 |.ak ks ds=>Q ks ds M
 |_=>False
theorem IW (ho:PE X o to) (fZ:attributeBase o "items" X.env (eval o X.env)=eval o X.env) (cQ:(q.endLine == p.line)=true) {τ:St} {z:Z}{Q:List Key->List D->Mp->Prop}{R:Value->Shared->Prop} (I:aa X τ z) (h:to τ z.M (su Q))
  (k:∀ks ds a z1 v,Le z.F z1.F->aa X τ z1->ae X.G z1.F (.ak ks ds) (.ref a)->z1.s.heap.IsItemsView v a->Q ks ds z1.M->R (.ref v) z1.s):W X (eval (.Call (.Attribute o "items" q) [] [] p) X.env) R z.s:=
 wpAny_Call_method0_late fZ cQ (ho τ z _ _ I h λx z1 v l1 I1 r1 q1=>by
  unfold su at q1;split at q1
  ·rename_i ks ds;obtain⟨h1,h2⟩:=ry (T:="dict") I1 r1 rfl;obtain⟨a,n,ep,vs,rfl,S,da,lv,lo⟩:=sj I1 r1;obtain⟨o,es,g⟩:=da;have dd:z1.s.heap.DictOf (bw X.G.P X.G.w) a vs:=⟨o,es,ep,g⟩;refine⟨"dict","dict.items",PySem.F.plainAttrs_dict,PySem.F.slot_dict_items,PySem.F.type_dict_items,h1,h2,Calls.callWith_builtin rfl (PySem.evalArgs_none ?_)⟩;refine call_meetsIn PySem.F.slot_dict_items dd.typeIs PySem.F.entry_dict_items (PySem.F.args_dict_items_1 _) (meets_dict_items (bw X.G.P X.G.w) a lo) ⟨⟨vs,dd⟩,?_⟩;exact k ks ds a ⟨z1.F,z1.M,{ z1.s with heap:=z1.s.heap.push { cls:=.type "dict_items",data:=.fields #[.ref a] },toks:=z1.s.toks }⟩ _ l1 (I1.kept λb o e=>Yk _ e) r1 ⟨_,Yp _ rfl,rfl,rfl⟩ q1
  ·exact q1.elim)
end
end N
end
section
namespace Kn
open PySem PySem.W PyProof.Rows
noncomputable def krun {α:Type} (lt:Nat->Nat->Bool):KasT α->α
 |.ret a=>a
 |.ask i j k=>krun lt (k (lt i j))
theorem jK {α β:Type} (lt:Nat->Nat->Bool) (f:α->KasT β):∀t:KasT α,krun lt (t.bind f)=krun lt (f (krun lt t))
 |.ret _=>rfl
 |.ask i j k=>jK lt f (k (lt i j))
section
variable (r:Nat->Nat)
variable {r}
end
end Kn
namespace Kn
open PySem PySem.W PyProof.Rows
def b5 {α:Type} (n:Nat) (R:α->Prop):KasT α->Prop
 |.ret a=>R a
 |.ask i j k=>i<n/\j<n/\∀b,b5 n R (k b)
theorem b5.bind {α β:Type} {n:Nat}{R:α->Prop}{S:β->Prop}{f:α->KasT β} (hf:∀a,R a->b5 n S (f a)):∀{t:KasT α},b5 n R t->b5 n S (t.bind f)
 |.ret a,h=>hf a h
 |.ask _ _ k,h=>⟨h.1,h.2.1,λb=>b5.bind hf (h.2.2 b)⟩
theorem zq {α:Type} {n:Nat}{R:α->Prop}{lt:Nat->Nat->Bool}{cmp:Nat->Nat->(Bool->Shared->Prop)->Shared->Prop}{Q:α->Shared->Prop}{s:Shared}
  (hc:∀i j C,i<n->j<n->C (lt i j) s->cmp i j C s):∀{t:KasT α},b5 n R t->Q (krun lt t) s->t.kasWp cmp Q s
 |.ret _,_,q=>q
 |.ask i j k,h,q=>hc i j _ h.1 h.2.1 (zq hc (h.2.2 _) q)
def Gn (n:Nat) (p:Array Nat):Prop:=∀x∈p.toList,x<n
theorem Gn.get {n:Nat}{p:Array Nat} (h0:0<n) (h:Gn n p) (i:Nat):p.getD i 0<n:=by
 rw[ZO];cases e:p[i]? with
 |none=>exact h0
 |some x=>exact h x (Array.mem_toList_iff.mpr (Array.mem_of_getElem? e))
theorem Gn.perm {n:Nat}{p q:Array Nat} (h:Gn n p) (e:q.Perm p):Gn n q:=λx hx=>h x (Array.mem_toList_iff.mpr (e.mem_iff.mp (Array.mem_toList_iff.mp hx)))
section
variable {n:Nat} (h0:0<n)
include h0
theorem sv {p:Array Nat} (g:Gn n p):∀f m,b5 n (λ_=>True) (kas_asc p f m)
 | 0,_=>trivial
 |f+1,m=>by
  rw[kas_asc];refine⟨g.get h0 _,g.get h0 _,λb=>?_⟩;dsimp only;split
  ·trivial
  ·exact sv g f _
theorem ou:∀(f:Nat) (p:Array Nat) (m q:Nat),Gn n p->b5 n (λr:Array Nat×Nat×Nat=>Gn n r.1) (kas_desc f p m q)
 | 0,p,_,_,g=>g
 |f+1,p,m,q,g=>by
  rw[kas_desc];refine⟨g.get h0 _,g.get h0 _,λb=>?_⟩;dsimp only;by_cases hb:b=true
  ·rw[if_pos hb];split
   ·exact ou f _ _ _ (g.perm (mirror_perm _ _ _ _))
   ·exact ou f _ _ _ g
  ·rw[if_neg hb];refine⟨g.get h0 _,g.get h0 _,λb=>?_⟩;dsimp only;split
   ·exact g
   ·exact ou f _ _ _ g
theorem zr {p:Array Nat} (g:Gn n p) (m k:Nat):b5 n (λr:Nat×Array Nat=>Gn n r.2) (kas_tail3 m k p):=by
 unfold kas_tail3;refine b5.bind (R:=λ_=>True) (λm _=>?_) (sv h0 (g.perm (mirror_perm _ _ _ _)) _ _);exact g.perm (mirror_perm _ _ _ _)
theorem zt {p:Array Nat} (g:Gn n p) (m k:Nat):b5 n (λr:Nat×Array Nat=>Gn n r.2) (kas_descPart m k p):=by
 unfold kas_descPart;refine b5.bind (λr hr=>?_) (ou h0 _ p _ _ g);split
 ·exact zr h0 (Gn.perm hr (mirror_perm _ _ _ _)) _ _
 ·exact zr h0 hr _ _
theorem IX {p:Array Nat} (g:Gn n p) (k:Nat):b5 n (λr:Nat×Array Nat=>Gn n r.2) (kas_count k p):=by
 unfold kas_count;refine b5.bind (λm _=>?_) (sv h0 g _ _);split
 ·exact g
 split
 ·refine⟨g.get h0 _,g.get h0 _,λb=>?_⟩;dsimp only;split
  ·exact g
  ·exact zt h0 (g.perm (mirror_perm _ _ _ _)) _ _
 ·exact zt h0 g _ _
theorem sx {p:Array Nat} (g:Gn n p) (k:Nat):∀f l u,b5 n (λ_=>True) (kas_place p k f l u)
 | 0,_,_=>trivial
 |f+1,l,u=>by
  rw[kas_place];split
  ·trivial
  ·refine⟨g.get h0 _,g.get h0 _,λb=>?_⟩;dsimp only;split
   ·exact sx g k f _ _
   ·exact sx g k f _ _
theorem zu:∀(f:Nat) (p:Array Nat) (k:Nat),Gn n p->b5 n (λ_=>True) (kas_bin f p k)
 | 0,_,_,_=>trivial
 |f+1,p,k,g=>by
  rw[kas_bin];exact b5.bind (λl _=>zu f _ _ (g.perm (bubble_perm _ _ _))) (sx h0 g _ _ _ _)
theorem IY:b5 n (λ_=>True) (kas_sort n):=by
 unfold kas_sort;refine b5.bind (λr hr=>?_) (IX h0 (p:=(ZA n).toArray) (λx hx=>by simpa using hx) n);split
 ·exact zu h0 _ _ _ hr
 ·trivial
end
end Kn
namespace Kn
open PySem PySem.W PyProof.Rows
section
variable {lt:Nat->Nat->Bool}
theorem lJ:∀(f:Nat) (p:Array Nat) (m q:Nat),(krun lt (kas_desc f p m q)).1.Perm p
 | 0,p,_,_=>by rw[kas_desc];exact .refl _
 |f+1,p,m,q=>by
  rw[kas_desc,krun];split
  ·split
   ·exact (lJ f _ _ _).trans (mirror_perm _ _ _ _)
   ·exact lJ f _ _ _
  ·rw[krun];split
   ·exact .refl _
   ·exact lJ f _ _ _
theorem zv (p:Array Nat) (m k:Nat):(krun lt (kas_tail3 m k p)).2.Perm p:=by
 unfold kas_tail3;rw[jK];exact mirror_perm _ _ _ _
theorem zw (p:Array Nat) (m k:Nat):(krun lt (kas_descPart m k p)).2.Perm p:=by
 unfold kas_descPart;rw[jK];split
 ·exact (zv _ _ _).trans ((mirror_perm _ _ _ _).trans (lJ _ _ _ _))
 ·exact (zv _ _ _).trans (lJ _ _ _ _)
theorem zx (p:Array Nat) (k:Nat):(krun lt (kas_count k p)).2.Perm p:=by
 unfold kas_count;rw[jK];split
 ·exact .refl _
 split
 ·rw[krun];split
  ·exact .refl _
  ·exact (zw _ _ _).trans (mirror_perm _ _ _ _)
 ·exact zw _ _ _
theorem zy:∀(f:Nat) (p:Array Nat) (k:Nat),(krun lt (kas_bin f p k)).Perm p
 | 0,p,_=>by rw[kas_bin];exact .refl _
 |f+1,p,k=>by
  rw[kas_bin,jK];exact (zy f _ _).trans (bubble_perm _ _ _)
theorem IZ (n:Nat):(krun lt (kas_sort n)).Perm (ZA n).toArray:=by
 unfold kas_sort;rw[jK];split
 ·exact (zy _ _ _).trans (zx _ _)
 ·exact zx _ _
end
end Kn
namespace L2
open PySem PySem.Spec PyProof.Rows PySem.W
end L2
end
section
set_option maxHeartbeats 1000000
namespace N
open PySem PySem.Spec PyProof.Rows L2 PySem.W
open Kn (krun)
def gT (G:Gx) (F:Fz) (vs:List Value) (ps:List (Str×D)):Prop:=vs.length=ps.length/\∀(i:Nat) p,ps[i]?=some p->∃b o t u n,vs[i]?=some (.ref b)/\F b=some (.dat o)/\o.cls=.type "tuple"/\o.data=.seq #[.str p.1 t,u] n/\ae G F p.2 u/\aD p.2=true/\bc p.2<=50
theorem gT.tl {G:Gx}{F:Fz}{v:Value}{vs:List Value}{p:Str×D}{ps:List (Str×D)} (t:gT G F (v::vs) (p::ps)):gT G F vs ps:=⟨aaq t.1,λi y hy=>t.2 (i+1) y hy⟩
noncomputable def iF (ps:List (Str×D)) (i j:Nat):Bool:=decide ((ps.getD i ("",.aj)).1.cps.toList<(ps.getD j ("",.aj)).1.cps.toList)
section
variable {G:Gx}{F:Fz}{M:Mp}{A:Around}{E:Value->Shared->Prop}{s:Shared}
theorem gT.zB {P:Program}{w:World} (ok:az G F M s.heap):∀{vs:List Value}{ps:List (Str×D)},gT G F vs ps->∃fs,KatTups s.heap vs fs/\fs.length=vs.length/\∀f∈fs,Looks (model P w) s.heap (typeOf f) (.type "str")
 |[],[],_=>⟨[],.nil,rfl,λf hf=>(nomatch hf)⟩
 |[],_::_,t=>by have:=t.1;simp at this
 |_::_,[],t=>by have:=t.1;simp at this
 |v::vs,p::ps,t=>by
  obtain⟨fs,h1,h2,h3⟩:=gT.zB (P:=P) (w:=w) ok t.tl;obtain⟨b,o,tk,u,n,e1,e2,e3,e4,_⟩:=t.2 0 p rfl;cases e1;refine⟨.str p.1 tk::fs,.cons (ok.fz b _ e2) e3 e4 (by simp) h1,by simp [h2],λf hf=>?_⟩;rcases List.mem_cons.mp hf with z |z
  ·subst z;exact Looks.of_pure rfl
  ·exact h3 f z
theorem I9 {a : Addr} {vs : List Value} {ps : List (Str × D)} {n : Nat} {P : Fin -> Shared -> Prop} (hu : A.units + 60 < cLine) (ok : az G F M s.heap) (ha : F a = none) (hm : M a = none) (ho : s.heap.get? a = some (seqObj "list" vs.toArray n)) (hT : gT G F vs ps) (nd : (ps.map (·.1)).Nodup) (gP : vs.length < 64)
    (h:∀(p:List Nat),p.Perm (ZA vs.length)->P (.done (.ret .none)) { s with heap:=sortedHeap s.heap a vs (p.map λi=>vs.getD i Y6).toArray }) :
    wpAny (model G.P G.w) A (Builtin.«list.sort» ⟨[.ref a],[]⟩) P E s:=by
  obtain⟨e1,g1⟩:∃e1,(s.heap.update a (YW λ_=>(#[]:Array Value))).get? a=some (seqObj "list" #[] e1):=⟨_,get?_update_seq ho λ_=>#[]⟩;have VA:(((s.heap.update a (YW λ_=>(#[]:Array Value))).push (seqObj "tuple" vs.toArray 0)).push (seqObj "list" #[] 0)).get? a=some (seqObj "list" #[] e1):=Yk _ (Yk _ g1);have sb:=YO s.heap a (YW λ_=>(#[]:Array Value));have iG:az G F M (((s.heap.update a (YW λ_=>(#[]:Array Value))).push (seqObj "tuple" vs.toArray 0)).push (seqObj "list" #[] 0)):=ok.keep λb hb o e=>Yk _ (Yk _ (sb.extBut b o (by rintro rfl;rcases hb with h |h;exact h ha;exact h hm) e));rw[list_sort_plain];refine Yj (listItems_at ho rfl (Yj (listUpdate_at ho rfl ?_ (by rw[Yn,aao];lia) (YE _))));refine Yj (seqEpoch_at g1 rfl (Yj (wpAny_newTuple ?_ (by show vs.length<=_;rw[aao];lia))));refine Yj (wpAny_newList (Y3 ?_) (YE _));show wpAny (model G.P G.w) A _ P E { s with heap:=((s.heap.update a (YW λ_=>(#[]:Array Value))).push (seqObj "tuple" vs.toArray 0)).push (seqObj "list" #[] 0) };dsimp only;by_cases h2:vs.toArray.size<2
  · have zn:vs.length<2:=(by simpa using h2);rw[if_pos h2,if_pos h2];refine Yj (Yl ?_);rw[StateT.run_pure];refine Yj (Yl ?_);dsimp only;have UT:(arrOf (SortSt.mk' general' (vs.toArray.zip vs.toArray) #[] 7 none)).map (·.2)=vs.toArray:=by
      show (vs.toArray.zip vs.toArray).map (·.2)=vs.toArray;apply Array.toList_inj.mp;rw[Array.toList_map,Array.toList_zip];simp only[List.toList_toArray];have zz:∀l:List Value,(l.zip l).map (·.2)=l:=λl=>(by induction l with |nil=>rfl |cons x l ih=>simp [ih]);exact zz vs
    rw[UT];refine Yj (seqEpoch_at VA rfl (Yj (listUpdate_at VA rfl ?_ (YE _) (by rw[Yn,aao];lia))));simp only[bne_self_eq_false,Z6,if_false];have q:=h (ZA vs.length) (.refl _);have zz:(ZA vs.length).map (λi=>vs.getD i Y6)=vs:=by
      refine List.ext_getElem (by simp) λi h1 h2=>?_;simp [YN,Yo h2]
    rw[zz]at q;exact Yl q
  · have zn : 2 ≤ vs.length := by have : ¬ vs.length < 2 := by simpa using h2
                                  lia
    rw[if_neg h2,if_neg h2];obtain⟨fs,f1,f2,f3⟩:=hT.zB (P:=G.P) (w:=G.w) (s:={ s with heap:=((s.heap.update a (YW λ_=>(#[]:Array Value))).push (seqObj "tuple" vs.toArray 0)).push (seqObj "list" #[] 0) }) iG;refine Yj (kat_kind (T:=.type "str") f1 (by rw[f2];lia) f3 (by simp) ?_);have pp:=Kn.IZ (lt:=iF ps) vs.length;refine Yj (Zm (kat_run (ks:=vs) (Q:=λbn s'=>arrOf bn=(krun (iF ps) (kas_sort vs.length)).map (kas_item (vs.toArray.zip vs.toArray))/\failedOf bn=none/\s'={ s with heap:=((s.heap.update a (YW λ_=>(#[]:Array Value))).push (seqObj "tuple" vs.toArray 0)).push (seqObj "list" #[] 0) })
      (G:=λq s'=>q=krun (iF ps) (kas_sort vs.length)/\s'={ s with heap:=((s.heap.update a (YW λ_=>(#[]:Array Value))).push (seqObj "tuple" vs.toArray 0)).push (seqObj "list" #[] 0) }) rfl zn gP (λq bn s' _ Uz UB ⟨UC,UO⟩=>⟨UC ▸ Uz,UB,UO⟩) ?ask) ?_ λ_ _ e=>e)
    case ask=>
      refine Kn.zq (n:=vs.length) (R:=λ_=>True) (lt:=iF ps) (λi j C hi hj q=>?_) (Kn.IY (by lia)) ⟨rfl,rfl⟩;have cR:i<ps.length:=(by rw[<- hT.1];exact hi);have lK:j<ps.length:=(by rw[<- hT.1];exact hj);have Wv:ps[i]?=some ps[i]:=Yo cR;have UL:ps[j]?=some ps[j]:=Yo lK;obtain⟨bi,VU,ti,XY,XZ,UA,Uz,UB,UC,UO,Vn,VM⟩:=hT.2 i _ Wv;obtain⟨Xf,X5,X8,X9,Yb,c1,c2,c3,c4,U6,VW,Yc⟩:=hT.2 j _ UL;unfold kas_ask;rw[YN,YN,UA,c1];refine kat_lt (iG.fz bi _ Uz) UC (iG.fz Xf _ c2) c4 ?_;have e:iF ps i j=decide (ps[i].1.cps.toList<ps[j].1.cps.toList):=(by unfold iF;rw[YN,YN,Wv,UL];rfl);rw[e]at q;refine kat_cons (kW 50 (d:=.str ps[i].1) (e:=.str ps[j].1) iG .str .str (by simp [bc]) (by lia) _ _ _ _ ?_);by_cases Ww:i=j
      · subst Ww;rw[fU _ rfl];refine kat_yes (kat_cons (kW 50 iG (eE iG UO Vn) (eE iG U6 VW) VM (by lia) _ _ _ _ ?_));rw[fU _ Vn];rw[decide_eq_false (List.lt_irrefl _)]at q;exact kat_yes (kat_nil (by simpa using q))
      · have ne:ps[i].1≠ps[j].1:=fun z=>Ww ((List.getElem_inj (h₀:=by simpa using cR) (h₁:=by simpa using lK) nd).mp (by simpa using z));have e2:aA (.str ps[i].1) (.str ps[j].1)=false:=by
          show (some ps[j].1 == some ps[i].1)=false;simpa using Zl ne
        rw[e2];exact kat_no (oneLt_str q)
    rintro⟨⟨⟩,bn⟩ s' ⟨Ja,hf,rfl⟩;dsimp only;have hout:=kat_snds rfl Ja;rw[hout];have lp:(krun (iF ps) (kas_sort vs.length)).toList.length=vs.length:=(by rw[YG,pp.size_eq];simp);refine Yj (seqEpoch_at VA rfl (Yj (listUpdate_at VA rfl ?_ (YE _) (by rw[Yn,Ym,lp,aao];lia))));rw[hf];simp only[bne_self_eq_false,Z6,if_false];exact Yl (h _ (by have:=Array.perm_iff_toList_perm.mp pp;simpa using this))
end
def lL (t:DE):DE:=fun τ M q=>t τ M (su λks ds M1=>ks.length<64/\(∀k∈ks,∃x,k=Zs x)/\(∀d∈ds,aD d=true/\bc d<=50)/\∀ys:List (Key×D),ys.Perm (ks.zip ds)->bL (ys.map eH) M1 q)
section
variable {X:Cx}{o:Expr}{to:DE}{p1 q2 gR dz:Pos}
theorem Jb {G:Gx}{F:Fz}{ks:List Key}{ds:List D}{u:Value} (r:ae G F (.ak ks ds) u):ks.Nodup/\ds.length=ks.length:=by
 rw[ae]at r;obtain⟨a,o,us,rfl,h1,h2,h4,h3⟩:=r;exact⟨h2.nd,h3.len.trans h2.len⟩
theorem Jc (hc:X.calm=true) (hu:X.A.units+110<cLine) (hg:Gl X "sorted") (hm:X.G.mg "sorted"=none) (ho:PE X o to) (fZ:attributeBase o "items" X.env (eval o X.env)=eval o X.env) (cQ:(q2.endLine == dz.line)=true) :
  PE X (.Call (.Name "sorted" p1) [.Call (.Attribute o "items" q2) [] [] dz] [] gR) (lL to):=fun τ z Q R I h k=>by
 refine Y8 (eB I hg hm (by decide +kernel:bootBuiltins "sorted"=some (.builtin "sorted")) (by decide) (by decide) ?_);refine PyProof.Rows.callWith_builtin1 ?_ (bz rfl) rfl;rw[bz (e:=.Call (.Attribute o "items" q2) [] [] dz) rfl];show W X (spliced ((false,eval (.Call (.Attribute o "items" q2) [] [] dz) X.env)::backTo gR (starEach [] X.env))) _ z.s;refine Zu ?_;refine IW ho fZ cQ I h λks ds a z1 v l1 I1 r1 iv q1=>?_;refine ZY ?_;obtain⟨gP,hk,hd,q⟩:=q1;obtain⟨nd,ln⟩:=Jb r1;obtain⟨U2,n,ep,vs,e,S,da,lv,lo⟩:=sj I1 r1;cases e;obtain⟨Jd,rel,Je,Ui⟩:=S.bK Le.rfl I1.hok;have lz:(ks.zip ds).length=ks.length:=by rw[ZZ,ln,Nat.min_self]
 have gU:Jd.length=ks.length:=by rw[<- Paired.length rel,lz]
 refine Calls.call_function_entry kind_sorted plain_sorted entry_sorted (args_sorted1 _) ?_;unfold Builtin.«sorted»;refine Yj (m:=checkCount "sorted" 1 1 _) (Yl ?_);refine Yj (kdx_collect (knd:=bw X.G.P X.G.w) (A:=X.A.in1) (I1.ok.hd hc) iv Je (by rw[gU,aao];lia) λh' tk as keep la Gp=>?_);obtain⟨l2,I2⟩:=I1.many (as:=as) (t:=tk) (λb o e=>keep b o e) λb hb=>Nat.le_of_lt (Gp.above b hb);obtain⟨ss,ow⟩:∃ss:List Str,ks=ss.map Zs:=by
  clear gP nd ln lz gU rel S r1 q
  induction ks with
  |nil=>exact⟨[],rfl⟩
  |cons k ks ih=>
   obtain⟨x,rfl⟩:=hk k Ys;obtain⟨ss,rfl⟩:=ih λk wS=>hk k (Yt _ wS);exact⟨x::ss,rfl⟩
 have item:∀(i:Nat) (pr:Key×D),(ks.zip ds)[i]?=some pr->∃b t u s,as[i]?=some b/\pr.1=Zs s/\cu z1.F as h' b=some (.dat { cls:=.type "tuple",data:=.seq #[.str s t,u] })/\ae X.G (cu z1.F as h') pr.2 u:=λi pr hp=>by
  obtain⟨q,hq,e1,r2⟩:=sm rel hp;have hi:i<as.length:=by rw[la];exact (List.getElem?_eq_some_iff.mp hq).1
  have hb:as[i]?=some as[i]:=Yo hi;obtain⟨key,kk,x,g1,g2,g3⟩:=Gp.pairs i _ hb;rw[hq]at g1;cases g1;have sw:pr.1∈ks:=(ZP (show (pr.1,pr.2)∈ks.zip ds from Y4 hp)).1;obtain⟨s,hs⟩:=hk _ sw;have e3:kk=Zs s:=e1.symm.trans hs;rw[e3]at g2;rcases dY (show e7 (Zs s) key=true from g2) with ⟨i,t,e,_⟩ |⟨y,t,e,e2⟩
  ·cases e
  ·cases e;subst e2;exact⟨_,t,x,s,hb,hs,ot (Y4 hb) g3,r2.up l2.d⟩
 have Jf:(ss.zip ds).length=as.length:=by rw[la,gU,<- lz,ow,ZZ,ZZ,Ym]
 have Xg:∀(i:Nat) (p:Str×D),(ss.zip ds)[i]?=some p->(ks.zip ds)[i]?=some (Zs p.1,p.2):=λi p hp=>by
  rw[ow,List.zip_map_left,Yz,hp];rfl
 have Jg:gT X.G (cu z1.F as h') (as.map YF) (ss.zip ds):=⟨by rw[Ym,Jf],λi p hp=>by
  obtain⟨b,t,u,s,g1,g2,g3,g4⟩:=item i _ (Xg i p hp);cases g2;obtain⟨VB,Xh⟩:=hd _ (ZP (show (p.1,p.2)∈ss.zip ds from Y4 hp)).2;exact⟨b,_,t,u,_,by rw[Yz,g1];rfl,g3,rfl,rfl,g4,VB,Xh⟩⟩
 have Jh:((ss.zip ds).map (·.1)).Nodup:=by
  rw[List.map_fst_zip (by rw[ln,ow,Ym];exact Yr _)];rw[ow]at nd;exact (List.pairwise_map.mp nd).imp λh e=>h (congrArg Zs e)
 have Ji:(as.map YF).length<=sizeLine:=by rw[Ym,la,gU,aao];lia
 refine Yj (wpAny_newList ?_ Ji);have eI:(h'.push { cls:=.type "list",data:=.seq (as.map YF).toArray }).get? h'.objs.size=some (seqObj "list" (as.map YF).toArray 0):=Yp _ rfl;have Vx:=I2.hok.ck (Yr h'.objs.size);have Vw:=I2.hok.c0 (Yr h'.objs.size);have Jj:az X.G (cu z1.F as h') z1.M (h'.push { cls:=.type "list",data:=.seq (as.map YF).toArray }):=I2.hok.keep λb _ o e=>Yk _ e;refine Yj (Y3 (YQ slot_list_sort ⟨_,eI,rfl⟩ entry_list_sort (I9 (G:=X.G) (F:=cu z1.F as h') (M:=z1.M) (by show X.A.units+1+1+60<cLine;lia) Jj Vx Vw eI Jg Jh (by rw[Ym,la,gU];lia) λp b1=>⟨_,rfl,?_⟩) (args_list_sort _)));refine Yl ⟨_,rfl,?_⟩;obtain⟨e,iA⟩:=sortedHeap_at (out:=(p.map λi=>(as.map YF).getD i Y6).toArray) eI;have lp:p.length=ks.length:=by rw[b1.length_eq,ZN,Ym,la,gU]
 have pm:(p.map λi=>(ks.zip ds).getD i (Zs "",.aj)).Perm (ks.zip ds):=by
  have:=b1.map λi=>(ks.zip ds).getD i (Zs "",D.aj);have zz:(ZA (as.map YF).length).map (λi=>(ks.zip ds).getD i (Zs "",D.aj))=ks.zip ds:=by
   refine List.ext_getElem (by rw[Ym,ZN,Ym,la,gU,lz]) λi h1 h2=>?_;simp [YN,Yo h2]
  rw[zz]at this;exact this
 have rs:ag X.G (cu z1.F as h') ((p.map λi=>(ks.zip ds).getD i (Zs "",D.aj)).map eH) (p.map λi=>(as.map YF).getD i Y6):=by
  have go:∀p:List Nat,(∀i∈p,i<ks.length)->ag X.G (cu z1.F as h') ((p.map λi=>(ks.zip ds).getD i (Zs "",D.aj)).map eH) (p.map λi=>(as.map YF).getD i Y6):=λp hp=>by
   induction p with
   |nil=>exact .nil
   |cons i p ih=>
    refine .cons ?_ (ih λj hj=>hp j (Yt _ hj));have hi:i<(ks.zip ds).length:=(by rw[lz];exact hp i Ys);have hz:(ks.zip ds)[i]?=some (ks.zip ds)[i]:=Yo hi;obtain⟨b,t,u,s,g1,g2,g3,g4⟩:=item i _ hz;dsimp only;rw[YN,YN,hz,Yz,g1];show ae X.G _ (eH (ks.zip ds)[i]) (.ref b);rw[eH,g2];exact m8 g3 ⟨rfl,rfl,⟨0,rfl⟩,by show 2<=sizeLine;decide⟩ (.cons gC (.cons g4 .nil))
  exact go p λi hi=>by have:=b1.mem_iff.mp hi;rw[List.mem_range,Ym,la,gU]at this;exact this
 refine I2.lst (n:=e) (t:=tk) k (l1.tr l2) rs (λb o hb=>?_) (Yr _) ?_ (by rw[Ym,lp,aao];lia) (q _ pm)
 ·have bd:b<h'.objs.size:=Yw hb;rw[sortedHeap_old (Yx bd) (by rw[YR];exact Zk bd)];exact Yk _ hb
 ·rw[iA];rfl
end
end N
end
section
set_option maxHeartbeats 1000000
namespace N
open PySem PySem.Spec PyProof.Rows L2
set_option genInjectivity false
set_option genSizeOfSpec false
inductive C where
 |aj |bl (b:Bool) |int (i:Int) |str (x:Str)
noncomputable def C.d:C->D
 |.aj=>.aj
 |.bl b=>.bl b
 |.int i=>.int i
 |.str x=>.str x
inductive Bi where
 |len |tuple |int |max |dict |any |ox |sorted
inductive Mt where
 |append |pop |extend |get
mutual
inductive E where
 |v (i:Nat) |c (k:C) |g (i:Nat) |ty (x:String) |tup (es:L) |lst (es:L)
 |op (o:Operator) (a b:E) |cmp (o:CmpOp) (a b:E) |neg (a:E) |and (a b:E) |or (a b:E) |not (a:E) |ite (c a b:E)
 |ix (a b:E) |sl (a lo hi:E) |rev (a:E) |call (i:Nat) (es:L) |bi (b:Bi) (es:L) |mt (m:Mt) (o:E) (es:L)
 |lc (n:Nat) (fr:List Nat) (g:G) (it:I) (c e:E) |fld (e:E) (f:Str) |new (i:Nat) (es:L) |aU (i:Nat) (o:E) (es:L) |app (f:E) (es:L)
 |oy |oz (ks vs:L) |sset (e:E) |sy (e:E) |oA (e:E) |aq
inductive L where
 |nil |cons (e:E) (r:L)
inductive I where
 |seq (e:E) |oB (e:E) |zip (a b:E) |oE (e:E) |no
end
mutual
inductive S where
 |set (g:G) (e:E) |put (o i e:E) |oF (o:E) (f:Str) (e:E) |ret (e:E) |ex (e:E) |cond (c:E) (a b:B) |loop (g:G) (it:I) (b:B) |jL (c:E) (b:B) |pass |brk |cnt |dead
inductive B where
 |nil |cons (s:S) (r:B)
end
structure Wd where
 sp:Nat->Sp
 gv:List D
 fl:Addr->Str->Prop
 ci:Nat->Option (Addr×Sp)
 mt:Nat->Option (Addr×Sp)
 ca:Addr->Sp->Prop
abbrev X0:XQ:=λ_ _=>False
def cD {α β γ:Type}:α->β->γ->Prop:=λ_ _ _=>False
noncomputable def zD (n:Nat) (fr:List Nat) (τ:St):St:=Y' n none++fr.map λi=>(τ[i]?).join
def sA (n:Nat) (fr:List Nat) (g:G) (ti:DI) (tc:DT) (te:DE):DE:=fun τ M q=>ti τ M λxs ok M1=>cS ok g tc te (zD n fr τ) (λys M2=>bL ys M2 q) xs [] M1
theorem Jk (n:Nat) (fr:List (Str×Nat)) (g:G) (ti:DI) (tc:DT) (te:DE):rG n fr g ti tc te=sA n (fr.map (·.2)) g ti tc te:=by
 unfold rG sA dv zD;simp only[Zq];rfl
def oG (fl:Addr->Str->Prop) (f:Str):Q1:=λx M q=>cq x M λa C dx fs=>∃d,fl C f/\fs.lookup f=some d/\q d M
def zG (fl:Addr->Str->Prop) (f:Str) (to tv:DE):DS:=λe τ M=>tv τ M λd M1=>to τ M1 λo M2=>cq o M2 λa C dx fs=>fl C f/\fs.length<1000/\e.nx τ (up M2 a (.ins C dx (fk f d fs)))
def Jl (c:Option (Addr×Sp)) (t:DA):DE:=match c with
 |some (C,sp)=>qY C sp [] X0 t
 |none=>cD
def sC (c:Option (Addr×Sp)) (m:Str) (to:DE) (t:DA):DE:=match c with
 |some (C,sp)=>k8 C m sp [] X0 to t
 |none=>cD
def zH:Bi->QN
 |.len=>yb |.tuple=>ra |.int=>yc |.max=>rh |.dict=>yl |.any=>yd (·.any _root_.id) |.ox=>rO |.sorted=>yJ
noncomputable def Mt.ty:Mt->String
 |.get=>"dict" |_=>"list"
def zI:Mt->QM
 |.append=>rl |.pop=>rn |.extend=>rq |.get=>rx
noncomputable def jM:E->Bool
 |.aq=>true
 |_=>false
def oW (e:E) (t:DE):DO:=cond (jM e) x5 (x6 t)
def VX (e:E) (t:DT):DT:=cond (jM e) gO t
noncomputable def vl (t:DE):DE×DT:=(t,xP t)
variable (W:Wd) (mn:List Str)
mutual
noncomputable def E.w:E->DE×DT
 |.v i=>vl (cK i)
 |.c k=>vl (UI k.d)
 |.g i=>vl (UI (W.gv.getD i .aj))
 |.ty x=>vl (UI (.ty x))
 |.tup es=>vl (vZ es.w)
 |.lst es=>vl (qk es.w)
 |.op o a b=>vl (kB (qM o) a.w.1 b.w.1)
 |.cmp o a b=>(xD (jt o) a.w.1 b.w.1,xE (jt o) a.w.1 b.w.1)
 |.neg a=>vl (ji xZ a.w.1)
 |.and a b=>(v8 a.w.1 b.w.1,we a.w.2 b.w.2)
 |.or a b=>(v9 a.w.1 b.w.1,wg a.w.2 b.w.2)
 |.not a=>(wb a.w.1,wj a.w.2)
 |.ite c a b=>(wo c.w.2 a.w.1 b.w.1,cD)
 |.ix a b=>vl (kB aB a.w.1 b.w.1)
 |.sl a lo hi=>(x7 a.w.1 (oW lo lo.w.1) (oW hi hi.w.1),cD)
 |.rev a=>(ji q9 a.w.1,cD)
 |.call i es=>vl (fj (W.sp i) [] X0 es.w)
 |.bi b es=>vl (UU (zH b) es.w)
 |.mt m o es=>vl (k9 m.ty (zI m) o.w.1 es.w)
 |.lc n fr g it c e=>(sA n fr g it.w (VX c c.w.2) e.w.1,cD)
 |.fld e f=>vl (ji (oG W.fl f) e.w.1)
 |.new i es=>(Jl (W.ci i) es.w,cD)
 |.aU i o es=>vl (sC (W.mt i) (mn.getD i "") o.w.1 es.w)
 |.app f es=>vl (yF W.ca X0 f.w.1 es.w)
 |.oy=>(yj,cD)
 |.oz ks vs=>(yk (ks.wl.zip vs.wl),cD)
 |.sset e=>(za e.w.1,cD)
 |.sy e=>(zg e.w.1,cD)
 |.oA e=>(lL e.w.1,cD)
 |.aq=>(cD,cD)
noncomputable def L.w:L->DA
 |.nil=>dJ
 |.cons e r=>dk e.w.1 r.w
noncomputable def L.wl:L->List DE
 |.nil=>[]
 |.cons e r=>e.w.1::r.wl
noncomputable def I.w:I->DI
 |.seq e=>zp e.w.1
 |.oB e=>wL e.w.1
 |.zip a b=>wQ a.w.1 b.w.1
 |.oE e=>wR e.w.1
 |.no=>cD
end
mutual
def S.w:S->DS
 |.set g e=>fS (e.w W mn).1 (bM g)
 |.put o i e=>fS (e.w W mn).1 (qv nS (o.w W mn).1 (i.w W mn).1)
 |.oF o f e=>zG W.fl f (o.w W mn).1 (e.w W mn).1
 |.ret e=>wt (e.w W mn).1
 |.ex e=>mZ (e.w W mn).1
 |.cond c a b=>ql (c.w W mn).2 a.w b.w
 |.loop g it b=>zm (it.w W mn) (bM g) b.w
 |.jL c b=>wK (c.w W mn).2 b.w
 |.pass=>λe τ M=>e.nx τ M
 |.brk=>λe τ M=>e.bk τ M
 |.cnt=>λe τ M=>e.ct τ M
 |.dead=>cD
def B.w:B->DS
 |.nil=>λe τ M=>e.nx τ M
 |.cons s .nil=>s.w
 |.cons s r=>eA s.w r.w
end
structure Nm where
 bD:List Str
 fq:List Str
 cls:List Str
 ah:List Str
noncomputable def cU (x:Str):List Str->Nat->Option Nat
 |[],_=>none
 |y::r,i=>if y=x then some i else cU x r (i+1)
noncomputable def oH (sc:Scope) (x:Str):Bool:=match sc.names.lookup x with
 |some .local=>true
 |some .cell=>true
 |some .free=>true
 |_=>false
noncomputable def aH (sc:Scope) (x:Str):Bool:=match sc.names.lookup x with
 |some .globalImplicit=>true
 |_=>false
noncomputable def loc (sc:Scope) (x:Str):Bool:=match sc.names.lookup x with
 |some .local=>true
 |some .cell=>true
 |_=>false
noncomputable def oJ (sc:Scope) (x:Str):Bool:=match sc.names.lookup x with
 |some .local=>true
 |_=>false
noncomputable def dQ (x:Str):Bool:=!(x == ("__debug__" : Str)) && !(x == ("__classdict__" : Str))
noncomputable def bU:Expr->Bool
 |.Set _ _ _=>false
 |.Slice _ _ _ _=>false
 |.Starred _ _=>false
 |_=>true
noncomputable def ed:Expr->Bool
 |.ListComp _ _ _ _=>true
 |.SetComp _ _ _ _=>true
 |.DictComp _ _ _ _ _=>true
 |_=>false
noncomputable def oK:Expr->Bool
 |.Tuple _ _ _=>true
 |_=>false
noncomputable def ft (sc scope:Scope):Scope:=
 { scope with names:=scope.names.map λ(n,k)=>if (k == .free && sc.kind == .function && sc.names.lookup n == some .cell) then (n,.cell) else (n,k) }
noncomputable def sD (x:Str):Option Bi:=if x="len" then some .len else if x="tuple" then some .tuple else if x="int" then some .int else if x="max" then some .max
 else if x="dict" then some .dict else if x="any" then some .any else if x="isinstance" then some .ox else if x="sorted" then some .sorted else none
noncomputable def sE (x:Str):Option Mt:=if x="append" then some .append else if x="pop" then some .pop else if x="extend" then some .extend else if x="get" then some .get else none
noncomputable def zJ (x:Str):E:=if x="tuple" then .ty "tuple" else if x="bool" then .ty "bool" else if x="str" then .ty "str" else if x="int" then .ty "int" else if x="list" then .ty "list" else .aq
noncomputable def jN (o:Option Nat) (f:Nat->E) (e:E):E:=match o with
 |some i=>f i
 |none=>e
noncomputable def L.of:List E->L
 |[]=>.nil
 |e::r=>.cons e (L.of r)
noncomputable def eO (f:E->E->E):List E->E
 |[]=>.aq
 |[e]=>e
 |e::r=>f e (eO f r)
noncomputable def lM:Expr->Option (Str×Pos)
 |.Name x p=>some (x,p)
 |_=>none
noncomputable def gV:List Expr->Option (List (Str×Pos))
 |[]=>some []
 |e::r=>(lM e).bind λq=>(gV r).map (q::·)
noncomputable def iH:Expr->List (Str×Pos)
 |.Name x p=>[(x,p)]
 |.Tuple es _ _=>(gV es).getD []
 |_=>[]
noncomputable def sF (N:List Str) (ok:Str->Bool) (l:List (Str×Pos)):Option G:=if l.all (λq=>ok q.1 && (cU q.1 N 0).isSome) then some (.many (l.map λq=>(cU q.1 N 0).getD 0)) else none
noncomputable def gW (N:List Str) (ok:Str->Bool):Expr->Option G
 |.Name x _=>if ok x then (cU x N 0).map .one else none
 |.Tuple es _ _=>(gV es).bind (sF N ok)
 |_=>none
noncomputable def iI (N:List Str) (names:List (Str×NameKind)):List (Str×Nat):=names.filterMap λy=>if y.2=.free then (cU y.1 N 0).map λi=>(y.1,i) else none
variable (m:Nm)
noncomputable def sG (N:List Str) (sc:Scope) (x:Str) (as:L) (ne:Bool):E:=
 if aH sc x then jN (cU x m.bD 0) (.call · as) (jN (cU x m.cls 0) (.new · as) (match sD x with |some b=>if ne then .bi b as else .aq |none=>.aq)) else .aq
noncomputable def sH (y:Str) (o:E) (as:L):E:=jN (cU y m.ah 0) (.aU · o as) (match sE y with |some b=>.mt b o as |none=>.aq)
noncomputable def oL (N:List Str) (sc:Scope) (x:Str):E:=
 if dQ x then (if oH sc x then jN (cU x N 0) .v .aq else if aH sc x then jN (cU x m.fq 0) .g (zJ x) else .aq) else .aq
noncomputable def sJ:Const->E
 |.int i=>.c (.int i)
 |.str x=>.c (.str x)
 |.bool b=>.c (.bl b)
 |.none=>.c .aj
 |_=>.aq
noncomputable def sL (sc:Scope) (x:Str):List Expr->Option Expr
 |[.Call (.Name g _) [a] [] _]=>if x="sorted"/\g="set"/\aH sc x=true/\aH sc g=true/\bU a=true then some a else none
 |_=>none
noncomputable def sM (sc:Scope) (x:Str):List Expr->Option Expr
 |[.Call (.Name g _) [a] [] _]=>if x="list"/\g="enumerate"/\aH sc x=true/\aH sc g=true/\bU a=true then some a else none
 |_=>none
noncomputable def sN (sc:Scope) (x:Str):List Expr->Option Expr
 |[.Call (.Attribute o y q) [] [] p]=>if x="sorted"/\y="items"/\aH sc x=true/\PL.fW o=false/\(q.endLine == p.line)=true then some o else none
 |_=>none
noncomputable def oM (o:Option Expr) (f:Expr->E):E:=match o with
 |some x=>f x
 |none=>.aq
noncomputable def oN (o:Option Expr) (f:Expr->E):Bool:=match o with
 |some x=>!jM (f x)
 |none=>true
noncomputable def sP (f:Expr->E) (a:Expr):Expr->E
 |.Slice none none (some (.UnaryOp .USub (.Constant (.int 1) _ _) _)) _=>.rev (f a)
 |.Slice lo hi none _=>if oN lo f && oN hi f then .sl (f a) (oM lo f) (oM hi f) else .aq
 |b=>if bU b then .ix (f a) (f b) else .aq
noncomputable def sQ (f:Expr->E) (a:Expr):List CmpOp->List Expr->E
 |[o],[b]=>if bU b then .cmp o (f a) (f b) else .aq
 |_,_=>.aq
noncomputable def Jm (e:E):UnaryOp->E
 |.USub=>.neg e
 |.Not=>.not e
 |_=>.aq
noncomputable def Jn (es:List E):BoolOp->E
 |.And=>eO .and es
 |.Or=>eO .or es
noncomputable def iJ (ns:List Str) (sc:Scope) (f:Expr->E) (es:List Expr) (pos:Pos):Expr->E
  | .Name x _=>match sL sc x es with
    |some a=>.sset (f a)
    |none=>match sM sc x es with
     |some a=>.sy (f a)
     |none=>match sN sc x es with
      |some a=>.oA (f a)
      |none=>if dQ x && aQ es then (if oH sc x then (if es.isEmpty then .aq else .app (oL m ns sc x) (L.of (es.map f))) else sG m ns sc x (L.of (es.map f)) (!es.isEmpty)) else .aq
  |.Attribute o y q=>if (q.endLine == pos.line) && !PL.fW o && aQ es && decide (es.length<29) then sH m y (f o) (L.of (es.map f)) else .aq
  |.Subscript a b q=>if aQ es && !es.isEmpty then .app (f (.Subscript a b q)) (L.of (es.map f)) else .aq
  |_=>.aq
noncomputable def Jo (e:E):List Keyword->E
 |[]=>e
 |_=>.aq
noncomputable def bN (sc:Scope) (f:Expr->E) (tg:Expr):Expr->I
 |.Call (.Name g p) [a] [] q=>if aH sc g && bU a then (if g="range" then I.oB (f a) else if g="reversed" then .oE (f a) else .seq (f (.Call (.Name g p) [a] [] q))) else .seq (f (.Call (.Name g p) [a] [] q))
 |.Call (.Name g p) [a,b] [] q=>if aH sc g && bU a && bU b then (if g="zip"/\oK tg=true then .zip (f a) (f b) else .seq (f (.Call (.Name g p) [a,b] [] q))) else .seq (f (.Call (.Name g p) [a,b] [] q))
 |e=>.seq (f e)
noncomputable def dR (ns:List Str) (scope:Scope) (tg:Expr):List Str:=(iH tg).map (·.1)++(iI ns scope.names).map (·.1)
noncomputable def zN (ns:List Str) (sc:Scope) (f:List Str->Scope->Expr->E) (a1:Expr) (scope:Scope) (tg iter:Expr) (a2:List Expr):E:=
 match gW (dR ns scope tg) (oJ (ft sc scope)) tg with
 | some g=>if nK sc ns scope (iI ns scope.names) && g.lt ((iH tg).map (·.1)).length && decide (dR ns scope tg).Nodup && bU iter then (match a2 with
   |[]=>.lc ((iH tg).map (·.1)).length ((iI ns scope.names).map (·.2)) g (bN sc (f ns sc) tg iter) .aq (f (dR ns scope tg) (ft sc scope) a1)
   |[c]=>if jM (f (dR ns scope tg) (ft sc scope) c) then .aq else .lc ((iH tg).map (·.1)).length ((iI ns scope.names).map (·.2)) g (bN sc (f ns sc) tg iter) (f (dR ns scope tg) (ft sc scope) c) (f (dR ns scope tg) (ft sc scope) a1)
   |_=>.aq) else .aq
 |none=>.aq
noncomputable def sR (ns:List Str) (sc:Scope) (f:List Str->Scope->Expr->E) (a1:Expr) (scope:Scope):List Comprehension->E
 |[⟨tg,iter,a2,0⟩]=>zN ns sc f a1 scope tg iter a2
 |_=>.aq
noncomputable def sS (f:Expr->E) (ks:List (Option Expr)) (vs:List Expr):E:=
 if ks.isEmpty && vs.isEmpty then .oy else if ks.all (·.isSome) && decide (ks.length=vs.length) && decide (ks.length<=15) && !ks.isEmpty then .oz (L.of (ks.map λk=>match k with |some k=>f k |none=>.aq)) (L.of (vs.map f)) else .aq
noncomputable def aJ:Nat->List Str->Scope->Expr->E
 | 0,_,_,_=>.aq
 |n+1,ns,sc,e=>match e with
  |.Name x _=>oL m ns sc x
  |.Constant c _ _=>sJ c
  |.Tuple es _ _=>if aQ es then .tup (L.of (es.map (aJ n ns sc))) else .aq
  |.List es _=>if aQ es then .lst (L.of (es.map (aJ n ns sc))) else .aq
  |.BinOp a o b _=>.op o (aJ n ns sc a) (aJ n ns sc b)
  |.Compare a os bs _=>sQ (aJ n ns sc) a os bs
  |.UnaryOp o a _=>Jm (aJ n ns sc a) o
  |.BoolOp o vs _=>Jn (vs.map (aJ n ns sc)) o
  |.IfExp c a b _=>.ite (aJ n ns sc c) (aJ n ns sc a) (aJ n ns sc b)
  |.Subscript a b _=>sP (aJ n ns sc) a b
  |.Call g es sK p=>Jo (iJ m ns sc (aJ n ns sc) es p g) sK
  |.Attribute o f _=>if !PL.fW o then .fld (aJ n ns sc o) f else .aq
  |.ListComp a1 gs scope _=>sR ns sc (aJ n) a1 scope gs
  |.Dict ks vs _=>sS (aJ n ns sc) ks vs
  |_=>.aq
end N
end
section
set_option maxHeartbeats 1000000
namespace N
open PySem PySem.Spec PyProof.Rows L2
theorem zO {x:Str}:∀{l:List Str}{i j:Nat},cU x l i=some j->∃k,j=i+k/\l[k]?=some x
 |[],_,_,h=>by cases h
 |y::r,i,j,h=>by
  unfold cU at h;split at h
  ·rename_i e;cases h;exact⟨0,rfl,by rw[e];rfl⟩
  ·obtain⟨k,e,q⟩:=zO h;exact⟨k+1,by lia,q⟩
theorem gc {x:Str}{l:List Str}{j:Nat} (h:cU x l 0=some j):l[j]?=some x:=by
 obtain⟨k,e,q⟩:=zO h;rw[e,Nat.zero_add];exact q
theorem Jp {sc:Scope}{x:Str} (h:oH sc x=true):dZ sc x:=by
 unfold oH at h;unfold dZ;split at h <;> first |(rename_i e;rw[e];first |exact .inl rfl |exact .inr (.inl rfl) |exact .inr (.inr rfl)) |cases h
theorem Jq {sc:Scope}{x:Str} (h:aH sc x=true):sc.names.lookup x=some .globalImplicit:=by
 unfold aH at h;split at h <;> first |assumption |cases h
theorem lO {sc:Scope}{x:Str} (h:loc sc x=true):L2.hU sc x:=by
 unfold loc at h;unfold L2.hU;split at h <;> first |(rename_i e;rw[e];first |exact .inl rfl |exact .inr rfl) |cases h
theorem Jr {sc:Scope}{x:Str} (h:oJ sc x=true):sc.names.lookup x=some .local:=by
 unfold oJ at h;split at h <;> first |assumption |cases h
theorem cV {y:Str} (h:dQ y=true):(y == ("__debug__" : Str))=false/\(y == ("__classdict__" : Str))=false:=by
 unfold dQ at h;rw[Yq,Bool.not_eq_true',Bool.not_eq_true']at h;exact h
theorem lP {e : Expr} (h : bU e = true) : bA e = true ∧ (∀ o, behindInMarks o e = false) ∧ (∀ o i, subscripted e false o i = operate [o, i] (getItem o i)) ∧ (∀ (env : Env) x, foldedSetIterable e env x = pure x) ∧ ∀ (o : Expr) (pos : Pos) (env : Env) v, assign (.Subscript o e pos) env v = (do
      let ov <- holding [v] (eval o env)
      let iv <- holding [v,ov] (eval e env)
      standAt pos
      holding [v,ov,iv] (setItem ov iv v)
      release [v,ov,iv] []):=by cases e <;> first |exact⟨rfl,λ_=>rfl,λ_ _=>rfl,λ_ _=>rfl,λ_ _ _ _=>rfl⟩ |cases h
theorem oO {e:Expr} (h:bU e=true):bA e=true:=(lP h).1
theorem zP {e:Expr}{o:CmpOp} (h:bU e=true):behindInMarks o e=false:=(lP h).2.1 o
theorem Js {e:Expr} (h:bU e=true):∀o i,subscripted e false o i=operate [o,i] (getItem o i):=(lP h).2.2.1
theorem sT {e:Expr}{env:Env} (h:bU e=true):∀x,foldedSetIterable e env x=pure x:=(lP h).2.2.2.1 env
theorem Jt {o i : Expr} {pos : Pos} {env : Env} (h : bU i = true) : ∀ v, assign (.Subscript o i pos) env v = (do
      let ov <- holding [v] (eval o env)
      let iv <- holding [v,ov] (eval i env)
      standAt pos
      holding [v,ov,iv] (setItem ov iv v)
      release [v,ov,iv] []):=(lP h).2.2.2.2 o pos env
theorem jO {e:Expr}{t:Option Expr}{n:Nat}{env:Env} (h:ed e=false):swapsWith e t n env=pure false:=by cases e <;> first |rfl |cases h
theorem Ju {t v:Expr}{env:Env} (h:oK v=false):swappedStores [t] v env=pure none:=by
 cases t <;> first |rfl |(cases v <;> first |rfl |cases h)
noncomputable def iK:List Str:=["len","tuple","list","int","max","min","sum","dict","all","any","isinstance","sorted","set","bool","str","range","zip","enumerate","reversed"]
structure jP (m:Nm) (W:Wd) (k:Nat) (G:Gx):Prop where
 fn:∀i x,m.bD[i]?=some x->∃f fd ps,a6 G k f fd ps (W.sp i)/\G.mg x=some (.ref f)/\PySem.W.keepIn G.K (.ref f)=true/\bC G.K fd ps []
 gv:∀i x,m.fq[i]?=some x->∃u,G.mg x=some u/\∀F:Fz,(∀b o,G.base.get? b=some o->F b=some (.dat o))->ae G F (W.gv.getD i .aj) u
 bl:∀x∈iK,G.mg x=none
 fl:∀C f,W.fl C f->cP G.K C/\d5 G.K C f
 cl:∀i x C sp,m.cls[i]?=some x->W.ci i=some (C,sp)->∃j f fd ps,j+1<=k/\Mk G.K C f/\a6 G j f fd ps sp/\G.mg x=some (.ref C)/\bC G.K fd ps []
 mt:∀i x C sp,m.ah[i]?=some x->W.mt i=some (C,sp)->∃f fd ps,cP G.K C/\jo G.K C x f/\a6 G k f fd ps sp/\bC G.K fd ps []
 ca:∀f sp,W.ca f sp->cA G k f sp
structure aX (m:Nm) (W:Wd) (k:Nat) (ns:List Str) (sc:Scope) (X:Cx):Prop where
 hN:X.N=ns
 cC:X.env.scope=sc
 nd:ns.Nodup
 calm:X.calm=true
 room:bq k X.A
 en:jP m W k X.G
theorem fu {X:Cx}:dt X X0:=λ_ _ _ h=>h.elim
theorem fx {X:Cx}:d6 X [] []:=λ_ _ _=>.nil
section
variable {m:Nm}{W:Wd}{k:Nat}{ns:List Str}{sc:Scope}{X:Cx}{x:Expr}{t:DE×DT}
theorem aX.sU (C:aX m W k ns sc X):X.A.units+110<cLine:=by have:=C.room.un;lia
theorem aX.u1 (C:aX m W k ns sc X):X.A.units+1<cLine:=by have:=C.room.un;lia
theorem aX.aH (C:aX m W k ns sc X) {y:Str} (h:aH sc y=true):Gl X y:=by
 show X.env.scope.names.lookup y=_;rw[C.cC];exact Jq h
theorem aX.lc (C:aX m W k ns sc X) {scope:Scope}{N':List Str}{cl:List (Str×Addr)}{a:Addr} (nd:N'.Nodup):aX m W k N' (ft sc scope) (dw X scope N' cl a):=
 ⟨rfl,by rw[<- C.cC];rfl,nd,C.calm,C.room,C.en⟩
structure aY (X:Cx) (x:Expr) (w:DE×DT):Prop where
 e:PE X x w.1
 t:PT X x w.2
 s:ed x=true->∀(y:Str) (j:Nat) (py jA:Pos),fR X [j] [y]->swapsWith x (some (.Name y py)) jA.line X.env=pure true->PS X (.Assign [.Name y py] x jA) (fS w.1 (bM (.one j)))
theorem aY.val {d:DE} (h:PE X x d) (he:∀hY,isTrue x X.env hY=(do let v <- hY;standAt x.pos;holding [v] (truthy v)):=by exact λ_=>rfl) (hl:ed x=false:=by rfl):aY X x (vl d):=⟨h,Ga h he,λz=>by rw[hl]at z;cases z⟩
theorem aY.no {d:DE} (h:PE X x d) (hl:ed x=false:=by rfl):aY X x (d,cD):=⟨h,qr,λz=>by rw[hl]at z;cases z⟩
theorem aY.aq:aY X x (E.aq.w W m.ah):=by
 refine⟨kH,qr,λ_ _ _ _ _ _ _=>?_⟩;exact fun τ z e R I h=>h.elim
theorem aY.two {d:DE}{u:DT} (h:PE X x d) (h':PT X x u) (hl:ed x=false:=by rfl):aY X x (d,u):=⟨h,h',λz=>by rw[hl]at z;cases z⟩
theorem lQ {o:Option Nat}{f:Nat->E}{e:E} (h1:∀i,o=some i->aY X x ((f i).w W m.ah)) (h2:aY X x (e.w W m.ah)):aY X x ((jN o f e).w W m.ah):=by
 cases o with
 |none=>exact h2
 |some i=>exact h1 i rfl
theorem gg {f:Expr->E}:∀{es:List Expr},aQ es=true->(∀e∈es,PE X e ((f e).w W m.ah).1)->PA X es ((L.of (es.map f)).w W m.ah)
 |[],_,_=>by rw[Zp,L.of,L.w];exact gD
 |e::es,h,g=>by
  have h':(bA e && aQ es)=true:=h;rw[Yq]at h';rw[Yu,L.of,L.w];exact dm (g e Ys) (gg h'.2 λa ha=>g a (Yt _ ha)) (bz h'.1)
theorem zQ {f:Expr->E}{p:Pos}:∀{vs:List Expr},(∀e∈vs,aY X e ((f e).w W m.ah))->PE X (.BoolOp .And vs p) ((eO .and (vs.map f)).w W m.ah).1/\PW X (.BoolOp .And vs p) ((eO .and (vs.map f)).w W m.ah).2
 |[],_=>⟨kH,wG⟩
 |[a],g=>⟨wB (g a Ys).e,Ei (g a Ys).t⟩
 |a::b::r,g=>by
  have i:=zQ (p:=p) (vs:=b::r) λe he=>g e (Yt _ he);have e:eO .and ((a::b::r).map f)=.and (f a) (eO .and ((b::r).map f)):=rfl;rw[e,E.w];exact⟨Eo (g a Ys).e i.1,Ek (g a Ys).t i.2⟩
theorem zR {f:Expr->E}{p:Pos}:∀{vs:List Expr},(∀e∈vs,aY X e ((f e).w W m.ah))->PE X (.BoolOp .Or vs p) ((eO .or (vs.map f)).w W m.ah).1/\PW X (.BoolOp .Or vs p) ((eO .or (vs.map f)).w W m.ah).2
 |[],_=>⟨kH,wG⟩
 |[a],g=>⟨wB (g a Ys).e,Ej (g a Ys).t⟩
 |a::b::r,g=>by
  have i:=zR (p:=p) (vs:=b::r) λe he=>g e (Yt _ he);have e:eO .or ((a::b::r).map f)=.or (f a) (eO .or ((b::r).map f)):=rfl;rw[e,E.w];exact⟨Ep (g a Ys).e i.1,El (g a Ys).t i.2⟩
theorem zU {u:DT} (h:PW X x u):PT X x u:=fun τ z Q R I q k=>h _ τ z Q R I q k
theorem zW (C:aX m W k ns sc X) {y:Str}{p:Pos}:aY X (.Name y p) ((oL m ns sc y).w W m.ah):=by
 unfold oL;split
 ·rename_i ho;split
  ·rename_i hv;exact lQ (λi hi=>by rw[E.w];exact .val (m6 (by rw[C.hN];exact gc hi) (by rw[C.cC];exact Jp hv) (cV ho).1 (cV ho).2)) .aq
  ·split
   ·rename_i hg;refine lQ (λi hi=>?_) ?_
    ·obtain⟨u,h1,h2⟩:=C.en.gv i y (gc hi);rw[E.w];exact .val (wz (C.aH hg) h1 (cV ho).1 fun τ z I=>h2 z.F I.bs.b)
    ·have ty:∀{T:String},y∈iK->bootBuiltins y=some (.type T)->y≠"__name__"->aY X (.Name y p) ((E.ty T).w W m.ah):=λh1 h2 h3=>(by rw[E.w];exact .val (yH (C.aH hg) (C.en.bl y h1) h2 h3 (cV ho).1));unfold zJ;split
     ·rename_i e;subst e;exact ty (by decide) (by decide +kernel) (by decide)
     ·split
      ·rename_i e;subst e;exact ty (by decide) (by decide +kernel) (by decide)
      ·split
       ·rename_i e;subst e;exact ty (by decide) (by decide +kernel) (by decide)
       ·split
        ·rename_i e;subst e;exact ty (by decide) (by decide +kernel) (by decide)
        ·split
         ·rename_i e;subst e;exact ty (by decide) (by decide +kernel) (by decide)
         ·exact .aq
   ·exact .aq
 ·exact .aq
theorem Jv {c:Const}{kk:Nat}{p:Pos}:aY X (.Constant c kk p) ((sJ c).w W m.ah):=by
 unfold sJ;split
 ·rw[E.w];exact .val wy
 ·rw[E.w];exact .val Eh
 ·rw[E.w];exact .val Ef
 ·rw[E.w];exact .val Eg
 ·exact .aq
end
end N
end
section
set_option maxHeartbeats 1000000
namespace N
open PySem PySem.Spec PyProof.Rows L2
section
variable {m:Nm}{W:Wd}{k:Nat}{ns:List Str}{sc:Scope}{X:Cx}{x:Expr}
def Bi.nm:Bi->Str
 |.len=>"len" |.tuple=>"tuple" |.int=>"int" |.max=>"max" |.dict=>"dict" |.any=>"any" |.ox=>"isinstance" |.sorted=>"sorted"
def Mt.nm:Mt->Str
 |.append=>"append" |.pop=>"pop" |.extend=>"extend" |.get=>"get"
theorem Jw {y:Str}{b:Bi} (h:sD y=some b):y=b.nm:=by
 unfold sD at h
 repeat' split at h
 all_goals first |(cases h;assumption) |cases h
theorem Jx {y:Str}{b:Mt} (h:sE y=some b):y=b.nm:=by
 unfold sE at h
 repeat' split at h
 all_goals first |(cases h;assumption) |cases h
theorem Jy (C:aX m W k ns sc X) {e:Expr}{es:List Expr}{p pos:Pos}{tA:DA} (hA:PA X (e::es) tA) (hs:aQ (e::es)=true):∀b:Bi,aH sc b.nm=true->PE X (.Call (.Name b.nm p) (e::es) [] pos) (UU (zH b) tA):=by
 have h':(bA e && aQ es)=true:=hs;rw[Yq]at h';have U7:∀{y:Str}{id:String}{r:QN},CB X (.builtin id) r->aH sc y=true->y∈iK->bootBuiltins y=some (.builtin id)->y≠"__name__"->(y == ("__debug__" : Str))=false->PE X (.Call (.Name y p) (e::es) [] pos) (UU r tA):=
  λhc hg hb hv hn hd=>rj hc (C.aH hg) (C.en.bl _ hb) hv hA hn hd (bz h'.1) (dr h'.2)
 have VY:∀{y:Str}{T:String}{r:QN},CB X (.type T) r->aH sc y=true->y∈iK->bootBuiltins y=some (.type T)->y≠"__name__"->(y == ("__debug__" : Str))=false->PE X (.Call (.Name y p) (e::es) [] pos) (UU r tA):=
  λhc hg hb hv hn hd=>GB hc (C.aH hg) (C.en.bl _ hb) hv hA hn hd (bz h'.1) (dr h'.2)
 intro b hg;cases b with
 |len=>exact U7 GC hg (by decide) (by decide +kernel) (by decide) (by decide)
 |tuple=>exact VY GF hg (by decide) (by decide +kernel) (by decide) (by decide)
 |int=>exact VY GD hg (by decide) (by decide +kernel) (by decide) (by decide)
 |max=>exact U7 (GG C.calm) hg (by decide) (by decide +kernel) (by decide) (by decide)
 |dict=>exact VY (Hk C.calm) hg (by decide) (by decide +kernel) (by decide) (by decide)
 |any=>exact U7 (GI C.calm) hg (by decide) (by decide +kernel) (by decide) (by decide)
 |ox=>exact U7 HD hg (by decide) (by decide +kernel) (by decide) (by decide)
 |sorted=>exact U7 (HE C.calm) hg (by decide) (by decide +kernel) (by decide) (by decide)
theorem Jz {o:Expr}{es:List Expr}{q p:Pos}{to:DE}{tA:DA} (ho:PE X o to) (hA:PA X es tA) (h0:es=[]->tA=dJ) (hs:aQ es=true) (hl:es.length<29) (hb:PL.fW o=false) (cQ:(q.endLine == p.line)=true):∀b:Mt,PE X (.Call (.Attribute o b.nm q) es [] p) (k9 b.ty (zI b) to tA):=by
 have go:∀{T id:String}{y:Str}{r:QM},PlainAttrs T->Slot T y id->typeOf (.builtin id)=pure (.type "method_descriptor")->OM X id r->PE X (.Call (.Attribute o y q) es [] p) (k9 T r to tA):=λpa sl ty hm=>by
  cases es with
  |nil=>cases h0 rfl;exact GJ pa sl ty hm ho (PL.k4 hb) cQ
  |cons e es=>
   have h':(bA e && aQ es)=true:=hs;rw[Yq]at h';exact GK pa sl ty hm ho hA (PL.k4 hb) (xq hs hl) cQ (bz h'.1) (dr h'.2)
 intro b;cases b with
 |append=>exact go PySem.F.plainAttrs_list PySem.F.slot_list_append PySem.F.type_list_append GN
 |pop=>exact go PySem.F.plainAttrs_list PySem.F.slot_list_pop PySem.F.type_list_pop GO
 |extend=>exact go PySem.F.plainAttrs_list PySem.F.slot_list_extend PySem.F.type_list_extend Hl
 |get=>exact go PySem.F.plainAttrs_dict PySem.F.slot_dict_get PySem.F.type_dict_get GR
theorem JA (C:aX m W k ns sc X) {y:Str}{es:List Expr}{p pos:Pos}{f:Expr->E} (ho:dQ y=true) (hs:aQ es=true) (g:∀ e∈es,PE X e ((f e).w W m.ah).1) :
  aY X (.Call (.Name y p) es [] pos) ((sG m ns sc y (L.of (es.map f)) (!es.isEmpty)).w W m.ah):=by
 have hA:=gg hs g;unfold sG;split
 ·rename_i hg;refine lQ (λi hi=>?_) (lQ (λi hi=>?_) ?_)
  ·obtain⟨fa,fd,ps,g1,g2,g3,g4⟩:=C.en.fn i y (gc hi);rw[E.w];refine .val ?_;cases es with
   |nil=>exact Gf g1 C.room (C.aH hg) g2 g3 g4 fx fu (cV ho).1
   |cons e es=>
    have h':(bA e && aQ es)=true:=hs;rw[Yq]at h';exact xU g1 C.room (C.aH hg) g2 g3 g4 fx fu hA (cV ho).1 (bz h'.1) (dr h'.2)
  ·rw[E.w];refine .no ?_;cases hc:W.ci i with
   |none=>exact kH
   |some cs=>
    obtain⟨Ca,sp⟩:=cs;obtain⟨j,fa,fd,ps,g0,g1,g2,g3,g4⟩:=C.en.cl i y Ca sp (gc hi) hc;cases es with
    |nil=>exact Gs g1 g2 (C.room.mono g0) (C.aH hg) g3 g4 fx fu (cV ho).1
    |cons e es=>
     have h':(bA e && aQ es)=true:=hs;rw[Yq]at h';exact Gr g1 g2 (C.room.mono g0) (C.aH hg) g3 g4 fx fu hA (cV ho).1 (bz h'.1) (dr h'.2)
  ·split
   ·rename_i b hb;split
    ·cases es with
     |nil=>contradiction
     |cons e es=>
      cases Jw hb;rw[E.w];exact .val (Jy C hA hs b hg)
    ·exact .aq
   ·exact .aq
 ·exact .aq
theorem zX {o : Expr} {es : List Expr} {y : Str} {q pos : Pos} {env : Env} (hb : PL.fW o = false) (hs : aQ es = true) (hl : es.length < 29) (cQ : (q.endLine == pos.line) = true) : eval (.Call (.Attribute o y q) es [] pos) env = (do
      let ov <- eval o env
      standAt q.atName
      let (f,first) <- holding [ov] (getMethod ov y (do return (<- importBound o env).getD true))
      callWith pos f first (backTo pos (starEach es env)) (backToKw pos (keywordEach [] env))):=by
  have e1:eval (.Call (.Attribute o y q) es [] pos) env=(do
    let ov <- attributeBase o y env (eval o env)
    standAt q.atName
    methodCall o y q pos env ov (es.length+([]:List Keyword).length) (backTo pos (starEach es env)) (backToKw pos (keywordEach [] env))):=rfl
  rw[e1,PL.k4 hb];have e2:methodCallForm (es.length+([]:List Keyword).length) (backTo pos (starEach es env)) (backToKw pos (keywordEach [] env))=true:=xq (env:=env) (cpos:=pos) hs hl;unfold methodCall;rw[e2];unfold calleeOf methodCallPos;rw[cQ];rfl
theorem JB (C:aX m W k ns sc X) {y:Str}{o:Expr}{UX:E}{es:List Expr}{q pos:Pos}{f:Expr->E} (ho:PE X o (UX.w W m.ah).1) (hb:PL.fW o=false) (cQ:(q.endLine == pos.line)=true) (hl:es.length<29) (hs:aQ es=true) (g:∀ e∈es,PE X e ((f e).w W m.ah).1) :
  aY X (.Call (.Attribute o y q) es [] pos) ((sH m y UX (L.of (es.map f))).w W m.ah):=by
 have hA:=gg hs g;unfold sH;refine lQ (λi hi=>?_) ?_
 ·rw[E.w];refine .val ?_;cases hc:W.mt i with
  |none=>exact kH
  |some cs=>
   obtain⟨Ca,sp⟩:=cs;have hy:=gc hi;obtain⟨fa,fd,ps,g1,g2,g3,g4⟩:=C.en.mt i y Ca sp hy hc;have e:m.ah.getD i ""=y:=(by rw[YN,hy];rfl);show PE X _ (k8 Ca (m.ah.getD i "") sp [] X0 _ _);rw[e];cases es with
   |nil=>exact Gq ho g1 g2 g3 C.room g4 fx fu (zX hb hs hl cQ)
   |cons e es=>
    have h':(bA e && aQ es)=true:=hs;rw[Yq]at h';exact Gm ho g1 g2 g3 C.room g4 fx fu hA (bz h'.1) (dr h'.2) (zX hb hs hl cQ)
 ·split
  ·rename_i b oi;cases Jx oi;rw[E.w];exact .val (Jz ho hA (λz=>by subst z;rfl) hs hl hb cQ b)
  ·exact .aq
end
end N
end
section
set_option maxHeartbeats 2000000
namespace N
open PySem PySem.Spec PyProof.Rows L2
section
variable {m:Nm}{W:Wd}{k:Nat}{ns:List Str}{sc:Scope}{X:Cx}{x:Expr}
theorem JC {e:Expr}{q:Str×Pos} (h:lM e=some q):e=.Name q.1 q.2:=by
 cases e
 case Name x p=>cases h;rfl
 all_goals cases h
theorem zY:∀{es:List Expr}{l:List (Str×Pos)},gV es=some l->es=l.map λq=>.Name q.1 q.2
 |[],l,h=>by cases h;rfl
 |e::r,l,h=>by
  obtain⟨q,h1,h2⟩:=Option.bind_eq_some_iff.mp (show (lM e).bind _=some l from h);obtain⟨l',h3,rfl⟩:=Option.map_eq_some_iff.mp h2;rw[Yu,<- zY h3,JC h1]
theorem sV (C:aX m W k ns sc X) {ok:Str->Bool} (hok:∀y,ok y=true->L2.hU X.env.scope y/\(X.fn y=true\/X.env.scope.names.lookup y=some .local)) {e:Expr}{g:G} (h:gW ns ok e=some g):PG X e (bM g):=by
 have nd:X.N.Nodup:=by rw[C.hN];exact C.nd
 unfold gW at h;split at h
 ·rename_i x p;split at h
  ·rename_i ho;obtain⟨i,h1,rfl⟩:=Option.map_eq_some_iff.mp h;refine wH ⟨nd,λVC y hy=>?_⟩;cases List.mem_singleton.mp hy;exact⟨by rw[C.hN];exact gc h1,hok x ho⟩
  ·cases h
 ·rename_i es kk p;cases hn:gV es with
  |none=>rw[hn]at h;cases h
  |some l=>
   rw[hn]at h;have h:sF ns ok l=some g:=h;unfold sF at h;split at h
   ·rename_i ha;cases h;rw[zY hn];refine EC C.calm ⟨nd,λi y hy=>?_⟩ (by rw[Ym]);rw[List.zip_map',List.mem_map]at hy;obtain⟨q,hq,e⟩:=hy;cases e;have hb:=List.all_eq_true.mp ha q hq;rw[Yq]at hb;obtain⟨i,hi⟩:=Option.isSome_iff_exists.mp hb.2;rw[hi];exact⟨by rw[C.hN];exact gc hi,hok q.1 hb.1⟩
   ·cases h
 ·cases h
theorem iw.of {scope:Scope}{Nt:List Str}{fr:List (Str×Nat)} (h1:X.env.scope=sc) (h2:X.N=ns) (h:nK sc ns scope fr=true):iw X scope Nt fr:=by
 unfold nK at h;simp only[Yq,List.all_eq_true,decide_eq_true_eq]at h;obtain⟨⟨⟨⟨UA,Uz⟩,UB⟩,UC⟩,UO⟩:=h;refine⟨eq_of_beq UA,Uz,UB,λy hy hf=>?_,λp hp=>?_⟩
 ·show X.env.scope.names.lookup y.1=some .cell;rw[h1];exact UC y hy hf
 ·rw[h2];exact UO p hp
theorem JD {e:Expr} (h:oK e=true):∃a b c,e=.Tuple a b c:=by cases e <;> first |exact⟨_,_,_,rfl⟩ |cases h
theorem sW {n:Nat} (C:aX m W k ns sc X) (ih:∀x,aY X x ((aJ m n ns sc x).w W m.ah)) {tg e:Expr}:PI X tg e ((bN sc (aJ m n ns sc) tg e).w W m.ah):=by
 have sq:PI X tg e ((I.seq (aJ m n ns sc e)).w W m.ah):=by rw[I.w];exact IV (ih e).e
 have bl:∀y∈iK,X.G.mg y=none:=C.en.bl;have s1:∀{a:Expr},bU a=true->starEach [a] X.env=[(false,eval a X.env)]:=λh=>by rw[bz (oO h)];rfl
 unfold bN;split
 ·rename_i f p a q;split
  ·rename_i h;rw[Yq]at h;split
   ·rename_i e;subst e;rw[I.w];exact EL (C.aH h.1) (bl _ (by decide)) (ih a).e (s1 h.2)
   ·split
    ·rename_i e;subst e;rw[I.w];exact E1 (C.aH h.1) (bl _ (by decide)) (ih a).e (s1 h.2)
    ·exact sq
  ·exact sq
 ·rename_i f p a b q;split
  ·rename_i h;rw[Yq,Yq]at h;obtain⟨⟨h1,h2⟩,h3⟩:=h;have s2:starEach [a,b] X.env=[(false,eval a X.env),(false,eval b X.env)]:=(by rw[bz (oO h2),s1 h3]);split
   ·rename_i e;obtain⟨rfl,ht⟩:=e;obtain⟨_,_,_,rfl⟩:=JD ht;rw[I.w];exact EX (C.aH h1) (bl _ (by decide)) (ih a).e (ih b).e s2 (s1 h3)
   ·exact sq
  ·exact sq
 ·exact sq
theorem zZ {n:Nat} (C:aX m W k ns sc X) (ih:∀ x,aY X x ((aJ m n ns sc x).w W m.ah)) {tg iter a1:Expr}{a2:List Expr}{scope:Scope}{pos:Pos}{g:G}{UP Wx:E} (hg:gW (dR ns scope tg) (oJ (ft sc scope)) tg=some g)
  (h1:nK sc ns scope (iI ns scope.names)=true) (h2:g.lt ((iH tg).map (·.1)).length=true) (h3:(dR ns scope tg).Nodup) (h4:bU iter=true)
  (hc:∀{X':Cx},aX m W k (dR ns scope tg) (ft sc scope) X'->PF X' a2 (VX UP (UP.w W m.ah).2)) (he:∀{X':Cx},aX m W k (dR ns scope tg) (ft sc scope) X'->PE X' a1 (Wx.w W m.ah).1) :
  aY X (.ListComp a1 [⟨tg,iter,a2,0⟩] scope pos) ((E.lc ((iH tg).map (·.1)).length ((iI ns scope.names).map (·.2)) g (bN sc (aJ m n ns sc) tg iter) UP Wx).w W m.ah):=by
 have L1:iw X scope ((iH tg).map (·.1)) (iI ns scope.names):=.of C.cC C.hN h1;have C':∀cl a,aX m W k (dR ns scope tg) (ft sc scope) (dw X scope (dR ns scope tg) cl a):=λcl a=>C.lc h3;have n8:∀cl a,PG (dw X scope (dR ns scope tg) cl a) tg (bM g):=λcl a=>sV (C' cl a) (λy hy=>by
  have hl:=Jr hy;rw[(C' cl a).cC];exact⟨.inl hl,.inr hl⟩) hg
 rw[E.w,<- Jk];exact⟨HA L1 C.calm (sW C ih) n8 h2 (λcl a=>hc (C' cl a)) (λcl a=>he (C' cl a)) (sT h4),qr,
  λ_ y j py jA hN lD=>HB L1 C.calm hN (sW C ih) n8 h2 (λcl a=>hc (C' cl a)) (λcl a=>he (C' cl a)) (sT h4) lD⟩
theorem z9 {f:Expr->E}{pos:Pos}:∀ {ks:List (Option Expr)}{vs:List Expr},ks.all (·.isSome)=true->ks.length=vs.length->(∀ e,PE X e ((f e).w W m.ah).1) ->
  PP X pos ks vs (((L.of (ks.map λk=>match k with |some k=>f k |none=>.aq)).wl W m.ah).zip ((L.of (vs.map f)).wl W m.ah))
 |[],[],_,_,_=>by simp only[Zp,L.of,L.wl,List.zip_nil_left];exact Hd
 |[],v::vs,_,h,_=>by cases h
 |none::ks,vs,h,_,_=>by cases h
 |some k::ks,[],_,h,_=>by cases h
 |some k::ks,v::vs,h,hl,g=>by
  simp only[Yu,L.of,L.wl,Zo];exact He (g k) (g v) (z9 (by simpa using h) (by simpa using hl) g)
end
end N
end
section
namespace N
open PySem PySem.Spec PyProof.Rows L2
section
variable {m:Nm}{W:Wd}{k:Nat}
theorem Aa {X:Cx}{o:Option Expr}{f:Expr->E} (h:oN o f=true) (g:∀e,PE X e ((f e).w W m.ah).1):PO X o (oW (oM o f) ((oM o f).w W m.ah).1):=by
 cases o with
 |none=>exact Gu
 |some x=>
  have h:jM (f x)=false:=by simpa [oN] using h
  show PO X (some x) (oW (f x) ((f x).w W m.ah).1);unfold oW;rw[h];exact Gv (g x)
theorem JE {a b:Expr}{q pos:Pos}{es:List Expr}{env:Env}:eval (.Call (.Subscript a b q) es [] pos) env=(do callWith pos (<- eval (.Subscript a b q) env) [] (backTo pos (starEach es env)) (backToKw pos (keywordEach [] env))):=rfl
theorem JF {X:Cx}{fl:Addr->Str->Prop}{f:Str} (hf:∀C,fl C f->cP X.G.K C/\d5 X.G.K C f) {x:D}{M:Mp}{q:QK} (h:oG fl f x M q):qW X.G.K f x M q:=by
 unfold oG cq at h;unfold qW cq;split at h
 ·obtain⟨C,dx,fs,e,d,h1,h2⟩:=h;exact⟨C,dx,fs,e,d,hf C h1,h2⟩
 ·exact h.elim
theorem JG {X:Cx}{fl:Addr->Str->Prop}{f:Str}{e:Expr}{to:DE}{pos:Pos} (hf:∀C,fl C f->cP X.G.K C/\d5 X.G.K C f) (he:PE X e to) (hb:attributeBase e f X.env (eval e X.env)=eval e X.env):PE X (.Attribute e f pos) (ji (oG fl f) to):=fun τ z Q R I h k=>
 FD hb (he τ z _ _ I h λd z1 u l1 I1 r1 q1=>Gj τ z1 Q R d u I1 r1 (JF hf q1) λd z2 u l2=>k d z2 u (l1.tr l2))
theorem JH {sc:Scope}{x:Str}{es:List Expr}{a:Expr} (h:sL sc x es=some a):∃p q,x="sorted"/\es=[.Call (.Name "set" p) [a] [] q]/\aH sc "sorted"=true/\aH sc "set"=true/\bU a=true:=by
 unfold sL at h;split at h
 ·rename_i g p b q;split at h
  ·rename_i c;obtain⟨rfl,rfl,h1,h2,h3⟩:=c;cases h;exact⟨p,q,rfl,rfl,h1,h2,h3⟩
  ·cases h
 ·cases h
theorem JI {sc:Scope}{x:Str}{es:List Expr}{a:Expr} (h:sM sc x es=some a):∃p q,x="list"/\es=[.Call (.Name "enumerate" p) [a] [] q]/\aH sc "list"=true/\aH sc "enumerate"=true/\bU a=true:=by
 unfold sM at h;split at h
 ·rename_i g p b q;split at h
  ·rename_i c;obtain⟨rfl,rfl,h1,h2,h3⟩:=c;cases h;exact⟨p,q,rfl,rfl,h1,h2,h3⟩
  ·cases h
 ·cases h
theorem JJ {sc:Scope}{x:Str}{es:List Expr}{a:Expr} (h:sN sc x es=some a):∃p q,x="sorted"/\es=[.Call (.Attribute a "items" q) [] [] p]/\aH sc "sorted"=true/\PL.fW a=false/\(q.endLine == p.line)=true:=by
 unfold sN at h;split at h
 ·rename_i o y q p;split at h
  ·rename_i c;obtain⟨rfl,rfl,h1,h2,h3⟩:=c;cases h;exact⟨p,q,rfl,rfl,h1,h2,h3⟩
  ·cases h
 ·cases h
section
variable {ns:List Str}{sc:Scope}{X:Cx}{f:Expr->E}
theorem JK (ih:∀x,aY X x ((f x).w W m.ah)) {a b:Expr}{pos:Pos}:aY X (.Subscript a b pos) ((sP f a b).w W m.ah):=by
 unfold sP;split
 ·rw[E.w];exact .no (Gz (ih _).e λ_ _=>by with_unfolding_all rfl)
 ·split
  ·rename_i h;rw[Yq]at h;rw[E.w];exact .no (Gy (ih _).e (Aa h.1 λe=>(ih e).e) (Aa h.2 λe=>(ih e).e) λ_ _=>by with_unfolding_all rfl)
  ·exact .aq
 ·split
  ·rename_i h;rw[E.w];exact .val (Gb (ih _).e (ih _).e (Js h))
  ·exact .aq
theorem JL (C:aX m W k ns sc X) (ih:∀x,aY X x ((f x).w W m.ah)) {a:Expr}{os:List CmpOp}{bs:List Expr}{pos:Pos}:aY X (.Compare a os bs pos) ((sQ f a os bs).w W m.ah):=by
 unfold sQ;split
 ·split
  ·rename_i h;rw[E.w];exact .two (F3 (xM C.sU _) (ih _).e (ih _).e (zP h)) (F4 (xM C.sU _) (ih _).e (ih _).e (zP h))
  ·exact .aq
 ·exact .aq
theorem JM (C:aX m W k ns sc X) (ih:∀x,aY X x ((f x).w W m.ah)) {g:Expr}{es:List Expr}{pos:Pos}:aY X (.Call g es [] pos) ((iJ m ns sc f es pos g).w W m.ah):=by
 have hA:aQ es=true->PA X es ((L.of (es.map f)).w W m.ah):=λh=>gg h λe _=>(ih e).e;unfold iJ;split
 ·split
  ·rename_i a ha;obtain⟨p,q,rfl,rfl,h1,h2,h3⟩:=JH ha;rw[E.w];exact .no (Ii C.calm (C.aH h1) (C.en.bl _ (by decide)) (C.aH h2) (C.en.bl _ (by decide)) (ih a).e (oO h3))
  ·split
   ·rename_i a ha;obtain⟨p,q,rfl,rfl,h1,h2,h3⟩:=JI ha;rw[E.w];exact .no (IK C.calm (C.aH h1) (C.en.bl _ (by decide)) (C.aH h2) (C.en.bl _ (by decide)) (ih a).e (oO h3))
   split
   ·rename_i a ha;obtain⟨p,q,rfl,rfl,h1,h2,h3⟩:=JJ ha;rw[E.w];exact .no (Jc C.calm C.sU (C.aH h1) (C.en.bl _ (by decide)) (ih a).e (PL.k4 h2) h3)
   split
   ·rename_i h;rw[Yq]at h;split
    ·split
     ·exact .aq
     ·rename_i hn;rw[E.w];cases es with
      |nil=>exact absurd rfl hn
      |cons e es=>
       have h':(bA e && aQ es)=true:=h.2;rw[Yq]at h';exact .val (yI C.en.ca C.room fu (zW C).e (hA h.2) (bz h'.1) (dr h'.2) rfl)
    ·exact JA C h.1 h.2 λe _=>(ih e).e
   ·exact .aq
 ·split
  ·rename_i h;rw[Yq,Yq,Yq]at h;obtain⟨⟨⟨h1,h2⟩,h3⟩,h4⟩:=h;exact JB C (ih _).e (by simpa using h2) h1 (of_decide_eq_true h4) h3 λe _=>(ih e).e
  ·exact .aq
 ·split
  ·rename_i h;rw[Yq]at h;rw[E.w];cases es with
   |nil=>exact absurd h.2 (by decide)
   |cons e es=>
    have h':(bA e && aQ es)=true:=h.1;rw[Yq]at h';exact .val (yI C.en.ca C.room fu (ih _).e (hA h.1) (bz h'.1) (dr h'.2) JE)
  ·exact .aq
 ·exact .aq
theorem JN (ih:∀x,aY X x ((f x).w W m.ah)) {ks:List (Option Expr)}{vs:List Expr}{pos:Pos}:aY X (.Dict ks vs pos) ((sS f ks vs).w W m.ah):=by
 unfold sS;split
 ·rename_i h;rw[Yq,List.isEmpty_iff,List.isEmpty_iff]at h;obtain⟨rfl,rfl⟩:=h;rw[E.w];exact .no Hc
 ·split
  ·rename_i h;rw[Yq,Yq,Yq]at h;obtain⟨⟨⟨h1,h2⟩,h3⟩,h4⟩:=h;rw[E.w];exact .no (Hf (z9 h1 (of_decide_eq_true h2) λe=>(ih e).e) h1 (of_decide_eq_true h2) (by rintro rfl;cases h4) (of_decide_eq_true h3))
  ·exact .aq
end
theorem JO {n:Nat}{ns:List Str}{sc:Scope}{X:Cx} (C:aX m W k ns sc X) (ih:∀{ns:List Str}{sc:Scope}{X:Cx},aX m W k ns sc X->∀x,aY X x ((aJ m n ns sc x).w W m.ah)) {a1:Expr}{gs:List Comprehension}{scope:Scope}{pos:Pos}:aY X (.ListComp a1 gs scope pos) ((sR ns sc (aJ m n) a1 scope gs).w W m.ah):=by
 unfold sR;split
 ·unfold zN;split
  ·rename_i g hg;split
   ·rename_i h;rw[Yq,Yq,Yq]at h;obtain⟨⟨⟨h1,h2⟩,h3⟩,h4⟩:=h;split
    ·exact zZ (n:=n) C (ih C) hg h1 h2 (of_decide_eq_true h3) h4 (λ_=>Hn) λC'=>(ih C' _).e
    ·split
     ·exact .aq
     ·rename_i hn;exact zZ (n:=n) C (ih C) hg h1 h2 (of_decide_eq_true h3) h4 (λC'=>by unfold VX;rw[show jM _=false by simpa using hn];exact Ho (ih C' _).t) λC'=>(ih C' _).e
    ·exact .aq
   ·exact .aq
  ·exact .aq
 ·exact .aq
theorem eP:∀(n:Nat) {ns:List Str}{sc:Scope}{X:Cx},aX m W k ns sc X->∀x,aY X x ((aJ m n ns sc x).w W m.ah)
 | 0,ns,sc,X,C,x=>.aq
 |n+1,ns,sc,X,C,x=>by
  have ih:∀x,aY X x ((aJ m n ns sc x).w W m.ah):=eP n C;have hA:∀{es:List Expr},aQ es=true->PA X es ((L.of (es.map (aJ m n ns sc))).w W m.ah):=λh=>gg h λe _=>(ih e).e;cases x
  case Name y p=>exact zW C
  case Constant c kk p=>exact Jv
  case Tuple es kk p=>
   show aY X _ ((if aQ es then E.tup (L.of (es.map (aJ m n ns sc))) else .aq).w W m.ah)
   split
   ·rename_i h;rw[E.w];exact .val (Et (hA h))
   ·exact .aq
  case List es p=>
   show aY X _ ((if aQ es then E.lst (L.of (es.map (aJ m n ns sc))) else .aq).w W m.ah)
   split
   ·rename_i h;rw[E.w];exact .val (qq (hA h))
   ·exact .aq
  case BinOp a o b p=>exact .val (wA (xA _) (ih _).e (ih _).e)
  case Compare a os bs p=>exact JL C ih
  case UnaryOp o a p=>
   cases o
   case USub=>exact .val (x8 x9 (ih _).e)
   case Not=>exact .two (Er (ih _).e) (Em (ih _).t)
   all_goals exact .aq
  case BoolOp o vs p=>
   cases o
   case And=>obtain⟨h1,h2⟩:=zQ (p:=p) λe _=>ih e;exact .two h1 (zU h2)
   case Or=>obtain⟨h1,h2⟩:=zR (p:=p) λe _=>ih e;exact .two h1 (zU h2)
  case IfExp c a b p=>exact .no (Es (ih _).t (ih _).e (ih _).e)
  case Subscript a b p=>exact JK ih
  case Call g es sK p=>
   cases sK with
   |nil=>exact JM C ih
   |cons _ _=>exact .aq
  case Attribute o f p=>
   show aY X _ ((if !PL.fW o then E.fld (aJ m n ns sc o) f else .aq).w W m.ah)
   split
   ·rename_i h;rw[E.w];exact .val (JG (λC' z=>C.en.fl C' _ z) (ih _).e (PL.k4 (by simpa using h)))
   ·exact .aq
  case ListComp a1 gs scope p=>exact JO C (eP n)
  case Dict ks vs p=>exact JN ih
  all_goals exact .aq
end
noncomputable def B.of:List S->B
 |[]=>.nil
 |s::r=>.cons s (B.of r)
noncomputable def lR (o:Option G) (f:G->S):S:=match o with
 |some g=>f g
 |none=>.dead
noncomputable def sX (ns:List Str) (sc:Scope) (f:Expr->E) (v:Expr):List Expr->S
 |[.Name x p]=>lR (gW ns (loc sc) (.Name x p)) λg=>.set g (f v)
 |[.Tuple es kk p]=>if !oK v && !ed v then lR (gW ns (loc sc) (.Tuple es kk p)) λg=>.set g (f v) else .dead
 |[.Subscript o i _]=>if bU i && !ed v then .put (f o) (f i) (f v) else .dead
 |[.Attribute o a _]=>if !ed v then .oF (f o) a (f v) else .dead
 |_=>.dead
noncomputable def Ab (s:S):List Stmt->S
 |[]=>s
 |_=>.dead
noncomputable def JP (f:Expr->E):Option Expr->S
 |some v=>.ret (f v)
 |none=>.dead
noncomputable def sY (b:B) (hs:List ExceptHandler) (e f:List Stmt):S:=if hs.isEmpty || !e.isEmpty || !f.isEmpty then .dead else .cond (.c (.bl true)) b .nil
variable (m:Nm) in
noncomputable def cE:Nat->List Str->Scope->Stmt->S
 | 0,_,_,_=>.dead
 |n+1,ns,sc,s=>match s with
  |.Assign ts v _=>sX ns sc (aJ m n ns sc) v ts
  |.Return o _=>JP (aJ m n ns sc) o
  |.Expr v _=>if !ed v then .ex (aJ m n ns sc v) else .dead
  |.If c a b _=>.cond (aJ m n ns sc c) (B.of (a.map (cE n ns sc))) (B.of (b.map (cE n ns sc)))
  |.For t i b e _=>Ab (if bU i then lR (gW ns (loc sc) t) λg=>.loop g (bN sc (aJ m n ns sc) t i) (B.of (b.map (cE n ns sc))) else .dead) e
  |.While c b e _=>Ab (.jL (aJ m n ns sc c) (B.of (b.map (cE n ns sc)))) e
  |.Try b hs e f _=>sY (B.of (b.map (cE n ns sc))) hs e f
  |.Pass _=>.pass
  |.Break _=>.brk
  |.Continue _=>.cnt
  |_=>.dead
section
variable {m:Nm}{W:Wd}{k:Nat}{ns:List Str}{sc:Scope}{X:Cx}
theorem sZ {st:Stmt}{o:Option G}{f:G->S} (h:∀g,o=some g->PS X st ((f g).w W m.ah)):PS X st ((lR o f).w W m.ah):=by
 cases o with
 |none=>exact dK
 |some g=>exact h g rfl
theorem gh {f:Stmt->S} (g:∀s,PS X s ((f s).w W m.ah)):∀ss:List Stmt,bR X ss ((B.of (ss.map f)).w W m.ah)
 |[]=>wC
 |[s]=>jj (g s)
 |s::t::r=>gE (g s) (gh g (t::r))
theorem JQ {X:Cx}{fl:Addr->Str->Prop}{f:Str} (hf:∀C,fl C f->cP X.G.K C/\d5 X.G.K C f) {o d:D}{M:Mp}{q:Mp->Prop} (h:cq o M λa C dx fs=>fl C f/\fs.length<1000/\q (up M a (.ins C dx (fk f d fs)))):qX X.G.K f o d M q:=by
 unfold cq at h;unfold qX cq;split at h
 ·obtain⟨C,dx,fs,e,h1,h2⟩:=h;exact⟨C,dx,fs,e,hf C h1,h2⟩
 ·exact h.elim
theorem JR {fl:Addr->Str->Prop}{o value:Expr}{f:Str}{to tv:DE}{pos qZ:Pos} (hf:∀C,fl C f->cP X.G.K C/\d5 X.G.K C f) (ho:PE X o to) (hv:PE X value tv) (hs:swapsWith value (some (.Attribute o f qZ)) pos.line X.env=pure false):PS X (.Assign [.Attribute o f qZ] value pos) (zG fl f to tv):=fun τ z e R I h k=>
 plainObj_wpAny_Assign_Attribute (hv τ z _ _ I h λd z1 u l1 I1 r1 q1=>ho τ z1 _ _ I1 q1 λod z2 ov l2 I2 r2 q2=>Gk I2 r2 (r1.up l2.d) (JQ hf q2) λz3 e3 I3 q3=>k.nx τ z3 (by rw[e3];exact l1.tr l2) I3 q3) hs
theorem JS (C:aX m W k ns sc X) (hf:∀y,loc sc y=true->X.fn y=true\/X.env.scope.names.lookup y=some .local) {f:Expr->E} (ih:∀x,aY X x ((f x).w W m.ah)) {ts:List Expr}{v:Expr}{q:Pos}:PS X (.Assign ts v q) ((sX ns sc f v ts).w W m.ah):=by
 have hok:∀y,loc sc y=true->L2.hU X.env.scope y/\(X.fn y=true\/X.env.scope.names.lookup y=some .local):=λy hy=>⟨by rw[C.cC];exact lO hy,hf y hy⟩;have nd:X.N.Nodup:=by rw[C.hN];exact C.nd
 unfold sX;split
 ·rename_i x p;refine sZ λg hg=>?_;rw[S.w];have hg:(if loc sc x then (cU x ns 0).map G.one else none)=some g:=hg
  split at hg
  ·rename_i hl;obtain⟨i,h1,rfl⟩:=Option.map_eq_some_iff.mp hg;have hN:fR X [i] [x]:=⟨nd,λVC y hy=>by
    cases List.mem_singleton.mp hy;exact⟨by rw[C.hN];exact gc h1,hok x hl⟩⟩
   cases hc:ed v with
   |false=>exact kI hN (ih v).e (jO hc)
   |true=>
    have key:∃b:Bool,swapsWith v (some (.Name x p)) q.line X.env=pure b:=by
     cases v <;> first |exact⟨_,rfl⟩ |cases hc
    obtain⟨b,hb⟩:=key;cases b with
    |false=>exact kI hN (ih v).e hb
    |true=>exact (ih v).s hc x i p q hN hb
  ·cases hg
 ·split
  ·rename_i es kk p h;rw[Yq]at h;refine sZ λg hg=>?_;rw[S.w];exact wJ (ih v).e (sV C hok hg) (show swapsWith v (some (.Tuple es kk p)) q.line X.env=pure false from jO (by simpa using h.2)) (Ju (by simpa using h.1)) rfl
  ·exact dK
 ·split
  ·rename_i o i p h;rw[Yq]at h;rw[S.w];exact wJ (ih v).e (ED (ih o).e (ih i).e (Gd C.u1) (Jt h.1)) (show swapsWith v (some (.Subscript o i p)) q.line X.env=pure false from jO (by simpa using h.2)) rfl rfl
  ·exact dK
 ·split
  ·rename_i o a p h;rw[S.w];exact JR (λC' z=>C.en.fl C' _ z) (ih o).e (ih v).e (jO (by simpa using h))
  ·exact dK
 ·exact dK
noncomputable def Cx.qt (X:Cx):Cx:={ X with x:=λ_ _ _=>False }
theorem aa.qt {τ:St} {z:Z} (I:aa X τ z):aa X.qt τ z:=⟨⟨I.ok.mod,I.ok.kind,I.ok.cw,I.ok.gz,I.ok.inj,I.ok.has,I.ok.hd,I.ok.frames,I.ok.stk,λ_ _ _ h=>h.elim⟩,I.bs,I.os,I.bare,I.bx,I.loc,I.cell,I.free,I.hok,I.len,I.f0⟩
theorem aa.oP {τ:St} {z:Z} (ok:X.Ok) (I:aa X.qt τ z):aa X τ z:=⟨ok,I.bs,I.os,I.bare,I.bx,I.loc,I.cell,I.free,I.hok,I.len,I.f0⟩
theorem aX.qt (C:aX m W k ns sc X):aX m W k ns sc X.qt:=⟨C.hN,C.cC,C.nd,C.calm,C.room,C.en⟩
theorem JT {body:List Stmt}{h₀:ExceptHandler}{hs:List ExceptHandler}{t:DS}{pos:Pos} (hb:bR X.qt body t):PS X (.Try body (h₀::hs) [] [] pos) t:=fun τ z e R I h k=>
 wpAny_Try_except (Zm (hb τ z e (λf s=>match f with |.next=>N.W X (execs [] X.env) R s |f=>R f s) I.qt h ⟨fun τ1 z1 l I1 q=>aan (k.nx τ1 z1 l (I1.oP I.ok) q),λd τ1 z1 u l I1=>k.rt d τ1 z1 u l (I1.oP I.ok),fun τ1 z1 l I1=>k.bk τ1 z1 l (I1.oP I.ok),fun τ1 z1 l I1=>k.ct τ1 z1 l (I1.oP I.ok)⟩) (λ_ _ h=>h) λ_ _ h=>(h.no λ_ _ _ h=>h).elim)
theorem JU {body:List Stmt}{hs:List ExceptHandler}{e f:List Stmt}{b:B}{pos:Pos} (hb:bR X.qt body (b.w W m.ah)):PS X (.Try body hs e f pos) ((sY b hs e f).w W m.ah):=by
 unfold sY;split
 ·exact dK
 ·rename_i c;cases hs with
  |nil=>exact absurd rfl c
  |cons h₀ hs=>cases e with
   |cons _ _=>exact absurd (by simp) c
   |nil=>cases f with
    |cons _ _=>exact absurd (by simp) c
    |nil=>
     intro τ z en R I h k;exact JT hb τ z en R I (by rw[S.w,E.w]at h;exact h) k
theorem s9:∀(n:Nat) {X:Cx},aX m W k ns sc X->(∀y,loc sc y=true->X.fn y=true\/X.env.scope.names.lookup y=some .local)->∀s:Stmt,PS X s ((cE m n ns sc s).w W m.ah)
 | 0,X,C,hf,s=>dK
 |n+1,X,C,hf,s=>by
  have ih:∀x,aY X x ((aJ m n ns sc x).w W m.ah):=eP n C;have oQ:∀s,PS X s ((cE m n ns sc s).w W m.ah):=s9 n C hf;have JV:∀s,PS X.qt s ((cE m n ns sc s).w W m.ah):=s9 n C.qt hf;cases s
  case Assign ts v q=>exact JS C hf ih
  case Return o p=>
   cases o with
   |none=>exact dK
   |some v=>exact Ez (ih _).e
  case Expr v p=>
   show PS X _ ((if !ed v then S.ex (aJ m n ns sc v) else .dead).w W m.ah)
   split
   ·rename_i h;rw[S.w];exact Ey (ih _).e (jO (by simpa using h))
   ·exact dK
  case If c a b p=>exact wF (ih _).t (gh oQ _) (gh oQ _)
  case For t i b e p=>
   cases e with
   |cons _ _=>exact dK
   |nil=>
    show PS X _ ((if bU i then lR (gW ns (loc sc) t) λg=>S.loop g (bN sc (aJ m n ns sc) t i) (B.of (b.map (cE m n ns sc))) else .dead).w W m.ah)
    split
    ·rename_i h;refine sZ λg hg=>?_;rw[S.w];exact IS (EF C.calm (sW C ih) (sV C (λy hy=>⟨by rw[C.cC];exact lO hy,hf y hy⟩) hg) (gh oQ _) (sT h))
    ·exact dK
  case While c b e p=>
   cases e with
   |cons _ _=>exact dK
   |nil=>exact EE (ih _).t (gh oQ _)
  case Try b hs e f p=>exact JU (gh JV _)
  case Pass p=>exact Eu
  case Break p=>exact Ew
  case Continue p=>exact Ex
  all_goals exact dK
theorem tf (C:aX m W k ns sc X) (hf:∀y,loc sc y=true->X.fn y=true\/X.env.scope.names.lookup y=some .local) (n:Nat) (s:Stmt):PS X s ((cE m n ns sc s).w W m.ah):=s9 n C hf s
end
noncomputable def aC (m:Nm) (n:Nat) (ns:List Str) (sc:Scope) (ss:List Stmt):B:=B.of (ss.map (cE m n ns sc))
end N
end
section
set_option maxHeartbeats 1000000
namespace N
open PySem PySem.Spec PyProof.Rows L2
def aZ (Q:QK):QK:=λd M=>∃K e,cg K M/\Fr M K d e/\Q e K
section
variable {G:Gx}{F:Fz}{M K:Mp}{h:Heap}
theorem CR.ret {z:Z}{Q:QK}{E:XQ}{r:Result}{s:Shared} (h:CR G z (aZ Q) E r s):CR G z Q E r s:=by
 cases r with
 |error e=>exact h
 |ok fl=>
  cases fl with
  |ret u=>
   obtain⟨d,z',l,rd,Km,e,sb,f,q⟩:=h;exact⟨e,⟨c6 z'.F z'.M Km z'.s.heap,Km,z'.s⟩,⟨l.s,l.l.tr (d9 l.ok),zj l.ok sb,l.os,l.bare⟩,f.rel l.ok rd,q⟩
  |next=>exact h
  |brk=>exact h
  |cont=>exact h
end
noncomputable abbrev bg (Q:QK):En:={ nx:=λ_ M=>aZ Q .aj M,rt:=aZ Q }
theorem Ac {G:Gx}{m:Nm}{W:Wd}{k n:Nat}{x qual:Str}{st:Stmt}{f:Addr}{fd:FuncData}{ns ps:List Str}{sp:Sp}{b:B} (F:c5 G.K x qual st f fd) (S:ay ns ps (af st)) (En:jP m W k G) (hc:aC m n ns (af st) (ar st)=b)
  (h:∀ds M Q E,sp ds M Q E->ds.length=ps.length/\b.w W m.ah (bg Q) (start ns ds) M):a6 G (k+1) f fd ps sp:=by
 obtain⟨oc,od,kV,doc,pm,an,ap,ct,bY,rfl,lk,cL⟩:=F.ex;have key:a6 G (k+1) f (PySem.W.fnOf x qual (dN st) (ar st) (af st) .none kV doc pm an ap ct) ps λds M R E=>∃Q,R=aZ Q/\sp ds M Q E:=by
  refine nV lk cL S (λds M R E ⟨Q,_,z⟩=>(h ds M Q E z).1) λA outer s M ds R E hr ⟨Q,e,z⟩=>?_;subst e;have C:aX m W k ns (af st) (bQ G ns qual (af st) f ap A outer s E):=⟨rfl,rfl,S.nd,rfl,hr,En⟩;refine⟨_,gh (tf C (λ_ _=>.inl rfl) n) _,?_⟩;have:=(h ds M Q E z).2;rw[<- hc]at this;exact this
 refine⟨λds M Q E z=>(h ds M Q E z).1,λA outer z args us ds Q E hr e0 hb r hs=>Zy (key.dX A outer z args us ds (aZ Q) E hr e0 hb r ⟨Q,rfl,hs⟩) λr s q=>q.ret⟩
end N
end
section
set_option maxHeartbeats 1000000
namespace N
open PySem PySem.Spec PyProof.Rows L2
structure Ds where
 x:Str
 st:Stmt
 ps:List Str
def Ad:Sp:=λ_ _ _ _=>False
def oR:List (Nat×Sp)->Nat->Sp
 |[],_=>Ad
 |(j,sp)::r,i=>if i=j then sp else oR r i
structure lS (G:Gx) (x:Str) (st:Stmt) (f:Addr) (fd:FuncData) (ps:List Str):Prop where
 fn:∃n,c5 G.K n n st f fd
 b:bC G.K fd ps []
 mg:G.mg x=some (.ref f)
theorem lS.kp {G:Gx}{x:Str}{st:Stmt}{f:Addr}{fd:FuncData}{ps:List Str} (d:lS G x st f fd ps):PySem.W.keepIn G.K (.ref f)=true:=d.fn.elim λ_ h=>h.kp
structure Wo where
 G:Gx
 ds:List Ds
 fq:List Str
 gv:List D
 fl:Addr->Str->Prop
 cls:List Str
 ca:Nat->Addr
 ms:List Ds
 mc:Nat->Addr
def Wo.nm (w:Wo):Nm:=⟨w.ds.map (·.x),w.fq,w.cls,w.ms.map (·.x)⟩
structure tj (K:PySem.W.Frag) (C:Addr) (d:Ds) (f:Addr) (fd:FuncData):Prop where
 fn:∃q:Str,c5 K d.x q d.st f fd
 b:bC K fd d.ps []
 m:jo K C d.x f
 c:cP K C
structure Wo.Ok (w:Wo):Prop where
 df:∀(i:Nat) (d:Ds),w.ds[i]?=some d->∃f fd,lS w.G d.x d.st f fd d.ps
 gv:∀i x,w.fq[i]?=some x->∃u,w.G.mg x=some u/\∀F:Fz,(∀b o,w.G.base.get? b=some o->F b=some (.dat o))->ae w.G F (w.gv.getD i .aj) u
 bl:∀x∈iK,w.G.mg x=none
 fl:∀C f,w.fl C f->cP w.G.K C/\d5 w.G.K C f
 mt:∀(i:Nat) (d:Ds),w.ms[i]?=some d->∃f fd,tj w.G.K (w.mc i) d f fd
 cl:∀(i:Nat) (x:Str),w.cls[i]?=some x->w.G.mg x=some (.ref (w.ca i))/\∀f,PySem.W.findIn w.G.K (.ref (w.ca i)) "__init__"=some (some (.ref f))->PySem.W.isFn w.G.K (.ref f)=true->Mk w.G.K (w.ca i) f
def FO (w:Wo) (i k:Nat) (sp:Sp):Prop:=∃d f fd,w.ds[i]?=some d/\lS w.G d.x d.st f fd d.ps/\a6 w.G k f fd d.ps sp
theorem FO.mono {w:Wo}{i j k:Nat}{sp:Sp} (h:FO w i j sp) (hk:j<=k):FO w i k sp:=let ⟨d,f,fd,a,b,c⟩:=h;⟨d,f,fd,a,b,c.mono hk⟩
theorem FO.imp {w:Wo}{i k:Nat}{sp k7:Sp} (h:FO w i k sp) (g:∀ds M Q E,k7 ds M Q E->sp ds M Q E):FO w i k k7:=
 let ⟨d,f,fd,a,b,c⟩:=h
 ⟨d,f,fd,a,b,c.imp g⟩
theorem JW {G:Gx}{k:Nat}{f:Addr}{fd:FuncData}{ps:List Str}:a6 G k f fd ps Ad:=⟨λ_ _ _ _ h=>h.elim,λ_ _ _ _ _ _ _ _ _ _ _ _ h=>h.elim⟩
def tm (w:Wo) (k:Nat):List (Nat×Sp)->Prop
 |[]=>True
 |(i,sp)::r=>(∃j,j<=k/\FO w i j sp)/\tm w k r
theorem tu {w:Wo} (O:w.Ok) {k i:Nat}{d:Ds} (hd:w.ds[i]?=some d):∀{cs:List (Nat×Sp)},tm w k cs->FO w i k (oR cs i)
 |[],_=>let ⟨f,fd,h⟩:=O.df i d hd;⟨d,f,fd,hd,h,JW⟩
 |(j,sp)::r,h=>by
  unfold oR;by_cases e:i=j
  ·subst e;rw[if_pos rfl];obtain⟨⟨l,hl,h⟩,_⟩:=h;exact h.mono hl
  ·rw[if_neg e];exact tu O hd h.2
def c7 (w:Wo) (i k:Nat) (sp:Sp):Prop:=∃d f fd,w.ms[i]?=some d/\tj w.G.K (w.mc i) d f fd/\a6 w.G k f fd d.ps sp
theorem c7.mono {w:Wo}{i j k:Nat}{sp:Sp} (h:c7 w i j sp) (hk:j<=k):c7 w i k sp:=let ⟨d,f,fd,a,b,c⟩:=h;⟨d,f,fd,a,b,c.mono hk⟩
noncomputable def gi:List (Nat×Sp)->Nat->Option Sp
 |[],_=>none
 |(j,sp)::r,i=>if i=j then some sp else gi r i
def tw (w:Wo) (k:Nat):List (Nat×Sp)->Prop
 |[]=>True
 |(i,sp)::r=>(∃j,j<=k/\c7 w i j sp)/\tw w k r
theorem Ae {w:Wo}{k i:Nat}{sp:Sp}:∀{cs:List (Nat×Sp)},tw w k cs->gi cs i=some sp->c7 w i k sp
 |[],_,h=>by cases h
 |(j,s)::r,h,e=>by
  unfold gi at e;by_cases z:i=j
  ·subst z;rw[if_pos rfl]at e;cases e;obtain⟨⟨l,hl,h⟩,_⟩:=h;exact h.mono hl
  ·rw[if_neg z]at e;exact Ae h.2 e
structure aS (w:Wo) where
 cs:List (Nat×Sp):=[]
 ms:List (Nat×Sp):=[]
 ci:List (Nat×Nat×Sp):=[]
 ca:Addr->Sp->Prop:=λ_ _=>False
noncomputable def oS (w:Wo):List (Nat×Nat×Sp)->Nat->Option (Addr×Sp)
 |[],_=>none
 |(j,_,sp)::r,i=>if i=j then some (w.ca j,sp) else oS w r i
noncomputable def aS.wd {w:Wo} (l:aS w):Wd:=⟨oR l.cs,w.gv,w.fl,oS w l.ci,λi=>(gi l.ms i).map λsp=>(w.mc i,sp),l.ca⟩
def tx (w:Wo) (k:Nat):List (Nat×Nat×Sp)->Prop
 |[]=>True
 |(i,m,sp)::r=>(w.mc m=w.ca i/\w.ms[m]?.map (·.x)=some "__init__"/\∃j,j+1<=k/\c7 w m j sp)/\tx w k r
theorem Af {w:Wo}{k i:Nat}{C:Addr}{sp:Sp}:∀{cs:List (Nat×Nat×Sp)},tx w k cs->oS w cs i=some (C,sp)->C=w.ca i/\∃m j,w.mc m=w.ca i/\w.ms[m]?.map (·.x)=some "__init__"/\j+1<=k/\c7 w m j sp
 |[],_,h=>by cases h
 |(j,m,s)::r,h,e=>by
  unfold oS at e;by_cases z:i=j
  ·subst z;rw[if_pos rfl]at e;cases e;obtain⟨⟨h1,h0,l,hl,h⟩,_⟩:=h;exact⟨rfl,m,l,h1,h0,hl,h⟩
  ·rw[if_neg z]at e;exact Af h.2 e
structure aS.Ok {w:Wo} (l:aS w) (k:Nat):Prop where
 cs:tm w k l.cs
 ms:tw w k l.ms:=by exact trivial
 ci:tx w k l.ci:=by exact trivial
 ca:∀f sp,l.ca f sp->cA w.G k f sp:=by exact λ_ _ z=>z.elim
theorem aS.Ok.env {w:Wo} (O:w.Ok) {l:aS w}{k:Nat} (h:l.Ok k):jP w.nm l.wd k w.G where
 fn:=λj x hj=>by
  have lK:(w.ds.map (·.x))[j]?=some x:=hj;rw[Yz]at lK;obtain⟨e,he,rfl⟩:=Option.map_eq_some_iff.mp lK;obtain⟨e',f',Ag,h1,h2,h3⟩:=tu O he h.cs;rw[he]at h1;cases h1;exact⟨f',Ag,e.ps,h3,h2.mg,h2.kp,h2.b⟩
 gv:=O.gv
 bl:=O.bl
 fl:=O.fl
 cl:=λi x C sp hi hc=>by
  obtain⟨e,m,j,h1,h0,h2,d,f,fd,h3,h4,h5⟩:=Af h.ci hc;subst e;obtain⟨g1,g2⟩:=O.cl i x hi;rw[h3]at h0;have hx:d.x="__init__":=YY h0;have hm:=h4.m;rw[hx,h1]at hm;exact⟨j,f,fd,d.ps,h2,g2 f hm.bK hm.fn,h5,g1,h4.b⟩
 mt:=λi x C sp hi hc=>by
  have fP:(gi l.ms i).map (λsp=>(w.mc i,sp))=some (C,sp):=hc;obtain⟨s,e1,e2⟩:=Option.map_eq_some_iff.mp fP;cases e2;obtain⟨d,f,fd,h3,h4,h5⟩:=Ae h.ms e1;have cR:(w.ms.map (·.x))[i]?=some x:=hi;rw[Yz,h3]at cR;cases cR;exact⟨f,fd,d.ps,h4.c,h4.m,h5,h4.b⟩
 ca:=h.ca
theorem aI {w:Wo} (O:w.Ok) {nm:Nm} (hn:w.nm=nm) {k n:Nat}{ns:List Str}{b:B}{sp:Sp} (i:Nat) (d:Ds) (hd:w.ds[i]?=some d) (l:aS w) (hl:l.Ok k) (S:ay ns d.ps (af d.st)) (hc:aC nm n ns (af d.st) (ar d.st)=b)
  (h:∀ds M Q E,sp ds M Q E->ds.length=d.ps.length/\b.w l.wd nm.ah (bg Q) (start ns ds) M):FO w i (k+1) sp:=by
 subst hn;obtain⟨f,fd,F⟩:=O.df i d hd;obtain⟨n,Fn⟩:=F.fn;exact⟨d,f,fd,hd,F,Ac Fn S (hl.env O) hc h⟩
theorem iL {w:Wo} (O:w.Ok) {nm:Nm} (hn:w.nm=nm) {k n:Nat}{ns:List Str}{b:B}{sp:Sp} (i:Nat) (d:Ds) (hd:w.ms[i]?=some d) (l:aS w) (hl:l.Ok k) (S:ay ns d.ps (af d.st)) (hc:aC nm n ns (af d.st) (ar d.st)=b)
  (h:∀ds M Q E,sp ds M Q E->ds.length=d.ps.length/\b.w l.wd nm.ah (bg Q) (start ns ds) M):c7 w i (k+1) sp:=by
 subst hn;obtain⟨f,fd,F⟩:=O.mt i d hd;obtain⟨q,Fn⟩:=F.fn;exact⟨d,f,fd,hd,F,Ac Fn S (hl.env O) hc h⟩
end N
end
section
namespace Att
open PySem PySem.W PySem.Calls PyProof.Rows
theorem JX {P:Params}{h:Heap}:∀(ns:List Int) (vs:List Value),WellAll P h vs (ns.map WData.int)->IntsAre vs ns:=by
 intro ns
 induction ns with
 |nil=>
  intro vs w;rw[Zp]at w;cases w;exact .nil
 |cons n ns ih=>
  intro vs w;rw[Yu]at w;cases w with
  |cons a b=>
   cases a;exact .cons _ _ (ih _ b)
theorem JY {l:OpenLaw}{n:Nat} (hn:l.most=some n) {P:Params}{h:Heap}{args:List WData}{iC:List Value}
  (iM:l.row.toRowW.claim.pre args=true) (tt:WellAll P h iC args) :
  ∃a vs ns,iC=[YF a]/\args=[WData.list (ns.map WData.int)]/\h.get? a=some { cls:=.type "list",data:=.seq vs.toArray }/\IntsAre vs ns/\ns.length<=n:=by
 have JZ:WShape.hasAll [] args [.list .int]=true:=(pre_splitW iM).1;have hc:l.pre.holds [] { args:=args }=true:=(pre_splitW iM).2;obtain⟨d,r,rfl,h1,h2⟩:=hasAllW_cons JZ;obtain rfl:=hasAllW_nil h2;obtain⟨xs,rfl,h3⟩:=hasW_list h1;obtain⟨ns,rfl⟩:=items_int h3;have hlen:ns.length<=n:=by
  unfold OpenLaw.pre at hc;have h4:(WTm.not (.lt (.lit (.int (n:Int))) (.len (.arg 0)))).holds [] { args:=[.list (ns.map .int)] }=true:=by
   have h4:=(holds_andW hc).1;rw[hn]at h4;exact h4
  have h5:=condW_of h4 (w_not (w_lt w_lit (w_len_list (w_arg rfl))));rw[Ym]at h5;refine Nat.le_of_not_lt λq=>?_;have q':(n:Int)<((ns.length:Nat):Int):=by lia
  first
   |(rw[decide_eq_true q']at h5;exact absurd h5 (by decide))
   |(simp at h5;lia)
 cases tt with
 |cons w1 w2=>
  cases w2;cases w1 with
  |list ho rE=>exact⟨_,_,ns,rfl,rfl,ho,JX ns _ rE,hlen⟩
theorem J0 (l:OpenLaw) (args:List WData):l.row.toRowW.claim.post args (.bool true) args=true:=
 postW_of (r:=l.row.toRowW) (X:=(true == true))
  (show WShape.has [] (.bool true) .bool=true by first |rfl |decide |simp [WShape.has,WShape.arms,WShape.armsAll])
  (show (WTm.eq .res (.lit (.bool true))).value [] { args:=args,res:=some (.bool true),after:=args }=some (.bool (true == true)) from w_eq_bool (w_res rfl) w_lit) rfl
theorem J1 {l:OpenLaw}{n:Nat}{q:Program}{loose:List Str}{XP:(Str->Option Value)->Heap->Prop}{YP:World->Heap->Prop}{d:DefRec}
  (hn:l.most=some n) (jy:d.params.defaults=[])
  (call:∀(w:World) (s₀ s₁:Shared) (mg mb:Str->Option Value) (fa:Addr) (o:Obj) (pm cd doc:Value) (a:Addr) (vs:List Value) (ns:List Int),
   Ground q loose [] XP w s₀ mg mb s₁.heap->YP w s₁.heap ->
   s₁.heap.get? fa=some o->o.data=.func (docDef d.name d.params d.body d.scope pm cd doc)->s₁.heap.CodeRec cd d.name->mg d.name=some (.ref fa) ->
   s₁.heap.get? a=some { cls:=.type "list",data:=.seq vs.toArray }->IntsAre vs ns->ns.length<=n->s₁.gens=#[] ->
   codeAny (model l.prog w) callerA (.call (.ref fa) ⟨[.ref a],[]⟩) (λr s'=>r=.ok (.ret (.bool true))/\OldK s₁.heap s'.heap/\s'.os=s₁.os/\AllBare s'.gens) s₁) :
  WalkO q loose XP YP l.row.toRowW d [] (λf vs=>PySem.call f vs):=by
 intro w s₀ s₁ mg mb G Y fa o pm cd doc Vs kV ho hd cL hD hmg hg args iC as iM Uj Uk tt Ul;obtain rfl:Vs=.none:=Dflts.none hD jy;obtain rfl:kV=.none:=Dflts.noKw hD;obtain⟨a,vs,ns,rfl,rfl,tz,tC,hlen⟩:=JY hn iM tt;refine enter_call (Zy (call w s₀ s₁ mg mb fa o pm cd doc a vs ns G Y ho (fd_plain hd) cL hmg tz tC hlen hg) λr s' hq=>?_);obtain⟨rfl,h2,h3,h4⟩:=hq;exact⟨.inl ⟨.bool true,.bool true,[],rfl,λ_=>rfl,.bool true,J0 l _,λ_=>⟨List.Pairwise.nil,λ_ hm=>(nomatch hm)⟩⟩,h2,h3,h4⟩
end Att
namespace L2
open PySem PySem.Spec PyProof.Rows
end L2
end
section
set_option maxHeartbeats 1000000
namespace N
open PySem PySem.Spec PyProof.Rows L2
abbrev gj:=List (Addr×Pos×Str)
noncomputable def br (ts:gj):Fz:=λb=>(ts.lookup b).map λq=>.tab q.1 q.2
noncomputable def ee (h:Heap) (ts:gj):Fz:=λb=>match ts.lookup b with
 |some q=>some (.tab q.1 q.2)
 |none=>(h.get? b).map Fo.dat
noncomputable abbrev gX (h:Heap) (ts:gj):Heap:=PySem.W.hideAll h (ts.map (·.1))
theorem lT {ts:gj}{b:Addr} (h:b ∉ ts.map (·.1)):ts.lookup b=none:=by
 rw[List.lookup_eq_none_iff];rintro⟨a,q⟩ hm;have:b≠a:=λz=>h (z ▸ List.mem_map.mpr ⟨_,hm,rfl⟩);simpa using this
theorem ef:∀{ts:gj}{b:Addr}{q:Pos×Str},ts.lookup b=some q->b∈ts.map (·.1)
 |[],_,_,h=>by cases h
 |(a,p)::r,b,q,h=>by
  by_cases e:b=a
  ·rw[e];exact Ys
  ·rw[Zc,beq_false_of_ne e]at h;exact Yt _ (ef h)
theorem J2 {h:Heap}{ts:gj}{b:Addr}{o:Obj} (e:(gX h ts).get? b=some o):h.get? b=some o/\b ∉ ts.map (·.1):=
 ⟨PySem.W.of_hideAll _ e,λhm=>by rw[PySem.W.hideAll_none _ hm]at e;cases e⟩
theorem J3 {P:Program}{w:World}{K:PySem.W.Frag}{mg mb:Str->Option Value}{k:Nat}{fa a:Addr}{fd:FuncData}{x:Str}{sp:Sp}{s₁:Shared}{vs:List Value}{ns:List Int}{ts:gj}
  (KX:K.In s₁.heap) (hT:∀T∈ts.map (·.1),s₁.heap.get? T=some (PySem.W.tabObj #[])) (lU:∀T∈ts.map (·.1),K.lookup T=none/\∃c,PySem.W.CodeHd s₁.heap c T)
  (b0:s₁.heap.Ns mainGlobals mg) (hb:s₁.heap.Ns builtinsNs mb) (J4:∀x:Str,x≠"__name__"->mb x=bootBuiltins x) (J5:s₁.heap.NoLimit) (hg:s₁.gens=#[])
  (ha:s₁.heap.get? a=some { cls:=.type "list",data:=.seq vs.toArray }) (hi:IntsAre vs ns) (hl:ns.length<=sizeLine) (hr:bq k callerA)
  (F:∀base:Heap,K.In base->base.Ns mainGlobals mg->a6 ⟨P,w,K,mg,base,br ts⟩ k fa fd [x] sp) (J6:∀(s:Shared) (u:Value),BindsTo s fd ⟨[u],[]⟩ [(x,u)])
  (jp:sp [.lst (ns.map D.int)] (λ_=>none) (λd _=>d=.bl true) X0) :
  codeAny (model P w) callerA (.call (.ref fa) ⟨[.ref a],[]⟩) (λr s'=>r=.ok (.ret (.bool true))/\OldK s₁.heap s'.heap/\s'.os=s₁.os/\AllBare s'.gens) s₁:=by
 have UM:∀b o,s₁.heap.get? b=some o->b ∉ ts.map (·.1)->ee s₁.heap ts b=some (.dat o):=λb o e n=>by unfold ee;rw[lT n];show (s₁.heap.get? b).map Fo.dat=_;rw[e];rfl
 have t0:∀b q,ts.lookup b=some q->ee s₁.heap ts b=some (.tab q.1 q.2):=λb q e=>by unfold ee;rw[e]
 have Ah:∀b f,ee s₁.heap ts b=some f->(∃q,ts.lookup b=some q/\f=.tab q.1 q.2)\/∃o,s₁.heap.get? b=some o/\f=.dat o:=λb f e=>by
  unfold ee at e;split at e
  ·rename_i q hq;cases e;exact .inl ⟨q,hq,rfl⟩
  ·obtain⟨o,h1,rfl⟩:=Option.map_eq_some_iff.mp e;exact .inr ⟨o,h1,rfl⟩
 have nd:∀{b:Addr}{m:Str->Option Value},s₁.heap.Ns b m->b ∉ ts.map (·.1):=λ{b m} ⟨o,es,ep,e,d,r⟩ hm=>by
  rw[hT b hm]at e;cases e;cases d
 have eQ:∀{b:Addr}{m:Str->Option Value},s₁.heap.Ns b m->(gX s₁.heap ts).Ns b m:=λ{b m} h=>let n:=nd h;let ⟨o,es,ep,e,d,r⟩:=h;⟨o,es,ep,PySem.W.hideAll_get _ e n,d,r⟩
 have Ai:K.In (gX s₁.heap ts):=λb o e=>PySem.W.hideAll_get _ (KX b o e) λhm=>by rw[(lU b hm).1]at e;cases e
 have hok:az ⟨P,w,K,mg,gX s₁.heap ts,br ts⟩ (ee s₁.heap ts) (λ_=>none) s₁.heap:=⟨λb f e=>by
  rcases Ah b f e with ⟨q,h1,rfl⟩ |⟨o,h1,rfl⟩
  ·exact⟨_,hT b (ef h1)⟩
  ·exact h1,λ_ _ e=>(nomatch e),λT p q e=>by
  rcases Ah T _ e with ⟨q',h1,h2⟩ |⟨o,h1,h2⟩
  ·exact .inl (hT T (ef h1))
  ·cases h2⟩
 have bs:Bs ⟨P,w,K,mg,gX s₁.heap ts,br ts⟩ (ee s₁.heap ts):=⟨λb o e=>let ⟨h1,h2⟩:=J2 e;UM b o h1 h2,λb f e=>by
  obtain⟨q,h1,rfl⟩:=Option.map_eq_some_iff.mp (show (ts.lookup b).map _=_ from e);exact t0 b q h1⟩
 have e0:dH ⟨P,w,K,mg,gX s₁.heap ts,br ts⟩ callerA [] ⟨ee s₁.heap ts,λ_=>none,s₁⟩:=⟨rfl,⟨Ai,eQ b0,⟨mb,eQ hb,J4⟩,let ⟨mc,h1,h2⟩:=J5;⟨mc,eQ h1,h2⟩⟩,bs,λ_ h=>(nomatch h),hok,.of_eq hg⟩
 have ri:∀{ns:List Int}{vs:List Value},IntsAre vs ns->ag ⟨P,w,K,mg,gX s₁.heap ts,br ts⟩ (ee s₁.heap ts) (ns.map D.int) vs:=λh=>by
  induction h with
  |nil=>exact .nil
  |cons n t r ih=>exact .cons bX ih
 have na:a ∉ ts.map (·.1):=λhm=>by rw[hT a hm]at ha;cases ha
 have Xi:ae ⟨P,w,K,mg,gX s₁.heap ts,br ts⟩ (ee s₁.heap ts) (.lst (ns.map D.int)) (.ref a):=m9 (n:=0) (UM a _ ha na) (by rw[hi.length];exact hl) (ri hi);refine Zy ((F _ Ai (eQ b0)).dX callerA [] ⟨ee s₁.heap ts,λ_=>none,s₁⟩ ⟨[.ref a],[]⟩ [.ref a] [.lst (ns.map D.int)] _ _ hr e0 (J6 s₁ (.ref a)) (.cons Xi .nil) jp) λr s' h=>?_;cases r with
 |error e=>obtain⟨_,_,_,_,z⟩:=h;exact z.elim
 |ok fl=>
  cases fl with
  |next=>exact h.elim
  |brk=>exact h.elim
  |cont=>exact h.elim
  |ret u=>
   obtain⟨d,z',⟨rfl,l,ok,os,bare⟩,rd,e⟩:=h;have e':d=.bl true:=e;subst e';rw[ae]at rd;subst rd;have kp:∀b o,s₁.heap.get? b=some o->asItWas s₁.heap z'.s.heap b o/\∃o',z'.s.heap.get? b=some o':=λb o q=>by
    by_cases hm:b∈ts.map (·.1)
    ·have e0:=hT b hm;rw[q]at e0;cases e0;obtain⟨⟨T,p,s⟩,hq,rfl⟩:=List.mem_map.mp hm;obtain⟨⟨p',s'⟩,hq'⟩:∃ q,ts.lookup T=some q:=by
      cases e:ts.lookup T with
      |some q=>exact⟨q,rfl⟩
      |none=>rw[List.lookup_eq_none_iff]at e;exact absurd (e _ hq) (by simp)
     obtain⟨c,C⟩:=(lU T hm).2;have it:=(C.tab q).isCodeTable;rcases ok.tb T _ _ (l T _ (t0 T _ hq')) with y |⟨c',o',y,_⟩
     ·exact⟨.inr (.inl ⟨it,rfl,#[],#[],rfl,by simpa using y⟩),_,y⟩
     ·exact⟨.inr (.inl ⟨it,rfl,#[],_,rfl,by simpa using y⟩),_,y⟩
    ·have:=ok.fz b _ (l b _ (UM b o q hm));exact⟨.inl this,o,this⟩
   exact⟨rfl,⟨λb o q=>(kp b o q).1,λb o q=>(kp b o q).2⟩,os,bare⟩
theorem walk_of {l:PySem.W.OpenLaw}{n k:Nat}{q:Program}{loose:List Str}{XP:(Str->Option Value)->Heap->Prop}{YP:World->Heap->Prop}{d:DefRec}{K:Params->PySem.W.Frag}{sp:World->Sp}{x:Str}{ts:gj}
  (hn:l.most=some n) (nI:n<=sizeLine) (jy:d.params.defaults=[]) (hr:bq k callerA)
  (Xj:∀(w:World) (h:Heap),YP w h->(K w.params).In h/\∀T∈ts.map (·.1),h.get? T=some (PySem.W.tabObj #[]))
  (lU:∀(w:World),∀T∈ts.map (·.1),(K w.params).lookup T=none/\∃c,PySem.W.codeHdIn (K w.params) c T=true)
  (F:∀(w:World) (mg:Str->Option Value) (fa:Addr) (h:Heap),(K w.params).In h->h.Ns mainGlobals mg->mg d.name=some (.ref fa) ->
   ∃fd:FuncData,(∀(s:Shared) (u:Value),BindsTo s fd ⟨[u],[]⟩ [(x,u)])/\∀base:Heap,(K w.params).In base->base.Ns mainGlobals mg->a6 ⟨l.prog,w,K w.params,mg,base,br ts⟩ k fa fd [x] (sp w))
  (jp:∀(w:World) (ns:List Int),ns.length<=n->sp w [.lst (ns.map D.int)] (λ_=>none) (λd _=>d=.bl true) X0) :
  PySem.W.WalkO q loose XP YP l.row.toRowW d [] (λf vs=>PySem.call f vs):=by
 refine Att.J1 hn jy λw s₀ s₁ mg mb fa o pm cd doc a vs ns G Y ho hd cL hmg tz tC hlen hg=>?_;obtain⟨KX,hT⟩:=Xj w _ Y;obtain⟨fd,hb,hF⟩:=F w mg fa _ KX G.T.g hmg;exact J3 KX hT (λT hm=>⟨(lU w T hm).1,let ⟨c,e⟩:=(lU w T hm).2;⟨c,PySem.W.codeHd_of_K KX e⟩⟩) G.T.g G.T.b G.T.builtins G.T.nolimit hg tz tC (Yy hlen nI) hr hF hb (jp w ns hlen)
end N
end
section
set_option maxHeartbeats 1000000
namespace N
open PySem PySem.Spec PyProof.Rows L2
theorem az.oU {G:Gx}{F:Fz}{M:Mp}{h h':Heap}{T c:Addr}{p:Pos}{q:Str}{o:Obj} (x:az G F M h) (hT:F T=some (.tab p q)) (k:∀b,b≠T->a8 h h' b) (e:h'.get? T=some { cls:=.none,data:=.fields #[rawInt p.line,rawInt p.col,.ref c] }) (hp:h.objs.size<=c) (ho:h'.get? c=some o) (hc:eu o q):az G (up F c (.dat o)) M h':=by
 have hF:=x.ck hp;have Um:T≠c:=di hT hF;refine⟨λb f r=>?_,λb u r=>?_,λT' p' q' r=>?_⟩
 ·by_cases hb:b=c
  ·subst hb;rw[au]at r;cases r;exact ho
  ·rw[ax hb]at r;by_cases jQ:b=T
   ·subst jQ;rw[hT]at r;cases r;exact⟨_,e⟩
   ·exact (x.fz b f r).go (k b jQ)
 ·have hb:b≠c:=di r (x.c0 hp);obtain⟨h1,h2⟩:=x.ob b u r;refine⟨by rw[ax hb];exact h1,h2.go (Le.new hF).d (λd hd=>k d ?_) λ_ e=>e⟩;rintro rfl;rcases hd with rfl |hd
  ·rw[hT]at h1;cases h1
  ·have:=(x.ob _ _ hd).1;rw[hT]at this;cases this
 ·by_cases hb:T'=c
  ·subst hb;rw[au]at r;cases r
  ·rw[ax hb]at r;by_cases jQ:T'=T
   ·subst jQ;rw[hT]at r;cases r;exact .inr ⟨c,o,e,au,hc⟩
   ·rcases x.tb T' p' q' r with y |⟨c',o',h1,h2,h3⟩
    ·exact .inl (k T' jQ _ y)
    ·exact .inr ⟨c',o',k T' jQ _ h1,Le.new hF _ _ h2,h3⟩
theorem aa.oU {X:Cx} {τ:St} {z:Z}{h':Heap}{t:Nat}{T c:Addr}{p:Pos}{q:Str}{o:Obj} (I:aa X τ z) (hT:z.F T=some (.tab p q)) (k:∀ b,b≠T->a8 z.s.heap h' b) (e:h'.get? T=some { cls:=.none,data:=.fields #[rawInt p.line,rawInt p.col,.ref c] }) (hp:z.s.heap.objs.size<=c) (ho:h'.get? c=some o) (hc:eu o q) :
  Le z.F (up z.F c (.dat o))/\aa X τ ⟨up z.F c (.dat o),z.M,{ z.s with heap:=h',toks:=t }⟩:=by
 have l:Le z.F (up z.F c (.dat o)):=Le.new (I.hok.ck hp);refine⟨l,I.go l (I.hok.oU hT k e hp ho hc) (λb hb=>⟨(k b ?_).s,I.cy hb,ax (Yx (YD (I.fM hb) hp))⟩) rfl I.bare⟩;rintro rfl;rcases hb with rfl |⟨x,hx⟩
 ·rw[I.free.1]at hT;cases hT
 ·rcases (I.cell x b hx).2.2 with r |⟨_,o',r⟩
  ·rw[r.2]at hT;cases hT
  ·rw[r]at hT;cases hT
structure eh (G:Gx) (c T:Addr) (p:Pos) (q:Str):Prop where
 cd:PySem.W.codeHdIn G.K c T=true
 bi:∃(bm:Addr) (ob:Obj),G.mg "__builtins__"=some (.ref bm)/\G.K.lookup bm=some ob/\bm≠builtinsNs/\bm≠mainGlobals/\bm≠T/\ob.cls=.type "module"/\ob.dict=some builtinsNs/\ob.data=.plain
 U8:mainGlobals≠T
 tab:G.ex T=some (.tab p q)
abbrev eR:=List (Str×Addr)
theorem Aj {h:Heap}{c:Addr}{q:Str} (x:h.CodeRec (.ref c) q):∃o,h.get? c=some o/\eu o q:=by
 obtain⟨d,o,vs,t,e,e1,e2,e3⟩:=x;cases e;exact⟨o,e1,vs,t,e2,e3⟩
section
variable {X:Cx} {τ:St} {z:Z}
theorem J7 {clos:eR}{params:Arguments}{body:Expr}{scope:Scope}{pos:Pos}{c T:Addr}{R:Value->Shared->Prop} (I:aa X τ z) (L:eh X.G c T pos (X.env.qual++"<lambda>")) (tE:defaultsOf params X.env=([],[])) (bZ:closureFor scope X.env=pure clos) (lV:X.env.code=.ref c)
  (k:∀f c' o' ctv z',Le z.F z'.F->aa X τ z'->z'.M=z.M->z'.F f=some (.dat (PySem.W.kla_obj "<lambda>" (X.env.qual++"<lambda>") params body scope clos ((X.G.mg "__name__").getD .none) c' ctv))->z'.F c'=some (.dat o')->eu o' (X.env.qual++"<lambda>")->R (.ref f) z'.s) :
  W X (eval (.Lambda params body scope pos) X.env) R z.s:=by
 obtain⟨cd,⟨bm,ob,b1,b2,b3,b4,U9,U',Va,Vb⟩,U8,tab⟩:=L;have hg:z.s.heap.Ns mainGlobals X.G.mg:=I.ok.mod.cw.keeps I.bk;have C:PySem.W.CodeHd z.s.heap c T:=PySem.W.codeHd_of_K I.bp cd;have hb:z.s.heap.BuiltinsAt X.G.mg T:=⟨bm,ob,b1,b3,b4,U9,I.bp _ _ b2,U',Va,Vb⟩;have hT:z.F T=some (.tab pos (X.env.qual++"<lambda>")):=I.bs.x T _ tab;have fin:∀ {c':Addr}{o':Obj}{ctv:Value}{z1:Z} (tk:Nat),Le z.F z1.F->aa X τ z1->z1.M=z.M->z1.F c'=some (.dat o')->eu o' (X.env.qual++"<lambda>") ->
   R (.ref z1.s.heap.objs.size) { z1.s with heap:=z1.s.heap.push (PySem.W.kla_obj "<lambda>" (X.env.qual++"<lambda>") params body scope clos ((X.G.mg "__name__").getD .none) c' ctv),toks:=tk }:=λ{c' o' ctv z1} tk l1 I1 UR hc hr=>by
  have I2:=I1.jc (f:=.dat (PySem.W.kla_obj "<lambda>" (X.env.qual++"<lambda>") params body scope clos ((X.G.mg "__name__").getD .none) c' ctv)) (t:=tk) (λb o e=>Yk _ e) (Yr _) (Yp _ rfl);have l2:=Le.new (f:=.dat (PySem.W.kla_obj "<lambda>" (X.env.qual++"<lambda>") params body scope clos ((X.G.mg "__name__").getD .none) c' ctv)) (I1.hok.ck (Yr z1.s.heap.objs.size));exact k _ c' o' ctv _ (l1.tr l2) I2 UR au (l2 _ _ hc) hr
 refine PySem.W.kla_eval tE ?_;rcases I.hok.tb T _ _ hT with hP |⟨c',o',hP,hc,hr⟩
 ·refine PySem.W.kla_makeFunction bZ I.ok.cw hg lV C hP trivial rfl U8 hb λc' ctv h' tk ext tF fg rec tab=>?_;obtain⟨o',ho,hr⟩:=Aj rec;obtain⟨l1,I1⟩:=I.oU (t:=tk) hT (λb z u e=>ext b u z e) (by simpa using tab) tF ho hr;exact fin tk l1 I1 rfl au hr
 ·refine PySem.W.kla_makeFunctionHit (cv:=.ref c') bZ I.ok.cw hg lV C hP ?_ ?_ hb λctv h' tk k hs=>?_
  ·simp [TriplesOk,rawInt]
  ·simp [codeAmong,rawInt]
  exact fin (z1:=⟨z.F,z.M,{ z.s with heap:=h',toks:=tk }⟩) tk Le.rfl (I.kept k) rfl hc hr
theorem J8 {clos:eR}{name:Str}{params:Arguments}{body:List Stmt}{scope:Scope}{pos:Pos}{c T:Addr}{i:Nat}{R:Flow->Shared->Prop} (I:aa X τ z) (L:eh X.G c T pos (qualnameIn X.env name name)) (hN:X.N.Nodup) (hi:X.N[i]?=some name) (hx:hU X.env.scope name) (J9:X.fn name=true\/X.env.scope.names.lookup name=some .local)
  (tG:params.defaults=[]) (tH:params.kw_defaults=[]) (ha:annTrees params none X.env=[]) (bZ:closureFor scope X.env=pure clos) (lV:X.env.code=.ref c)
  (k:∀f c' o' doc ctv z',Le z.F z'.F->aa X (τ.set i (some (.ref f))) z'->z'.M=z.M->z'.F f=some (.dat (PySem.W.fnMade name (qualnameIn X.env name name) params body scope clos doc ((X.G.mg "__name__").getD .none) c' ctv))->z'.F c'=some (.dat o')->eu o' (qualnameIn X.env name name)->R .next z'.s) :
  W X (exec (.FunctionDef name params body [] none [] scope none name pos) X.env) R z.s:=by
 obtain⟨cd,⟨bm,ob,b1,b2,b3,b4,U9,U',Va,Vb⟩,U8,tab⟩:=L;have hg:z.s.heap.Ns mainGlobals X.G.mg:=I.ok.mod.cw.keeps I.bk;have C:PySem.W.CodeHd z.s.heap c T:=PySem.W.codeHd_of_K I.bp cd;have hb:z.s.heap.BuiltinsAt X.G.mg T:=⟨bm,ob,b1,b3,b4,U9,I.bp _ _ b2,U',Va,Vb⟩;refine PySem.W.nestDef_K tG tH ha ?_;generalize tI:qualnameIn X.env name name=qual at *;have hT:z.F T=some (.tab pos qual):=I.bs.x T _ tab;have fin:∀ {c':Addr}{o':Obj}{doc ctv:Value}{z1:Z} (tk:Nat),Le z.F z1.F->aa X τ z1->z1.M=z.M->z1.F c'=some (.dat o')->eu o' qual ->
   W X (storeName X.env name (.ref z1.s.heap.objs.size)) (λ_ s=>R .next s) { z1.s with heap:=z1.s.heap.push (PySem.W.fnMade name qual params body scope clos doc ((X.G.mg "__name__").getD .none) c' ctv),toks:=tk }:=λ{c' o' doc ctv z1} tk l1 I1 UR hc hr=>by
  have I2:=I1.jc (f:=.dat (PySem.W.fnMade name qual params body scope clos doc ((X.G.mg "__name__").getD .none) c' ctv)) (t:=tk) (λb o e=>Yk _ e) (Yr _) (Yp _ rfl);have l2:=Le.new (f:=.dat (PySem.W.fnMade name qual params body scope clos doc ((X.G.mg "__name__").getD .none) c' ctv)) (I1.hok.ck (Yr z1.s.heap.objs.size));generalize J':PySem.W.fnMade name qual params body scope clos doc ((X.G.mg "__name__").getD .none) c' ctv=fo at *;have rf:ae X.G (up z1.F z1.s.heap.objs.size (.dat fo)) (.ref z1.s.heap.objs.size) (.ref z1.s.heap.objs.size):=by rw[ae]
  refine kC (Q:=λ_ s=>R .next s) I2 hN hi hx J9 rf λs' I3=>?_;have:=k z1.s.heap.objs.size c' o' doc ctv ⟨up z1.F z1.s.heap.objs.size (.dat fo),z1.M,s'⟩ (l1.tr l2) I3 UR;rw[J']at this;exact this au (l2 _ _ hc) hr
 rcases I.hok.tb T _ _ hT with hP |⟨c',o',hP,hc,hr⟩
 ·refine PySem.W.makeFunction_K bZ I.ok.cw hg lV C hP trivial rfl U8 hb λc' ctv doc h' tk ext tF fg rec tab=>?_;obtain⟨o',ho,hr⟩:=Aj rec;obtain⟨l1,I1⟩:=I.oU (t:=tk) hT (λb z u e=>ext b u z e) (by simpa using tab) tF ho hr;have q:=fin (z1:=⟨up z.F c' (.dat o'),z.M,{ z.s with heap:=h',toks:=tk }⟩) (doc:=doc) (ctv:=ctv) tk l1 I1 rfl au hr;exact q
 ·refine PySem.W.makeFunction_hit (cv:=.ref c') bZ I.ok.cw hg lV C hP ?_ ?_ hb λctv doc h' tk k hs=>?_
  ·simp [TriplesOk,rawInt]
  ·simp [codeAmong,rawInt]
  have q:=fin (z1:=⟨z.F,z.M,{ z.s with heap:=h',toks:=tk }⟩) (doc:=doc) (ctv:=ctv) tk Le.rfl (I.kept k) rfl hc hr;exact q
end
end N
end
section
set_option maxHeartbeats 1000000
namespace N
open PySem L2
theorem ao {Q:QK}{d:D}{M:Mp} (h:Q d M):aZ Q d M:=⟨M,d,.rfl,.rfl,h⟩
theorem cF {M:Mp}{p:Addr}{a b:MO}:up (up M p a) p b=up M p b:=funext λx=>by
 by_cases h:x=p
 ·rw[h,au,au]
 ·rw[ax h,ax h,ax h]
noncomputable def MO.tJ:MO->Bool
 |.own _=>false
 |_=>true
theorem tK {M:Mp}{p:Addr}{o:MO} (hp:M p=none) (ho:o.tJ=true):cg M (up M p o):=⟨λa u e=>by rw[ax (di e hp)];exact e,λa b e q=>by
 by_cases hb:b=p
 ·subst hb;rw[au]at q;cases q;cases ho
 ·rw[ax hb]at q;exact q⟩
theorem tL {Q:QK}{M:Mp}{p:Addr}{kvs:List (Key×D)} (hp:M p=none) (h:Q (.ak (kvs.map (·.1)) (kvs.map (·.2))) M):aZ Q (.ref p) (up M p (.ak kvs)):=⟨M,_,tK hp rfl,.ak au hp .rfl,h⟩
theorem Ka {Q:QK}{M:Mp}{p:Addr}{o:MO}{d:D} (hp:M p=none) (ho:o.tJ=true) (h:Q d M):aZ Q d (up M p o):=⟨M,d,tK hp ho,.rfl,h⟩
theorem aW {c:Prop} [Decidable c] {a b:Prop} (h:c) (q:a):if c then a else b:=by rw[if_pos h];exact q
theorem aw {c:Prop} [Decidable c] {a b:Prop} (h:¬c) (q:b):if c then a else b:=by rw[if_neg h];exact q
theorem gm {ok:Mp->Prop}{g:G}{tc:DT}{te:DE} {τ:St} {k:List D->Mp->Prop} (J:List D->List D->Mp->Prop) (fin:∀ ys M,J [] ys M->ok M/\ys.length<sizeLine/\k ys M)
  (step:∀x xs ys M,J (x::xs) ys M->ok M/\ys.length<sizeLine/\∀N:List D->Mp->Prop,(∀f8 M',J xs f8 M'->N f8 M')->bM g x τ M fun τ1 M0=>tc τ1 M0 λb M1=>if b=true then te τ1 M1 λy M2=>N (ys++[y]) M2 else N ys M1) :
  ∀xs ys M,J xs ys M->cS ok g tc te τ k xs ys M
 |[],ys,M,h=>fin ys M h
 |x::xs,ys,M,h=>
  let ⟨h1,h2,h3⟩:=step x xs ys M h
  ⟨h1,h2,h3 (λys M=>cS ok g tc te τ k xs ys M) λf8 M' q=>gm J fin step xs f8 M' q⟩
theorem eS {ok:Mp->Prop}{g:DG}{tb:DS}{e:En} (J:List D->St->Mp->Prop) (fin:∀ τ M,J [] τ M->ok M/\e.nx τ M)
  (step:∀x xs τ M,J (x::xs) τ M->ok M/\∀N:St->Mp->Prop,(∀ τ' M',J xs τ' M'->N τ' M')->g x τ M fun τ1 M1=>tb { e with nx:=N,ct:=N,bk:=e.nx } τ1 M1):∀xs τ M,J xs τ M->gH ok g tb e xs τ M
 |[],τ,M,h=>fin τ M h
 |x::xs,τ,M,h=>
  let ⟨h1,h2⟩:=step x xs τ M h
  ⟨h1,h2 (gH ok g tb e xs) fun τ' M' q=>eS J fin step xs τ' M' q⟩
theorem iN {α:Type} {ok:Mp->Prop}{g:G}{te:DE} {τ:St} {k:List D->Mp->Prop}{M:Mp} (f:α->D) (h:α->D) (xs:List α) (hok:ok M) (hl:xs.length<sizeLine)
  (one:∀x∈xs,∀N:D->Mp->Prop,N (h x) M->bM g (f x) τ M fun τ1 M0=>te τ1 M0 N) (fin:k (xs.map h) M):cS ok g gO te τ k (xs.map f) [] M:=by
 refine gm (λrest ys M'=>M'=M/\∃a b,xs=a++b/\rest=b.map f/\ys=a.map h) ?_ ?_ _ _ _ ⟨rfl,[],xs,rfl,rfl,rfl⟩
 ·rintro ys M' ⟨rfl,a,b,e1,e2,rfl⟩;cases b with
  |cons x r=>cases e2
  |nil=>rw[YH]at e1;subst e1;exact⟨hok,by rw[Ym];exact hl,fin⟩
 ·rintro x rest ys M' ⟨rfl,a,b,e1,e2,rfl⟩;cases b with
  |nil=>cases e2
  |cons y r=>
   cases e2;refine⟨hok,by rw[Ym];rw[e1,YB]at hl;lia,λN hN=>?_⟩;exact one y (by rw[e1];simp) (λy M2=>N (a.map h++[y]) M2) (hN _ _ ⟨rfl,a++[y],r,by rw[e1];simp,rfl,by simp⟩)
end N
end
section
set_option maxHeartbeats 1000000
namespace N
open PySem PySem.Spec PyProof.Rows L2
structure lW (ps fr:List Str) (scope:Scope):Prop where
 kind:scope.kind=.function
 Vq:scope.isCoroutine=false
 jn:scope.isGenerator=false
 oV:∀y∈scope.names,y.2≠.cell
 free:∀y∈scope.names,y.2=.free->y.1∈fr
 Kb:∀x∈fr,scope.names.lookup x=some .free
 tM:∀x∈ps,scope.names.lookup x=some .local
theorem Ak:∀{ps:List Str}{us:List Value}{i:Nat}{x:Str}{u:Value},ps.Nodup->ps[i]?=some x->us[i]?=some u->(ps.zip us).reverse.lookup x=some u
 |[],_,_,_,_,_,h,_=>by simp at h
 |_::_,[],_,_,_,_,_,h=>by simp at h
 |p::ps,w::us,0,x,u,nd,h1,h2=>by
  simp only[List.getElem?_cons_zero,Option.some.injEq]at h1 h2;subst h1 h2;rw[Zo,Zz,List.lookup_append];have:(ps.zip us).reverse.lookup p=none:=by
   rw[List.lookup_eq_none_iff];rintro⟨a,b⟩ ij;have ha:=(ZP (List.mem_reverse.mp ij)).1;have:p≠a:=λz=>(List.nodup_cons.mp nd).1 (z ▸ ha);simpa using this
  rw[this];simp
 |p::ps,w::us,i+1,x,u,nd,h1,h2=>by
  rw[Zo,Zz,List.lookup_append,Ak (List.nodup_cons.mp nd).2 (by simpa using h1) (by simpa using h2)];rfl
noncomputable def tN (qual:Str) (scope:Scope) (clos:eR) (L f:Addr) (cd:Value):Env:=newEnv scope L mainGlobals clos (qual++".<locals>.") (some f) cd none builtinsNs
noncomputable def oX (G:Gx) (N:List Str) (qual:Str) (scope:Scope) (clos:eR) (f:Addr) (cd:Value) (A:Around) (outer:List Env) (z:Z) (E:XQ):Cx where
 G:=G
 A:=A.deeper (tN qual scope clos z.s.heap.objs.size f cd)
 N:=N
 os:=z.s.os
 env:=tN qual scope clos z.s.heap.objs.size f cd
 outer:=outer
 stk:=tN qual scope clos z.s.heap.objs.size f cd::outer
 fn:=λ_=>false
 calm:=true
 x:=λx _ M=>E x M
 F0:=z.F
structure jR (G:Gx) (clos:eR) (ws:List D):Prop where
 len:ws.length=clos.length
 bK:∀(i:Nat) x a w,clos[i]?=some (x,a)->ws[i]?=some w->∃o u,G.ex a=some (.pin o)/\o.data=.cell (some u)/\ae G G.ex w u
 nd:(clos.map (·.1)).Nodup
 inj:∀x y c,clos.lookup x=some c->clos.lookup y=some c->x=y
theorem tO:∀{clos:eR}{i:Nat}{p:Str×Addr},(clos.map (·.1)).Nodup->clos[i]?=some p->clos.lookup p.1=some p.2
 |[],_,_,_,h=>by simp at h
 |q::r,0,p,_,h=>by
  simp only[List.getElem?_cons_zero,Option.some.injEq]at h;subst h;simp [List.lookup]
 |q::r,i+1,p,nd,h=>by
  rw[Yu,Z9]at nd;have h':r[i]?=some p:=by simpa using h
  have ne:(p.1 == q.1)=false:=by
   have:p.1≠q.1:=λz=>nd.1 (by rw[<- z];exact List.mem_map.mpr ⟨p,Y4 h',rfl⟩);simpa using this
  show (match p.1 == q.1 with |true=>some q.2 |false=>r.lookup p.1)=some p.2
  rw[ne];exact tO nd.2 h'
theorem jR.cell {G:Gx}{clos:eR}{ws:List D} (h:jR G clos ws) {x:Str}{a:Addr} (e:clos.lookup x=some a):∃o u,G.ex a=some (.pin o)/\o.data=.cell (some u):=by
 obtain⟨i,hi,Vc⟩:=List.mem_iff_getElem.mp (PySem.mem_of_lookup e);obtain⟨o,u,h1,h2,_⟩:=h.bK i x a (ws[i]'(by rw[h.len];exact hi)) (by rw[Yo hi,Vc]) (Yo _);exact⟨o,u,h1,h2⟩
theorem Al {G:Gx}{ps ls:List Str}{qual:Str}{scope:Scope}{clos:eR}{f:Addr}{cd:Value}{A:Around}{outer:List Env}{z:Z}{E:XQ}{us:List Value}{ds ws:List D}{h':Heap}{tk:Nat}
  (S:lW ps (clos.map (·.1)) scope) (hd:A.handled=none) (e0:dH G A outer z) (hl:ds.length=ps.length) (Kc:ps.Nodup) (r:ag G z.F ds us) (UD:jR G clos ws)
  (b0:h'.Ns z.s.heap.objs.size (λx=>(ps.zip us).reverse.lookup x)) (dP:ZM z.s.heap.objs.size (z.s.heap.push { cls:=.type "frame",data:=.dict #[] }) h') :
  aa (oX G ((ps++clos.map (·.1))++ls) qual scope clos f cd A outer z E) ((ds.map some++ws.map some)++ls.map λ_=>none) ⟨z.F,z.M,{ z.s with heap:=h',toks:=tk }⟩:=by
 have hk:∀b o,z.s.heap.get? b=some o->h'.get? b=some o:=λb o e=>by
  rw[dP.2 b (Yx (Yw e))];exact Yk _ e
 have pin:∀{a o},G.ex a=some (.pin o)->z.F a=some (.pin o)/\h'.get? a=some o:=λ{a o} e=>⟨e0.bs.x a _ e,hk _ _ (e0.hok.fz a _ (e0.bs.x a _ e))⟩;refine⟨⟨e0.mod,S.kind,rfl,rfl,UD.inj,λy hy=>?_,λ_=>hd,Around.frames_deeper e0.frames,.inr ⟨rfl,rfl⟩,λ_ _ _ _=>⟨rfl,rfl⟩⟩,e0.bs,rfl,e0.bare,e0.bx,⟨_,b0,λi y v h1 h2 h3=>?_⟩,λy c h=>?_,⟨e0.hok.ck (Yr _),e0.hok.c0 (Yr _)⟩,e0.hok.keep λb _ o q=>hk b o q,?_,Le.rfl⟩
 ·have hy:scope.names.lookup y=some .cell\/scope.names.lookup y=some .free:=hy;rcases hy with hy |hy
  ·exact absurd rfl (S.oV _ (PySem.mem_of_lookup hy))
  ·obtain⟨p,hp,e⟩:=List.mem_map.mp (S.free _ (PySem.mem_of_lookup hy) rfl);obtain⟨i,hi,Vc⟩:=List.mem_iff_getElem.mp hp;have:=tO UD.nd (Yo hi);rw[Vc,e]at this;exact⟨_,this⟩
 ·have h1:((ps++clos.map (·.1))++ls)[i]?=some y:=h1;have lN:(ps++clos.map (·.1)).length=(ds.map some++ws.map some).length:=by rw[YB,YB,Ym,Ym,Ym,hl,UD.len]
  have Ke:i<(ds.map some++ws.map some).length:=by
   refine Nat.lt_of_not_le λz=>?_;rw[Y1 z,Yz]at h2;cases e:ls[i-(ds.map some++ws.map some).length]? with
   |none=>rw[e]at h2;cases h2
   |some a=>rw[e]at h2;cases h2
  rw[Y5 (by lia)]at h1;rw[Y5 Ke]at h2;by_cases hi:i<ps.length
  ·rw[Y5 hi]at h1;rw[Y5 (by rw[Ym];lia),Yz]at h2;cases e:ds[i]? with
   |none=>rw[e]at h2;cases h2
   |some a=>
    rw[e]at h2;cases h2;obtain⟨u,hu,rv⟩:=r.get e;exact⟨u,rv,.inl ⟨S.tM y (Y4 h1),Ak Kc h1 hu⟩⟩
  ·rw[Y1 (by lia),Yz]at h1;rw[Y1 (by rw[Ym];lia),Yz,Ym,hl]at h2;cases e:ws[i-ps.length]? with
   |none=>rw[e]at h2;cases h2
   |some a=>
    rw[e]at h2;cases h2;cases e1:clos[i-ps.length]? with
    |none=>rw[e1]at h1;cases h1
    |some p=>
     rw[e1]at h1;cases h1;obtain⟨o,u,q1,q2,q3⟩:=UD.bK _ p.1 p.2 v e1 e;have lk:=tO UD.nd e1;exact⟨u,q3.up e0.bs.x.d,.inr ⟨.inr (S.Kb _ (List.mem_map.mpr ⟨p,Y4 e1,rfl⟩)),p.2,lk,_,(pin q1).2,q2⟩⟩
 ·obtain⟨o,u,q1,q2⟩:=UD.cell (show clos.lookup y=some c from h);obtain⟨p1,p2⟩:=pin q1;refine⟨⟨_,o,p2,q2⟩,?_,.inr ⟨rfl,o,p1⟩⟩;cases e:z.M c with
  |none=>rfl
  |some m=>have:=(e0.hok.ob c m e).1;rw[p1]at this;cases this
 ·show _=((ps++clos.map (·.1))++ls).length;rw[YB,YB,YB,YB,Ym,Ym,Ym,Ym,hl,UD.len]
theorem Am {G:Gx}{z:Z}{c:Addr}{o:Obj}{q:Str} (bs:Bs G z.F) (ok:az G z.F z.M z.s.heap) (h:G.ex c=some (.dat o)) (r:eu o q):z.s.heap.CodeRec (.ref c) q:=by
 obtain⟨vs,t,h1,h2⟩:=r;exact⟨c,o,vs,t,rfl,ok.fz c _ (bs.x c _ h),h1,h2⟩
theorem Kf {G:Gx}{m:Nm}{W:Wd}{k n:Nat}{f c:Addr}{o':Obj}{qual:Str}{params:Arguments}{body:Expr}{scope:Scope}{clos:eR}{pm ctv:Value}{ps:List Str}{ws:List D}{sp:Sp}{e:E}
  (hf:G.ex f=some (.dat (PySem.W.kla_obj "<lambda>" qual params body scope clos pm c ctv))) (hc:G.ex c=some (.dat o')) (hr:eu o' qual) (S:lW ps (clos.map (·.1)) scope) (UD:jR G clos ws) (nd:(ps++clos.map (·.1)).Nodup) (En:jP m W k G) (tP:aJ m n (ps++clos.map (·.1)) scope body=e)
  (h:∀ds M Q E,sp ds M Q E->ds.length=ps.length/\(e.w W m.ah).1 (ds.map some++ws.map some) M (aZ Q)):a6 G (k+1) f (PySem.W.kla_fn "<lambda>" qual params body scope clos pm (.ref c) ctv) ps sp:=by
 refine⟨λds M Q E z=>(h ds M Q E z).1,λA outer z args us ds Q E room e0 b6 r hs=>?_⟩;obtain⟨hl,hq⟩:=h _ _ _ _ hs;have ho:z.s.heap.get? f=some _:=e0.hok.fz f _ (e0.bs.x f _ hf);refine Zy (R:=CR G z (aZ Q) E) ?_ λr s q=>q.ret;refine PySem.W.kla_callFunE room.depth ho rfl S.Vq S.jn rfl (Am e0.bs e0.hok hc hr) (b6 _ _ _ _ ?_);refine wpAny_newFunctionEnv S.oV (λy hy=>S.tM _ (ZP (show (y.1,y.2)∈ps.zip us from hy)).1) (λh' b0 dP=>?_) S.kind;have hk:∀b o,z.s.heap.get? b=some o->h'.get? b=some o:=λb o e=>by
  rw[dP.2 b (Yx (Yw e))];exact Yk _ e
 refine⟨(e0.mod.je.keeps e0.bk).keeps hk,PySem.W.kla_codeExpr ?_⟩;have I:=Al (ls:=[]) (qual:=qual) (f:=f) (cd:=.ref c) (E:=E) (tk:=z.s.toks+(ps.zip us).length) S room.hd e0 hl (List.nodup_append.mp nd).1 r UD b0 dP;rw[YH,Zp,YH]at I;have C:aX m W k (ps++clos.map (·.1)) scope (oX G (ps++clos.map (·.1)) qual scope clos f (.ref c) A outer z E):=⟨rfl,rfl,nd,rfl,room.deeper _,En⟩;rw[<- tP]at hq;exact Zm ((eP n C body).e _ _ _ _ I hq λd z1 u l J rd q=>(⟨d,z1,⟨rfl,l,J.hok,J.os,J.bare⟩,rd,q⟩:CR G z (aZ Q) E (.ok (.ret u)) z1.s)) (λ_ _ h=>h) λe s' hs=>hs.qU (E0:=E) (z0:=z) (Q:=aZ Q) (λ_ _ _ h=>h) rfl rfl λs2 h=>h
theorem Kg {G:Gx}{m:Nm}{W:Wd}{k n:Nat}{f c:Addr}{o':Obj}{name qual:Str}{params:Arguments}{body:List Stmt}{scope:Scope}{clos:eR}{doc pm ctv:Value}{ps ls:List Str}{ws:List D}{sp:Sp}{b:B}
  (hf:G.ex f=some (.dat (PySem.W.fnMade name qual params body scope clos doc pm c ctv))) (hc:G.ex c=some (.dat o')) (hr:eu o' qual) (S:lW ps (clos.map (·.1)) scope) (UD:jR G clos ws) (nd:((ps++clos.map (·.1))++ls).Nodup) (En:jP m W k G)
  (tP:aC m n ((ps++clos.map (·.1))++ls) scope body=b)
  (h:∀ds M Q E,sp ds M Q E->ds.length=ps.length/\b.w W m.ah (bg Q) ((ds.map some++ws.map some)++ls.map λ_=>none) M):a6 G (k+1) f (PySem.W.fnX name qual params body scope clos .none .none doc pm none (.ref c) ctv) ps sp:=by
 refine⟨λds M Q E z=>(h ds M Q E z).1,λA outer z args us ds Q E room e0 b6 r hs=>?_⟩;obtain⟨hl,hq⟩:=h _ _ _ _ hs;have ho:z.s.heap.get? f=some _:=e0.hok.fz f _ (e0.bs.x f _ hf);refine Zy (R:=CR G z (aZ Q) E) ?_ λr s q=>q.ret;refine codeAny_call_function room.depth ho rfl S.Vq S.jn rfl (Am e0.bs e0.hok hc hr) (b6 _ _ _ _ ?_);refine wpAny_newFunctionEnv S.oV (λy hy=>S.tM _ (ZP (show (y.1,y.2)∈ps.zip us from hy)).1) (λh' b0 dP=>?_) S.kind;have hk:∀b o,z.s.heap.get? b=some o->h'.get? b=some o:=λb o e=>by
  rw[dP.2 b (Yx (Yw e))];exact Yk _ e
 refine⟨(e0.mod.je.keeps e0.bk).keeps hk,codeAny_func ?_⟩;have I:=Al (ls:=ls) (qual:=qual) (f:=f) (cd:=.ref c) (E:=E) (tk:=z.s.toks+(ps.zip us).length) S room.hd e0 hl (List.nodup_append.mp (List.nodup_append.mp nd).1).1 r UD b0 dP;have C:aX m W k ((ps++clos.map (·.1))++ls) scope (oX G ((ps++clos.map (·.1))++ls) qual scope clos f (.ref c) A outer z E):=⟨rfl,rfl,nd,rfl,room.deeper _,En⟩;have qn:∀y,loc scope y=true->(oX G ((ps++clos.map (·.1))++ls) qual scope clos f (.ref c) A outer z E).fn y=true\/scope.names.lookup y=some .local:=λy hy=>by
  rcases lO hy with e |e
  ·exact .inr e
  ·exact absurd rfl (S.oV _ (PySem.mem_of_lookup e))
 rw[<- tP]at hq;refine Zm (gh (tf C qn n) body _ _ _ (λfl s'=>match fl with |.ret u=>CR G z (aZ Q) E (.ok (.ret u)) s' |.next=>CR G z (aZ Q) E (.ok (.ret .none)) s' |_=>False) I hq
  ⟨fun τ z1 l J q=>⟨.aj,z1,⟨rfl,l,J.hok,J.os,J.bare⟩,by rw[ae],q⟩,λd τ z1 u l J rd q=>⟨d,z1,⟨rfl,l,J.hok,J.os,J.bare⟩,rd,q⟩,λ_ _ _ _ q=>q,λ_ _ _ _ q=>q⟩) (λfl s' hs=>?_) λe s' hs=>hs.qU (E0:=E) (z0:=z) (Q:=aZ Q) (λ_ _ _ h=>h) rfl rfl λs2 h=>h
 cases fl <;> first |exact hs |exact False.elim hs
end N
end
section
set_option maxHeartbeats 1000000
namespace N
open PySem PySem.Spec PyProof.Rows L2
noncomputable def Wo.at (w:Wo) (e:Fz):Wo:={ w with G:={ w.G with ex:=e } }
theorem Wo.Ok.at {w:Wo} (O:w.Ok) (e:Fz):(w.at e).Ok where
 df:=λi d h=>let ⟨f,fd,h1,h2,h3⟩:=O.df i d h;⟨f,fd,h1,h2,h3⟩
 gv:=λi x h=>let ⟨u,h1,h2⟩:=O.gv i x h;⟨u,h1,λF hF=>(h2 F hF).xe e⟩
 bl:=O.bl
 fl:=O.fl
 mt:=O.mt
 cl:=O.cl
section
variable {X:Cx} {τ:St} {z:Z}
theorem An {G:Gx}{k:Nat}{f:Addr}{fd:FuncData}{ps:List Str}{sp:Sp}{cls:Value} (hf:G.ex f=some (.dat { cls:=cls,data:=.func fd })) (hc:cls=.type "function") (F:a6 G k f fd ps sp) (hb:∀K,bC K fd ps []):cA G k f sp:=by
 subst hc;refine⟨fd,ps,[(f,{ cls:=.type "function",data:=.func fd })],F,by simp [PySem.W.keepIn,List.lookup],hb _,λz _ bs ok a o q=>?_⟩;by_cases y:a=f
 ·subst y;simp [List.lookup]at q;rw[<- q];exact ok.fz a _ (bs.x a _ hf)
 ·have:(a == f)=false:=by simpa using y
  simp [List.lookup,this]at q
theorem Kh {clos:eR}{ws:List D} (I:aa X τ z) (len:ws.length=clos.length) (nd:(clos.map (·.1)).Nodup) (h:∀ (i:Nat) x a w,clos[i]?=some (x,a)->ws[i]?=some w->X.env.cells.lookup x=some a/\X.fn x=true/\X.env.scope.names.lookup x=some .cell/\∃ j:Nat,X.N[j]?=some x/\τ[j]?=some (some w)) :
  jR { X.G with ex:=aT z.F (X.aO z.s.heap) } clos ws:=by
 have cl:∀x c,clos.lookup x=some c->X.env.cells.lookup x=some c:=λx c e=>by
  obtain⟨i,hi,Vc⟩:=List.mem_iff_getElem.mp (PySem.mem_of_lookup e);exact (h i x c (ws[i]'(by rw[len];exact hi)) (by rw[Yo hi,Vc]) (Yo _)).1
 refine⟨len,λi x a w e1 e2=>?_,nd,λx y c e1 e2=>I.ok.inj x y c (cl _ _ e1) (cl _ _ e2)⟩;obtain⟨h1,h2,h3,j,h4,h5⟩:=h i x a w e1 e2;obtain⟨m,hn,hl⟩:=I.loc;obtain⟨u,r,k⟩:=hl j x w h4 h5 (.inr (.inl h3));rcases k with k |⟨_,c,e,o,y1,y2⟩
 ·have q:X.env.scope.names.lookup x=some .local:=k.1;rw[h3]at q;cases q
 ·rw[h1]at e;cases e;refine⟨o,u,?_,y2,(r.up I.cc.d).xe _⟩;show aT z.F (X.aO z.s.heap) a=_;refine dj ?_;unfold Cx.aO;rw[if_neg (I.gA h1),if_pos ⟨x,h2,h1⟩,y1];rfl
end
theorem Ao {l:Expr} (hl:bA l=true:=by rfl):∀{as:List Expr},aQ as=true->aQ (as++[l])=true
 |[],_=>by show (bA l && true)=true;rw[hl];rfl
 |a::as,h=>by
  have h':(bA a && aQ as)=true:=h;rw[Yq]at h';show (bA a && aQ (as++[l]))=true;rw[h'.1,Ao hl h'.2];rfl
theorem Ki {X:Cx}{m:Nm}{W:Wd}{f:Expr->E}{jS:Expr} (Kj:bA jS=true) {as:List Expr} (hs:aQ as=true) (g:∀ e∈as,PE X e ((f e).w W m.ah).1) (pos:Pos) (τ:St):∀ (z:Z) (P:List D->Mp->Prop) (R:List Value->Shared->Prop),aa X τ z->(L.of (as.map f)).w W m.ah τ z.M P ->
  (∀ds z1 us,Le z.F z1.F->aa X τ z1->ag X.G z1.F ds us->P ds z1.M->N.W X (eval jS X.env) (λv s=>R (us++[v]) s) z1.s)->N.W X (spliced (backTo pos (starEach (as++[jS]) X.env))) R z.s:=by
 induction as with
 |nil=>
  intro z P R I h k;have h0:P [] z.M:=h;have k0:=k [] z [] Le.rfl I .nil h0;show N.W X (spliced (backTo pos (starEach [jS] X.env))) R z.s;rw[bz Kj];refine Zu (Zm k0 (λv s q=>?_) λ_ _ q=>q);exact ZY q
 |cons a as ih=>
  intro z P R I h k;have h':(bA a && aQ as)=true:=hs;rw[Yq]at h';have h1:((f a).w W m.ah).1 τ z.M λx M1=>(L.of (as.map f)).w W m.ah τ M1 λxs M2=>P (x::xs) M2:=h;show N.W X (spliced (backTo pos (starEach (a::(as++[jS])) X.env))) R z.s;rw[bz h'.1];show N.W X (spliced ((false,eval a X.env)::backTo pos (starEach (as++[jS]) X.env))) R z.s;refine Zu (g a Ys τ z _ _ I h1 λx z1 v l1 I1 r1 q1=>?_);refine ih h'.2 (λe he=>g e (Yt _ he)) z1 (λxs M=>P (x::xs) M) (λvs s=>R (v::vs) s) I1 q1 λds z2 us l2 I2 r2 q2=>?_;exact k (x::ds) z2 (v::us) (l1.tr l2) I2 (.cons (r1.up l2.d) r2) q2
theorem Kk {w:Wo} (O:w.Ok) {nm:Nm} (hn:w.nm=nm) {k kl n nl:Nat}{ns lps:List Str}{as:List Expr}{params:Arguments}{body:Expr}{scope:Scope}{g:Str}{gp lp cp rp:Pos}{el:E}{es:L}{sp lX:Sp} (i ig:Nat) (d:Ds) (hd:w.ds[i]?=some d)
  (cf:ar d.st=[.Return (some (.Call (.Name g gp) (as++[.Lambda params body scope lp]) [] cp)) rp])
  (LM:∀f fd q,c5 w.G.K q q d.st f fd->w.G.mg d.x=some (.ref f)->∃c T,fd.code=.ref c/\eh w.G c T lp (q++".<locals>."++"<lambda>"))
  (l:aS w) (hl:l.Ok k) (S:ay ns d.ps (af d.st)) (bZ:∀q L f cd,closureFor scope (envOfC q (af d.st) L f cd)=pure []) (tE:∀q L f cd,defaultsOf params (envOfC q (af d.st) L f cd)=([],[]))
  (hg:aH (af d.st) g=true) (ce:(g == ("__debug__" : Str))=false) (tQ:nm.bD[ig]?=some g) (b0:aQ as=true) (has:L.of (as.map (aJ nm n ns (af d.st)))=es)
  (SL:lW lps [] scope) (tR:lps.Nodup) (tS:∀q pm c ctv K,bC K (PySem.W.kla_fn "<lambda>" q params body scope [] pm c ctv) lps []) (d7:aJ nm nl lps scope body=el)
  (HL:∀e,Le w.G.ex e->∃ll:aS (w.at e),ll.Ok kl/\∀ds M Q E,lX ds M Q E->ds.length=lps.length/\(el.w ll.wd nm.ah).1 (ds.map some) M (aZ Q))
  (H:∀ds M Q E,sp ds M Q E->ds.length=d.ps.length/\es.w l.wd nm.ah (start ns ds) M λvs M1=>∀e f,Le w.G.ex e->cA (w.at e).G (kl+1) f lX->∃dS,FO (w.at e) ig k dS/\dS (vs++[.ref f]) M1 (aZ Q) X0):FO w i (k+1) sp:=by
 subst hn;obtain⟨f,fd,F⟩:=O.df i d hd;obtain⟨q,Fn⟩:=F.fn;obtain⟨c,T,hc,LK⟩:=LM f fd q Fn F.mg;obtain⟨oc,od,kV,doc,pm,an,ap,ct,bY,rfl,lk,cL⟩:=Fn.ex;obtain rfl:ap=.ref c:=hc;have key:a6 w.G (k+1) f (PySem.W.fnOf q q (dN d.st) (ar d.st) (af d.st) .none kV doc pm an (.ref c) ct) d.ps λds M R E=>∃Q,R=aZ Q/\sp ds M Q E:=by
  refine nV lk cL S (λds M R E ⟨Q,_,z⟩=>(H ds M Q E z).1) λA outer s M ds R E hr ⟨Q,e,z⟩=>?_;subst e;obtain⟨_,hq⟩:=H ds M Q E z;have C:aX w.nm l.wd k ns (af d.st) (bQ w.G ns q (af d.st) f (.ref c) A outer s E):=⟨rfl,rfl,S.nd,rfl,hr,hl.env O⟩;rw[cf];refine⟨λen τ M=>es.w l.wd w.nm.ah τ M λvs M1=>∀e f,Le w.G.ex e->cA (w.at e).G (kl+1) f lX->∃dS,FO (w.at e) ig k dS/\dS (vs++[.ref f]) M1 en.rt X0,?_,hq⟩;refine jj fun τ z en R I hq KK=>?_;refine wpAny_Return_some ?_
  -- the Un def
  have lY:=tQ;rw[show w.nm.bD=w.ds.map (·.x) from rfl,Yz]at lY;obtain⟨UY,lZ,rfl⟩:=Option.map_eq_some_iff.mp lY;obtain⟨Wz,Kl,Fg⟩:=O.df ig UY lZ;refine Y8 (fb I (C.aH hg) Fg.mg ce ?_);have pa:=gg (X:=bQ w.G ns q (af d.st) f (.ref c) A outer s E) (f:=aJ w.nm n ns (af d.st)) (W:=l.wd) (m:=w.nm) b0 λe _=>(eP n C e).e;rw[has]at pa;have go:W (bQ w.G ns q (af d.st) f (.ref c) A outer s E) (spliced (backTo cp (starEach (as++[.Lambda params body scope lp]) (bQ w.G ns q (af d.st) f (.ref c) A outer s E).env))) (λvs s1=>w.G.K.In s1.heap/\W (bQ w.G ns q (af d.st) f (.ref c) A outer s E) (call (.ref Wz) vs) (λv s'=>R (.ret v) s') s1) z.s:=by
   refine Ki (X:=bQ w.G ns q (af d.st) f (.ref c) A outer s E) (f:=aJ w.nm n ns (af d.st)) (W:=l.wd) (m:=w.nm) rfl b0 (λe _=>(eP n C e).e) cp τ z _ _ I (by rw[has];exact hq) λds z1 us l1 I1 r1 q1=>?_;refine J7 (clos:=[]) I1 LK (tE _ _ _ _) (bZ _ _ _ _) rfl λf' c' o' ctv z2 l2 I2 UR h1 h2 h3=>?_;refine⟨I2.bp,?_⟩;have lx:Le w.G.ex (aT z2.F ((bQ w.G ns q (af d.st) f (.ref c) A outer s E).aO z2.s.heap)):=I2.bs.x.tr I2.cc;have hh:cA (w.at (aT z2.F ((bQ w.G ns q (af d.st) f (.ref c) A outer s E).aO z2.s.heap))).G (kl+1) f' lX:=by
    obtain⟨ll,tT,hb⟩:=HL _ lx;refine An (I2.cc f' _ h1) rfl (Kf (m:=w.nm) (W:=ll.wd) (k:=kl) (n:=nl) (ws:=[]) (I2.cc f' _ h1) (I2.cc c' _ h2) h3 SL ⟨rfl,(by intro _ _ _ _ e;cases e),List.nodup_nil,(by intro _ _ _ e;cases e)⟩ (by simpa using tR) (tT.env (O.at _)) (by simpa using d7) λds M Q E z=>?_) (λK=>tS _ _ _ _ K);obtain⟨h1,h2⟩:=hb ds M Q E z;exact⟨h1,by simpa using h2⟩
   obtain⟨dS,FG,hs⟩:=q1 _ f' lx hh;obtain⟨tU,tV,Ko,e1,e2,e3⟩:=FG;have l0:w.ds[ig]?=some tU:=e1;rw[lZ]at l0;cases l0;have e4:w.G.mg UY.x=some (.ref tV):=e2.mg;rw[Fg.mg]at e4;cases e4;refine nT (x:=aT z2.F ((bQ w.G ns q (af d.st) f (.ref c) A outer s E).aO z2.s.heap)) (a5:=[]) (ds:=[]) (vs:=ds++[.ref f']) (Q:=en.rt) e3 C.room e2.b fx fu.at I2 Le.rfl I2.bp ((r1.up l2.d).append (.cons (by rw[ae]) .nil)) (by rw[YH,UR];exact hs) λd z3 u l3 I3 r3 q3=>KK.rt d τ z3 u (l1.tr (l2.tr l3)) I3 r3 q3
  cases as with
  |nil=>exact PySem.W.callWith_K (h₀:=w.G.base) I.ok.mod.ez Fg.kp go rfl rfl
  |cons a as=>
   have h':(bA a && aQ as)=true:=b0;rw[Yq]at h';exact PySem.W.callWith_K (h₀:=w.G.base) I.ok.mod.ez Fg.kp go (bz h'.1) (dr (Ao rfl h'.2))
 refine⟨d,f,_,hd,F,⟨λds M Q E z=>(H ds M Q E z).1,λA outer z args us ds Q E hr e0 hb r hs=>Zy (key.dX A outer z args us ds (aZ Q) E hr e0 hb r ⟨Q,rfl,hs⟩) λr s q=>q.ret⟩⟩
end N
end
section
set_option maxHeartbeats 1000000
namespace N
open PySem PySem.Spec PyProof.Rows L2
theorem Kp {w:Wo} (O:w.Ok) {nm:Nm} (hn:w.nm=nm) {k kp n np j ci:Nat}{ns jT ls:List Str}{es:List Expr}{e0:Expr}{params:Arguments}{body:List Stmt}{scope:Scope}{name x g:Str}{gp Ap cp rp:Pos}{b:B}{t:L}{sp:Sp}{l9:D->Sp} (i ig:Nat) (d:Ds) (hd:w.ds[i]?=some d)
  (cf:ar d.st=[.FunctionDef name params body [] none [] scope none name Ap,.Return (some (.Call (.Name g gp) (e0::es) [] cp)) rp])
  (LM:∀f fd q,c5 w.G.K q q d.st f fd->w.G.mg d.x=some (.ref f)->∃c T,fd.code=.ref c/\eh w.G c T Ap (q++".<locals>."++name))
  (l:aS w) (hl:l.Ok k) (S:ay ns d.ps (af d.st)) (hj:ns[j]?=some name) (Kq:loc (af d.st) name=true) (Kr:ci≠j) (Kt:ns[ci]?=some x) (Aq:ci<d.ps.length) (Ku:(af d.st).names.lookup x=some .cell)
  (tI:∀q L f cd,qualnameIn (envOfC q (af d.st) L f cd) name name=q++".<locals>."++name)
  (bZ:∀q L f cd,closureFor scope (envOfC q (af d.st) L f cd)=pure [(x,L+1)]) (Kv:∀L:Addr,(cellsFrom (L+1) (af d.st).names []).lookup x=some (L+1)) (tG:params.defaults=[]) (tH:params.kw_defaults=[]) (ha:∀env,annTrees params none env=[])
  (hg:aH (af d.st) g=true) (ce:(g == ("__debug__" : Str))=false) (tQ:nm.bD[ig]?=some g) (b0:aQ (e0::es)=true) (has:L.of ((e0::es).map (aJ nm n ns (af d.st)))=t)
  (SL:lW jT [x] scope) (tR:((jT++[x])++ls).Nodup) (tS:∀q clos doc pm c ctv K,bC K (PySem.W.fnX name q params body scope clos .none .none doc pm none c ctv) jT []) (d7:aC nm np ((jT++[x])++ls) scope body=b)
  (HL:∀e v,Le w.G.ex e->∃ll:aS (w.at e),ll.Ok kp/\∀ds M Q E,l9 v ds M Q E->ds.length=jT.length/\b.w ll.wd nm.ah (bg Q) ((ds.map some++[some v])++ls.map λ_=>none) M)
  (H:∀ds M Q E,sp ds M Q E->ds.length=d.ps.length/\∀f,t.w l.wd nm.ah ((start ns ds).set j (some (.ref f))) M λvs M1=>∀e v,Le w.G.ex e->ds[ci]?=some v->cA (w.at e).G (kp+1) f (l9 v)->∃dS,FO (w.at e) ig k dS/\dS vs M1 (aZ Q) X0):FO w i (k+1) sp:=by
 subst hn;obtain⟨f,fd,F⟩:=O.df i d hd;obtain⟨q,Fn⟩:=F.fn;obtain⟨c,T,hc,LK⟩:=LM f fd q Fn F.mg;obtain⟨oc,od,kV,doc,pm,an,ap,ct,bY,rfl,lk,cL⟩:=Fn.ex;obtain rfl:ap=.ref c:=hc;have key:a6 w.G (k+1) f (PySem.W.fnOf q q (dN d.st) (ar d.st) (af d.st) .none kV doc pm an (.ref c) ct) d.ps λds M R E=>∃Q,R=aZ Q/\sp ds M Q E:=by
  refine nV lk cL S (λds M R E ⟨Q,_,z⟩=>(H ds M Q E z).1) λA outer s M ds R E hr ⟨Q,e,z⟩=>?_;subst e;obtain⟨hlen,hq⟩:=H ds M Q E z;have C:aX w.nm l.wd k ns (af d.st) (bQ w.G ns q (af d.st) f (.ref c) A outer s E):=⟨rfl,rfl,S.nd,rfl,hr,hl.env O⟩;obtain⟨v,hv⟩:∃v,ds[ci]?=some v:=⟨_,Yo (by rw[hlen];exact Aq)⟩;rw[cf];refine⟨λen τ M=>τ[ci]?=some (some v)/\∀f,t.w l.wd w.nm.ah (τ.set j (some (.ref f))) M λvs M1=>∀e v,Le w.G.ex e->ds[ci]?=some v->cA (w.at e).G (kp+1) f (l9 v)->∃dS,FO (w.at e) ig k dS/\dS vs M1 en.rt X0,?_,?_,hq⟩
  case refine_2=>
   unfold start;rw[Y5 (by rw[Ym,hlen];exact Aq),Yz,hv];rfl
  intro τ z en R I hq KK;obtain⟨hτ,hq⟩:=hq;refine wpAny_execs_cons (J8 (clos:=[(x,s.s.heap.objs.size+1)]) I (by rw[show qualnameIn (bQ w.G ns q (af d.st) f (.ref c) A outer s E).env name name=_ from tI _ _ _ _];exact LK) S.nd hj (lO Kq) (.inl rfl) tG tH (ha _) (bZ _ _ _ _) rfl λf' c' o' Ar ctv z1 l1 I1 UR h1 h2 h3=>?_);have lY:=tQ;rw[show w.nm.bD=w.ds.map (·.x) from rfl,Yz]at lY;obtain⟨UY,lZ,rfl⟩:=Option.map_eq_some_iff.mp lY;obtain⟨Wz,Kl,Fg⟩:=O.df ig UY lZ;have pa:=gg (X:=bQ w.G ns q (af d.st) f (.ref c) A outer s E) (f:=aJ w.nm n ns (af d.st)) (W:=l.wd) (m:=w.nm) b0 λe _=>(eP n C e).e;rw[has]at pa;have h':(bA e0 && aQ es)=true:=b0;rw[Yq]at h';have pr:∀Rf:Flow->Shared->Prop,(∀u s,R (.ret u) s->Rf (.ret u) s)->W (bQ w.G ns q (af d.st) f (.ref c) A outer s E) (exec (.Return (some (.Call (.Name UY.x gp) (e0::es) [] cp)) rp) (bQ w.G ns q (af d.st) f (.ref c) A outer s E).env) Rf z1.s:=λRf Kw=>by
   refine wpAny_Return_some ?_;refine Y8 (fb I1 (C.aH hg) Fg.mg ce ?_);refine PySem.W.callWith_K (h₀:=w.G.base) I1.ok.mod.ez Fg.kp (pa cp _ z1 _ _ I1 (by rw[UR];exact hq f') λvs z2 us l2 I2 r2 q2=>⟨I2.bp,?_⟩) (bz h'.1) (dr h'.2);have lx:Le w.G.ex (aT z2.F ((bQ w.G ns q (af d.st) f (.ref c) A outer s E).aO z2.s.heap)):=I2.bs.x.tr I2.cc;have hh:cA (w.at (aT z2.F ((bQ w.G ns q (af d.st) f (.ref c) A outer s E).aO z2.s.heap))).G (kp+1) f' (l9 v):=by
    obtain⟨ll,tT,hb⟩:=HL _ v lx;have lq:=I2.cc f' _ (l2 f' _ h1);rw[show qualnameIn (bQ w.G ns q (af d.st) f (.ref c) A outer s E).env name name=_ from tI _ _ _ _]at lq h3;have UD:=Kh (clos:=[(x,s.s.heap.objs.size+1)]) (ws:=[v]) I2 rfl (by simp) λi y a u e1 e2=>by
     cases i with
     |succ i=>cases e1
     |zero=>
      cases e1;cases e2;exact⟨Kv _,rfl,Ku,ci,Kt,by rw[List.getElem?_set_ne (Zl Kr)];exact hτ⟩
    exact An lq rfl (Kg (m:=w.nm) (W:=ll.wd) (k:=kp) (n:=np) lq (I2.cc c' _ (l2 c' _ h2)) h3 SL UD tR (tT.env (O.at _)) d7 hb) λK=>tS _ _ _ _ _ _ K
   obtain⟨dS,FG,hs⟩:=q2 _ v lx hv hh;obtain⟨tU,tV,Ko,e1,e2,e3⟩:=FG;have l0:w.ds[ig]?=some tU:=e1;rw[lZ]at l0;cases l0;have e4:w.G.mg UY.x=some (.ref tV):=e2.mg;rw[Fg.mg]at e4;cases e4;exact nT (x:=aT z2.F ((bQ w.G ns q (af d.st) f (.ref c) A outer s E).aO z2.s.heap)) (a5:=[]) (ds:=[]) (Q:=en.rt) e3 C.room e2.b fx fu.at I2 Le.rfl I2.bp r2 (by rw[YH];exact hs) λd z3 u l3 I3 r3 q3=>Kw _ _ (KK.rt d _ z3 u (l1.tr (l2.tr l3)) I3 r3 q3)
  exact wpAny_execs_cons (pr _ λu s h=>h)
 refine⟨d,f,_,hd,F,⟨λds M Q E z=>(H ds M Q E z).1,λA outer z args us ds Q E hr e0 hb r hs=>Zy (key.dX A outer z args us ds (aZ Q) E hr e0 hb r ⟨Q,rfl,hs⟩) λr s q=>q.ret⟩⟩
end N
end
section
set_option maxHeartbeats 1000000
namespace N
open PySem PySem.Spec PyProof.Rows L2
set_option genInjectivity false
set_option genSizeOfSpec false
structure As where
 g:Str
 gp:Pos
 as:List Expr
 params:Arguments
 body:Expr
 scope:Scope
 lp:Pos
 cp:Pos
 rp:Pos
structure Au where
 name:Str
 params:Arguments
 body:List Stmt
 scope:Scope
 np:Pos
 g:Str
 gp:Pos
 es:List Expr
 cp:Pos
 rp:Pos
noncomputable def Av:Stmt->Option (Option Expr×Pos)
 |.Return e p=>some (e,p)
 |_=>none
noncomputable def Aw:Expr->Option (Expr×List Expr×Pos)
 |.Call f as _ p=>some (f,as,p)
 |_=>none
noncomputable def Ky:Expr->Option (Arguments×Expr×Scope×Pos)
 |.Lambda a b s p=>some (a,b,s,p)
 |_=>none
noncomputable def Kz:Stmt->Option (Str×Arguments×List Stmt×Scope×Pos)
 |.FunctionDef n a b _ _ _ s _ _ p=>some (n,a,b,s,p)
 |_=>none
noncomputable def KC (b:List Stmt):Option As:=b.head?.bind λs=>(Av s).bind λr=>r.1.bind λe=>(Aw e).bind λc=>(lM c.1).bind λg=>c.2.1.getLast?.bind λl=>(Ky l).map λq=>
 ⟨g.1,g.2,c.2.1.dropLast,q.1,q.2.1,q.2.2.1,q.2.2.2,c.2.2,r.2⟩
noncomputable def KD (b:List Stmt):Option Au:=b.head?.bind λd=>(Kz d).bind λq=>b.getLast?.bind λs=>(Av s).bind λr=>r.1.bind λe=>(Aw e).bind λc=>(lM c.1).map λg=>
 ⟨q.1,q.2.1,q.2.2.1,q.2.2.2.1,q.2.2.2.2,g.1,g.2,c.2.1,c.2.2,r.2⟩
end N
end
section
namespace NQ
open PySem N
open L2
inductive Kd where
 |num |word
 |row (fs:List (Str×Kd))
 |ai (k:Kd)
mutual
noncomputable def kD:Kd->D
 |.num=>.tup [.str "num"]
 |.word=>.tup [.str "word"]
 |.row fs=>.tup [.str "row",.tup (bI fs)]
 |.ai k=>.tup [.str "bag",kD k]
noncomputable def bI:List (Str×Kd)->List D
 |[]=>[]
 |(f,k)::r=>.tup [.str f,kD k]::bI r
end
inductive Qn where
 |num (i:Int) |word (s:Str) |var (x:Str) |tab (x:Str) |none (k:Kd)
 |row (fs:List (Str×Qn))
 |at (f:Str) (q:Qn)
 |add (a b:Qn) |mul (a b:Qn) |one (q:Qn) |both (a b:Qn)
 |times (i:Int) (q:Qn)
 |for (x:Str) (a b:Qn) |bh (c q:Qn) |let (x:Str) (a b:Qn)
 |same (a b:Qn) |under (a b:Qn) |and (a b:Qn) |or (a b:Qn) |not (a:Qn)
mutual
noncomputable def qD:Qn->D
 |.num i=>.tup [.str "num",.int i]
 |.word s=>.tup [.str "word",.str s]
 |.var s=>.tup [.str "var",.str s]
 |.tab s=>.tup [.str "table",.str s]
 |.none k=>.tup [.str "none",kD k]
 |.row fs=>.tup [.str "row",.tup (bE fs)]
 |.at f q=>.tup [.str "at",.str f,qD q]
 |.add a b=>.tup [.str "add",qD a,qD b]
 |.mul a b=>.tup [.str "mul",qD a,qD b]
 |.one a=>.tup [.str "one",qD a]
 |.both a b=>.tup [.str "both",qD a,qD b]
 |.times i a=>.tup [.str "times",.int i,qD a]
 |.for x a b=>.tup [.str "for",.str x,qD a,qD b]
 |.bh a b=>.tup [.str "when",qD a,qD b]
 |.let x a b=>.tup [.str "let",.str x,qD a,qD b]
 |.same a b=>.tup [.str "same",qD a,qD b]
 |.under a b=>.tup [.str "under",qD a,qD b]
 |.and a b=>.tup [.str "and",qD a,qD b]
 |.or a b=>.tup [.str "or",qD a,qD b]
 |.not a=>.tup [.str "not",qD a]
noncomputable def bE:List (Str×Qn)->List D
 |[]=>[]
 |(f,q)::r=>.tup [.str f,qD q]::bE r
end
mutual
noncomputable def nq:Qn->Nat
 |.num _=>1 |.word _=>1 |.var _=>1 |.tab _=>1 |.none _=>1
 |.row fs=>1+b7 fs
 |.at _ q=>1+nq q
 |.add a b=>1+nq a+nq b
 |.mul a b=>1+nq a+nq b
 |.one a=>1+nq a
 |.both a b=>1+nq a+nq b
 |.times _ a=>1+nq a
 |.for _ a b=>1+nq a+nq b
 |.bh a b=>1+nq a+nq b
 |.let _ a b=>1+nq a+nq b
 |.same a b=>1+nq a+nq b
 |.under a b=>1+nq a+nq b
 |.and a b=>1+nq a+nq b
 |.or a b=>1+nq a+nq b
 |.not a=>1+nq a
noncomputable def b7:List (Str×Qn)->Nat
 |[]=>0
 |(_,q)::r=>nq q+b7 r
end
mutual
noncomputable def kz:Kd->Nat
 |.num=>1
 |.word=>1
 |.row fs=>md fs+1
 |.ai k=>kz k+1
noncomputable def md:List (Str×Kd)->Nat
 |[]=>0
 |(_,k)::r=>kz k+md r+1
end
abbrev Sc:=List (Str×Kd)
noncomputable def lk (x:Str):Sc->Option Kd
 |[]=>.none
 |(y,k)::r=>if x=y then some k else lk x r
mutual
noncomputable def kd:Kd->Nat
 |.num=>1
 |.word=>1
 |.row fs=>jU fs+3
 |.ai k=>kd k+1
noncomputable def jU:List (Str×Kd)->Nat
 |[]=>0
 |(_,k)::r=>max (kd k) (jU r)
end
mutual
noncomputable def gY:Kd->Bool
 |.num=>true
 |.word=>true
 |.row fs=>oY fs
 |.ai k=>gY k
noncomputable def oY:List (Str×Kd)->Bool
 |[]=>true
 |(f,k)::r=>decide (f≠"table") && gY k && oY r
end
mutual
inductive Ty (S:Str->Option Kd):Sc->Qn->Kd->Prop
 |num {G i}:Ty S G (.num i) .num
 |word {G s}:Ty S G (.word s) .word
 |var {G x k}:lk x G=some k->Ty S G (.var x) k
 |tab {G x k}:S x=some k->Ty S G (.tab x) (.ai k)
 |none {G k}:gY k=true->kz k<900->Ty S G (.none k) (.ai k)
 |row {G fs ks}:fs.length<100->("table" : Str) ∉ ks.map (·.1)->dT S G fs ks->Ty S G (.row fs) (.row ks)
 |at {G f q ks k}:(ks.map (·.1)).Nodup->Ty S G q (.row ks)->lk f ks=some k->Ty S G (.at f q) k
 |add {G a b}:Ty S G a .num->Ty S G b .num->Ty S G (.add a b) .num
 |mul {G a b}:Ty S G a .num->Ty S G b .num->Ty S G (.mul a b) .num
 |one {G q k}:Ty S G q k->Ty S G (.one q) (.ai k)
 |both {G a b k}:kz k<900->Ty S G a (.ai k)->Ty S G b (.ai k)->Ty S G (.both a b) (.ai k)
 |times {G i a k}:Ty S G a (.ai k)->Ty S G (.times i a) (.ai k)
 |for {G x a b k l}:kd l<=20/\kz l<900->Ty S G a (.ai l)->Ty S ((x,l)::G) b (.ai k)->Ty S G (.for x a b) (.ai k)
 |bh {G c a k}:cG S G c->Ty S G a (.ai k)->Ty S G (.bh c a) (.ai k)
 |let {G x a b k l}:kd l<=20->Ty S G a l->Ty S ((x,l)::G) b k->Ty S G (.let x a b) k
inductive dT (S:Str->Option Kd):Sc->List (Str×Qn)->List (Str×Kd)->Prop
 |nil {G}:dT S G [] []
 |cons {G f q k r s}:Ty S G q k->dT S G r s->dT S G ((f,q)::r) ((f,k)::s)
inductive cG (S:Str->Option Kd):Sc->Qn->Prop
 |jV {G a b}:Ty S G a .num->Ty S G b .num->cG S G (.same a b)
 |jW {G a b}:Ty S G a .word->Ty S G b .word->cG S G (.same a b)
 |under {G a b}:Ty S G a .num->Ty S G b .num->cG S G (.under a b)
 |and {G a b}:cG S G a->cG S G b->cG S G (.and a b)
 |or {G a b}:cG S G a->cG S G b->cG S G (.or a b)
 |not {G a}:cG S G a->cG S G (.not a)
end
mutual
theorem gn:∀k,aD (kD k)=true
 |.num=>rfl
 |.word=>rfl
 |.row fs=>by rw[kD,aD,aM,aM,aM,aD,aD,Ax fs];rfl
 |.ai k=>by rw[kD,aD,aM,aM,aM,aD,gn k];rfl
theorem Ax:∀fs,aM (bI fs)=true
 |[]=>rfl
 |(f,k)::r=>by rw[bI,aM,aD,aM,aM,aM,aD,gn k,Ax r];rfl
end
mutual
theorem jX:∀k,bc (kD k)<=kd k
 |.num=>by rw[kD,kd];decide
 |.word=>by rw[kD,kd];decide
 |.row fs=>by have:=Ay fs;rw[kD,bc,a4,a4,a4,bc,bc,kd];lia
 |.ai k=>by have:=jX k;rw[kD,bc,a4,a4,a4,bc,kd];lia
theorem Ay:∀fs,a4 (bI fs)<=jU fs+1
 |[]=>by rw[bI,a4];lia
 |(f,k)::r=>by have:=jX k;have:=Ay r;rw[bI,a4,bc,a4,a4,a4,bc,jU];lia
end
theorem eT {a b:Str}{xs ys:List D} (h:aA (.tup (.str a::xs)) (.tup (.str b::ys))=true):a=b/\bB xs ys=true:=by
 simp only[aA,bB,qB,kT,Option.any_some,Yq,beq_iff_eq,Option.some.injEq]at h;exact⟨h.1.symm,h.2⟩
mutual
theorem oZ:∀{a b:Kd},aA (kD a) (kD b)=true->a=b
 |.num,b,h=>by cases b <;> first |rfl |(exact absurd (eT h).1 (by decide +kernel))
 |.word,b,h=>by cases b <;> first |rfl |(exact absurd (eT h).1 (by decide +kernel))
 |.row fs,b,h=>by
  cases b with
  |row gs=>
   have h:=(eT h).2;simp only[bB,aA,qB,Option.any_some,Yq]at h;rw[Az h.1]
  |num=>exact absurd (eT h).1 (by decide +kernel)
  |word=>exact absurd (eT h).1 (by decide +kernel)
  |ai k=>exact absurd (eT h).1 (by decide +kernel)
 |.ai k,b,h=>by
  cases b with
  |ai l=>
   have h:=(eT h).2;simp only[bB,Yq]at h;rw[oZ h.1]
  |num=>exact absurd (eT h).1 (by decide +kernel)
  |word=>exact absurd (eT h).1 (by decide +kernel)
  |row k=>exact absurd (eT h).1 (by decide +kernel)
theorem Az:∀{a b:List (Str×Kd)},bB (bI a) (bI b)=true->a=b
 |[],[],_=>rfl
 |[],(_,_)::_,h=>by simp [bI,bB]at h
 |(_,_)::_,[],h=>by simp [bI,bB]at h
 |(f,k)::r,(g,l)::s,h=>by
  rw[bI,bI,bB,Yq]at h;obtain⟨e,h1⟩:=eT h.1;simp only[bB,Yq]at h1;rw[e,oZ h1.1,Az h.2]
end
noncomputable instance:DecidableEq Kd:=λa b=>decidable_of_iff (aA (kD a) (kD b)=true) ⟨oZ,λe=>by rw[e];exact fU _ (gn b)⟩
theorem KG {a b:Kd}:aA (kD a) (kD b)=decide (a=b):=by
 by_cases h:a=b
 ·subst h;rw[decide_eq_true rfl];exact fU _ (gn a)
 ·rw[decide_eq_false h];cases z:aA (kD a) (kD b) with
  |false=>rfl
  |true=>exact absurd (oZ z) h
theorem o6 {k:Kd}{M:Mp}:bP (kD k) M=kD k:=by cases k <;> rfl
theorem jY {n:Bool}{a b:Kd}{M:Mp}{k:Bool->Prop} (h:kd a<=50) (q:k (decide (a=b))):eG n (kD a) (kD b) M k:=by
 refine .mk ?_ ?_
 ·rw[o6,o6];exact .inl ⟨gn a,gn b,Yy (jX a) (by lia)⟩
 ·rw[o6,o6,KG];exact q
theorem av {n:Bool}{a b:Str}{M:Mp}{k:Bool->Prop} (q:k (decide (a=b))):eG n (.str a) (.str b) M k:=by
 refine .mk (.inl ⟨rfl,rfl,YE _⟩) ?_;have:aA (.str a) (.str b)=decide (a=b):=by
  show (some b == some a)=decide (a=b);by_cases h:a=b
  ·subst h;simp
  ·rw[decide_eq_false h];exact beq_eq_false_iff_ne.mpr λz=>h (YY z).symm
 exact this ▸ q
theorem a' {n:Bool}{a b:Int}{M:Mp}{k:Bool->Prop} (q:k (decide (a=b))):eG n (.int a) (.int b) M k:=by
 refine .mk (.inl ⟨rfl,rfl,YE _⟩) ?_;have:aA (.int a) (.int b)=decide (a=b):=by
  show (some b == some a)=decide (a=b);by_cases h:a=b
  ·subst h;simp
  ·rw[decide_eq_false h];exact beq_eq_false_iff_ne.mpr λz=>h (YY z).symm
 exact this ▸ q
theorem aR {c:Prop} [Decidable c] {a b:Prop} (h:c->a) (g:¬c->b):if c then a else b:=by
 split
 ·exact h ‹_›
 ·exact g ‹_›
theorem l1:1<=sizeLine:=by decide
theorem l2:2<=sizeLine:=by decide
theorem l3:3<=sizeLine:=by decide
theorem l4:4<=sizeLine:=by decide
theorem l5:5<=sizeLine:=by decide
theorem VZ {i j:Int} (h:-(2 ^ 64)<j/\j<2 ^ 64):CM i j:=.inl (.inr h)
theorem KH {i j:Int} (h:-(2 ^ 64)<i/\i<2 ^ 64):CM i j:=.inl (.inl h)
theorem pz {n:Nat}:(0:Int)<((n+1:Nat):Int):=Int.natCast_pos.mpr (Nat.succ_pos n)
theorem o7 {n:Bool}{ds:List D}{M:Mp}{k:Bool->Prop} (q:k ds.isEmpty):eG n (.lst ds) (.lst []) M k:=by
 refine .mk (.inr ⟨rfl,rfl⟩) ?_;have:aA (.lst ds) (.lst [])=ds.isEmpty:=by
  show bB ds []=_;cases ds <;> simp [bB]
 exact this ▸ q
noncomputable def eU (sc:Sc):List D:=sc.map λp=>.tup [.str p.1,kD p.2]
noncomputable abbrev a7 (sc:Sc):D:=.lst (eU sc)
noncomputable def aL (ms:Sc):List (Key×D):=ms.map λm=>(.inr m.1,kD m.2)
noncomputable def eV (ms:Sc):D:=.ak (ms.map λm=>.inr m.1) (ms.map λm=>kD m.2)
theorem o8 (ms:Sc):(ms.map λm=>(Zs m.1:Key)).zip (ms.map λm=>kD m.2)=aL ms:=by
 unfold aL;induction ms with
 |nil=>rfl
 |cons m ms ih=>rw[Yu,Yu,Zo,ih,Yu]
theorem AA (ms:Sc):D.ak ((aL ms).map (·.1)) ((aL ms).map (·.2))=eV ms:=by
 unfold aL eV;rw[Zq,Zq];rfl
theorem pd {x:Str}:∀{a b:Sc},lk x (a++b)=(lk x a).or (lk x b)
 |[],b=>rfl
 |(y,k)::r,b=>by
  rw[ZH,lk,lk];split
  ·rfl
  ·exact pd
theorem ef {x:Str}{k:Kd}:∀{sc:Sc},lk x sc=some k->(x,k)∈sc
 |(y,l)::r,h=>by
  rw[lk]at h;split at h
  ·rename_i e;rw[e,YY h];exact Ys
  ·exact Yt _ (ef h)
theorem tW {x:Str}{k:Kd}:∀{sc:Sc},(sc.map (·.1)).Nodup->(x,k)∈sc->lk x sc=some k
 |(y,l)::r,nd,h=>by
  rw[Yu,Z9]at nd;rw[lk];rcases List.mem_cons.mp h with e |h2
  ·cases e;rw[if_pos rfl]
  ·rw[if_neg,tW nd.2 h2];intro e;exact nd.1 (List.mem_map.mpr ⟨_,h2,e⟩)
theorem AB {G G':Sc}{y:Str}{l:Kd} (g:∀x k,lk x G=some k->lk x G'=some k):∀x k,lk x ((y,l)::G)=some k->lk x ((y,l)::G')=some k:=λx k h=>by
 rw[lk]at h ⊢;split at h
 ·rename_i e;rw[if_pos e];exact h
 ·rename_i e;rw[if_neg e];exact g x k h
theorem gq {x:Str}:∀{ms:Sc},aG (aL ms) (.inr x)=(lk x ms).map kD
 |[]=>rfl
 |(y,l)::r=>by
  have ih:=@gq x r;unfold aG aL at *;rw[Yu,Z0,lk];by_cases e:x=y
  ·subst e;rw[if_pos rfl];simp
  ·have e':¬(Zs y:Key)=Zs x:=λz=>e (aap z).symm;rw[if_neg e];simp only[e',decide_false];exact ih
theorem lT {x:Str}:∀{sc:Sc},(lk x sc).isSome=decide (x∈sc.map (·.1))
 |[]=>rfl
 |(y,k)::r=>by
  rw[lk,Yu];by_cases e:x=y
  ·subst e;simp
  ·rw[if_neg e,lT];simp [e]
theorem AD {ms:Sc}{x:Str}{k:Kd} (h:x ∉ ms.map (·.1)):a9 (aL ms) (.inr x) (kD k)=aL (ms++[(x,k)]):=by
 unfold a9;rw[if_neg]
 ·unfold aL;simp
 ·intro z;obtain⟨kv,h1,h2⟩:=List.any_eq_true.mp z;unfold aL at h1;obtain⟨m,hm,rfl⟩:=List.mem_map.mp h1;exact h (List.mem_map.mpr ⟨m,hm,aap (of_decide_eq_true h2)⟩)
theorem AE {α:Type} {xs:List α}{y:α} (h:xs.Nodup) (n:y ∉ xs):(xs++[y]).Nodup:=by
 rw[List.nodup_append];exact⟨h,by simp,λa ha b hb e=>n (by rw[List.mem_singleton.mp hb]at e;rw[<- e];exact ha)⟩
theorem KJ {ms:Sc}{ys:List (Key×D)} (h:ys.Perm (aL ms)):∃out:Sc,ys.map eH=eU out/\out.Perm ms:=by
 have key:∀{ys:List (Key×D)}{kvs:List (Key×D)},ys.Perm kvs->∀ms:Sc,kvs=aL ms->∃out:Sc,ys=aL out/\out.Perm ms:=by
  intro ys kvs p
  induction p with
  |nil=>intro ms e;exact⟨[],rfl,by cases ms with |nil=>exact .nil |cons=>cases e⟩
  |cons x p ih=>intro ms e;cases ms with
   |nil=>cases e
   |cons m ms=>cases e;obtain⟨out,rfl,h⟩:=ih ms rfl;exact⟨m::out,rfl,h.cons _⟩
  |swap x y l=>intro ms e;match ms,e with
   |m::m'::ms,e=>cases e;exact⟨m'::m::ms,rfl,.swap ..⟩
  |trans p q KL KN=>intro ms e;obtain⟨o,rfl,h⟩:=KN ms e;obtain⟨o',rfl,h'⟩:=KL o rfl;exact⟨o',rfl,h'.trans h⟩
 obtain⟨out,rfl,h1⟩:=key h ms rfl;exact⟨out,by unfold aL eU;rw[Zq];rfl,h1⟩
theorem AF {ms:Sc}{M M0:Mp}{q:QK}{t:DE} {τ:St} (ht:∀k,k (eV ms) M->t τ M0 k) (hl:ms.length<64) (VD:∀m∈ms,kd m.2<=50) (h:∀out:Sc,out.Perm ms->bL (eU out) M q):lL t τ M0 q:=by
 refine ht _ ⟨by rw[Ym];exact hl,λk hk=>?_,λd hd=>?_,λys p=>?_⟩
 ·obtain⟨m,_,rfl⟩:=List.mem_map.mp hk;exact⟨_,rfl⟩
 ·obtain⟨m,hm,rfl⟩:=List.mem_map.mp hd;exact⟨gn _,Yy (jX _) (VD m hm)⟩
 ·rw[o8]at p;obtain⟨out,e,p'⟩:=KJ p;rw[e];exact h out p'
theorem dA {xs:List D}{r:Int} (h0:0<=r) (h1:r<xs.length):∃d,cz xs r=some d/\d∈xs:=by
 have hn:r.toNat<xs.length:=by lia
 refine⟨xs[r.toNat],?_,List.getElem_mem hn⟩;unfold cz fh;rw[if_pos h0,if_pos h1];exact Yo hn
theorem KO {a b:D}{c:Bool}:cz [a,b] (if c=true then 1 else 0)=some (if c=true then b else a):=by cases c <;> rfl
theorem KP {a b:Int}{c:Bool}:cz [D.int a,D.int b] (if c=true then 1 else 0)=some (.int (if c=true then b else a)):=by cases c <;> rfl
theorem Ty.all {S:Str->Option Kd}{P:Sc->Qn->Kd->Prop}{L:Sc->List (Str×Qn)->List (Str×Kd)->Prop}{C:Sc->Qn->Prop}
    (num:∀{G i},P G (.num i) .num) (word:∀{G s},P G (.word s) .word) (var:∀{G x k},lk x G=some k->P G (.var x) k) (tab:∀{G x k},S x=some k->P G (.tab x) (.ai k))
    (none:∀{G k},gY k=true->kz k<900->P G (.none k) (.ai k)) (row:∀{G fs ks},fs.length<100->("table" : Str) ∉ ks.map (·.1)->L G fs ks->P G (.row fs) (.row ks))
    (iA:∀{G f q ks k},(ks.map (·.1)).Nodup->P G q (.row ks)->lk f ks=some k->P G (.at f q) k) (add:∀{G a b},P G a .num->P G b .num->P G (.add a b) .num) (mul:∀{G a b},P G a .num->P G b .num->P G (.mul a b) .num)
    (one:∀{G q k},P G q k->P G (.one q) (.ai k)) (both:∀{G a b k},kz k<900->P G a (.ai k)->P G b (.ai k)->P G (.both a b) (.ai k)) (times:∀{G i a k},P G a (.ai k)->P G (.times i a) (.ai k))
    (tX:∀{G x a b k l},kd l<=20/\kz l<900->P G a (.ai l)->P ((x,l)::G) b (.ai k)->P G (.for x a b) (.ai k)) (bh:∀{G c a k},C G c->P G a (.ai k)->P G (.bh c a) (.ai k)) (tY:∀{G x a b k l},kd l<=20->P G a l->P ((x,l)::G) b k->P G (.let x a b) k)
    (nil:∀{G},L G [] []) (cons:∀{G f q k r s},P G q k->L G r s->L G ((f,q)::r) ((f,k)::s))
    (jV:∀{G a b},P G a .num->P G b .num->C G (.same a b)) (jW:∀{G a b},P G a .word->P G b .word->C G (.same a b)) (under:∀{G a b},P G a .num->P G b .num->C G (.under a b))
    (and:∀{G a b},C G a->C G b->C G (.and a b)) (or:∀{G a b},C G a->C G b->C G (.or a b)) (not:∀{G a},C G a->C G (.not a)) :
    (∀{G q k},Ty S G q k->P G q k)/\(∀{G q k},dT S G q k->L G q k)/\∀{G q},cG S G q->C G q:=
  ⟨λh=>@Ty.rec S (λG q k _=>P G q k) (λG q k _=>L G q k) (λG q _=>C G q) num word var tab none (λl n _ h=>row l n h) (λn _ e h=>iA n h e) (λ_ _=>add) (λ_ _=>mul) (λ_=>one) (λz _ _=>both z) (λ_=>times) (λz _ _=>tX z) (λ_ _=>bh) (λz _ _=>tY z) nil (λ_ _=>cons) (λ_ _=>jV) (λ_ _=>jW) (λ_ _=>under) (λ_ _=>and) (λ_ _=>or) (λ_=>not) _ _ _ h,
   λh=>@dT.rec S (λG q k _=>P G q k) (λG q k _=>L G q k) (λG q _=>C G q) num word var tab none (λl n _ h=>row l n h) (λn _ e h=>iA n h e) (λ_ _=>add) (λ_ _=>mul) (λ_=>one) (λz _ _=>both z) (λ_=>times) (λz _ _=>tX z) (λ_ _=>bh) (λz _ _=>tY z) nil (λ_ _=>cons) (λ_ _=>jV) (λ_ _=>jW) (λ_ _=>under) (λ_ _=>and) (λ_ _=>or) (λ_=>not) _ _ _ h,
   λh=>@cG.rec S (λG q k _=>P G q k) (λG q k _=>L G q k) (λG q _=>C G q) num word var tab none (λl n _ h=>row l n h) (λn _ e h=>iA n h e) (λ_ _=>add) (λ_ _=>mul) (λ_=>one) (λz _ _=>both z) (λ_=>times) (λz _ _=>tX z) (λ_ _=>bh) (λz _ _=>tY z) nil (λ_ _=>cons) (λ_ _=>jV) (λ_ _=>jW) (λ_ _=>under) (λ_ _=>and) (λ_ _=>or) (λ_=>not) _ _ h⟩
def tZ (G G':Sc):Prop:=∀x k,lk x G=some k->lk x G'=some k
theorem Ty.mono {S S':Str->Option Kd} (s:∀x k,S x=some k->S' x=some k) {G:Sc}{q:Qn}{k:Kd} (h:Ty S G q k) {G':Sc} (g:∀x k,lk x G=some k->lk x G'=some k):Ty S' G' q k:=
 (Ty.all (P:=λG q k=>∀G',tZ G G'->Ty S' G' q k) (L:=λG q k=>∀G',tZ G G'->dT S' G' q k) (C:=λG q=>∀G',tZ G G'->cG S' G' q)
  (λ_ _=>.num) (λ_ _=>.word) (λh _ g=>.var (g _ _ h)) (λh _ _=>.tab (s _ _ h)) (λh z _ _=>.none h z) (λl n h _ g=>.row l n (h _ g)) (λn h e _ g=>.at n (h _ g) e) (λh e _ g=>.add (h _ g) (e _ g)) (λh e _ g=>.mul (h _ g) (e _ g)) (λh _ g=>.one (h _ g)) (λz h e _ g=>.both z (h _ g) (e _ g)) (λh _ g=>.times (h _ g))
  (λz h e _ g=>.for z (h _ g) (e _ (AB g))) (λh e _ g=>.bh (h _ g) (e _ g)) (λz h e _ g=>.let z (h _ g) (e _ (AB g))) (λ_ _=>.nil) (λh e _ g=>.cons (h _ g) (e _ g)) (λh e _ g=>.jV (h _ g) (e _ g)) (λh e _ g=>.jW (h _ g) (e _ g)) (λh e _ g=>.under (h _ g) (e _ g)) (λh e _ g=>.and (h _ g) (e _ g)) (λh e _ g=>.or (h _ g) (e _ g)) (λh _ g=>.not (h _ g))).1 h G' g
theorem AG {M:Mp}{p:Addr}{o:MO} (h:M p=none):rm (up M p o) p=M:=funext λb=>by
 by_cases e:b=p
 ·rw[e,mQ,h]
 ·rw[p8 e,ax e]
theorem AH {a:Addr}{d:D}:cT a d (some (.ref a))=some d:=if_pos rfl
theorem KQ {a b:Addr}{d:D} (h:b≠a):cT a d (some (.ref b))=some (.ref b):=if_neg h
theorem KR {P:St->Mp->Prop} {τ:St} {M:Mp}{p:Addr}{kvs:List (Key×D)} (h:M p=none) (q:ec P (τ.map (cT p (.ak (kvs.map (·.1)) (kvs.map (·.2))))) M):ec P τ (up M p (.ak kvs)):=.ak p kvs au (by rw[AG h];exact q)
theorem KU {P:St->Mp->Prop} {τ:St} {M:Mp}{p:Addr}{ds:List D} (h:M p=none) (q:ec P (τ.map (cT p (.lst ds))) M):ec P τ (up M p (.lst ds)):=.lst p ds au (by rw[AG h];exact q)
theorem pe {A B:Mp} (h:cg A B) {p:Addr}{o:MO} (e:A p=none) (n:o.tJ=true):cg A (up B p o):=⟨λa u z=>by rw[ax (di z e)];exact h.sub a u z,λa b z q=>by
 by_cases hb:b=p
 ·subst hb;rw[au]at q;cases q;cases n
 ·rw[ax hb]at q;exact h.own a b z q⟩
theorem cg.no {A B:Mp} (h:cg A B) {p:Addr} (e:B p=none):A p=none:=by
 cases z:A p with
 |none=>rfl
 |some o=>rw[h.sub p o z]at e;cases e
theorem AI {Q:QK}{M M':Mp}{p:Addr}{ds:List D} (hs:cg M M') (hp:M p=none) (h':M' p=some (.lst ds)) (h:Q (.lst ds) M):aZ Q (.ref p) M':=⟨M,_,hs,.lst h' hp .rfl,h⟩
theorem me {Q:QK}{M M':Mp}{d:D} (hs:cg M M') (h:Q d M):aZ Q d M':=⟨M,d,hs,.rfl,h⟩
noncomputable def jZ:B->S
 |.cons s _=>s
 |.nil=>.pass
noncomputable def KW:S->B
 |.cond _ _ b=>b
 |_=>.nil
noncomputable def AJ:B->B
 |.cons _ r=>r
 |.nil=>.nil
noncomputable def KY:S->B
 |.cond _ a _=>a
 |_=>.nil
theorem eW {t u:DS}{e:En} {τ:St} {M:Mp} (h:∀N:St->Mp->Prop,(∀ τ M,u e τ M->N τ M)->t { e with nx:=N } τ M):eA t u e τ M:=h _ λ_ _ z=>z
noncomputable def dD (kvs:List (Key×D)):D:=.ak (kvs.map (·.1)) (kvs.map (·.2))
theorem gZ:∀kvs:List (Key×D),(kvs.map (·.1)).zip (kvs.map (·.2))=kvs
 |[]=>rfl
 |(k,d)::r=>by rw[Yu,Yu,Zo,gZ r]
theorem t4 {kvs:List (Key×D)}{x:Str}{d:D}{M:Mp}{Q:QK} (h:aG kvs (.inr x)=some d) (q:Q d M):aB (dD kvs) (.str x) M Q:=⟨d,by rw[gZ];exact h,q⟩
theorem t6 {kvs:List (Key×D)}{x:Str}{M:Mp}{k:Bool->Prop} (q:k (aG kvs (.inr x)).isSome):fi (.str x) (dD kvs) M k:=by
 refine⟨?_⟩;show k (aG ((kvs.map (·.1)).zip (kvs.map (·.2))) (.inr x)).isSome;rw[gZ];exact q
structure Wc (C:Addr) (M0:Mp) (x a b:Addr):Prop where
 hx:∃dx,M0 x=some (.ins C dx [("waiting",.ref a),("found",.ref b)])
 ne:a≠b
 xa:x≠a
 xb:x≠b
noncomputable def Wm (M0:Mp) (a b:Addr) (ws fs:List D):Mp:=up (up M0 a (.lst ws)) b (.lst fs)
theorem mh {M:Mp}{p r:Addr}{o o':MO} (h:p≠r):up (up M p o) r o'=up (up M r o') p o:=by
 funext b;unfold up;by_cases h1:b=r
 ·subst h1;rw[if_pos rfl,if_neg (Zl h),if_pos rfl]
 ·rw[if_neg h1,if_neg h1]
section
variable {C:Addr}{M0:Mp}{x a b:Addr}{ws fs:List D}
theorem Wc.gx (h:Wc C M0 x a b):∃dx,Wm M0 a b ws fs x=some (.ins C dx [("waiting",.ref a),("found",.ref b)]):=let ⟨dx,e⟩:=h.hx;⟨dx,by unfold Wm;rw[ax h.xb,ax h.xa];exact e⟩
theorem Wc.ga (h:Wc C M0 x a b):Wm M0 a b ws fs a=some (.lst ws):=by unfold Wm;rw[ax h.ne];exact au
theorem Wm.gb:Wm M0 a b ws fs b=some (.lst fs):=au
theorem Wc.pa (h:Wc C M0 x a b) {cr:List D}:up (Wm M0 a b ws fs) a (.lst cr)=Wm M0 a b cr fs:=by unfold Wm;rw[mh (Zl h.ne),N.cF]
theorem Wm.pb {fs':List D}:up (Wm M0 a b ws fs) b (.lst fs')=Wm M0 a b ws fs':=N.cF
theorem bo {m:Str}{d e:D} (h1:(m == "waiting")=false) (h2:(m == "found")=false):[(("waiting" : Str),d),("found",e)].lookup m=none:=by simp [List.lookup,h1,h2]
end
theorem g6 {d:D}{r:List D}:cz (d::r) 0=some d:=by
 unfold cz fh;rw[if_pos (by decide),if_pos (by rw[Yv];lia)];rfl
theorem AL {pre:List D}{d:D}:cz (pre++[d]) (-1)=some d:=by
 unfold cz fh;rw[if_neg (by decide)];have:(pre++[d]).length=pre.length+1:=by simp
 rw[this,if_pos (by lia)];show (pre++[d])[((pre.length+1:Nat)+(-1:Int)).toNat]?=some d;rw[show ((pre.length+1:Nat)+(-1:Int)).toNat=pre.length by lia];simp
theorem KZ {M M':Mp} (h:∀c,M c≠none->M' c=M c) (g:∀c e,M' c=some (.own e)->M e≠none->M c=some (.own e)):cg M M':=⟨λc o e=>by rw[h c (by rw[e];exact YI _)];exact e,λe c n q=>g c e q n⟩
end NQ
end
section
namespace K28
open PySem N NQ
open L2
def top (i:Nat):Stmt:=PySem.Challenge.pw_keptnest_k28_no_difference.main.body.getD i (.Pass ⟨0,0,0,0⟩)
def nm:Nm:=⟨((["under","with_under","knots","tables","folded","unfold","fold","bound","fields_of","alike","fits","kind_of","begin_kinds","found_kind","bind","finish","plain_kind","row_kind","part_kind","number_kind","none_kind","one_kind","both_kind","last_bag_kind","same_kind","under_kind","truth_kind","difference","kind_of_rows","begin_differences"]:List Str)++(["names_some","is_none","total","both_differences","for_differences","made_for","wrap","behind_less_ahead","behind","_law_seed","_law_draw","_law_key","_law_bag","_law_value","_law_kinds","_law_seen","_law_held","_law_small","_law_claim","_law_over","_law_taken","_law_asked","_law_stock","_law_names","_law_question","_law_no_bag","_law_kinds_of","law"]:List Str)),((["HAVE_MORE","NUMBER","WORD","TRUTH","FINISHED","SUMS","under","with_under","knots","tables","folded","unfold","fold","bound","fields_of","alike","fits","kind_of","begin_kinds","found_kind","bind","finish","plain_kind","row_kind","part_kind","number_kind","none_kind","one_kind","both_kind","last_bag_kind"]:List Str)++(["same_kind","under_kind","truth_kind","difference","kind_of_rows","begin_differences","names_some","is_none","total","both_differences","for_differences","made_for","wrap","behind_less_ahead","behind","_law_seed","_law_draw","_law_key","_law_bag","_law_value","_law_kinds","_law_seen","_law_held","_law_small","_law_claim","_law_over","_law_taken","_law_asked","_law_stock","_law_names"]:List Str)++(["_law_question","_law_no_bag","_law_kinds_of","law"]:List Str)),((["Walk"]:List Str)),((["__init__","later","tell","take","run"]:List Str))⟩
def bj (s:Stmt) (i:Nat):Stmt:=match s with
 |.ClassDef _ _ _ b _ _ _ _ _ _ _=>b.getD i (.Pass ⟨0,0,0,0⟩)
 |_=>.Pass ⟨0,0,0,0⟩
def ei:List Ds:=([⟨"under",top 9,["question"]⟩,⟨"with_under",top 10,["question","parts"]⟩,⟨"knots",top 11,["question"]⟩,⟨"tables",top 12,["question"]⟩,⟨"folded",top 15,["question","told_of"]⟩,⟨"unfold",top 16,["walk","question","told_of"]⟩,⟨"fold",top 17,["walk","question","told_of"]⟩,⟨"bound",top 18,["names","name","meaning"]⟩,⟨"fields_of",top 20,["row"]⟩,⟨"alike",top 21,["one","other"]⟩,⟨"fits",top 22,["whole","kind","rows_of"]⟩,⟨"kind_of",top 27,["question","kinds","stock"]⟩,⟨"begin_kinds",top 28,["walk","question","around"]⟩,⟨"found_kind",top 30,["kinds","name","path"]⟩,⟨"bind",top 31,["walk","question","around"]⟩,⟨"finish",top 32,["walk","question","around"]⟩,⟨"plain_kind",top 33,["question","below"]⟩,⟨"row_kind",top 34,["question","below"]⟩,⟨"part_kind",top 35,["question","below"]⟩,⟨"number_kind",top 36,["question","below"]⟩,⟨"none_kind",top 37,["question","below"]⟩,⟨"one_kind",top 38,["question","below"]⟩,⟨"both_kind",top 39,["question","below"]⟩,⟨"last_bag_kind",top 40,["question","below"]⟩,⟨"same_kind",top 41,["question","below"]⟩,⟨"under_kind",top 42,["question","below"]⟩,⟨"truth_kind",top 43,["question","below"]⟩,⟨"difference",top 46,["question","names","kinds","stock"]⟩,⟨"kind_of_rows",top 47,["question","kinds","stock"]⟩,⟨"begin_differences",top 48,["walk","question","names"]⟩]:List Ds)++([⟨"names_some",top 50,["question","names"]⟩,⟨"is_none",top 51,["question"]⟩,⟨"total",top 52,["parts"]⟩,⟨"both_differences",top 53,["walk","question","names"]⟩,⟨"for_differences",top 54,["walk","question","names"]⟩,⟨"made_for",top 55,["name","over","inner"]⟩,⟨"wrap",top 57,["walk","question","names"]⟩,⟨"behind_less_ahead",top 58,["question","names"]⟩,⟨"behind",top 59,["question","names"]⟩,⟨"_law_seed",top 62,["cell"]⟩,⟨"_law_draw",top 63,["seed","most"]⟩,⟨"_law_key",top 64,["value"]⟩,⟨"_law_bag",top 65,["counts"]⟩,⟨"_law_value",top 70,["kind","seed","deep"]⟩,⟨"_law_kinds",top 71,[]⟩,⟨"_law_seen",top 73,["scope"]⟩,⟨"_law_held",top 74,["kind","scope"]⟩,⟨"_law_small",top 75,["kind","scope","fuel","seed"]⟩,⟨"_law_claim",top 76,["scope","fuel","seed"]⟩,⟨"_law_over",top 77,["scope","fuel","seed"]⟩,⟨"_law_taken",top 78,["kind","scope","fuel","seed"]⟩,⟨"_law_asked",top 79,["kind","scope","fuel","seed"]⟩,⟨"_law_stock",top 83,["rows"]⟩,⟨"_law_names",top 84,["seed","mark"]⟩,⟨"_law_question",top 85,["seed"]⟩,⟨"_law_no_bag",top 86,["kind","seed"]⟩,⟨"_law_kinds_of",top 87,["asked","names"]⟩,⟨"law",top 88,["script"]⟩]:List Ds)
def pf:List Ds:=([⟨"__init__",(bj (top 14) 0),["self"]⟩,⟨"later",(bj (top 14) 1),["self","step","question","around"]⟩,⟨"tell",(bj (top 14) 2),["self","result"]⟩,⟨"take",(bj (top 14) 3),["self","many"]⟩,⟨"run",(bj (top 14) 4),["self"]⟩]:List Ds)
noncomputable def pA:As:=(KC (ar (top 21))).get (by kernel_rfl)
theorem hA:ar (top 21)=[.Return (some (.Call (.Name pA.g pA.gp) (pA.as++[.Lambda pA.params pA.body pA.scope pA.lp]) [] pA.cp)) pA.rp]:=by kernel_rfl
noncomputable def pB:Au:=(KD (ar (top 59))).get (by kernel_rfl)
def pg:List Str:=["num","word","var","table","none","at","times","for","let"]
def ba (w:Wo) (x:Str):Addr:=match w.G.mg x with
 |some (.ref f)=>f
 |_=>0
def br:List (Str×Str):=[("num","plain_kind"),("word","plain_kind"),("row","row_kind"),("at","part_kind"),("add","number_kind"),("mul","number_kind"),("none","none_kind"),("one","one_kind"),("both","both_kind"),("times","last_bag_kind"),("for","last_bag_kind"),("when","last_bag_kind"),("same","same_kind"),("under","under_kind"),("and","truth_kind"),("or","truth_kind"),("not","truth_kind")]
def AM (w:Wo) (t:List (Str×Str)):D:=.ak (t.map λp=>.inr p.1) (t.map λp=>.ref (ba w p.2))
structure Lw (w:Wo):Prop where
 ok:w.Ok
 hn:w.nm=nm
 hd:w.ds=ei
 hms:w.ms=pf
 g0:w.gv.getD 0 .aj=.tup (pg.map D.str)
 g1:w.gv.getD 1 .aj=kD .num
 g2:w.gv.getD 2 .aj=kD .word
 g3:w.gv.getD 3 .aj=.tup [.str "truth"]
 gt:w.gv.getD 4 .aj=AM w br
 gs:w.gv.getD 5 .aj=AM w [("both","both_differences"),("for","for_differences")]
 gb:w.gv.getD 18 .aj=.ref (ba w "begin_kinds")
 gd:w.gv.getD 20 .aj=.ref (ba w "bind")
 gf:w.gv.getD 21 .aj=.ref (ba w "finish")
 WA:w.gv.getD 11 .aj=.ref (ba w "unfold")
 go:w.gv.getD 12 .aj=.ref (ba w "fold")
 gp:w.gv.getD 42 .aj=.ref (ba w "wrap")
 ga:w.gv.getD 35 .aj=.ref (ba w "begin_differences")
 fw:w.fl (w.ca 0) "waiting"
 UK:w.fl (w.ca 0) "found"
 mc:∀i,i<=4->w.mc i=w.ca 0
 VE:∀f fd q,c5 w.G.K q q (top 21) f fd->w.G.mg "alike"=some (.ref f)->∃c T,fd.code=.ref c/\eh w.G c T pA.lp (q++".<locals>."++"<lambda>")
 VF:∀f fd q,c5 w.G.K q q (top 59) f fd->w.G.mg "behind"=some (.ref f)->∃c T,fd.code=.ref c/\eh w.G c T pB.np (q++".<locals>."++pB.name)
theorem eh.at {G:Gx}{c T:Addr}{p:Pos}{q:Str} (h:eh G c T p q) {e:Fz} (l:Le G.ex e):eh { G with ex:=e } c T p q:=⟨h.cd,h.bi,h.U8,l _ _ h.tab⟩
theorem Lw.at {w:Wo} (O:Lw w) {e:Fz} (l:Le w.G.ex e):Lw (w.at e):=
  { O with ok := O.ok.at e
           VE:=λf fd q h1 h2=>let ⟨c,T,h3,h4⟩:=O.VE f fd q h1 h2;⟨c,T,h3,eh.at h4 l⟩
           VF:=λf fd q h1 h2=>let ⟨c,T,h3,h4⟩:=O.VF f fd q h1 h2;⟨c,T,h3,eh.at h4 l⟩ }
variable {w:Wo}
def K1 (a b c d:Int):MO:=.lst [.int a,.int b,.int c,.int d]
def Sd (o:MO):Prop:=∃a b c d,o=K1 a b c d
def AO:Sp:=λds M Q _=>∃p n o,ds=[.ref p,.int n]/\M p=some o/\Sd o/\0<n/\n<2 ^ 200/\∀r o',Sd o'->0<=r->r<n->Q (.int r) (up M p o')
def K2:B:=.cons (.ret (.op .Mod (.op .FloorDiv (.v 3) (.c (.int 7))) (.v 1))) .nil
def K3:B:=.cons (.set (.one 3) (.op .Mod (.op .Mult (.op .Mod (.op .Mult (.v 3) (.v 3)) (.c (.int 2147483629))) (.c (.int 40692))) (.c (.int 2147483399)))) K2
def K4:B:=.cons (.set (.one 3) (.op .Mod (.op .Mult (.op .Add (.op .Add (.ix (.v 0) (.c (.int 3))) (.op .Mult (.c (.int 7919)) (.ix (.v 0) (.c (.int 2))))) (.c (.int 1))) (.c (.int 48271))) (.c (.int 2147483647)))) K3
def K5:B:=.cons (.cond (.and (.cmp .Eq (.ix (.v 0) (.c (.int 1))) (.c (.int 1))) (.cmp .Gt (.ix (.v 0) (.c (.int 0))) (.c (.int 0)))) (.cons (.set (.one 2) (.op .Mod (.ix (.v 0) (.c (.int 0))) (.v 1))) (.cons (.put (.v 0) (.c (.int 0)) (.op .FloorDiv (.ix (.v 0) (.c (.int 0))) (.v 1))) (.cons (.ret (.v 2)) .nil))) .nil) K4
def K6:B:=.cons (.put (.v 0) (.c (.int 2)) (.op .Add (.ix (.v 0) (.c (.int 2))) (.c (.int 1)))) K5
theorem K7:ay ["seed","most","found","number"] ["seed","most"] (af (top 63)):=⟨rfl,rfl,rfl,by decide +kernel,rfl,by decide +kernel,by decide +kernel⟩
theorem K8:aC nm 40 ["seed","most","found","number"] (af (top 63)) (ar (top 63))=K6:=by kernel_rfl
def K9:B:=(.cons (.set (.one 1) (.bi .max (.cons (.v 0) (.cons (.op .Sub (.c (.int 0)) (.v 0)) .nil)))) (.cons (.ret (.lst (.cons (.v 1) (.cons (.bi .int (.cons (.cmp .GtE (.v 1) (.op .Pow (.c (.int 10)) (.c (.int 18)))) .nil)) (.cons (.c (.int 0)) (.cons (.op .Mod (.v 0) (.c (.int 1999999943))) .nil)))))) .nil))
theorem K':ay ["cell","number"] ["cell"] (af (top 62)):=⟨rfl,rfl,rfl,by decide +kernel,rfl,by decide +kernel,by decide +kernel⟩
theorem La:aC nm 40 ["cell","number"] (af (top 62)) (ar (top 62))=K9:=by kernel_rfl
theorem AP (O:Lw w):FO w 40 1 AO:=by
 refine aI O.ok O.hn _ ⟨"_law_draw",top 63,["seed","most"]⟩ (by rw[O.hd];rfl) {} { cs:=trivial } K7 K8 λds M Q _ h=>?_;obtain⟨p,n,o,rfl,hp,⟨a,b,c,d,rfl⟩,h0,h1,h⟩:=h;refine⟨rfl,?_⟩;refine .inl ⟨_,hp,_,rfl,.inl ⟨_,hp,_,rfl,?_⟩⟩;refine (λrest=>(.inl ⟨_,au,_,rfl,a' (aR (λe1=>.inl ⟨_,au,_,rfl,aR (λe2=>?_) λe2=>rest⟩) λe1=>aw (by decide) rest)⟩)) ?_
 ·refine .inl ⟨_,au,_,rfl,.inl ⟨_,au,_,rfl,KH (by decide),VZ (by decide),pz,VZ ?_,pz,VZ (by decide),pz,⟨by decide,by decide⟩,h0,?_⟩⟩
  ·have:=Int.emod_nonneg ((d+7919 * (c+1)+1) * 48271) (b:=2147483647) (by decide);have:=Int.emod_lt_of_pos ((d+7919 * (c+1)+1) * 48271) (b:=2147483647) (by decide);constructor <;> (dsimp only;lia)
  ·exact ao (h _ _ ⟨_,_,_,_,rfl⟩ (Int.emod_nonneg _ (by lia)) (Int.emod_lt_of_pos _ h0))
 ·refine .inl ⟨_,au,_,rfl,h0,.inl ⟨_,au,_,rfl,⟨h0,h1⟩,.inl ⟨_,au,_,rfl,?_⟩⟩⟩;rw[N.cF];exact ao (h _ _ ⟨_,_,_,_,rfl⟩ (Int.emod_nonneg _ (by lia)) (Int.emod_lt_of_pos _ h0))
def AQ:Sp:=λds M Q _=>∃c,ds=[.int c]/\∀p o,M p=none->Sd o->Q (.ref p) (up M p o)
theorem Lb (O:Lw w):FO w 39 1 AQ:=by
 refine aI O.ok O.hn _ ⟨"_law_seed",top 62,["cell"]⟩ (by rw[O.hd];rfl) {} { cs:=trivial } K' La λds M Q _ h=>?_;obtain⟨c,rfl,h⟩:=h;refine⟨rfl,?_⟩;exact⟨⟨by decide,by decide,by decide⟩,pz,l4,.inr λp hp=>ao (h p _ hp ⟨_,_,_,_,rfl⟩)⟩
noncomputable def iO:Kd:=.row [("b",.word),("r",.num)]
noncomputable def c8:Kd:=.row [("a",.num),("b",.word),("t",.ai .num),("z",.word)]
noncomputable def bu:Sc:=[("r",iO),("s",iO),("t",.num),("u",c8),("v",.ai .word)]
def j0:Sp:=λds M Q _=>ds=[]/\Q (eV bu) M
variable {w:Wo}
noncomputable def Lc:B:=.cons (.ret (.oz (.cons (.c (.str "r")) (.cons (.c (.str "s")) (.cons (.c (.str "t")) (.cons (.c (.str "u")) (.cons (.c (.str "v")) .nil))))) (.cons (.v 0) (.cons (.v 0) (.cons (.tup (.cons (.c (.str "num")) .nil)) (.cons (.v 1) (.cons (.tup (.cons (.c (.str "bag")) (.cons (.tup (.cons (.c (.str "word")) .nil)) .nil))) .nil))))))) .nil
noncomputable def Ld:B:=.cons (.set (.one 1) (.tup (.cons (.c (.str "row")) (.cons (.tup (.cons (.tup (.cons (.c (.str "a")) (.cons (.tup (.cons (.c (.str "num")) .nil)) .nil))) (.cons (.tup (.cons (.c (.str "b")) (.cons (.tup (.cons (.c (.str "word")) .nil)) .nil))) (.cons (.tup (.cons (.c (.str "t")) (.cons (.tup (.cons (.c (.str "bag")) (.cons (.tup (.cons (.c (.str "num")) .nil)) .nil))) .nil))) (.cons (.tup (.cons (.c (.str "z")) (.cons (.tup (.cons (.c (.str "word")) .nil)) .nil))) .nil))))) .nil)))) Lc
noncomputable def Lf:B:=.cons (.set (.one 0) (.tup (.cons (.c (.str "row")) (.cons (.tup (.cons (.tup (.cons (.c (.str "b")) (.cons (.tup (.cons (.c (.str "word")) .nil)) .nil))) (.cons (.tup (.cons (.c (.str "r")) (.cons (.tup (.cons (.c (.str "num")) .nil)) .nil))) .nil))) .nil)))) Ld
theorem AR:ay ["level","deep"] [] (af (top 71)):=⟨rfl,rfl,rfl,by decide +kernel,rfl,by decide +kernel,by decide +kernel⟩
theorem AS:aC nm 40 ["level","deep"] (af (top 71)) (ar (top 71))=Lf:=by kernel_rfl
noncomputable def Lg:B:=.cons (.ret (.oA (.v 1))) .nil
noncomputable def Lh:B:=.cons (.loop (.many [2,3]) (.seq (.v 0)) (.cons (.cond (.cmp .NotIn (.v 2) (.v 1)) (.cons (.put (.v 1) (.v 2) (.v 3)) .nil) .nil) .nil)) Lg
noncomputable def Li:B:=.cons (.set (.one 1) .oy) Lh
theorem Lj:ay ["scope","found","name","other"] ["scope"] (af (top 73)):=⟨rfl,rfl,rfl,by decide +kernel,rfl,by decide +kernel,by decide +kernel⟩
theorem Lk:aC nm 40 ["scope","found","name","other"] (af (top 73)) (ar (top 73))=Li:=by kernel_rfl
theorem AU:bT (aL bu)=aL bu:=by kernel_rfl
theorem mi (O:Lw w):FO w 44 1 j0:=by
 refine aI O.ok O.hn _ ⟨"_law_kinds",top 71,[]⟩ (by rw[O.hd];rfl) {} { cs:=trivial } AR AS λds M Q _ h=>?_;obtain⟨rfl,h⟩:=h;refine⟨rfl,l1,l2,l1,l2,l2,l2,?_⟩;refine⟨l1,l2,l1,l2,l1,l2,l2,l1,l2,l4,l2,?_⟩;refine⟨l1,l1,l2,.inl ?_⟩;have:aZ Q (.ak ((bT (aL bu)).map (·.1)) ((bT (aL bu)).map (·.2))) M:=by rw[AU,AA];exact ao h
 exact this
def t7:Sp:=λds M Q _=>∃sc,ds=[a7 sc]/\sc.length<64/\(∀m∈sc,kd m.2<=49)/\∀out:Sc,(∀x k,(x,k)∈out ↔ lk x sc=some k)->out.length<=sc.length->(out.map (·.1)).Nodup->Q (a7 out) M
structure Ll (ms done:Sc):Prop where
 nd:(ms.map (·.1)).Nodup
 iP:∀x k,(x,k)∈ms ↔ lk x done=some k
 len:ms.length<=done.length
theorem Lm {sc:Sc} (hk:∀m∈sc,kd m.2<=49) {x:Str}{k:Kd} (h:lk x sc=some k):kd k<=49:=hk _ (ef h)
theorem AV (O:Lw w):FO w 45 1 t7:=by
 refine aI O.ok O.hn _ ⟨"_law_seen",top 73,["scope"]⟩ (by rw[O.hd];rfl) {} { cs:=trivial } Lj Lk λds M Q _ h=>?_;obtain⟨sc,rfl,hl,hk,h⟩:=h;refine⟨rfl,.inr λp hp=>?_⟩;refine eS (λxs τ M'=>∃ms done rest u v,xs=eU rest/\sc=done++rest/\Ll ms done/\τ=[some (a7 sc),some (.ref p),u,v]/\M'=up M p (.ak (aL ms))) ?_ ?_ _ _ _ ⟨[],[],sc,none,none,rfl,rfl,⟨.nil,λx k=>by simp [lk],Yr _⟩,rfl,rfl⟩
 ·rintro τ M' ⟨ms,done,rest,u,v,e1,e2,F,rfl,rfl⟩;cases rest with
  |cons _ _=>cases e1
  |nil=>
   rw[YH]at e2;subst e2;refine⟨trivial,KR hp (.rfl ?_)⟩;have VD:∀m∈ms,kd m.2<=50:=λm hm=>Nat.le_succ_of_le (Lm hk ((F.iP m.1 m.2).mp hm));rw[AA];show lL (cK 1) _ M _;refine AF (ms:=ms) (M:=M) (λk z=>?_) (YA F.len hl) VD λout pm=>.inl (ao (h out (λx k=>(pm.mem_iff).trans (F.iP x k)) (by rw[pm.length_eq];exact F.len) ((pm.map _).nodup_iff.mpr F.nd)));show cK 1 [cT p (eV ms) (some (a7 sc)),cT p (eV ms) (some (.ref p)),_,_] M k;rw[AH];exact z
 ·rintro x xs τ M' ⟨ms,done,rest,u,v,e1,e2,F,rfl,rfl⟩;cases rest with
  |nil=>cases e1
  |cons r rest=>
   cases e1;refine⟨trivial,λN hN=>⟨rfl,⟨.inl ⟨_,au,?_⟩⟩⟩⟩;have hs:sc=(done++[r])++rest:=(by rw[e2];simp);have mem:(aG (aL ms) (.inr r.1)).isSome=decide (r.1∈ms.map (·.1)):=(by rw[gq,Option.isSome_map,NQ.lT]);have key:∀b:Bool,b=decide (r.1∈ms.map (·.1))->(if (!b)=true then qv nS (cK 1) (cK 2) (kD r.2) [some (a7 sc),some (.ref p),some (.str r.1),some (kD r.2)] (up M p (.ak (aL ms))) N else N [some (a7 sc),some (.ref p),some (.str r.1),some (kD r.2)] (up M p (.ak (aL ms)))):=by
    intro b hb;by_cases hx:r.1∈ms.map (·.1)
    ·rw[decide_eq_true hx]at hb;subst hb;refine aw (by decide) (hN _ _ ⟨ms,done++[r],rest,_,_,rfl,hs,⟨F.nd,λx k=>?_,by have:=F.len;simp;lia⟩,rfl,rfl⟩)
     rw[F.iP,pd];obtain⟨m,hm,VV⟩:=List.mem_map.mp hx;have:=(F.iP m.1 m.2).mp hm;constructor
     ·intro z;rw[z];rfl
     ·intro z;cases y:lk x done with
      |some k'=>rw[y]at z;exact z
      |none=>
       rw[y]at z;have z:lk x [r]=some k:=z;rw[lk]at z;split at z
       ·rename_i e;rw[e,<- VV,this]at y;cases y
       ·cases z
    ·rw[decide_eq_false hx]at hb;subst hb;refine aW rfl (.inr ⟨_,au,?_,hN _ _ ⟨ms++[(r.1,r.2)],done++[r],rest,_,_,rfl,hs,⟨?_,λx k=>?_,by have:=F.len;simp;lia⟩,rfl,?_⟩⟩)
     ·have:=F.len;have:done.length<=sc.length:=(by rw[e2];simp);unfold aL;rw[Ym];exact YD (by lia:ms.length<64) (by decide)
     ·rw[YS];exact AE F.nd hx
     ·rw[pd,ZQ];constructor
      ·rintro (z |z)
       ·rw[(F.iP x k).mp z];rfl
       ·cases List.mem_singleton.mp z;cases y:lk r.1 done with
        |none=>show lk r.1 [r]=_;rw[lk,if_pos rfl]
        |some k'=>exact absurd (List.mem_map.mpr ⟨_,(F.iP r.1 k').mpr y,rfl⟩) hx
      ·intro z;cases y:lk x done with
       |some k'=>rw[y]at z;cases z;exact .inl ((F.iP x _).mpr y)
       |none=>
        rw[y]at z;have z:lk x [r]=some k:=z;rw[lk]at z;split at z
        ·rename_i e;cases z;subst e;exact .inr (List.mem_singleton.mpr rfl)
        ·cases z
     ·rw[_root_.N.cF,AD hx]
   exact key _ mem
variable {w:Wo}
noncomputable def Ln:B:=.cons (.ret (.call 42 (.cons (.v 4) .nil))) .nil
noncomputable def Lo:B:=.cons (.loop (.one 5) (.oB (.call 40 (.cons (.v 1) (.cons (.op .Sub (.c (.int 4)) (.v 2)) .nil)))) (.cons (.set (.one 6) (.call 43 (.cons (.ix (.v 0) (.c (.int 1))) (.cons (.v 1) (.cons (.c (.int 1)) .nil))))) (.cons (.ex (.mt .append (.v 4) (.cons (.tup (.cons (.v 6) (.cons (.ix (.lst (.cons (.c (.int 1)) (.cons (.c (.int 2)) (.cons (.neg (.c (.int 1))) (.cons (.neg (.c (.int 3))) (.cons (.op .Sub (.call 40 (.cons (.v 1) (.cons (.op .Pow (.c (.int 10)) (.c (.int 9))) .nil))) (.c (.int 3))) .nil)))))) (.call 40 (.cons (.v 1) (.cons (.c (.int 5)) .nil)))) .nil))) .nil))) .nil))) Ln
noncomputable def Lq:B:=.cons (.set (.one 4) (.lst .nil)) Lo
noncomputable def Lr:B:=.cons (.cond (.cmp .Eq (.ix (.v 0) (.c (.int 0))) (.c (.str "row"))) (.cons (.ret (.tup (.cons (.c (.str "row")) (.cons (.bi .tuple (.cons (.lc 2 [2,1] (.many [0,1]) (.seq (.ix (.v 0) (.c (.int 1)))) .aq (.tup (.cons (.v 0) (.cons (.call 43 (.cons (.v 1) (.cons (.v 3) (.cons (.v 2) .nil)))) .nil)))) .nil)) .nil)))) .nil) .nil) Lq
noncomputable def Ls:B:=.cons (.cond (.cmp .Eq (.ix (.v 0) (.c (.int 0))) (.c (.str "word"))) (.cons (.ret (.tup (.cons (.c (.str "word")) (.cons (.ix (.lst (.cons (.c (.str "a")) (.cons (.c (.str "r")) (.cons (.c (.str "ab")) (.cons (.c (.str "dt")) .nil))))) (.call 40 (.cons (.v 1) (.cons (.c (.int 4)) .nil)))) .nil)))) .nil) .nil) Lr
noncomputable def Lu:B:=.cons (.cond (.cmp .Eq (.ix (.v 0) (.c (.int 0))) (.c (.str "num"))) (.cons (.set (.one 3) (.op .Mult (.call 40 (.cons (.v 1) (.cons (.op .Pow (.c (.int 10)) (.c (.int 9))) .nil))) (.op .Pow (.c (.int 10)) (.c (.int 20))))) (.cons (.ret (.tup (.cons (.c (.str "num")) (.cons (.ix (.lst (.cons (.op .Sub (.call 40 (.cons (.v 1) (.cons (.c (.int 5)) .nil))) (.c (.int 2))) (.cons (.v 3) .nil))) (.bi .int (.cons (.cmp .Eq (.call 40 (.cons (.v 1) (.cons (.c (.int 9)) .nil))) (.c (.int 0))) .nil))) .nil)))) .nil)) .nil) Ls
theorem Lv:ay ["kind","seed","deep","great","counts","k","value"] ["kind","seed","deep"] (af (top 70)):=⟨rfl,rfl,rfl,by decide +kernel,rfl,by decide +kernel,by decide +kernel⟩
theorem Lx:aC nm 40 ["kind","seed","deep","great","counts","k","value"] (af (top 70)) (ar (top 70))=Lu:=by kernel_rfl
def Ly:Sp:=λds M Q _=>∃ κ p UE o,ds=[kD κ,.ref p,UE]/\(κ=.num\/κ=.word)/\M p=some o/\Sd o/\∀q o',Sd o'->(∀S G,Ty S G q κ)->((∃i,q=.num i)\/∃s,q=.word s)->Q (qD q) (up M p o')
theorem Lz (O:Lw w):FO w 43 2 Ly:=by
 refine aI O.ok O.hn _ ⟨"_law_value",top 70,["kind","seed","deep"]⟩ (by rw[O.hd];rfl) { cs:=[(40,AO)] } { cs:=⟨⟨1,Yr _,AP O⟩,trivial⟩ } Lv Lx λds M Q _ h=>?_;obtain⟨κ,p,UE,o,rfl,hκ,hp,so,h⟩:=h;rcases hκ with rfl |rfl
 ·refine⟨rfl,_,rfl,av (aW (by decide) ⟨⟨by decide,by decide,by decide⟩,p,_,o,rfl,hp,so,by decide,by decide,λr1 o1 s1 g0 g1=>⟨⟨by decide,by decide,by decide⟩,?_⟩⟩)⟩;have g1:r1<1000000000:=g1;refine⟨.inl (.inl ⟨by lia,by lia⟩),p,_,o1,rfl,au,s1,by decide,by decide,λr2 o2 s2 _ _=>⟨l2,.inl ?_⟩⟩;refine⟨p,_,o2,rfl,au,s2,by decide,by decide,λr3 o3 s3 _ _=>a' ⟨_,KP,l2,?_⟩⟩;rw[N.cF,N.cF];exact ao (h (.num _) o3 s3 (λ_ _=>.num) (.inl ⟨_,rfl⟩))
 ·refine⟨rfl,_,rfl,av (aw (by decide) ⟨_,rfl,av (aW (by decide) ⟨l4,.inl ⟨p,_,o,rfl,hp,so,by decide,by decide,λr o' s' r0 r1=>?_⟩⟩)⟩)⟩;obtain⟨d,e1,e2⟩:=dA (xs:=[.str "a",.str "r",.str "ab",.str "dt"]) r0 r1;obtain⟨s,rfl⟩:∃s,d=.str s:=by simp at e2;rcases e2 with z |z |z |z <;> exact⟨_,z⟩
  exact⟨_,e1,l2,ao (h (.word s) o' s' (λ_ _=>.word) (.inr ⟨_,rfl⟩))⟩
variable {w:Wo}
noncomputable def AK:List Kd:=[.num,.word,iO,c8,.ai .num,.ai .word,.ai iO,.ai c8,.ai (.ai .word)]
theorem t8 {k:Kd} (h:k∈AK):kz k<900:=(by decide +kernel:∀k∈AK,kz k<900) k h
theorem eX {k:Kd} (h:k∈AK):kd k<=9:=(by decide +kernel:∀k∈AK,kd k<=9) k h
theorem AW {k:Kd} (h:k∈AK):gY k=true:=(by decide +kernel:∀k∈AK,gY k=true) k h
theorem AX:∀{fs:List (Str×Kd)},oY fs=true->("table" : Str) ∉ fs.map (·.1)
 |[],_=>by simp
 |(f,k)::r,h=>by
  rw[oY,Yq,Yq]at h;exact λz=>(List.mem_cons.mp z).elim (λe=>of_decide_eq_true h.1.1 e.symm) (AX h.2)
noncomputable def AY:Kd->Bool
 |.row fs=>decide ((∀p∈fs,p.2∈AK)/\(fs.map (·.1)).Nodup/\fs.length<=4)
 |.ai k=>decide (k∈AK)
 |_=>true
theorem AZ {k:Kd} (h:k∈AK):AY k=true:=(by decide +kernel:∀k∈AK,AY k=true) k h
theorem t9 {fs:List (Str×Kd)} (h:.row fs∈AK):(∀p∈fs,p.2∈AK)/\(fs.map (·.1)).Nodup/\fs.length<=4:=of_decide_eq_true (AZ h)
theorem g7 {k:Kd} (h:.ai k∈AK):k∈AK:=of_decide_eq_true (AZ h)
noncomputable def kS (x:Str):Option Kd:=lk x bu
structure dU (sc:Sc) (m:Nat):Prop where
 UN:∀p∈sc,p.2∈AK
 len:sc.length+m<=40
 nw:∀p∈sc,p.1≠"w"
theorem dU.kd {sc:Sc}{m:Nat} (h:dU sc m):∀p∈sc,kd p.2<=49:=λp hp=>by have:=eX (h.UN p hp);lia
structure Hq (κ:Kd) (sc:Sc) (q:Qn):Prop where
 ty:Ty kS sc q κ
 is:(∃x,q=.var x)\/∃f x,q=.at f (.var x)
noncomputable def LA:B:=.cons (.ret (.v 2)) .nil
noncomputable def LB:B:=.cons (.loop (.many [3,4]) (.seq (.call 45 (.cons (.v 1) .nil))) (.cons (.cond (.cmp .Eq (.v 4) (.v 0)) (.cons (.ex (.mt .append (.v 2) (.cons (.tup (.cons (.c (.str "var")) (.cons (.v 3) .nil))) .nil))) .nil) .nil) (.cons (.cond (.cmp .Eq (.ix (.v 4) (.c (.int 0))) (.c (.str "row"))) (.cons (.set (.one 2) (.op .Add (.v 2) (.lc 2 [0,3] (.many [0,1]) (.seq (.ix (.v 4) (.c (.int 1)))) (.cmp .Eq (.v 1) (.v 2)) (.tup (.cons (.c (.str "at")) (.cons (.v 0) (.cons (.tup (.cons (.c (.str "var")) (.cons (.v 3) .nil))) .nil))))))) .nil) .nil) .nil))) LA
noncomputable def LC:B:=.cons (.set (.one 2) (.lst .nil)) LB
theorem LD:ay ["kind","scope","ways","name","other"] ["kind","scope"] (af (top 74)):=⟨rfl,rfl,rfl,by decide +kernel,rfl,by decide +kernel,by decide +kernel⟩
theorem LF:aC nm 40 ["kind","scope","ways","name","other"] (af (top 74)) (ar (top 74))=LC:=by kernel_rfl
def uc:Sp:=λds M Q _=>∃ κ sc m,ds=[kD κ,a7 sc]/\κ∈AK/\dU sc m/\∀ws:List Qn,(∀q∈ws,Hq κ sc q)->ws.length<=200->Q (.lst (ws.map qD)) M
theorem A0 (O:Lw w):FO w 46 2 uc:=by
 refine aI O.ok O.hn _ ⟨"_law_held",top 74,["kind","scope"]⟩ (by rw[O.hd];rfl) { cs:=[(45,t7)] } { cs:=⟨⟨1,Yr _,AV O⟩,trivial⟩ } LD LF λds M Q _ h=>?_;obtain⟨κ,sc,m,rfl,hκ,hs,h⟩:=h;refine⟨rfl,YE _,.inr λp hp=>?_⟩;refine⟨sc,rfl,by have:=hs.len;lia,hs.kd,λout ho lo _=>?_⟩
 refine eS (λxs τ M'=>∃rest lw ws u v,xs=eU rest/\(∀p∈rest,lk p.1 sc=some p.2)/\τ=[some (kD κ),some (a7 sc),some (.ref lw),u,v]/\M lw=none/\M' lw=some (.lst (ws.map qD))/\cg M M'/\(∀q∈ws,Hq κ sc q)/\ws.length+5 * rest.length<=200)
  ?_ ?_ _ _ _ ⟨out,p,[],none,none,rfl,λp hp=>(ho p.1 p.2).mp hp,rfl,hp,au,tK hp rfl,λq hq=>(nomatch hq),by have:=hs.len;simp;lia⟩
 ·rintro τ M' ⟨rest,lw,ws,u,v,e1,hr,rfl,n1,n2,sb,hw,iQ⟩;exact⟨trivial,.rfl (AI sb n1 n2 (h ws hw (by lia)))⟩
 ·rintro x xs τ M' ⟨rest,lw,ws,u,v,e1,hr,rfl,n1,n2,sb,hw,iQ⟩;cases rest with
  |nil=>cases e1
  |cons r rest=>
   cases e1;have hlk:=hr r Ys;have c9:∀p∈rest,lk p.1 sc=some p.2:=λp hp=>hr p (Yt _ hp);have AC:r.2∈AK:=hs.UN _ (ef hlk);refine⟨trivial,λN hN=>⟨rfl,?_⟩⟩;refine eW λN2 g8=>?_;have go:∀(M1:Mp) (g9:List Qn),M1 lw=some (.lst (g9.map qD))->cg M M1->(∀q∈g9,Hq κ sc q)->g9.length<=ws.length+1->N2 [some (kD κ),some (a7 sc),some (.ref lw),some (.str r.1),some (kD r.2)] M1:=by
    intro M1 g9 g1 g2 g4 g5;refine g8 _ _ ?_;cases hk:r.2 with
    |row fs=>
     obtain⟨f1,f2,f3⟩:=t9 (hk ▸ AC);refine⟨_,rfl,av (aW (by decide) ⟨_,rfl,?_⟩)⟩;refine gm (λxs ys M2=>M2=M1/\∃ch vs,xs=bI ch/\ys=vs.map qD/\(∀p∈ch,p∈fs)/\(∀q∈vs,Hq κ sc q)/\vs.length+ch.length<=4) ?_ ?_ _ _ _ ⟨rfl,fs,[],rfl,rfl,λp h=>h,λq h=>(nomatch h),by simpa using f3⟩
     ·rintro ys M2 ⟨rfl,ch,vs,_,rfl,h2,h3,h4⟩;refine⟨trivial,YA (by rw[Ym];lia:_<=4) (by decide),.inl ?_⟩;refine⟨_,g1,Yy (by simp at iQ ⊢;lia:_<=300) (by decide),.inr λp4 AT=>?_⟩;refine hN _ _ ⟨rest,p4,g9++vs,_,_,rfl,c9,rfl,cg.no g2 AT,by rw[au,YS],pe g2 (cg.no g2 AT) rfl,λq hq=>(List.mem_append.mp hq).elim (g4 q) (h3 q),by simp at iQ ⊢;lia⟩
     ·rintro x xs ys M2 ⟨rfl,ch,vs,e1,rfl,h2,h3,h4⟩;cases ch with
      |nil=>cases e1
      |cons g ch=>
       obtain⟨gf,gk⟩:=g;rw[bI]at e1;cases e1;have hm:=h2 _ Ys;refine⟨trivial,YA (by rw[Ym];lia:_<=4) (by decide),λN4 A2=>⟨rfl,jY (by have:kd gk<=9:=eX (f1 _ hm);lia) (aR (λe=>?_) λe=>?_)⟩⟩
       ·have e:=of_decide_eq_true e;have:=A2 (vs.map qD++[qD (.at gf (.var r.1))]) M2 ⟨rfl,ch,vs++[.at gf (.var r.1)],rfl,by rw[YS];rfl,λp h=>h2 p (Yt _ h),λq hq=>?_,by simp at h4 ⊢;lia⟩
        ·exact⟨l2,l3,this⟩
        ·rcases List.mem_append.mp hq with z |z
         ·exact h3 q z
         ·rw[List.mem_singleton.mp z];exact⟨.at f2 (.var (by rw[hlk,hk])) (by rw[tW f2 hm,e]),.inr ⟨_,_,rfl⟩⟩
       ·exact A2 _ _ ⟨rfl,ch,vs,rfl,rfl,λp h=>h2 p (Yt _ h),h3,by simp at h4 ⊢;lia⟩
    |num=>exact⟨_,rfl,av (aw (by decide) (hN _ _ ⟨rest,lw,g9,_,_,rfl,c9,rfl,n1,g1,g2,g4,by simp at iQ;lia⟩))⟩
    |word=>exact⟨_,rfl,av (aw (by decide) (hN _ _ ⟨rest,lw,g9,_,_,rfl,c9,rfl,n1,g1,g2,g4,by simp at iQ;lia⟩))⟩
    |ai k=>exact⟨_,rfl,av (aw (by decide) (hN _ _ ⟨rest,lw,g9,_,_,rfl,c9,rfl,n1,g1,g2,g4,by simp at iQ;lia⟩))⟩
   refine jY (by have:=eX AC;lia) (aR (λe=>?_) λe=>go M' ws n2 sb hw (by lia))
   have e:=of_decide_eq_true e;refine⟨.inl ⟨rfl,_,n2⟩,l2,_,n2,YA (by simp at iQ ⊢;lia:_<=200) (by decide),go _ (ws++[.var r.1]) ?_ ?_ ?_ (by simp)⟩
   ·rw[au,YS];rfl
   ·exact pe sb n1 rfl
   ·intro q hq;rcases List.mem_append.mp hq with z |z
    ·exact hw q z
    ·rw[List.mem_singleton.mp z];exact⟨.var (by rw[hlk,e]),.inl ⟨_,rfl⟩⟩
variable {w:Wo}
def Hs (M:Mp) (p:Addr):Prop:=∃o,M p=some o/\Sd o
def Sx (M:Mp) (p:Addr) (X:Mp):Prop:=∃o,Sd o/\X=up M p o
theorem A3 {M:Mp}{p:Addr}{o:MO} (h:M p=some o):up M p o=M:=funext λb=>by
 by_cases e:b=p
 ·rw[e,au,h]
 ·rw[ax e]
theorem Sx.rfl {M:Mp}{p:Addr} (h:Hs M p):Sx M p M:=let ⟨o,h1,h2⟩:=h;⟨o,h2,(A3 h1).symm⟩
theorem Sx.hs {M X:Mp}{p:Addr} (h:Sx M p X):Hs X p:=let ⟨o,h1,h2⟩:=h;⟨o,by rw[h2];exact au,h1⟩
theorem Sx.tr {M X Y:Mp}{p:Addr} (h:Sx M p X) (g:Sx X p Y):Sx M p Y:=by
 obtain⟨o,h1,rfl⟩:=h;obtain⟨o',h2,rfl⟩:=g;exact⟨o',h2,N.cF⟩
theorem Sx.ne {M X:Mp}{p a:Addr} (h:Sx M p X) (n:a≠p):X a=M a:=by obtain⟨o,_,rfl⟩:=h;exact ax n
def fy:Sp:=λds M Q _=>∃p n,ds=[.ref p,.int n]/\Hs M p/\0<n/\n<2 ^ 200/\∀r X,Sx M p X->0<=r->r<n->Q (.int r) X
theorem gr (O:Lw w):FO w 40 1 fy:=(AP O).imp λds M Q E ⟨p,n,e,⟨o,h1,h2⟩,h3,h4,h⟩=>⟨p,n,o,e,h1,h2,h3,h4,λr o' s=>h r _ ⟨o',s,rfl⟩⟩
def A4:Sp:=λds M Q _=>∃ κ p UE,ds=[kD κ,.ref p,UE]/\(κ=.num\/κ=.word)/\Hs M p/\∀q X,Sx M p X->(∀S G,Ty S G q κ)->((∃i,q=.num i)\/∃s,q=.word s)->Q (qD q) X
theorem LG (O:Lw w):FO w 43 2 A4:=(Lz O).imp λds M Q E ⟨κ,p,UE,e,h0,⟨o,h1,h2⟩,h⟩=>⟨κ,p,UE,o,e,h0,h1,h2,λq o' s=>h q _ ⟨o',s,rfl⟩⟩
mutual
noncomputable def dq:Qn->Nat
 |.num _=>1 |.word _=>1 |.var _=>1 |.tab _=>1
 |.none k=>1+kd k
 |.row fs=>3+bV fs
 |.at _ q=>1+dq q
 |.add a b=>1+max (dq a) (dq b)
 |.mul a b=>1+max (dq a) (dq b)
 |.one a=>1+dq a
 |.both a b=>1+max (dq a) (dq b)
 |.times _ a=>1+dq a
 |.for _ a b=>9+max (dq a) (dq b)
 |.bh a b=>1+max (dq a) (dq b)
 |.let _ a b=>1+max (dq a) (dq b)
 |.same a b=>1+max (dq a) (dq b)
 |.under a b=>1+max (dq a) (dq b)
 |.and a b=>1+max (dq a) (dq b)
 |.or a b=>1+max (dq a) (dq b)
 |.not a=>1+dq a
noncomputable def bV:List (Str×Qn)->Nat
 |[]=>0
 |(_,q)::r=>max (dq q) (bV r)
end
mutual
noncomputable def zk:Kd->Nat
 |.num=>2 |.word=>2
 |.row fs=>1+pj fs
 |.ai k=>1+zk k
noncomputable def pj:List (Str×Kd)->Nat
 |[]=>0
 |(_,k)::r=>zk k+pj r
end
mutual
noncomputable def UG:Kd->Nat
 |.num=>2 |.word=>2
 |.row fs=>3+pk fs
 |.ai k=>max (1+UG k) (1+kd k)
noncomputable def pk:List (Str×Kd)->Nat
 |[]=>0
 |(_,k)::r=>max (UG k) (pk r)
end
noncomputable def zf:Nat->Nat
 | 0=>14
 |f+1=>5 * zf f+40
noncomputable def nB (f:Int) (k:Kd):Nat:=if f<=0 then zk k else zf f.toNat
noncomputable def dB (f:Int) (k:Kd):Nat:=if f<=0 then UG k else 9 * f.toNat+9
theorem pq {k:Kd} (h:k∈AK):2<=zk k/\zk k<=14/\2<=UG k/\UG k<=9/\1<=kd k:=by
 have:∀k∈AK,2<=zk k/\zk k<=14/\2<=UG k/\UG k<=9/\1<=kd k:=by decide +kernel
 exact this k h
theorem iR:∀f,14<=zf f
 | 0=>Yr _
 |f+1=>by have:=iR f;rw[zf];lia
theorem pv {f g:Nat} (h:f<=g):zf f<=zf g:=by
 induction h with
 |refl=>exact Yr _
 |step _ ih=>rw[zf];lia
theorem dV {f:Int}{k:Kd} (h:k∈AK):2<=nB f k/\nB f k<=zf f.toNat/\2<=dB f k/\dB f k<=9 * f.toNat+9:=by
 obtain⟨h1,h2,h3,h4,_⟩:=pq h;have:=iR f.toNat;unfold nB dB;split
 ·lia
 ·exact⟨by lia,Yr _,by lia,Yr _⟩
structure GQ (f:Int) (κ:Kd) (sc:Sc) (q:Qn):Prop where
 ty:Ty kS sc q κ
 n:nq q<=nB f κ
 d:dq q<=dB f κ
def Rk (n:Nat) (f:Int) (κ:Kd) (t:Nat):Prop:=20 * f.toNat+2 * kd κ+t<=n
noncomputable def UH:Kd->Nat
 |.ai _=>0
 |_=>2
theorem ud {k:Kd}:UH k<=2:=by cases k <;> simp [UH]
theorem dU.dc {sc:Sc}{m k:Nat} (h:dU sc m) (hk:k<=m):dU sc k:=⟨h.UN,by have:=h.len;lia,h.nw⟩
def gu (n:Nat):Sp:=λds M Q _=>∃ κ sc f p,ds=[kD κ,a7 sc,.int f,.ref p]/\κ∈AK/\Rk n f κ 1/\dU sc f.toNat/\Hs M p/\∀q X,Sx M p X->GQ f κ sc q->Q (qD q) X
def ej (n:Nat):Sp:=λds M Q _=>∃ κ sc f p,ds=[kD κ,a7 sc,.int f,.ref p]/\κ∈AK/\Rk n f κ (UH κ)/\dU sc f.toNat/\Hs M p/\∀q X,Sx M p X->GQ f κ sc q->Q (qD q) X
theorem LH {f:Int}{k:Kd} (h:k∈AK):∀{q:Qn}{sc:Sc},GQ (f-1) k sc q->GQ f k sc q:=λ{q sc} g=>by
 have z:=pv (show (f-1).toNat<=f.toNat by lia);obtain⟨h1,h2,h3,h4,_⟩:=pq h;have LI:=iR f.toNat;refine⟨g.ty,Yy g.n ?_,Yy g.d ?_⟩
 ·unfold nB;split <;> split <;> lia
 ·unfold dB;split <;> split <;> lia
noncomputable def sB (f:Int):List (Str×Kd)->Nat
 |[]=>0
 |(_,k)::r=>nB f k+sB f r
noncomputable def mB (f:Int):List (Str×Kd)->Nat
 |[]=>0
 |(_,k)::r=>max (dB f k) (mB f r)
theorem A5 {f:Int}{x:Str}{k:Kd}:∀{a:List (Str×Kd)},sB f (a++[(x,k)])=sB f a+nB f k
 |[]=>by simp [sB]
 |(_,l)::r=>by rw[ZH,sB,sB,A5];lia
theorem A6 {f:Int}{x:Str}{k:Kd}:∀{a:List (Str×Kd)},mB f (a++[(x,k)])=max (mB f a) (dB f k)
 |[]=>by simp [mB]
 |(_,l)::r=>by rw[ZH,mB,mB,A6,Nat.max_assoc]
theorem A7 {x:Str}{k:Qn}:∀{a:List (Str×Qn)},b7 (a++[(x,k)])=b7 a+nq k
 |[]=>by simp [b7]
 |(_,l)::r=>by rw[ZH,b7,b7,A7];lia
theorem A8 {x:Str}{k:Qn}:∀{a:List (Str×Qn)},bV (a++[(x,k)])=max (bV a) (dq k)
 |[]=>by simp [bV]
 |(_,l)::r=>by rw[ZH,bV,bV,A8,Nat.max_assoc]
theorem A9 {x:Str}{k:Qn}:∀{a:List (Str×Qn)},bE (a++[(x,k)])=bE a++[.tup [.str x,qD k]]
 |[]=>by simp [bE]
 |(_,l)::r=>by rw[ZH,bE,bE,A9];rfl
theorem Ba {S:Str->Option Kd}{G:Sc}{x:Str}{q:Qn}{k:Kd} (h:Ty S G q k):∀{a:List (Str×Qn)}{b:List (Str×Kd)},dT S G a b->dT S G (a++[(x,q)]) (b++[(x,k)])
 |_,_,.nil=>.cons h .nil
 |_,_,.cons t r=>.cons t (Ba h r)
theorem px:∀{a:List (Str×Qn)},(bE a).length=a.length
 |[]=>by rw[bE];rfl
 |(_,_)::r=>by rw[bE,Yv,Yv,px]
theorem ue {S:Str->Option Kd}{G:Sc}:∀{a:List (Str×Qn)}{b:List (Str×Kd)},dT S G a b->a.length=b.length
 |_,_,.nil=>rfl
 |_,_,.cons _ r=>by rw[Yv,Yv,ue r]
theorem LJ {f:Int}{fs:List (Str×Kd)} (h:.row fs∈AK):1+sB (f-1) fs<=nB f (.row fs)/\3+mB (f-1) fs<=dB f (.row fs):=by
 obtain⟨f1,_,f3⟩:=t9 h;by_cases hf:f<=0
 ·have key:∀ fs:List (Str×Kd),sB (f-1) fs=pj fs/\mB (f-1) fs=pk fs:=by
   intro fs
   induction fs with
   |nil=>exact⟨rfl,rfl⟩
   |cons p r ih=>
    obtain⟨x,k⟩:=p;rw[sB,mB,pj,pk,ih.1,ih.2];unfold nB dB;rw[if_pos (by lia),if_pos (by lia)];exact⟨rfl,rfl⟩
  unfold nB dB;rw[if_pos hf,if_pos hf,zk,UG,(key fs).1,(key fs).2];exact⟨Yr _,Yr _⟩
 ·have key:∀ fs:List (Str×Kd),(∀ p∈fs,p.2∈AK)->sB (f-1) fs<=fs.length * zf (f-1).toNat/\mB (f-1) fs<=9 * (f-1).toNat+9:=by
   intro fs
   induction fs with
   |nil=>exact λ_=>⟨by rw[sB];lia,by rw[mB];lia⟩
   |cons p r ih=>
    intro hp;obtain⟨x,k⟩:=p;have:=ih λp h=>hp p (Yt _ h);have hb:=dV (f:=f-1) (k:=k) (hp (x,k) Ys);rw[sB,mB,Yv,Nat.succ_mul];lia
  obtain⟨k1,k2⟩:=key fs f1;have k3:fs.length * zf (f-1).toNat<=4 * zf (f-1).toNat:=Nat.mul_le_mul_right _ f3;obtain⟨g,hg⟩:∃g:Nat,f=(g:Int)+1:=⟨(f-1).toNat,by lia⟩;subst hg;unfold nB dB;rw[if_neg hf,if_neg hf,show ((g:Int)+1).toNat=g+1 from rfl,zf];have:((g:Int)+1-1).toNat=g:=by lia
  rw[this]at k1 k2 k3;lia
theorem Bb {gf:Str}{gk:Kd}:∀{fs:List (Str×Kd)},(gf,gk)∈fs->kd gk<=jU fs
 |(y,l)::r,z=>by
  rw[jU];rcases List.mem_cons.mp z with z |z
  ·cases z;lia
  ·have:=Bb z;lia
noncomputable def LL:B:=.cons (.ret (.call 43 (.cons (.v 0) (.cons (.v 3) (.cons (.c (.int 1)) .nil))))) .nil
noncomputable def LN:B:=.cons (.cond (.and (.cmp .Eq (.ix (.v 0) (.c (.int 0))) (.c (.str "num"))) (.and (.cmp .Gt (.v 2) (.c (.int 0))) (.cmp .Eq (.call 40 (.cons (.v 3) (.cons (.c (.int 3)) .nil))) (.c (.int 0))))) (.cons (.set (.one 5) (.call 47 (.cons (.v 0) (.cons (.v 1) (.cons (.op .Sub (.v 2) (.c (.int 1))) (.cons (.v 3) .nil)))))) (.cons (.ret (.tup (.cons (.ix (.lst (.cons (.c (.str "add")) (.cons (.c (.str "mul")) .nil))) (.call 40 (.cons (.v 3) (.cons (.c (.int 2)) .nil)))) (.cons (.v 5) (.cons (.call 47 (.cons (.v 0) (.cons (.v 1) (.cons (.op .Sub (.v 2) (.c (.int 1))) (.cons (.v 3) .nil))))) .nil))))) .nil)) .nil) LL
noncomputable def LO:B:=.cons (.cond (.cmp .Eq (.ix (.v 0) (.c (.int 0))) (.c (.str "row"))) (.cons (.ret (.tup (.cons (.c (.str "row")) (.cons (.bi .tuple (.cons (.lc 2 [2,1,3] (.many [0,1]) (.seq (.ix (.v 0) (.c (.int 1)))) .aq (.tup (.cons (.v 0) (.cons (.call 51 (.cons (.v 1) (.cons (.v 3) (.cons (.op .Sub (.v 2) (.c (.int 1))) (.cons (.v 4) .nil))))) .nil)))) .nil)) .nil)))) .nil) .nil) LN
noncomputable def LP:B:=.cons (.cond (.cmp .Eq (.ix (.v 0) (.c (.int 0))) (.c (.str "bag"))) (.cons (.ret (.call 51 (.cons (.v 0) (.cons (.v 1) (.cons (.op .Sub (.v 2) (.c (.int 1))) (.cons (.v 3) .nil)))))) .nil) .nil) LO
noncomputable def Bc:B:=.cons (.cond (.and (.cmp .NotEq (.v 4) (.lst .nil)) (.cmp .Gt (.call 40 (.cons (.v 3) (.cons (.c (.int 4)) .nil))) (.c (.int 0)))) (.cons (.ret (.ix (.v 4) (.call 40 (.cons (.v 3) (.cons (.bi .len (.cons (.v 4) .nil)) .nil))))) .nil) .nil) LP
noncomputable def LQ:B:=.cons (.set (.one 4) (.call 46 (.cons (.v 0) (.cons (.v 1) .nil)))) Bc
theorem LR:ay ["kind","scope","fuel","seed","ways","one"] ["kind","scope","fuel","seed"] (af (top 75)):=⟨rfl,rfl,rfl,by decide +kernel,rfl,by decide +kernel,by decide +kernel⟩
theorem LS:aC nm 40 ["kind","scope","fuel","seed","ways","one"] (af (top 75)) (ar (top 75))=LQ:=by kernel_rfl
noncomputable abbrev V0 (n:Nat):aS w:={ cs:=[(46,uc),(40,fy),(51,ej n),(47,gu n),(43,A4)] }
theorem LU (O:Lw w) {n:Nat} (hs:FO w 47 (n+4) (gu n)) (ha:FO w 51 (n+4) (ej n)):FO w 47 (n+5) (gu (n+1)):=by
 refine aI O.ok O.hn _ ⟨"_law_small",top 75,["kind","scope","fuel","seed"]⟩ (by rw[O.hd];rfl) (V0 n) { cs:=⟨⟨2,by lia,A0 O⟩,⟨1,by lia,gr O⟩,⟨n+4,Yr _,ha⟩,⟨n+4,Yr _,hs⟩,⟨2,by lia,LG O⟩,trivial⟩ } LR LS λds M Q _ h=>?_;obtain⟨κ,sc,f,p,rfl,hκ,rk,am,hp,h⟩:=h;have nb:=dV (f:=f) hκ;have fin:∀X q,Sx M p X->GQ f κ sc q->aZ Q (qD q) X:=λX q u g=>ao (h q X u g);refine⟨rfl,κ,sc,_,rfl,hκ,am,λws hw lw=>?_⟩;show B.w (V0 (w:=w) n).wd nm.ah Bc (bg Q) [some (kD κ),some (a7 sc),some (.int f),some (.ref p),some (.lst (ws.map qD)),none] M;refine eW λN2 g8=>?_;have go:∀X,Sx M p X->N2 [some (kD κ),some (a7 sc),some (.int f),some (.ref p),some (.lst (ws.map qD)),none] X:=by
  intro X u;refine g8 _ _ ?_;cases κ with
  |ai k=>
   exact⟨_,rfl,av (aW (by decide) ⟨.ai k,sc,f-1,p,rfl,hκ,by unfold Rk at rk ⊢;rw[UH];lia,am.dc (by lia),u.hs,λq Y u2 g=>fin _ q (u.tr u2) (LH hκ g)⟩)⟩
  |row fs=>
   obtain⟨f1,f2,f3⟩:=t9 hκ;refine⟨_,rfl,av (aw (by decide) ⟨_,rfl,av (aW (by decide) ⟨_,rfl,?_⟩)⟩)⟩;refine gm (λxs ys Y=>∃ch qs pre,xs=bI ch/\fs=pre++ch/\ys=bE qs/\dT kS sc qs pre/\b7 qs<=sB (f-1) pre/\bV qs<=mB (f-1) pre/\Sx M p Y) ?_ ?_ _ _ _ ⟨fs,[],[],rfl,rfl,rfl,.nil,Yr _,Yr _,u⟩
   ·rintro ys Y ⟨ch,qs,pre,e1,e2,rfl,t1,t2,t3,uY⟩;cases ch with
    |cons g ch=>obtain⟨gf,gk⟩:=g;rw[bI]at e1;cases e1
    |nil=>
     rw[YH]at e2;subst e2;have ln:(bE qs).length<=4:=(by rw[px,ue t1];exact f3);obtain⟨b1,b2⟩:=LJ (f:=f) hκ;refine⟨trivial,YA ln (by decide),.inl ⟨l2,fin _ (.row qs) uY ⟨.row (by rw[px]at ln;lia) (AX (by have:=AW hκ;rw[gY]at this;exact this)) t1,by rw[nq];lia,by rw[dq];lia⟩⟩⟩
   ·rintro x xs ys Y ⟨ch,qs,pre,e1,e2,rfl,t1,t2,t3,uY⟩;cases ch with
    |nil=>cases e1
    |cons g ch=>
     obtain⟨gf,gk⟩:=g;rw[bI]at e1;cases e1;have hm:(gf,gk)∈fs:=(by rw[e2];simp);have LV:=f1 _ hm;have ln:(bE qs).length<=4:=(by rw[px,ue t1];rw[e2]at f3;simp at f3;lia);have kk:kd gk+3<=kd (.row fs):=by rw[kd];have:=Bb hm;lia
     refine⟨trivial,YA ln (by decide),λN4 h4=>⟨rfl,gk,sc,f-1,p,rfl,LV,by have:=@ud gk;unfold Rk at rk ⊢;lia,am.dc (by lia),uY.hs,λq Z u3 g=>?_⟩⟩
     have:=h4 (bE qs++[.tup [.str gf,qD q]]) _ ⟨ch,qs++[(gf,q)],pre++[(gf,gk)],rfl,by rw[e2];simp,by rw[A9],Ba g.ty t1,by rw[A7,A5];have:=g.n;lia,by rw[A8,A6];have:=g.d;lia,uY.tr u3⟩
     exact⟨l2,this⟩
  |num=>
   have gv:∀X,Sx M p X->B.w (V0 (w:=w) n).wd nm.ah (.cons (.ret (.call 43 (.cons (.v 0) (.cons (.v 3) (.cons (.c (.int 1)) .nil))))) .nil) (bg Q) [some (kD .num),some (a7 sc),some (.int f),some (.ref p),some (.lst (ws.map qD)),none] X:=λX u=>
    ⟨.num,p,_,rfl,.inl rfl,u.hs,λq Y u2 ty lit=>fin _ q (u.tr u2) ⟨ty _ _,by rcases lit with ⟨i,rfl⟩ |⟨i,rfl⟩ <;> (rw[nq];lia),by rcases lit with ⟨i,rfl⟩ |⟨i,rfl⟩ <;> (rw[dq];lia)⟩⟩
   refine⟨_,rfl,av (aw (by decide) ⟨_,rfl,av (aw (by decide) ⟨_,rfl,av (aW (by decide) (aR (λe1=>?_) λe1=>aw (by decide) (gv X u)))⟩)⟩)⟩;have fp:0<f:=of_decide_eq_true e1;refine⟨p,3,rfl,u.hs,by decide,by decide,λr1 X1 u1 _ _=>a' (aR (λe2=>?_) λe2=>gv _ (u.tr u1))⟩;have Bd:Rk n (f-1) .num 1:=(by unfold Rk at rk ⊢;lia);refine⟨.num,sc,f-1,p,rfl,hκ,Bd,am.dc (by lia),u1.hs,λqa X2 u2 ga=>?_⟩;refine⟨l2,.inl ⟨p,2,rfl,u2.hs,by decide,by decide,λr2 X3 u3 o0 j3=>?_⟩⟩;obtain⟨d,e3,e4⟩:=dA (xs:=[.str "add",.str "mul"]) o0 j3;refine⟨d,e3,?_⟩;refine⟨.num,sc,f-1,p,rfl,hκ,Bd,am.dc (by lia),u3.hs,λqb X4 u4 gb=>⟨l3,?_⟩⟩;have VG:1+nq qa+nq qb<=nB f .num/\1+max (dq qa) (dq qb)<=dB f .num:=by
    have h1:=ga.n;have h2:=gb.n;have h3:=ga.d;have h4:=gb.d
    have hb:=dV (f:=f-1) (k:=.num) hκ;obtain⟨g,hg⟩:∃g:Nat,f=(g:Int)+1:=⟨(f-1).toNat,by lia⟩;subst hg;rw[show ((g:Int)+1-1).toNat=g by lia]at hb;unfold nB dB;rw[if_neg (by lia),if_neg (by lia),show ((g:Int)+1).toNat=g+1 from rfl,zf];lia
   have uu:=(((u.tr u1).tr u2).tr u3).tr u4;simp only[YZ,YJ,or_false]at e4;rcases e4 with rfl |rfl
   ·exact fin _ (.add qa qb) uu ⟨.add ga.ty gb.ty,by rw[nq];exact VG.1,by rw[dq];exact VG.2⟩
   ·exact fin _ (.mul qa qb) uu ⟨.mul ga.ty gb.ty,by rw[nq];exact VG.1,by rw[dq];exact VG.2⟩
  |word=>
   refine⟨_,rfl,av (aw (by decide) ⟨_,rfl,av (aw (by decide) ⟨_,rfl,av (aw (by decide) ?_)⟩)⟩)⟩;exact aw (by decide) ⟨.word,p,_,rfl,.inr rfl,u.hs,λq Y u2 ty lit=>fin _ q (u.tr u2) ⟨ty _ _,by rcases lit with ⟨i,rfl⟩ |⟨i,rfl⟩ <;> (rw[nq];lia),by rcases lit with ⟨i,rfl⟩ |⟨i,rfl⟩ <;> (rw[dq];lia)⟩⟩
 refine⟨YE _,.inl (o7 (aR (λe1=>?_) λe1=>aw (by decide) (go M (.rfl hp))))⟩;have Be:0<ws.length:=by
  cases ws with
  |nil=>simp at e1
  |cons _ _=>simp
 refine⟨p,4,rfl,hp,by decide,by decide,λr1 X1 u1 _ _=>aR (λe2=>?_) λe2=>go _ u1⟩;refine⟨p,_,rfl,u1.hs,by rw[Ym];lia,?_,λr X2 u2 r0 Bf=>?_⟩
 ·rw[Ym];exact Int.lt_of_le_of_lt (by lia:_<=(200:Int)) (by decide)
 rw[Ym]at Bf;obtain⟨d,e3,e4⟩:=dA (xs:=ws.map qD) r0 (by rw[Ym];exact Bf);obtain⟨q,hq,rfl⟩:=List.mem_map.mp e4;have hq':=hw q hq;refine⟨_,e3,fin _ q (u1.tr u2) ⟨hq'.ty,?_,?_⟩⟩
 ·rcases hq'.is with ⟨x,rfl⟩ |⟨f,x,rfl⟩
  ·rw[nq];lia
  ·rw[nq,nq];lia
 ·rcases hq'.is with ⟨x,rfl⟩ |⟨f,x,rfl⟩
  ·rw[dq];lia
  ·rw[dq,dq];lia
variable {w:Wo}
def j4 (n:Nat):Sp:=λds M Q _=>∃sc f p,ds=[a7 sc,.int f,.ref p]/\0<=f/\f<=1/\f.toNat+4<=n/\dU sc 0/\Hs M p/\∀q X,Sx M p X->cG kS sc q->nq q<=8+9 * f.toNat->dq q<=7+f.toNat->Q (qD q) X
noncomputable def uf:B:=.cons (.ret (.tup (.cons (.v 6) (.cons (.v 4) (.cons (.call 47 (.cons (.v 5) (.cons (.v 0) (.cons (.c (.int 0)) (.cons (.v 2) .nil))))) .nil))))) .nil
noncomputable def LW:B:=.cons (.set (.one 6) (.ix (.lst (.cons (.c (.str "same")) (.cons (.c (.str "under")) .nil))) (.bi .int (.cons (.and (.cmp .Eq (.v 5) (.tup (.cons (.c (.str "num")) .nil))) (.cmp .Gt (.v 3) (.c (.int 3)))) .nil)))) uf
noncomputable def Bg:B:=.cons (.cond (.and (.cmp .Eq (.v 5) (.tup (.cons (.c (.str "num")) .nil))) (.cmp .Eq (.call 40 (.cons (.v 2) (.cons (.c (.int 8)) .nil))) (.c (.int 0)))) (.cons (.set (.one 4) (.ix (.lst (.cons (.tup (.cons (.c (.str "at")) (.cons (.c (.str "a")) (.cons (.tup (.cons (.c (.str "row")) (.cons (.tup (.cons (.tup (.cons (.c (.str "a")) (.cons (.v 4) .nil))) (.cons (.tup (.cons (.c (.str "b")) (.cons (.tup (.cons (.c (.str "table")) (.cons (.c (.str "t")) .nil))) .nil))) .nil))) .nil))) .nil)))) (.cons (.tup (.cons (.c (.str "let")) (.cons (.c (.str "w")) (.cons (.tup (.cons (.c (.str "table")) (.cons (.c (.str "u")) .nil))) (.cons (.v 4) .nil))))) .nil))) (.op .Mod (.v 3) (.c (.int 2))))) .nil) .nil) LW
noncomputable def LX:B:=.cons (.set (.one 4) (.call 47 (.cons (.v 5) (.cons (.v 0) (.cons (.c (.int 0)) (.cons (.v 2) .nil)))))) Bg
noncomputable def LY:B:=.cons (.set (.one 5) (.ix (.lst (.cons (.tup (.cons (.c (.str "num")) .nil)) (.cons (.tup (.cons (.c (.str "num")) .nil)) (.cons (.tup (.cons (.c (.str "word")) .nil)) .nil)))) (.call 40 (.cons (.v 2) (.cons (.c (.int 3)) .nil))))) LX
noncomputable def LZ:B:=.cons (.cond (.and (.cmp .Gt (.v 1) (.c (.int 0))) (.cmp .Eq (.v 3) (.c (.int 1)))) (.cons (.set (.one 4) (.call 48 (.cons (.v 0) (.cons (.op .Sub (.v 1) (.c (.int 1))) (.cons (.v 2) .nil))))) (.cons (.ret (.tup (.cons (.ix (.lst (.cons (.c (.str "and")) (.cons (.c (.str "or")) .nil))) (.call 40 (.cons (.v 2) (.cons (.c (.int 2)) .nil)))) (.cons (.v 4) (.cons (.call 48 (.cons (.v 0) (.cons (.op .Sub (.v 1) (.c (.int 1))) (.cons (.v 2) .nil)))) .nil))))) .nil)) .nil) LY
noncomputable def Bh:B:=.cons (.cond (.and (.cmp .Gt (.v 1) (.c (.int 0))) (.cmp .Eq (.v 3) (.c (.int 0)))) (.cons (.ret (.tup (.cons (.c (.str "not")) (.cons (.call 48 (.cons (.v 0) (.cons (.op .Sub (.v 1) (.c (.int 1))) (.cons (.v 2) .nil)))) .nil)))) .nil) .nil) LZ
noncomputable def L3:B:=.cons (.set (.one 3) (.call 40 (.cons (.v 2) (.cons (.c (.int 6)) .nil)))) Bh
theorem L4:ay ["scope","fuel","seed","way","one","kind","word"] ["scope","fuel","seed"] (af (top 76)):=⟨rfl,rfl,rfl,by decide +kernel,rfl,by decide +kernel,by decide +kernel⟩
theorem L5:aC nm 40 ["scope","fuel","seed","way","one","kind","word"] (af (top 76)) (ar (top 76))=L3:=by kernel_rfl
noncomputable abbrev Vd (n:Nat):aS w:={ cs:=[(40,fy),(47,gu n),(48,j4 n)] }
theorem L6 (O:Lw w) {n:Nat} (hs:FO w 47 (n+4) (gu n)) (hc:FO w 48 (n+4) (j4 n)):FO w 48 (n+5) (j4 (n+1)):=by
 refine aI O.ok O.hn _ ⟨"_law_claim",top 76,["scope","fuel","seed"]⟩ (by rw[O.hd];rfl) (Vd n) { cs:=⟨⟨1,by lia,gr O⟩,⟨n+4,Yr _,hs⟩,⟨n+4,Yr _,hc⟩,trivial⟩ } L4 L5 λds M Q _ h=>?_;obtain⟨sc,f,p,rfl,f0,f1,rk,am,hp,h⟩:=h;have fin:∀X q,Sx M p X->cG kS sc q->nq q<=8+9 * f.toNat->dq q<=7+f.toNat->aZ Q (qD q) X:=λX q u g1 g2 g3=>ao (h q X u g1 g2 g3);refine⟨rfl,p,6,rfl,hp,by decide,by decide,λway X u1 w0 w1=>?_⟩;show B.w (Vd (w:=w) n).wd nm.ah Bh (bg Q) [some (a7 sc),some (.int f),some (.ref p),some (.int way),none,none,none] X;refine eW λN2 g8=>?_;have g2:N2 [some (a7 sc),some (.int f),some (.ref p),some (.int way),none,none,none] X:=by
  refine g8 _ _ (eW λN3 ug=>?_);have g3:N3 [some (a7 sc),some (.int f),some (.ref p),some (.int way),none,none,none] X:=by
   refine ug _ _ ?_;refine⟨l1,l1,l1,l3,.inl ⟨p,3,rfl,u1.hs,by decide,by decide,λr X2 u2 r0 r1=>?_⟩⟩;obtain⟨d,e3,e4⟩:=dA (xs:=[kD .num,kD .num,kD .word]) r0 r1;refine⟨d,e3,?_⟩;obtain⟨κ,rfl,hκ⟩:∃ κ,d=kD κ/\(κ=.num\/κ=.word):=by
    simp only[YZ,YJ,or_false]at e4;rcases e4 with z |z |z
    ·exact⟨_,z,.inl rfl⟩
    ·exact⟨_,z,.inl rfl⟩
    ·exact⟨_,z,.inr rfl⟩
   have k1:κ∈AK/\kd κ=1/\zk κ=2/\UG κ=2:=(by rcases hκ with rfl |rfl <;> decide +kernel);have UZ:∀{q},GQ 0 κ sc q->nq q<=2/\dq q<=2:=λg=>by
    have h1:=g.n;have h2:=g.d
    unfold nB at h1;unfold dB at h2;rw[if_pos (by lia)]at h1 h2;lia
   refine⟨κ,sc,0,p,rfl,k1.1,by unfold Rk;lia,am,u2.hs,λq1 X3 u3 g=>?_⟩;show B.w (Vd (w:=w) n).wd nm.ah Bg (bg Q) [some (a7 sc),some (.int f),some (.ref p),some (.int way),some (qD q1),some (kD κ),none] X3;have uu:=(u1.tr u2).tr u3;refine eW λN4 L7=>?_;have g4:∀(X:Mp) (qa:Qn),Sx M p X->Ty kS sc qa κ->nq qa<=5->dq qa<=6->N4 [some (a7 sc),some (.int f),some (.ref p),some (.int way),some (qD qa),some (kD κ),none] X:=by
    intro X qa u ty hn hd;refine L7 _ _ ?_;have uh:∀s,(s="same"\/s="under"/\κ=.num)->B.w (Vd (w:=w) n).wd nm.ah uf (bg Q) [some (a7 sc),some (.int f),some (.ref p),some (.int way),some (qD qa),some (kD κ),some (.str s)] X:=by
     intro s e8;refine⟨κ,sc,0,p,rfl,k1.1,by unfold Rk;lia,am,u.hs,λqb Y u4 gb=>⟨l3,?_⟩⟩;have Uo:=UZ gb;rcases e8 with rfl |⟨rfl,e⟩
     ·refine fin _ (.same qa qb) (u.tr u4) ?_ (by rw[nq];lia) (by rw[dq];lia);rcases hκ with rfl |rfl
      ·exact .jV ty gb.ty
      ·exact .jW ty gb.ty
     ·subst e;exact fin _ (.under qa qb) (u.tr u4) (.under ty gb.ty) (by rw[nq];lia) (by rw[dq];lia)
    refine⟨l2,.inl ⟨l1,jY (a:=κ) (b:=.num) (by lia) ?_⟩⟩;refine aR (λe=>?_) λe=>⟨.str "same",rfl,uh _ (.inl rfl)⟩;refine⟨_,KO,?_⟩;show B.w (Vd (w:=w) n).wd nm.ah uf (bg Q) [some (a7 sc),some (.int f),some (.ref p),some (.int way),some (qD qa),some (kD κ),some (if decide (3<way)=true then .str "under" else .str "same")] X
    split
    ·exact uh _ (.inr ⟨rfl,of_decide_eq_true e⟩)
    ·exact uh _ (.inl rfl)
   refine⟨l1,jY (a:=κ) (b:=.num) (by lia) (aR (λe1=>?_) λe1=>aw (by decide) (g4 _ q1 uu g.ty (by have:=UZ g;lia) (by have:=UZ g;lia)))⟩
   have e1:=of_decide_eq_true e1;subst e1;refine⟨p,8,rfl,u3.hs,by decide,by decide,λr4 X4 u4 _ _=>a' (aR (λe2=>?_) λe2=>g4 _ q1 (uu.tr u4) g.ty (by have:=UZ g;lia) (by have:=UZ g;lia))⟩
   refine⟨l2,l2,l2,l2,l2,l3,l2,l4,l2,.inl ?_⟩;obtain⟨d,e5,e6⟩:=dA (xs:=[qD (.at "a" (.row [("a",q1),("b",.tab "t")])),qD (.let "w" (.tab "u") q1)]) (Int.emod_nonneg way (b:=2) (by decide)) (Int.emod_lt_of_pos way (b:=2) (by decide));refine⟨(by decide:(0:Int)<2),d,e5,?_⟩;have Yd:=UZ g;rcases List.mem_cons.mp e6 with rfl |e6
   ·exact g4 _ _ (uu.tr u4) (.at (ks:=[("a",.num),("b",.ai .num)]) (by decide +kernel) (.row (show 2<100 by decide) (by decide +kernel) (.cons g.ty (.cons (.tab (by decide +kernel)) .nil))) (by decide +kernel)) (by rw[nq,nq,b7,b7,b7,nq];lia) (by rw[dq,dq,bV,bV,bV,dq];lia)
   ·cases List.mem_singleton.mp e6;refine g4 _ _ (uu.tr u4) (.let (l:=.ai c8) (by decide +kernel) (.tab (by decide +kernel)) (Ty.mono (λ_ _ z=>z) g.ty λx k hx=>?_)) (by rw[nq,nq];lia) (by rw[dq,dq];lia);rw[lk,if_neg]
    ·exact hx
    ·rintro rfl;exact am.nw _ (ef hx) rfl
  refine aR (λe1=>a' (aR (λe2=>?_) λe2=>g3)) λe1=>aw (by decide) g3;have fp:0<f:=of_decide_eq_true e1;refine⟨sc,f-1,p,rfl,by lia,by lia,by lia,am,u1.hs,λqa Xa ua ta na da=>?_⟩;refine⟨l2,.inl ⟨p,2,rfl,ua.hs,by decide,by decide,λr2 X2 u2 o0 j3=>?_⟩⟩;obtain⟨d,e3,e4⟩:=dA (xs:=[.str "and",.str "or"]) o0 j3;refine⟨d,e3,?_⟩;refine⟨sc,f-1,p,rfl,by lia,by lia,by lia,am,u2.hs,λqb Xb ub tb nb db=>⟨l3,?_⟩⟩;have uu:=((u1.tr ua).tr u2).tr ub;simp only[YZ,YJ,or_false]at e4;rcases e4 with rfl |rfl
  ·exact fin _ (.and qa qb) uu (.and ta tb) (by rw[nq];lia) (by rw[dq];lia)
  ·exact fin _ (.or qa qb) uu (.or ta tb) (by rw[nq];lia) (by rw[dq];lia)
 refine aR (λe1=>a' (aR (λe2=>?_) λe2=>g2)) λe1=>aw (by decide) g2;have fp:0<f:=of_decide_eq_true e1;exact⟨sc,f-1,p,rfl,by lia,by lia,by lia,am,u1.hs,λq X2 u2 ty hn hd=>⟨l2,fin _ (.not q) (u1.tr u2) (.not ty) (by rw[nq];lia) (by rw[dq];lia)⟩⟩
variable {w:Wo}
noncomputable def j5 (f:Str):D:=.tup [.str f,.tup [.str "num",.int 1]]
theorem Bj {sc:Sc}:∀fs:List Str,∃ps ks,bE ps=fs.map j5/\dT kS sc ps ks/\b7 ps=fs.length/\bV ps<=1/\ks.map (·.1)=fs/\ps.length=fs.length
 |[]=>⟨[],[],by rw[bE];rfl,.nil,by rw[b7];rfl,by rw[bV];lia,rfl,rfl⟩
 |f::fs=>by
  obtain⟨ps,ks,h1,h2,h3,h4,h5,h6⟩:=Bj (sc:=sc) fs;exact⟨(f,.num 1)::ps,(f,.num)::ks,by rw[bE,h1,qD];rfl,.cons .num h2,by rw[b7,nq,h3,Yv];lia,by rw[bV,dq];lia,by rw[Yu,h5],by rw[Yv,Yv,h6]⟩
theorem tk {sc:Sc}{q:Qn} {κ:Kd} (ty:Ty kS sc q κ):∀ (fs:List Str) (j:Nat) (x:Str),fs[j]?=some x->fs.Nodup ->
  ∃ps ks,bE ps=(fs.map j5).set j (.tup [.str x,qD q])/\dT kS sc ps ks/\lk x ks=some κ/\b7 ps<=fs.length+nq q/\bV ps<=max 1 (dq q)/\ks.map (·.1)=fs/\ps.length=fs.length
 |[],_,_,h,_=>nomatch h
 |f::fs,0,x,h,_=>by
  cases h;obtain⟨ps,ks,h1,h2,h3,h4,h5,h6⟩:=Bj (sc:=sc) fs;exact⟨(f,q)::ps,(f,κ)::ks,by rw[bE,h1];rfl,.cons ty h2,by rw[lk,if_pos rfl],by rw[b7,h3,Yv];lia,by rw[bV];lia,by rw[Yu,h5],by rw[Yv,Yv,h6]⟩
 |f::fs,j+1,x,h,nd=>by
  rw[Z9]at nd;have h:fs[j]?=some x:=h;obtain⟨ps,ks,h1,h2,h3,h4,h5,h6,h7⟩:=tk ty fs j x h nd.2;refine⟨(f,.num 1)::ps,(f,.num)::ks,by rw[bE,h1,qD];rfl,.cons .num h2,?_,by rw[b7,nq,Yv];lia,by rw[bV,dq];lia,by rw[Yu,h6],by rw[Yv,Yv,h7]⟩;rw[lk,if_neg,h3];rintro rfl;exact nd.1 (Y4 h)
def pC (n:Nat):Sp:=λds M Q _=>∃ κ sc f p,ds=[kD κ,a7 sc,.int f,.ref p]/\κ∈AK/\0<f/\20 * f.toNat+1<=n/\dU sc f.toNat/\Hs M p/\∀q X,Sx M p X->GQ f κ sc q->Q (qD q) X
theorem Bk {f:Int} (hf:0<f) {κ:Kd} (h:κ∈AK):nB f κ=5 * zf (f-1).toNat+40/\dB f κ=9 * (f-1).toNat+18:=by
 obtain⟨g,hg⟩:∃g:Nat,f=(g:Int)+1:=⟨(f-1).toNat,by lia⟩;subst hg;rw[show ((g:Int)+1-1).toNat=g by lia];unfold nB dB;rw[if_neg (by lia),if_neg (by lia),show ((g:Int)+1).toNat=g+1 from rfl,zf];exact⟨rfl,by lia⟩
noncomputable def L8:B:=.cons (.ret (.tup (.cons (.c (.str "at")) (.cons (.ix (.v 4) (.v 5)) (.cons (.tup (.cons (.c (.str "row")) (.cons (.bi .tuple (.cons (.v 6) .nil)) .nil))) .nil))))) .nil
noncomputable def L9:B:=.cons (.put (.v 6) (.v 5) (.tup (.cons (.ix (.v 4) (.v 5)) (.cons (.call 51 (.cons (.v 0) (.cons (.v 1) (.cons (.op .Sub (.v 2) (.c (.int 1))) (.cons (.v 3) .nil))))) .nil)))) L8
noncomputable def L':B:=.cons (.set (.one 6) (.lc 1 [] (.one 0) (.seq (.v 4)) .aq (.tup (.cons (.v 0) (.cons (.tup (.cons (.c (.str "num")) (.cons (.c (.int 1)) .nil))) .nil))))) L9
noncomputable def Bl:B:=.cons (.set (.one 5) (.call 40 (.cons (.v 3) (.cons (.bi .len (.cons (.v 4) .nil)) .nil)))) L'
noncomputable def Ma:B:=.cons (.set (.one 4) (.sl (.lst (.cons (.c (.str "a")) (.cons (.c (.str "c")) (.cons (.c (.str "t")) (.cons (.c (.str "u")) (.cons (.c (.str "w")) .nil)))))) .aq (.op .Add (.c (.int 1)) (.call 40 (.cons (.v 3) (.cons (.c (.int 5)) .nil)))))) Bl
theorem Mb:ay ["kind","scope","fuel","seed","fields","place","parts"] ["kind","scope","fuel","seed"] (af (top 78)):=⟨rfl,rfl,rfl,by decide +kernel,rfl,by decide +kernel,by decide +kernel⟩
theorem Mc:aC nm 40 ["kind","scope","fuel","seed","fields","place","parts"] (af (top 78)) (ar (top 78))=Ma:=by kernel_rfl
noncomputable abbrev WB (n:Nat):aS w:={ cs:=[(40,fy),(51,ej n)] }
theorem Md (O:Lw w) {n:Nat} (ha:FO w 51 (n+4) (ej n)):FO w 50 (n+5) (pC (n+1)):=by
 refine aI O.ok O.hn _ ⟨"_law_taken",top 78,["kind","scope","fuel","seed"]⟩ (by rw[O.hd];rfl) (WB n) { cs:=⟨⟨1,by lia,gr O⟩,⟨n+4,Yr _,ha⟩,trivial⟩ } Mb Mc λds M Q _ h=>?_;obtain⟨κ,sc,f,p,rfl,hκ,f0,rk,am,hp,h⟩:=h;refine⟨rfl,l5,.inl ⟨p,5,rfl,hp,by decide,by decide,λr X1 u1 r0 r1=>.inl ?_⟩⟩;obtain⟨fs,e1,nd,nt,c1,c2⟩:∃fs:List Str,du [.str "a",.str "c",.str "t",.str "u",.str "w"] none (some (1+r))=fs.map D.str/\fs.Nodup/\("table" : Str) ∉ fs/\1<=fs.length/\fs.length<=5:=by
  have:r=0\/r=1\/r=2\/r=3\/r=4:=by have r1:r<5:=r1;lia
  rcases this with rfl |rfl |rfl |rfl |rfl
  ·exact⟨["a"],by rfl,by decide +kernel,by decide +kernel,by decide,by decide⟩
  ·exact⟨["a","c"],by rfl,by decide +kernel,by decide +kernel,by decide,by decide⟩
  ·exact⟨["a","c","t"],by rfl,by decide +kernel,by decide +kernel,by decide,by decide⟩
  ·exact⟨["a","c","t","u"],by rfl,by decide +kernel,by decide +kernel,by decide,by decide⟩
  ·exact⟨["a","c","t","u","w"],by rfl,by decide +kernel,by decide +kernel,by decide,by decide⟩
 have key:∀d,d=fs.map D.str->B.w (WB (w:=w) n).wd nm.ah Bl (bg Q) [some (kD κ),some (a7 sc),some (.int f),some (.ref p),some (.lst d),none,none] X1:=?_
 ·exact key _ e1
 rintro _ rfl;refine⟨p,_,rfl,u1.hs,?_,?_,λj X2 u2 U0 j1=>?_⟩
 ·rw[Ym];lia
 ·rw[Ym];exact Int.lt_of_le_of_lt (by lia:_<=(5:Int)) (by decide)
 rw[Ym]at j1;have Xk:j.toNat<fs.length:=by lia
 have hx:fs[j.toNat]?=some fs[j.toNat]:=Yo Xk;generalize fs[j.toNat]=x at hx;have Bm:cz (fs.map D.str) j=some (.str x):=by
  unfold cz fh;rw[if_pos U0,if_pos (by rw[Ym];exact j1)];show (fs.map D.str)[j.toNat]?=_;rw[Yz,hx];rfl
 refine iN (M:=X2) D.str j5 fs ?_ (YA c2 (by decide)) (λz _ N hN=>?_) ?_
 ·exact trivial
 ·exact⟨l2,l2,hN⟩
 refine .inr λl6 g'=>?_;have q6:up X2 l6 (.lst (fs.map j5)) l6=some (.lst (fs.map j5)):=au;have hs2:=u2.hs;have n6:p≠l6:=by obtain⟨o,e,_⟩:=hs2;exact di e g'
 refine⟨_,Bm,κ,sc,f-1,p,rfl,hκ,?_,am.dc (by lia),?_,λq Y u7 g=>⟨l2,?_⟩⟩
 ·have:=eX hκ;have:=@ud κ;unfold Rk;lia
 ·obtain⟨o,e,s⟩:=hs2;exact⟨o,by rw[ax n6];exact e,s⟩
 obtain⟨ps,ks,t1,t2,t3,Ye,t5,WC,Yg⟩:=tk g.ty fs j.toNat x hx nd;have q7:Y l6=some (.lst (fs.map j5)):=by rw[u7.ne (Zl n6)];exact au
 refine .inl ⟨_,q7,j.toNat,?_,?_⟩
 ·unfold fh;rw[if_pos U0,if_pos (by rw[Ym];exact j1)]
 rw[<- t1];refine⟨_,Bm,_,au,l2,l3,?_⟩;obtain⟨b1,b2⟩:=Bk f0 hκ;obtain⟨g1,g2,g3,g4⟩:=dV (f:=f-1) hκ;have Yh:=g.n;have gd:=g.d;obtain⟨WD,s7,rfl⟩:=u7;refine me (M:=up X2 p WD) ?_ (h (.at x (.row ps)) _ ((u1.tr u2).tr ⟨WD,s7,rfl⟩) ⟨.at (by rw[WC];exact nd) (.row (by lia) (by rw[WC];exact nt) t2) t3,by rw[nq,nq,b1];lia,by rw[dq,dq,b2];lia⟩);refine⟨λa u e=>?_,λa b e q=>?_⟩
 ·by_cases ha:a=l6
  ·subst ha;rw[ax (Zl n6),g']at e;cases e
  ·rw[ax ha];by_cases hb:a=p
   ·subst hb;rw[au]at e ⊢;exact e
   ·rw[ax hb]at e ⊢;rw[ax ha];exact e
 ·by_cases hb:b=l6
  ·subst hb;rw[au]at q;cases q
  ·rw[ax hb]at q;by_cases hc:b=p
   ·subst hc;rw[au]at q ⊢;exact q
   ·rw[ax hc]at q ⊢;rw[ax hb]at q;exact q
variable {w:Wo}
noncomputable def iD (v:Qn×Kd):D:=.tup [qD v.1,kD (.ai v.2)]
structure Iv (sc:Sc) (v:Qn×Kd):Prop where
 ty:Ty kS sc v.1 (.ai v.2)
 UN:.ai v.2∈AK
 n:nq v.1<=2
 d:dq v.1<=2
def pD (n:Nat):Sp:=λds M Q _=>∃sc f p,ds=[a7 sc,.int f,.ref p]/\20 * f.toNat+1<=n/\dU sc f.toNat/\Hs M p/\∀q k X,Sx M p X->.ai k∈AK->Ty kS sc q (.ai k)->nq q<=zf f.toNat->dq q<=9 * f.toNat+9->Q (.tup [qD q,kD (.ai k)]) X
noncomputable def Me:B:=.cons (.ret (.tup (.cons (.tup (.cons (.c (.str "table")) (.cons (.v 4) .nil))) (.cons (.v 5) .nil)))) .nil
noncomputable def Mf:B:=.cons (.cond (.and (.cmp .Gt (.v 1) (.c (.int 0))) (.cmp .Eq (.call 40 (.cons (.v 2) (.cons (.c (.int 4)) .nil))) (.c (.int 0)))) (.cons (.ret (.tup (.cons (.call 51 (.cons (.v 5) (.cons (.v 0) (.cons (.op .Sub (.v 1) (.c (.int 1))) (.cons (.v 2) .nil))))) (.cons (.v 5) .nil)))) .nil) .nil) Me
noncomputable def Bn:B:=.cons (.cond (.and (.cmp .NotEq (.v 8) (.lst .nil)) (.cmp .Eq (.call 40 (.cons (.v 2) (.cons (.c (.int 3)) .nil))) (.c (.int 0)))) (.cons (.ret (.ix (.v 8) (.call 40 (.cons (.v 2) (.cons (.bi .len (.cons (.v 8) .nil)) .nil))))) .nil) .nil) Mf
noncomputable def Mg:B:=.cons (.loop (.many [6,7]) (.seq (.call 45 (.cons (.v 0) .nil))) (.cons (.cond (.cmp .Eq (.v 7) (.ix (.v 3) (.c (.str "u")))) (.cons (.ex (.mt .append (.v 8) (.cons (.tup (.cons (.tup (.cons (.c (.str "at")) (.cons (.c (.str "t")) (.cons (.tup (.cons (.c (.str "var")) (.cons (.v 6) .nil))) .nil)))) (.cons (.tup (.cons (.c (.str "bag")) (.cons (.tup (.cons (.c (.str "num")) .nil)) .nil))) .nil))) .nil))) .nil) .nil) .nil)) Bn
noncomputable def Mh:B:=.cons (.set (.one 8) (.lc 2 [] (.many [0,1]) (.seq (.call 45 (.cons (.v 0) .nil))) (.cmp .Eq (.ix (.v 1) (.c (.int 0))) (.c (.str "bag"))) (.tup (.cons (.tup (.cons (.c (.str "var")) (.cons (.v 0) .nil))) (.cons (.v 1) .nil))))) Mg
noncomputable def Mi:B:=.cons (.set (.one 5) (.tup (.cons (.c (.str "bag")) (.cons (.ix (.v 3) (.v 4)) .nil)))) Mh
noncomputable def Mj:B:=.cons (.set (.one 4) (.ix (.lst (.cons (.c (.str "r")) (.cons (.c (.str "s")) (.cons (.c (.str "t")) (.cons (.c (.str "u")) (.cons (.c (.str "v")) .nil)))))) (.call 40 (.cons (.v 2) (.cons (.c (.int 5)) .nil))))) Mi
noncomputable def Ml:B:=.cons (.set (.one 3) (.call 44 .nil)) Mj
theorem Mm:ay ["scope","fuel","seed","kinds","name","kind","spare","other","inner"] ["scope","fuel","seed"] (af (top 77)):=⟨rfl,rfl,rfl,by decide +kernel,rfl,by decide +kernel,by decide +kernel⟩
theorem Mn:aC nm 40 ["scope","fuel","seed","kinds","name","kind","spare","other","inner"] (af (top 77)) (ar (top 77))=Ml:=by kernel_rfl
noncomputable abbrev WE (n:Nat):aS w:={ cs:=[(40,fy),(44,j0),(45,t7),(51,ej n)] }
theorem Mo (O:Lw w) {n:Nat} (ha:FO w 51 (n+4) (ej n)):FO w 49 (n+5) (pD (n+1)):=by
 refine aI O.ok O.hn _ ⟨"_law_over",top 77,["scope","fuel","seed"]⟩ (by rw[O.hd];rfl) (WE n) { cs:=⟨⟨1,by lia,gr O⟩,⟨1,by lia,mi O⟩,⟨1,by lia,AV O⟩,⟨n+4,Yr _,ha⟩,trivial⟩ } Mm Mn λds M Q _ h=>?_;obtain⟨sc,f,p,rfl,rk,am,hp,h⟩:=h;refine⟨rfl,rfl,l5,.inl ⟨p,5,rfl,hp,by decide,by decide,λr X1 u1 r0 r1=>?_⟩⟩;obtain⟨d,e1,e2⟩:=dA (xs:=[.str "r",.str "s",.str "t",.str "u",.str "v"]) r0 r1;obtain⟨x,κ,rfl,hx,hκ⟩:∃x κ,d=.str x/\kS x=some κ/\.ai κ∈AK:=by
  simp only[YZ,YJ,or_false]at e2;rcases e2 with z |z |z |z |z
  ·exact⟨"r",iO,z,by decide +kernel,by decide +kernel⟩
  ·exact⟨"s",iO,z,by decide +kernel,by decide +kernel⟩
  ·exact⟨"t",.num,z,by decide +kernel,by decide +kernel⟩
  ·exact⟨"u",c8,z,by decide +kernel,by decide +kernel⟩
  ·exact⟨"v",.ai .word,z,by decide +kernel,by decide +kernel⟩
 refine⟨_,e1,?_⟩;have Mq:aG ((bu.map λm=>(Zs m.1:Key)).zip (bu.map λm=>kD m.2)) (.inr x)=some (kD κ):=by
  rw[o8,gq];unfold kS at hx;rw[hx];rfl
 refine⟨_,Mq,l2,?_⟩;refine⟨sc,rfl,by have:=am.len;lia,am.kd,λout ho lo _=>?_⟩
 have ls:=am.len;refine gm (λxs ys M'=>M'=X1/\∃rest vs,xs=eU rest/\ys=vs.map iD/\(∀p∈rest,lk p.1 sc=some p.2)/\(∀v∈vs,Iv sc v)/\vs.length+rest.length<=40) ?_ ?_ _ _ _ ⟨rfl,out,[],rfl,rfl,λp hp=>(ho _ _).mp hp,λv hv=>(nomatch hv),by simp;lia⟩
 ·rintro ys M' ⟨rfl,rest,vs,e1,rfl,hr,hv,g'⟩;refine⟨trivial,YA (by rw[Ym];lia:_<=40) (by decide),.inr λlw ui=>?_⟩;have Bo:lw≠p:=by obtain⟨o,e,_⟩:=u1.hs;exact Zl (di e ui)
  have Up:M lw=none:=by rw[<- u1.ne Bo];exact ui
  refine⟨sc,rfl,by lia,am.kd,λout ho lo _=>?_⟩;refine eS (λxs τ M2=>∃rest vs u v,xs=eU rest/\(∀p∈rest,lk p.1 sc=some p.2)/\τ=[some (a7 sc),some (.int f),some (.ref p),some (eV bu),some (.str x),some (kD (.ai κ)),u,v,some (.ref lw)]/\M2=up M' lw (.lst (vs.map iD))/\(∀v∈vs,Iv sc v)/\vs.length+rest.length<=80)
   ?_ ?_ _ _ _ ⟨out,vs,none,none,rfl,λp hp=>(ho _ _).mp hp,rfl,rfl,hv,by lia⟩
  ·rintro τ M2 ⟨rest,vs,u,v,e1,hr,rfl,rfl,hv,g'⟩;refine⟨trivial,KU ui (.rfl ?_)⟩;have key:∀ τ,τ=[some (a7 sc),some (.int f),some (.ref p),some (eV bu),some (.str x),some (kD (.ai κ)),cT lw (.lst (vs.map iD)) u,cT lw (.lst (vs.map iD)) v,some (.lst (vs.map iD))]->B.w (WE (w:=w) n).wd nm.ah Bn (bg Q) τ M':=?_
   ·refine key _ ?_;show [_,_,cT lw (.lst (vs.map iD)) (some (.ref p)),_,_,_,_,_,cT lw (.lst (vs.map iD)) (some (.ref lw))]=_;rw[KQ (Zl Bo),AH];rfl
   generalize cT lw (.lst (vs.map iD)) u=u';generalize cT lw (.lst (vs.map iD)) v=v';rintro _ rfl;refine eW λN5 Mr=>?_;have go:∀X,Sx M p X->N5 [some (a7 sc),some (.int f),some (.ref p),some (eV bu),some (.str x),some (kD (.ai κ)),u',v',some (.lst (vs.map iD))] X:=by
    intro X uX;refine Mr _ _ (eW λN6 Ms=>?_);have tb:∀X,Sx M p X->N6 [some (a7 sc),some (.int f),some (.ref p),some (eV bu),some (.str x),some (kD (.ai κ)),u',v',some (.lst (vs.map iD))] X:=by
     intro X uX;exact Ms _ _ ⟨l2,l2,ao (h (.tab x) κ X uX hκ (.tab hx) (by have:=iR f.toNat;rw[nq];lia) (by rw[dq];lia))⟩
    refine aR (λe1=>⟨p,4,rfl,uX.hs,by decide,by decide,λr4 X4 u4 _ _=>a' (aR (λe2=>?_) λe2=>tb _ (uX.tr u4))⟩) λe1=>aw (by decide) (tb X uX);have fp:0<f:=of_decide_eq_true e1;refine⟨.ai κ,sc,f-1,p,rfl,hκ,?_,am.dc (by lia),u4.hs,λq X6 u6 g=>⟨l2,ao (h q κ X6 ((uX.tr u4).tr u6) hκ g.ty ?_ ?_)⟩⟩
    ·have:=eX hκ;unfold Rk;rw[UH];lia
    ·have:=(dV (f:=f-1) hκ).2.1;have:=pv (show (f-1).toNat<=f.toNat by lia);exact Yy g.n (by lia)
    ·have:=(dV (f:=f-1) hκ).2.2.2;exact Yy g.d (by lia)
   refine⟨YE _,.inl (o7 (aR (λe1=>?_) λe1=>aw (by decide) (go M' u1)))⟩;have Be:0<vs.length:=by
    cases vs with
    |nil=>simp at e1
    |cons _ _=>simp
   refine⟨p,3,rfl,u1.hs,by decide,by decide,λWs X6 u6 _ _=>a' (aR (λe2=>?_) λe2=>go _ (u1.tr u6))⟩;refine⟨p,_,rfl,u6.hs,by rw[Ym];lia,?_,λr7 X7 u7 Mu Mv=>?_⟩
   ·rw[Ym];exact Int.lt_of_le_of_lt (by lia:_<=(80:Int)) (by decide)
   obtain⟨d,e3,e4⟩:=dA Mu Mv;obtain⟨q,hq,rfl⟩:=List.mem_map.mp e4;have hq':=hv q hq;have:=iR f.toNat;exact⟨_,e3,ao (h q.1 q.2 X7 ((u1.tr u6).tr u7) hq'.UN hq'.ty (by have:=hq'.n;lia) (by have:=hq'.d;lia))⟩
  ·rintro y xs τ M2 ⟨rest,vs,u,v,e1,hr,rfl,rfl,hv,g'⟩;cases rest with
   |nil=>cases e1
   |cons g rest=>
    obtain⟨gf,gk⟩:=g;cases e1;have hg:=hr _ Ys;have c9:∀p∈rest,lk p.1 sc=some p.2:=λp hp=>hr p (Yt _ hp);rw[Yv]at g';have Bp:kd gk<=9:=eX (am.UN _ (ef hg));have Mw:aG ((bu.map λm=>(Zs m.1:Key)).zip (bu.map λm=>kD m.2)) (.inr "u")=some (kD c8):=by
     rw[o8,gq];rfl
    refine⟨trivial,λN hN=>⟨rfl,_,Mw,jY (by show kd gk<=50;lia) (aR (λe=>?_) λe=>hN _ _ ⟨rest,vs,_,_,rfl,c9,rfl,rfl,hv,by lia⟩)⟩⟩;have e:gk=c8:=of_decide_eq_true e;subst e;refine⟨.inl ⟨rfl,_,au⟩,l2,l3,l1,l2,l2,_,au,YA (by rw[Ym];lia:_<=80) (by decide),hN _ _ ⟨rest,vs++[(.at "t" (.var gf),.num)],_,_,rfl,c9,rfl,by rw[_root_.N.cF,YS];rfl,λv im=>?_,by simp;lia⟩⟩;rcases List.mem_append.mp im with z |z
    ·exact hv v z
    ·rw[List.mem_singleton.mp z];exact⟨.at (by decide +kernel) (.var hg) rfl,(by decide +kernel:Kd.ai .num∈AK),by rw[nq,nq];lia,by rw[dq,dq];lia⟩
 ·rintro y xs ys M' ⟨rfl,rest,vs,e1,rfl,hr,hv,g'⟩;cases rest with
  |nil=>cases e1
  |cons g rest=>
   obtain⟨gf,gk⟩:=g;cases e1;have hg:=hr _ Ys;have c9:∀p∈rest,lk p.1 sc=some p.2:=λp hp=>hr p (Yt _ hp);rw[Yv]at g';refine⟨trivial,YA (by rw[Ym];lia:_<=40) (by decide),λN hN=>⟨rfl,?_⟩⟩;cases gk with
   |ai k=>
    refine⟨_,rfl,av (aW (by decide) ⟨l2,l2,?_⟩)⟩;have:=hN (vs.map iD++[iD (.var gf,k)]) _ ⟨rfl,rest,vs++[(.var gf,k)],rfl,by rw[YS];rfl,c9,λv im=>?_,by simp;lia⟩
    ·exact this
    ·rcases List.mem_append.mp im with z |z
     ·exact hv v z
     ·rw[List.mem_singleton.mp z];exact⟨.var hg,am.UN _ (ef hg),by rw[nq];lia,by rw[dq];lia⟩
   |num=>exact⟨_,rfl,av (aw (by decide) (hN _ _ ⟨rfl,rest,vs,rfl,rfl,c9,hv,by lia⟩))⟩
   |word=>exact⟨_,rfl,av (aw (by decide) (hN _ _ ⟨rfl,rest,vs,rfl,rfl,c9,hv,by lia⟩))⟩
   |row fs=>exact⟨_,rfl,av (aw (by decide) (hN _ _ ⟨rfl,rest,vs,rfl,rfl,c9,hv,by lia⟩))⟩
variable {w:Wo}
structure Wy (κ:Kd) (sc:Sc) (q:Qn):Prop where
 ty:Ty kS sc q κ
 n:nq q<=2
 d:dq q<=2
theorem Hq.Xl {κ:Kd} {sc:Sc}{q:Qn} (h:Hq κ sc q):Wy κ sc q:=by
 refine⟨h.ty,?_,?_⟩
 ·rcases h.is with ⟨x,rfl⟩ |⟨f,x,rfl⟩
  ·rw[nq];lia
  ·rw[nq,nq];lia
 ·rcases h.is with ⟨x,rfl⟩ |⟨f,x,rfl⟩
  ·rw[dq];lia
  ·rw[dq,dq];lia
theorem My {k:Kd}{f:Int}{sc:Sc}{q:Qn} (h:.ai k∈AK) (g:GQ 0 k sc q):GQ f (.ai k) sc (.one q):=by
 have h1:=g.n;have h2:=g.d
 unfold nB at h1;unfold dB at h2;rw[if_pos (by lia)]at h1 h2;obtain⟨UA,Uz,UB,UC,_⟩:=pq (g7 h);refine⟨.one g.ty,?_,?_⟩
 ·rw[nq];unfold nB;split
  ·rw[zk];lia
  ·obtain⟨g,hg⟩:∃g:Nat,f=(g:Int)+1:=⟨(f-1).toNat,by lia⟩;subst hg;have:=iR g;rw[show ((g:Int)+1).toNat=g+1 from rfl,zf];lia
 ·rw[dq];unfold dB;split
  ·rw[UG];lia
  ·lia
theorem Bq {k:Kd}{f:Int}{sc:Sc} (h:.ai k∈AK):GQ f (.ai k) sc (.none k):=by
 have:=dV (f:=f) h;have hk:=eX (g7 h);refine⟨.none (by have:=AW h;rw[gY]at this;exact this) (t8 (g7 h)),by rw[nq];lia,?_⟩
 rw[dq];unfold dB;split
 ·rw[UG];lia
 ·lia
noncomputable def Mz:B:=.cons (.ret (.tup (.cons (.c (.str "for")) (.cons (.v 4) (.cons (.v 10) (.cons (.call 51 (.cons (.v 0) (.cons (.op .Add (.lst (.cons (.tup (.cons (.v 4) (.cons (.ix (.v 5) (.c (.int 1))) .nil))) .nil)) (.v 1)) (.cons (.op .Sub (.v 2) (.c (.int 1))) (.cons (.v 3) .nil))))) .nil)))))) .nil
noncomputable def MA:B:=.cons (.set (.many [10,5]) (.call 49 (.cons (.v 1) (.cons (.op .Sub (.v 2) (.c (.int 1))) (.cons (.v 3) .nil))))) Mz
noncomputable def MB:B:=.cons (.cond (.cmp .Eq (.v 8) (.c (.int 6))) (.cons (.set (.one 5) (.ix (.lst (.cons (.tup (.cons (.c (.str "num")) .nil)) (.cons (.tup (.cons (.c (.str "bag")) (.cons (.tup (.cons (.c (.str "num")) .nil)) .nil))) .nil))) (.call 40 (.cons (.v 3) (.cons (.c (.int 2)) .nil))))) (.cons (.set (.one 9) (.call 51 (.cons (.v 5) (.cons (.v 1) (.cons (.op .Sub (.v 2) (.c (.int 2))) (.cons (.v 3) .nil)))))) (.cons (.ret (.tup (.cons (.c (.str "let")) (.cons (.v 4) (.cons (.v 9) (.cons (.call 51 (.cons (.v 0) (.cons (.op .Add (.lst (.cons (.tup (.cons (.v 4) (.cons (.v 5) .nil))) .nil)) (.v 1)) (.cons (.op .Sub (.v 2) (.c (.int 1))) (.cons (.v 3) .nil))))) .nil)))))) .nil))) .nil) MA
noncomputable def MC:B:=.cons (.set (.one 4) (.ix (.lst (.cons (.c (.str "t")) (.cons (.c (.str "s")) (.cons (.c (.str "z")) .nil)))) (.call 40 (.cons (.v 3) (.cons (.c (.int 3)) .nil))))) MB
noncomputable def Br:B:=.cons (.cond (.and (.cmp .Eq (.v 8) (.c (.int 8))) (.cmp .Eq (.call 40 (.cons (.v 3) (.cons (.c (.int 2)) .nil))) (.c (.int 0)))) (.cons (.ret (.tup (.cons (.c (.str "none")) (.cons (.ix (.v 0) (.c (.int 1))) .nil)))) .nil) .nil) MC
noncomputable def MD:B:=.cons (.cond (.cmp .Eq (.v 8) (.c (.int 7))) (.cons (.ret (.call 50 (.cons (.v 0) (.cons (.v 1) (.cons (.v 2) (.cons (.v 3) .nil)))))) .nil) .nil) Br
noncomputable def ME:B:=.cons (.cond (.cmp .Eq (.v 8) (.c (.int 5))) (.cons (.ret (.tup (.cons (.c (.str "one")) (.cons (.call 47 (.cons (.ix (.v 0) (.c (.int 1))) (.cons (.v 1) (.cons (.op .Sub (.v 2) (.c (.int 1))) (.cons (.v 3) .nil))))) .nil)))) .nil) .nil) MD
noncomputable def MF:B:=.cons (.cond (.cmp .Eq (.v 8) (.c (.int 4))) (.cons (.ret (.tup (.cons (.c (.str "when")) (.cons (.call 48 (.cons (.v 1) (.cons (.c (.int 1)) (.cons (.v 3) .nil)))) (.cons (.call 51 (.cons (.v 0) (.cons (.v 1) (.cons (.op .Sub (.v 2) (.c (.int 1))) (.cons (.v 3) .nil))))) .nil))))) .nil) .nil) ME
noncomputable def MG:B:=.cons (.cond (.cmp .Eq (.v 8) (.c (.int 3))) (.cons (.ret (.tup (.cons (.c (.str "times")) (.cons (.op .Sub (.call 40 (.cons (.v 3) (.cons (.c (.int 7)) .nil))) (.c (.int 3))) (.cons (.call 51 (.cons (.v 0) (.cons (.v 1) (.cons (.op .Sub (.v 2) (.c (.int 1))) (.cons (.v 3) .nil))))) .nil))))) .nil) .nil) MF
noncomputable def MH:B:=.cons (.cond (.cmp .Eq (.v 8) (.c (.int 2))) (.cons (.ret (.tup (.cons (.c (.str "both")) (.cons (.call 51 (.cons (.v 0) (.cons (.v 1) (.cons (.op .Sub (.v 2) (.c (.int 1))) (.cons (.v 3) .nil))))) (.cons (.call 51 (.cons (.v 0) (.cons (.v 1) (.cons (.op .Sub (.v 2) (.c (.int 1))) (.cons (.v 3) .nil))))) .nil))))) .nil) .nil) MG
noncomputable def uj:B:=.cons (.cond (.or (.cmp .LtE (.v 2) (.c (.int 0))) (.cmp .Lt (.v 8) (.c (.int 2)))) (.cons (.cond (.and (.cmp .Eq (.v 7) (.lst .nil)) (.cmp .Eq (.call 40 (.cons (.v 3) (.cons (.c (.int 2)) .nil))) (.c (.int 0)))) (.cons (.ret (.tup (.cons (.c (.str "one")) (.cons (.call 47 (.cons (.ix (.v 0) (.c (.int 1))) (.cons (.v 1) (.cons (.c (.int 0)) (.cons (.v 3) .nil))))) .nil)))) .nil) .nil) (.cons (.cond (.cmp .Eq (.v 7) (.lst .nil)) (.cons (.ret (.tup (.cons (.c (.str "none")) (.cons (.ix (.v 0) (.c (.int 1))) .nil)))) .nil) .nil) (.cons (.ret (.ix (.v 7) (.call 40 (.cons (.v 3) (.cons (.bi .len (.cons (.v 7) .nil)) .nil))))) .nil))) .nil) MH
noncomputable def Bt:B:=.cons (.set (.one 8) (.call 40 (.cons (.v 3) (.cons (.c (.int 12)) .nil)))) uj
noncomputable def MI:B:=.cons (.set (.one 7) (.op .Add (.op .Add (.call 46 (.cons (.v 0) (.cons (.v 1) .nil))) (.v 6)) (.v 6))) Bt
noncomputable def MJ:B:=.cons (.set (.one 6) (.lc 2 [0] (.many [0,1]) (.seq (.oA (.call 44 .nil))) (.cmp .Eq (.tup (.cons (.c (.str "bag")) (.cons (.v 1) .nil))) (.v 2)) (.tup (.cons (.c (.str "table")) (.cons (.v 0) .nil))))) MI
noncomputable def MK:B:=.cons (.cond (.cmp .NotEq (.ix (.v 0) (.c (.int 0))) (.c (.str "bag"))) (.cons (.ret (.call 47 (.cons (.v 0) (.cons (.v 1) (.cons (.v 2) (.cons (.v 3) .nil)))))) .nil) .nil) MJ
theorem ML:ay ["kind","scope","fuel","seed","name","other","named","ways","way","bound_v","over"] ["kind","scope","fuel","seed"] (af (top 79)):=⟨rfl,rfl,rfl,by decide +kernel,rfl,by decide +kernel,by decide +kernel⟩
theorem MM:aC nm 40 ["kind","scope","fuel","seed","name","other","named","ways","way","bound_v","over"] (af (top 79)) (ar (top 79))=MK:=by kernel_rfl
noncomputable abbrev U1 (n:Nat):aS w:={ cs:=[(40,fy),(44,j0),(46,uc),(47,gu n),(48,j4 n),(49,pD n),(50,pC n),(51,ej n)] }
theorem MN (O:Lw w) {n:Nat} (hs:FO w 47 (n+4) (gu n)) (hc:FO w 48 (n+4) (j4 n)) (ho:FO w 49 (n+4) (pD n)) (ht:FO w 50 (n+4) (pC n)) (ha:FO w 51 (n+4) (ej n)):FO w 51 (n+5) (ej (n+1)):=by
 refine aI O.ok O.hn _ ⟨"_law_asked",top 79,["kind","scope","fuel","seed"]⟩ (by rw[O.hd];rfl) (U1 n) { cs:=⟨⟨1,by lia,gr O⟩,⟨1,by lia,mi O⟩,⟨2,by lia,A0 O⟩,⟨n+4,Yr _,hs⟩,⟨n+4,Yr _,hc⟩,⟨n+4,Yr _,ho⟩,⟨n+4,Yr _,ht⟩,⟨n+4,Yr _,ha⟩,trivial⟩ } ML MM λds M Q _ h=>?_;obtain⟨κ,sc,f,p,rfl,hκ,rk,am,hp,h⟩:=h;have fin:∀(X:Mp) (q:Qn),Sx M p X->GQ f κ sc q->aZ Q (qD q) X:=λX q u g=>ao (h q X u g);cases κ with
 |num=>exact⟨rfl,_,rfl,av (aW (by decide) ⟨_,sc,f,p,rfl,hκ,by unfold Rk at rk ⊢;rw[UH]at rk <;> first |lia |(intro k;exact nofun),am,hp,λq X u g=>fin X q u g⟩)⟩
 |word=>exact⟨rfl,_,rfl,av (aW (by decide) ⟨_,sc,f,p,rfl,hκ,by unfold Rk at rk ⊢;rw[UH]at rk <;> first |lia |(intro k;exact nofun),am,hp,λq X u g=>fin X q u g⟩)⟩
 |row fs=>exact⟨rfl,_,rfl,av (aW (by decide) ⟨_,sc,f,p,rfl,hκ,by unfold Rk at rk ⊢;rw[UH]at rk <;> first |lia |(intro k;exact nofun),am,hp,λq X u g=>fin X q u g⟩)⟩
 |ai k=>
 have hk:=g7 hκ;have VD:kd (.ai k)=kd k+1:=by rw[kd]
 unfold Rk at rk;rw[UH]at rk;refine⟨rfl,_,rfl,av (aw (by decide) ?_)⟩;show lL (E.w (U1 (w:=w) n).wd nm.ah (.call 44 .nil)).1 [some (kD (.ai k)),some (a7 sc),some (.int f),some (.ref p),none,none,none,none,none,none,none] M _;refine AF (ms:=bu) (M:=M) (λk z=>⟨rfl,z⟩) (by decide) (by decide +kernel) λout pm=>.inl ?_;refine gm (λxs ys M'=>M'=M/\∃rest vs,xs=eU rest/\ys=vs.map qD/\(∀p∈rest,p∈bu)/\(∀v∈vs,Wy (.ai k) sc v)/\vs.length+rest.length<=5) ?_ ?_ _ _ _ ⟨rfl,out,[],rfl,rfl,λp hp=>pm.mem_iff.mp hp,λv hv=>(nomatch hv),by have:bu.length=5:=rfl;have:=pm.length_eq;simp;lia⟩
 ·rintro ys M' ⟨rfl,rest,vs,e1,rfl,_,hv,lv⟩;refine⟨trivial,YA (by rw[Ym];lia:_<=5) (by decide),.inl ?_⟩;have Uq:vs.length<=5:=by lia
  refine⟨.ai k,sc,_,rfl,hκ,am,λws hw lw=>⟨Yy (by simp;lia:_<=300) (by decide),.inl ⟨Yy (by simp;lia:_<=300) (by decide),.inl ?_⟩⟩⟩;have key:∀(d:List D) (ws:List Qn),d=ws.map qD->(∀q∈ws,Wy (.ai k) sc q)->ws.length<=300->B.w (U1 (w:=w) n).wd nm.ah Bt (bg Q) [some (kD (.ai k)),some (a7 sc),some (.int f),some (.ref p),none,none,some (.lst (vs.map qD)),some (.lst d),none,none,none] M':=?_
  ·refine key _ (ws++vs++vs) (by rw[YS,YS]) ?_ ?_
   ·intro q hq;rcases List.mem_append.mp hq with z |z
    ·rcases List.mem_append.mp z with z |z
     ·exact (hw q z).Xl
     ·exact hv q z
    ·exact hv q z
   ·simp;lia
  clear lw hw ws;rintro _ ws rfl hw lw;refine⟨p,12,rfl,hp,by decide,by decide,λway Y u2 _ _=>?_⟩;show B.w (U1 (w:=w) n).wd nm.ah uj (bg Q) [some (kD (.ai k)),some (a7 sc),some (.int f),some (.ref p),none,none,some (.lst (vs.map qD)),some (.lst (ws.map qD)),some (.int way),none,none] Y;refine eW λN to=>?_;have ii:B.w (U1 (w:=w) n).wd nm.ah (KY (jZ uj)) { bg Q with nx:=N } [some (kD (.ai k)),some (a7 sc),some (.int f),some (.ref p),none,none,some (.lst (vs.map qD)),some (.lst (ws.map qD)),some (.int way),none,none] Y:=by
   refine eW λN3 ug=>?_;have go:∀X,Sx M' p X->N3 [some (kD (.ai k)),some (a7 sc),some (.int f),some (.ref p),none,none,some (.lst (vs.map qD)),some (.lst (ws.map qD)),some (.int way),none,none] X:=by
    intro X uX;refine ug _ _ ⟨YE _,.inl (o7 (aR (λe=>⟨_,rfl,l2,fin _ (.none k) uX (Bq hκ)⟩) λe=>?_))⟩;have Be:0<ws.length:=by
     cases ws with
     |nil=>simp at e
     |cons _ _=>simp
    refine⟨p,_,rfl,uX.hs,by rw[Ym];lia,?_,λr X2 u3 r0 r1=>?_⟩
    ·rw[Ym];exact Int.lt_of_le_of_lt (by lia:_<=(300:Int)) (by decide)
    obtain⟨d,e3,e4⟩:=dA r0 r1;obtain⟨q,hq,rfl⟩:=List.mem_map.mp e4;have hq':=hw q hq;have nb:=dV (f:=f) hκ;exact⟨_,e3,fin _ q (uX.tr u3) ⟨hq'.ty,by have:=hq'.n;lia,by have:=hq'.d;lia⟩⟩
   refine⟨YE _,.inl (o7 (aR (λe=>⟨p,2,rfl,u2.hs,by decide,by decide,λr X3 u3 _ _=>a' (aR (λe2=>?_) λe2=>go _ (u2.tr u3))⟩) λe=>aw (by decide) (go Y u2)))⟩;exact⟨_,rfl,k,sc,0,p,rfl,hk,by unfold Rk;lia,am.dc (YE _),u3.hs,λq X4 u4 g=>⟨l2,fin _ (.one q) ((u2.tr u3).tr u4) (My hκ g)⟩⟩
  have MP:0<f->N [some (kD (.ai k)),some (a7 sc),some (.int f),some (.ref p),none,none,some (.lst (vs.map qD)),some (.lst (ws.map qD)),some (.int way),none,none] Y:=by
   intro fp;refine to _ _ ?_;obtain⟨b1,b2⟩:=Bk fp hκ;have iS:∀{κ'} {g:Int},κ'∈AK->g<=f-1->Rk n g κ' (UH κ'):=λ{κ' g} h1 h2=>by have:=eX h1;have:=@ud κ';unfold Rk;lia
   have b6:∀{κ' Bu q} {g:Int},κ'∈AK->g<=f-1->GQ g κ' Bu q->nq q<=zf (f-1).toNat/\dq q<=9 * (f-1).toNat+9:=λ{κ' Bu q g} h1 h2 h3=>by
    have:=dV (f:=g) h1;have:=pv (show g.toNat<=(f-1).toNat by lia);have:=h3.n;have:=h3.d
    lia
   have LI:=iR (f-1).toNat;refine a' (aR (λ_=>?w2) λ_=>a' (aR (λ_=>?w3) λ_=>a' (aR (λ_=>?w4) λ_=>a' (aR (λ_=>?Xm) λ_=>a' (aR (λ_=>?w7) λ_=>?_)))))
   case w2=>
    refine⟨.ai k,sc,f-1,p,rfl,hκ,iS hκ (Zh _),am.dc (by lia),u2.hs,λqa Xa ua ga=>⟨.ai k,sc,f-1,p,rfl,hκ,iS hκ (Zh _),am.dc (by lia),ua.hs,λqb Xb ub gb=>⟨l3,fin _ (.both qa qb) ((u2.tr ua).tr ub) ⟨.both (t8 (g7 hκ)) ga.ty gb.ty,?_,?_⟩⟩⟩⟩
    ·have:=b6 hκ (Zh _) ga;have:=b6 hκ (Zh _) gb;rw[nq,b1];lia
    ·have:=b6 hκ (Zh _) ga;have:=b6 hκ (Zh _) gb;rw[dq,b2];lia
   case w3=>
    refine⟨p,7,rfl,u2.hs,by decide,by decide,λr X3 u3 _ _=>⟨.ai k,sc,f-1,p,rfl,hκ,iS hκ (Zh _),am.dc (by lia),u3.hs,λqa Xa ua ga=>⟨l3,fin _ (.times (r-3) qa) ((u2.tr u3).tr ua) ⟨.times ga.ty,?_,?_⟩⟩⟩⟩
    ·have:=b6 hκ (Zh _) ga;rw[nq,b1];lia
    ·have:=b6 hκ (Zh _) ga;rw[dq,b2];lia
   case w4=>
    refine⟨sc,1,p,rfl,by decide,by decide,by lia,am.dc (YE _),u2.hs,λc Xc WG tc nc Ve=>⟨.ai k,sc,f-1,p,rfl,hκ,iS hκ (Zh _),am.dc (by lia),WG.hs,λqa Xa ua ga=>⟨l3,fin _ (.bh c qa) ((u2.tr WG).tr ua) ⟨.bh tc ga.ty,?_,?_⟩⟩⟩⟩
    ·have nc:nq c<=17:=nc;have:=b6 hκ (Zh _) ga;rw[nq,b1];lia
    ·have Ve:dq c<=8:=Ve;have:=b6 hκ (Zh _) ga;rw[dq,b2];lia
   case Xm=>
    refine⟨_,rfl,k,sc,f-1,p,rfl,hk,by unfold Rk;lia,am.dc (by lia),u2.hs,λqa Xa ua ga=>⟨l2,fin _ (.one qa) (u2.tr ua) ⟨.one ga.ty,?_,?_⟩⟩⟩
    ·have:=b6 hk (Zh _) ga;rw[nq,b1];lia
    ·have:=b6 hk (Zh _) ga;rw[dq,b2];lia
   case w7=>
    exact⟨.ai k,sc,f,p,rfl,hκ,fp,by lia,am,u2.hs,λqa Xa ua ga=>fin _ qa (u2.tr ua) ga⟩
   show B.w (U1 (w:=w) n).wd nm.ah Br (bg Q) [some (kD (.ai k)),some (a7 sc),some (.int f),some (.ref p),none,none,some (.lst (vs.map qD)),some (.lst (ws.map qD)),some (.int way),none,none] Y;refine eW λN8 MQ=>?_;have go:∀X,Sx M' p X->N8 [some (kD (.ai k)),some (a7 sc),some (.int f),some (.ref p),none,none,some (.lst (vs.map qD)),some (.lst (ws.map qD)),some (.int way),none,none] X:=by
    intro X uX;refine MQ _ _ ?_;refine⟨l3,.inl ⟨p,3,rfl,uX.hs,by decide,by decide,λr Z uZ r0 r1=>?_⟩⟩;obtain⟨d,e3,e4⟩:=dA (xs:=[.str "t",.str "s",.str "z"]) r0 r1;obtain⟨x,rfl,hx⟩:∃x:Str,d=.str x/\x≠"w":=by
     simp only[YZ,YJ,or_false]at e4;rcases e4 with z |z |z
     ·exact⟨_,z,by decide +kernel⟩
     ·exact⟨_,z,by decide +kernel⟩
     ·exact⟨_,z,by decide +kernel⟩
    refine⟨_,e3,?_⟩;have Bv:=uX.tr uZ;have ext:∀{κ':Kd},κ'∈AK->dU ((x,κ')::sc) (f-1).toNat:=λ{κ'} h4=>by
     refine⟨λq hq=>?_,?_,λq hq=>?_⟩
     ·rcases List.mem_cons.mp hq with rfl |hq
      ·exact h4
      ·exact am.UN q hq
     ·have:=am.len;rw[Yv];lia
     ·rcases List.mem_cons.mp hq with rfl |hq
      ·exact hx
      ·exact am.nw q hq
    have sl:([D.tup [.str x,kD .num]].length+(eU sc).length)<=sizeLine:=Yy (by have:=am.len;unfold eU;simp;lia:_<=300) (by decide)
    refine a' (aR (λ_=>?_) λ_=>?_)
    ·refine⟨l1,l1,l2,l2,.inl ⟨p,2,rfl,uZ.hs,by decide,by decide,λr X3 u3 r0 r1=>?_⟩⟩;obtain⟨d,e5,e6⟩:=dA (xs:=[kD .num,kD (.ai .num)]) r0 r1;obtain⟨κ',rfl,hκ'⟩:∃ κ',d=kD κ'/\κ'∈AK:=by
      simp only[YZ,YJ,or_false]at e6;rcases e6 with z |z
      ·exact⟨_,z,by decide +kernel⟩
      ·exact⟨_,z,by decide +kernel⟩
     refine⟨_,e5,?_⟩;refine⟨κ',sc,f-2,p,rfl,hκ',iS hκ' (by lia),am.dc (by lia),u3.hs,λqa Xa ua ga=>⟨l2,l1,.inl ⟨sl,.inl ⟨.ai k,(x,κ')::sc,f-1,p,rfl,hκ,iS hκ (Zh _),ext hκ',ua.hs,λqb Xb ub gb=>⟨l4,fin _ (.let x qa qb) (((Bv.tr u3).tr ua).tr ub) ⟨.let (Yy (eX hκ') (by decide)) ga.ty gb.ty,?_,?_⟩⟩⟩⟩⟩⟩
     ·have:=b6 hκ' (by lia) ga;have:=b6 hκ (Zh _) gb;rw[nq,b1];lia
     ·have:=b6 hκ' (by lia) ga;have:=b6 hκ (Zh _) gb;rw[dq,b2];lia
    ·refine⟨sc,f-1,p,rfl,by lia,am.dc (by lia),uZ.hs,λqa κ' Xa ua hκ' ty Ur Us=>⟨rfl,_,rfl,l2,l1,.inl ⟨sl,.inl ⟨.ai k,(x,κ')::sc,f-1,p,rfl,hκ,iS hκ (Zh _),ext (g7 hκ'),ua.hs,λqb Xb ub gb=>⟨l4,fin _ (.for x qa qb) ((Bv.tr ua).tr ub) ⟨.for ⟨Yy (eX (g7 hκ')) (by decide),t8 (g7 hκ')⟩ ty gb.ty,?_,?_⟩⟩⟩⟩⟩⟩
     ·have:=b6 hκ (Zh _) gb;rw[nq,b1];lia
     ·have:=b6 hκ (Zh _) gb;rw[dq,b2];lia
   refine a' (aR (λ_=>⟨p,2,rfl,u2.hs,by decide,by decide,λr X3 u3 _ _=>a' (aR (λ_=>⟨_,rfl,l2,fin _ (.none k) (u2.tr u3) (Bq hκ)⟩) λ_=>go _ (u2.tr u3))⟩) λ_=>aw (by decide) (go Y u2))
  exact aR (λe1=>aW rfl ii) λe1=>aR (λe2=>ii) λe2=>MP (by have:=of_decide_eq_false (Bool.eq_false_iff.mpr e1);lia)
 ·rintro y xs ys M' ⟨rfl,rest,vs,e1,rfl,hr,hv,lv⟩;cases rest with
  |nil=>cases e1
  |cons g rest=>
   obtain⟨gf,gk⟩:=g;cases e1;have hg:=hr _ Ys;have c9:∀p∈rest,p∈bu:=λp hp=>hr p (Yt _ hp);rw[Yv]at lv;have Bp:kd (.ai gk)<=50:=(by decide +kernel:∀p∈bu,kd (.ai p.2)<=50) _ hg;refine⟨trivial,YA (by rw[Ym];lia:_<=5) (by decide),λN hN=>⟨rfl,l2,jY (a:=.ai gk) (b:=.ai k) Bp (aR (λe=>⟨l2,?_⟩) λe=>hN _ _ ⟨rfl,rest,vs,rfl,rfl,c9,hv,by lia⟩)⟩⟩;have e:Kd.ai gk=.ai k:=of_decide_eq_true e;cases e;have:=hN (vs.map qD++[qD (.tab gf)]) _ ⟨rfl,rest,vs++[.tab gf],rfl,by rw[YS];rfl,c9,λv im=>?_,by simp;lia⟩
   ·exact this
   ·rcases List.mem_append.mp im with z |z
    ·exact hv v z
    ·rw[List.mem_singleton.mp z];exact⟨.tab (tW (by decide +kernel) hg),by rw[nq];lia,by rw[dq];lia⟩
structure MR (w:Wo) (n:Nat):Prop where
 s:FO w 47 (n+4) (gu n)
 c:FO w 48 (n+4) (j4 n)
 o:FO w 49 (n+4) (pD n)
 t:FO w 50 (n+4) (pC n)
 a:FO w 51 (n+4) (ej n)
theorem pE (O:Lw w):∀n,MR w n
 | 0=>by
  have no:∀i d sp,ei[i]?=some d->(∀ds M Q E,¬sp ds M Q E)->FO w i 4 sp:=λi d sp h g=>FO.imp (tu O.ok (by rw[O.hd];exact h) (cs:=[]) trivial) λds M Q E z=>(g ds M Q E z).elim;refine⟨no _ _ _ rfl ?_,no _ _ _ rfl ?_,no _ _ _ rfl ?_,no _ _ _ rfl ?_,no _ _ _ rfl ?_⟩
  ·rintro ds M Q E ⟨κ,sc,f,p,_,_,rk,_⟩;unfold Rk at rk;lia
  ·rintro ds M Q E ⟨sc,f,p,_,_,_,rk,_⟩;lia
  ·rintro ds M Q E ⟨sc,f,p,_,rk,_⟩;lia
  ·rintro ds M Q E ⟨κ,sc,f,p,_,_,_,rk,_⟩;lia
  ·rintro ds M Q E ⟨κ,sc,f,p,_,hκ,rk,_⟩;have:=(pq hκ).2.2.2.2;unfold Rk at rk;lia
 |n+1=>let g:=pE O n;⟨LU O g.s g.a,L6 O g.s g.c,Mo O g.a,Md O g.a,MN O g.s g.c g.o g.t g.a⟩
variable {w:Wo}
noncomputable def us:Qn->List Qn
 |.row fs=>fs.map (·.2)
 |.at _ q=>[q]
 |.add a b=>[a,b] |.mul a b=>[a,b]
 |.one q=>[q]
 |.both a b=>[a,b]
 |.times _ q=>[q]
 |.for _ a b=>[a,b] |.bh a b=>[a,b] |.let _ a b=>[a,b]
 |.same a b=>[a,b] |.under a b=>[a,b] |.and a b=>[a,b] |.or a b=>[a,b]
 |.not q=>[q]
 |_=>[]
theorem Bw (O:Lw w) {s:Str}{b:Bool}{M:Mp}{k:Bool->Prop} (hb:dO (.str s) (pg.map D.str)=b) (h:k b):fi (.str s) (w.gv.getD 0 .aj) M k:=by
 rw[O.g0];refine⟨⟨rfl,by decide +kernel,by decide +kernel,?_⟩⟩;rw[hb];exact h
noncomputable def MS:B:=(.cons (.cond (.cmp .Eq (.ix (.v 0) (.c (.int 0))) (.c (.str "row"))) (.cons (.ret (.bi .tuple (.cons (.lc 2 [] (.many [0,1]) (.seq (.ix (.v 0) (.c (.int 1)))) .aq (.v 1)) .nil))) .nil) .nil) (.cons (.ret (.ite (.cmp .In (.ix (.v 0) (.c (.int 0))) (.g 0)) (.sl (.v 0) (.c (.int 2)) .aq) (.sl (.v 0) (.c (.int 1)) .aq))) .nil))
theorem MT:ay ["question"] ["question"] (af (top 9)):=⟨rfl,rfl,rfl,by decide +kernel,rfl,by decide +kernel,by decide +kernel⟩
theorem MU:aC nm 40 ["question"] (af (top 9)) (ar (top 9))=MS:=by kernel_rfl
def j6:Sp:=λds M Q _=>∃q,ds=[qD q]/\(us q).length<100/\Q (.tup ((us q).map qD)) M
theorem mj:∀fs:List (Str×Qn),bE fs=fs.map λp=>.tup [.str p.1,qD p.2]
 |[]=>by rw[bE];rfl
 |(f,q)::r=>by rw[bE,mj r];rfl
theorem ml:∀fs:List (Str×Kd),bI fs=fs.map λp=>.tup [.str p.1,kD p.2]
 |[]=>by rw[bI];rfl
 |(f,q)::r=>by rw[bI,ml r];rfl
theorem mm (O:Lw w):FO w 0 1 j6:=by
 refine aI O.ok O.hn _ ⟨"under",top 9,["question"]⟩ (by rw[O.hd];rfl) {} { cs:=trivial } MT MU λds M Q _ h=>?_;obtain⟨q,rfl,hl,h⟩:=h;cases q with
 |row fs=>
  refine⟨rfl,_,rfl,av (aW (by decide) ⟨_,rfl,?_⟩)⟩;show cS (λ_=>True) (.many [0,1]) gO _ _ _ (bE fs) [] M;rw[mj];have hl:fs.length<100:=by simpa [us] using hl
  refine iN (λp:Str×Qn=>.tup [.str p.1,qD p.2]) (λp=>qD p.2) fs ?_ (Y7 hl (by decide)) (λp _ N hN=>?_) ?_
  ·exact trivial
  ·exact⟨rfl,hN⟩
  ·refine .inl (ao ?_);rw[us,Zq]at h;exact h
 |_=>
  refine⟨rfl,_,rfl,av (aw (by decide) ⟨_,rfl,?_⟩)⟩;dsimp only[E.w,jt]
  first
  |exact Bw O (b:=true) (by decide +kernel) (aW rfl (ao h))
  |exact Bw O (b:=false) (by decide +kernel) (aw (by decide) (ao h))
noncomputable def MV:B:=(.cons (.ex (.mt .append (.fld (.v 0) "waiting") (.cons (.tup (.cons (.v 1) (.cons (.v 2) (.cons (.v 3) .nil)))) .nil))) .nil)
theorem MW:ay ["self","step","question","around"] ["self","step","question","around"] (af (bj (top 14) 1)):=⟨rfl,rfl,rfl,by decide +kernel,rfl,by decide +kernel,by decide +kernel⟩
theorem MX:aC nm 40 ["self","step","question","around"] (af (bj (top 14) 1)) (ar (bj (top 14) 1))=MV:=by kernel_rfl
noncomputable def MY:B:=(.cons (.ex (.mt .append (.fld (.v 0) "found") (.cons (.v 1) .nil))) .nil)
theorem MZ:ay ["self","result"] ["self","result"] (af (bj (top 14) 2)):=⟨rfl,rfl,rfl,by decide +kernel,rfl,by decide +kernel,by decide +kernel⟩
theorem M4:aC nm 40 ["self","result"] (af (bj (top 14) 2)) (ar (bj (top 14) 2))=MY:=by kernel_rfl
noncomputable def M5:B:=(.cons (.set (.one 2) (.lc 1 [0] (.one 0) (.oB (.v 1)) .aq (.mt .pop (.fld (.v 1) "found") .nil))) (.cons (.ret (.rev (.v 2))) .nil))
theorem M6:ay ["self","many","taken"] ["self","many"] (af (bj (top 14) 3)):=⟨rfl,rfl,rfl,by decide +kernel,rfl,by decide +kernel,by decide +kernel⟩
theorem M7:aC nm 40 ["self","many","taken"] (af (bj (top 14) 3)) (ar (bj (top 14) 3))=M5:=by kernel_rfl
noncomputable def M8:B:=(.cons (.oF (.v 0) "waiting" (.lst .nil)) (.cons (.oF (.v 0) "found" (.lst .nil)) .nil))
theorem M9:ay ["self"] ["self"] (af (bj (top 14) 0)):=⟨rfl,rfl,rfl,by decide +kernel,rfl,by decide +kernel,by decide +kernel⟩
theorem Na:aC nm 40 ["self"] (af (bj (top 14) 0)) (ar (bj (top 14) 0))=M8:=by kernel_rfl
def fA (w:Wo):Sp:=λds M Q _=>∃x a b dx s q r xs,ds=[.ref x,s,q,r]/\M x=some (.ins (w.ca 0) dx [("waiting",.ref a),("found",.ref b)])/\M a=some (.lst xs)/\xs.length<sizeLine/\Q .aj (up M a (.lst (xs++[.tup [s,q,r]])))
theorem iT (O:Lw w):c7 w 1 1 (fA w):=by
 refine iL O.ok O.hn _ ⟨"later",(bj (top 14) 1),["self","step","question","around"]⟩ (by rw[O.hms];rfl) {} { cs:=trivial } MW MX λds M Q _ h=>?_;obtain⟨x,a,b,dx,s,q,r,xs,rfl,hx,ha,hl,h⟩:=h;exact⟨rfl,_,_,_,hx,_,O.fw,rfl,.inl ⟨rfl,_,ha⟩,l3,_,ha,hl,ao h⟩
def ek (w:Wo):Sp:=λds M Q _=>∃x a b dx d xs,ds=[.ref x,d]/\M x=some (.ins (w.ca 0) dx [("waiting",.ref a),("found",.ref b)])/\M b=some (.lst xs)/\xs.length<sizeLine/\Q .aj (up M b (.lst (xs++[d])))
theorem iU (O:Lw w):c7 w 2 1 (ek w):=by
 refine iL O.ok O.hn _ ⟨"tell",(bj (top 14) 2),["self","result"]⟩ (by rw[O.hms];rfl) {} { cs:=trivial } MZ M4 λds M Q _ h=>?_;obtain⟨x,a,b,dx,d,xs,rfl,hx,hb,hl,h⟩:=h;exact⟨rfl,_,_,_,hx,_,O.UK,rfl,.inl ⟨rfl,_,hb⟩,_,hb,hl,ao h⟩
def iV (w:Wo):Sp:=λds M Q _=>∃x a b dx n fs ks,ds=[.ref x,.int n]/\M x=some (.ins (w.ca 0) dx [("waiting",.ref a),("found",.ref b)])/\M b=some (.lst (fs++ks))/\(ks.length:Int)=n/\n<1000/\Q (.lst ks) (up M b (.lst fs))
theorem j7 (O:Lw w):c7 w 3 1 (iV w):=by
 refine iL O.ok O.hn _ ⟨"take",(bj (top 14) 3),["self","many"]⟩ (by rw[O.hms];rfl) {} { cs:=trivial } M6 M7 λds M Q _ h=>?_;obtain⟨x,a,b,dx,n,fs,ks,rfl,hx,hb,hn,hl,h⟩:=h;have Nb:x≠b:=by rintro rfl;rw[hx]at hb;cases hb
 refine⟨rfl,Int.le_trans (by decide) (by lia:0<=n),Int.lt_trans hl (by decide),?_⟩;refine gm (λxs ys M'=>xs.length<=ks.length/\M'=up M b (.lst (fs++ks.take xs.length))/\ys=(ks.drop xs.length).reverse) ?_ ?_ _ _ _ ⟨?_,?_,?_⟩
 ·rintro ys M' ⟨_,rfl,rfl⟩;refine⟨trivial,YA (by simp;lia:_<=1000) (by decide),.inl (.inl ?_)⟩;have e1:ks.drop ([]:List D).length=ks:=rfl;rw[e1,List.reverse_reverse];have e2:fs++ks.take ([]:List D).length=fs:=by simp
  rw[e2];exact ao h
 ·rintro d xs ys M' ⟨h1,rfl,rfl⟩;rw[Yv]at h1 ⊢;refine⟨trivial,YA (by simp;lia:_<=1000) (by decide),λN hN=>?_⟩;have bd:xs.length<ks.length:=by lia
  refine⟨_,dx,[("waiting",.ref a),("found",.ref b)],by rw[ax Nb];exact hx,.ref b,O.UK,rfl,.inl ⟨rfl,_,au⟩,_,au,ks[xs.length],?_,?_⟩
  ·have:(fs++ks.take (xs.length+1)).length-1=fs.length+xs.length:=(by simp;lia);rw[this,Y1 (by lia),Nat.add_sub_cancel_left,List.getElem?_take,if_pos (by lia),Yo bd]
  ·have e1:(fs++ks.take (xs.length+1)).dropLast=fs++ks.take xs.length:=by
    rw[List.take_succ,Yo bd,Option.toList_some,<- YT,List.dropLast_concat]
   rw[e1,_root_.N.cF];refine hN _ _ ⟨by lia,rfl,?_⟩;rw[List.drop_eq_getElem_cons bd,Zz]
 ·unfold fe;simp;lia
 ·have:(fe 0 n.toNat).length=ks.length:=by unfold fe;simp;lia
  rw[this,List.take_length,A3 hb]
 ·have:(fe 0 n.toNat).length=ks.length:=by unfold fe;simp;lia
  rw[this,List.drop_length];rfl
def pF (w:Wo):Sp:=λds M Q _=>∃x dx,ds=[.ref x]/\M x=some (.ins (w.ca 0) dx [])/\∀a b,M a=none->M b=none->a≠b->Q .aj (Wm (up M x (.ins (w.ca 0) dx [("waiting",.ref a),("found",.ref b)])) a b [] [])
theorem uk (O:Lw w):c7 w 0 1 (pF w):=by
 refine iL O.ok O.hn _ ⟨"__init__",(bj (top 14) 0),["self"]⟩ (by rw[O.hms];rfl) {} { cs:=trivial } M9 Na λds M Q _ h=>?_;obtain⟨x,dx,rfl,hx,h⟩:=h;refine⟨rfl,YE _,.inr λa ha=>?_⟩;have na:x≠a:=di hx ha;refine⟨_,dx,[],by rw[ax na];exact hx,O.fw,by decide,YE _,.inr λb hb=>?_⟩;have nb:x≠b:=by rintro rfl;rw[au]at hb;cases hb
 rw[ax (Zl nb)]at hb;have ab:a≠b:=by rintro rfl;rw[au]at hb;cases hb
 rw[ax (Zl ab)]at hb;refine⟨_,dx,[("waiting",.ref a)],by rw[ax nb];exact au,O.UK,(show 1<1000 by decide),ao ?_⟩;have e:=h a b ha hb ab;have z:Wm (up M x (.ins (w.ca 0) dx [("waiting",.ref a),("found",.ref b)])) a b [] []=up (up (up (up M a (.lst [])) x (.ins (w.ca 0) dx [("waiting",.ref a)])) b (.lst [])) x (.ins (w.ca 0) dx [("waiting",.ref a),("found",.ref b)]):=by
  unfold Wm;rw[mh (p:=b) (r:=x) (Zl nb),_root_.N.cF,mh (p:=a) (r:=x) (Zl na)]
 rw[z]at e;exact e
variable {w:Wo}
def de (f:Qn->List D->D->Prop):Sp:=λds M Q _=>∃q ks d,ds=[qD q,.lst ks]/\f q ks d/\Q d M
noncomputable def Nc:B:=(.cons (.ret (.tup (.cons (.c (.str "bag")) (.cons (.ix (.v 0) (.c (.int 1))) .nil)))) .nil)
theorem Nd:ay ["question","below"] ["question","below"] (af (top 37)):=⟨rfl,rfl,rfl,by decide +kernel,rfl,by decide +kernel,by decide +kernel⟩
theorem Nf:aC nm 40 ["question","below"] (af (top 37)) (ar (top 37))=Nc:=by kernel_rfl
noncomputable def Ng:B:=(.cons (.ret (.tup (.cons (.ix (.v 0) (.c (.int 0))) .nil))) .nil)
theorem Nh:ay ["question","below"] ["question","below"] (af (top 33)):=⟨rfl,rfl,rfl,by decide +kernel,rfl,by decide +kernel,by decide +kernel⟩
theorem Ni:aC nm 40 ["question","below"] (af (top 33)) (ar (top 33))=Ng:=by kernel_rfl
noncomputable def Nj:B:=(.cons (.ret (.tup (.cons (.c (.str "bag")) (.cons (.ix (.v 1) (.c (.int 0))) .nil)))) .nil)
theorem Nk:ay ["question","below"] ["question","below"] (af (top 38)):=⟨rfl,rfl,rfl,by decide +kernel,rfl,by decide +kernel,by decide +kernel⟩
theorem Nn:aC nm 40 ["question","below"] (af (top 38)) (ar (top 38))=Nj:=by kernel_rfl
noncomputable def Np:B:=(.cons (.ret (.g 3)) .nil)
theorem Nq:ay ["question","below"] ["question","below"] (af (top 43)):=⟨rfl,rfl,rfl,by decide +kernel,rfl,by decide +kernel,by decide +kernel⟩
theorem Nu:aC nm 40 ["question","below"] (af (top 43)) (ar (top 43))=Np:=by kernel_rfl
theorem Nw (O:Lw w):FO w 20 1 (de λq _ d=>∃k,q=.none k/\d=kD (.ai k)):=by
 refine aI O.ok O.hn _ ⟨"none_kind",top 37,["question","below"]⟩ (by rw[O.hd];rfl) {} { cs:=trivial } Nd Nf λds M Q _ h=>?_;obtain⟨q,ks,d,rfl,⟨k,rfl,rfl⟩,h⟩:=h;exact⟨rfl,_,rfl,l2,ao h⟩
theorem Nx (O:Lw w):FO w 16 1 (de λq _ d=>(∃i,q=.num i)/\d=kD .num\/(∃s,q=.word s)/\d=kD .word):=by
 refine aI O.ok O.hn _ ⟨"plain_kind",top 33,["question","below"]⟩ (by rw[O.hd];rfl) {} { cs:=trivial } Nh Ni λds M Q _ h=>?_;obtain⟨q,ks,d,rfl,⟨⟨i,rfl⟩,rfl⟩ |⟨⟨i,rfl⟩,rfl⟩,h⟩:=h
 ·exact⟨rfl,_,rfl,l1,ao h⟩
 ·exact⟨rfl,_,rfl,l1,ao h⟩
theorem Ny (O:Lw w):FO w 21 1 (de λ_ ks d=>∃k,ks=[kD k]/\d=kD (.ai k)):=by
 refine aI O.ok O.hn _ ⟨"one_kind",top 38,["question","below"]⟩ (by rw[O.hd];rfl) {} { cs:=trivial } Nk Nn λds M Q _ h=>?_;obtain⟨q,ks,d,rfl,⟨k,rfl,rfl⟩,h⟩:=h;exact⟨rfl,_,rfl,l2,ao h⟩
theorem Nz (O:Lw w):FO w 26 1 (de λ_ _ d=>d=.tup [.str "truth"]):=by
 refine aI O.ok O.hn _ ⟨"truth_kind",top 43,["question","below"]⟩ (by rw[O.hd];rfl) {} { cs:=trivial } Nq Nu λds M Q _ h=>?_;obtain⟨q,ks,d,rfl,rfl,h⟩:=h;refine⟨rfl,ao ?_⟩;show Q (w.gv.getD 3 .aj) M;rw[O.g3];exact h
noncomputable def NA:B:=(.cons (.ret (.ite (.cmp .Eq (.ix (.ix (.v 1) (.neg (.c (.int 1)))) (.c (.int 0))) (.c (.str "bag"))) (.ix (.v 1) (.neg (.c (.int 1)))) (.c .aj))) .nil)
theorem NB:ay ["question","below"] ["question","below"] (af (top 40)):=⟨rfl,rfl,rfl,by decide +kernel,rfl,by decide +kernel,by decide +kernel⟩
theorem NC:aC nm 40 ["question","below"] (af (top 40)) (ar (top 40))=NA:=by kernel_rfl
noncomputable def ND:B:=(.cons (.ret (.ite (.cmp .Eq (.v 1) (.lst (.cons (.g 1) (.cons (.g 1) .nil)))) (.g 1) (.c .aj))) .nil)
theorem NF:ay ["question","below"] ["question","below"] (af (top 36)):=⟨rfl,rfl,rfl,by decide +kernel,rfl,by decide +kernel,by decide +kernel⟩
theorem NG:aC nm 40 ["question","below"] (af (top 36)) (ar (top 36))=ND:=by kernel_rfl
noncomputable def NI:B:=(.cons (.ret (.ite (.cmp .Eq (.v 1) (.lst (.cons (.g 1) (.cons (.g 1) .nil)))) (.g 3) (.c .aj))) .nil)
theorem NJ:ay ["question","below"] ["question","below"] (af (top 42)):=⟨rfl,rfl,rfl,by decide +kernel,rfl,by decide +kernel,by decide +kernel⟩
theorem NK:aC nm 40 ["question","below"] (af (top 42)) (ar (top 42))=NI:=by kernel_rfl
noncomputable def NL:B:=(.cons (.ret (.ite (.cmp .In (.v 1) (.tup (.cons (.lst (.cons (.g 1) (.cons (.g 1) .nil))) (.cons (.lst (.cons (.g 2) (.cons (.g 2) .nil))) .nil)))) (.g 3) (.c .aj))) .nil)
theorem NM:ay ["question","below"] ["question","below"] (af (top 41)):=⟨rfl,rfl,rfl,by decide +kernel,rfl,by decide +kernel,by decide +kernel⟩
theorem NN:aC nm 40 ["question","below"] (af (top 41)) (ar (top 41))=NL:=by kernel_rfl
noncomputable def NO:B:=.cons (.ret (.v 3)) .nil
noncomputable def NP:B:=.cons (.put (.v 3) (.v 1) (.v 2)) NO
noncomputable def NR:B:=.cons (.set (.one 3) (.bi .dict (.cons (.v 0) .nil))) NP
theorem NS:ay ["names","name","meaning","more"] ["names","name","meaning"] (af (top 18)):=⟨rfl,rfl,rfl,by decide +kernel,rfl,by decide +kernel,by decide +kernel⟩
theorem NT:aC nm 40 ["names","name","meaning","more"] (af (top 18)) (ar (top 18))=NR:=by kernel_rfl
noncomputable def NU:B:=(.cons (.ret (.lc 2 [] (.many [0,1]) (.seq (.ix (.v 0) (.c (.int 1)))) .aq (.v 0))) .nil)
theorem NV:ay ["row"] ["row"] (af (top 20)):=⟨rfl,rfl,rfl,by decide +kernel,rfl,by decide +kernel,by decide +kernel⟩
theorem NW:aC nm 40 ["row"] (af (top 20)) (ar (top 20))=NU:=by kernel_rfl
noncomputable def NX:B:=(.cons (.ret (.tup (.cons (.c (.str "row")) (.cons (.bi .tuple (.cons (.lc 2 [] (.many [0,1]) (.zip (.ix (.v 0) (.c (.int 1))) (.v 1)) .aq (.tup (.cons (.ix (.v 0) (.c (.int 0))) (.cons (.v 1) .nil)))) .nil)) .nil)))) .nil)
theorem NY:ay ["question","below"] ["question","below"] (af (top 34)):=⟨rfl,rfl,rfl,by decide +kernel,rfl,by decide +kernel,by decide +kernel⟩
theorem NZ:aC nm 40 ["question","below"] (af (top 34)) (ar (top 34))=NX:=by kernel_rfl
noncomputable def N0:B:=(.cons (.cond (.cmp .NotEq (.ix (.ix (.v 1) (.c (.int 0))) (.c (.int 0))) (.c (.str "row"))) (.cons (.ret (.c .aj)) .nil) .nil) (.cons (.ret (.mt .get (.bi .dict (.cons (.ix (.ix (.v 1) (.c (.int 0))) (.c (.int 1))) .nil)) (.cons (.ix (.v 0) (.c (.int 1))) .nil))) .nil))
theorem N1:ay ["question","below"] ["question","below"] (af (top 35)):=⟨rfl,rfl,rfl,by decide +kernel,rfl,by decide +kernel,by decide +kernel⟩
theorem N7:aC nm 40 ["question","below"] (af (top 35)) (ar (top 35))=N0:=by kernel_rfl
theorem Bx (O:Lw w):FO w 23 1 (de λ_ ks d=>∃pre k,ks=pre++[kD (.ai k)]/\d=kD (.ai k)):=by
 refine aI O.ok O.hn _ ⟨"last_bag_kind",top 40,["question","below"]⟩ (by rw[O.hd];rfl) {} { cs:=trivial } NB NC λds M Q _ h=>?_;obtain⟨q,ks,d,rfl,⟨pre,k,rfl,rfl⟩,h⟩:=h;exact⟨rfl,_,AL,_,rfl,av (aW (by decide) ⟨_,AL,ao h⟩)⟩
theorem By {n:Bool}{a b:Kd}{M:Mp}{k:Bool->Prop} (ha:kd a<=50) (hb:kd b<=50) (q:k true):eG n (.lst [kD a,kD b]) (.lst [kD a,kD b]) M k:=by
 have h1:=jX a;have h2:=jX b;have ok:aD (.lst [kD a,kD b])=true:=by rw[aD,aM,aM,aM,gn,gn];rfl
 refine .mk (.inl ⟨ok,ok,?_⟩) ?_
 ·show bc (.lst [kD a,kD b])<=100;rw[bc,a4,a4,a4];lia
 ·show k (aA (.lst [kD a,kD b]) (.lst [kD a,kD b]));rw[fU _ ok];exact q
theorem N9 (O:Lw w):FO w 19 1 (de λ_ ks d=>ks=[kD .num,kD .num]/\d=kD .num):=by
 refine aI O.ok O.hn _ ⟨"number_kind",top 36,["question","below"]⟩ (by rw[O.hd];rfl) {} { cs:=trivial } NF NG λds M Q _ h=>?_;obtain⟨q,ks,d,rfl,⟨rfl,rfl⟩,h⟩:=h;refine⟨rfl,l2,.inl ?_⟩;show eG false (.lst [kD .num,kD .num]) (.lst [w.gv.getD 1 .aj,w.gv.getD 1 .aj]) M _;rw[O.g1];refine By (by decide) (by decide) (aW rfl (ao ?_));show Q (w.gv.getD 1 .aj) M;rw[O.g1];exact h
theorem Oa (O:Lw w):FO w 25 1 (de λ_ ks d=>ks=[kD .num,kD .num]/\d=.tup [.str "truth"]):=by
 refine aI O.ok O.hn _ ⟨"under_kind",top 42,["question","below"]⟩ (by rw[O.hd];rfl) {} { cs:=trivial } NJ NK λds M Q _ h=>?_;obtain⟨q,ks,d,rfl,⟨rfl,rfl⟩,h⟩:=h;refine⟨rfl,l2,.inl ?_⟩;show eG false (.lst [kD .num,kD .num]) (.lst [w.gv.getD 1 .aj,w.gv.getD 1 .aj]) M _;rw[O.g1];refine By (by decide) (by decide) (aW rfl (ao ?_));show Q (w.gv.getD 3 .aj) M;rw[O.g3];exact h
theorem Ob (O:Lw w):FO w 24 1 (de λ_ ks d=>(ks=[kD .num,kD .num]\/ks=[kD .word,kD .word])/\d=.tup [.str "truth"]):=by
 refine aI O.ok O.hn _ ⟨"same_kind",top 41,["question","below"]⟩ (by rw[O.hd];rfl) {} { cs:=trivial } NM NN λds M Q _ h=>?_;obtain⟨q,ks,d,rfl,⟨hk,rfl⟩,h⟩:=h;have key:fi (.lst ks) (.tup [.lst [kD .num,kD .num],.lst [kD .word,kD .word]]) M λb=>if b=true then aZ Q (w.gv.getD 3 .aj) M else aZ Q .aj M:=by
  refine⟨⟨?_,by decide +kernel,by decide +kernel,?_⟩⟩
  ·rcases hk with rfl |rfl <;> decide +kernel
  ·have e:dO (.lst ks) [.lst [kD .num,kD .num],.lst [kD .word,kD .word]]=true:=(by rcases hk with rfl |rfl <;> decide +kernel);rw[e];refine aW rfl (ao ?_);rw[O.g3];exact h
 refine⟨rfl,l2,.inl ⟨l2,.inl ⟨l2,?_⟩⟩⟩;show fi (.lst ks) (.tup [.lst [w.gv.getD 1 .aj,w.gv.getD 1 .aj],.lst [w.gv.getD 2 .aj,w.gv.getD 2 .aj]]) M _;rw[O.g1,O.g2];exact key
def Bz:Sp:=λds M Q _=>∃kvs x d,ds=[dD kvs,.str x,d]/\kvs.length<1000/\Q (dD (a9 kvs (.inr x) d)) M
theorem Oc (O:Lw w):FO w 7 1 Bz:=by
 refine aI O.ok O.hn _ ⟨"bound",top 18,["names","name","meaning"]⟩ (by rw[O.hd];rfl) {} { cs:=trivial } NS NT λds M Q _ h=>?_;obtain⟨kvs,x,d,rfl,hl,h⟩:=h;refine⟨rfl,.inl (.inr λp hp=>.inr ⟨_,au,?_,?_⟩)⟩
 ·rw[gZ];exact Y7 hl (by decide)
 ·rw[N.cF,gZ];exact tL hp h
def BA:Sp:=λds M Q _=>∃fs,ds=[kD (.row fs)]/\fs.length<1000/\Q (.lst (fs.map λp=>.str p.1)) M
theorem Od (O:Lw w):FO w 8 1 BA:=by
 refine aI O.ok O.hn _ ⟨"fields_of",top 20,["row"]⟩ (by rw[O.hd];rfl) {} { cs:=trivial } NV NW λds M Q _ h=>?_;obtain⟨fs,rfl,hl,h⟩:=h;refine⟨rfl,_,rfl,?_⟩;show cS (λ_=>True) (.many [0,1]) gO _ _ _ (bI fs) [] M;rw[ml];refine iN (λp:Str×Kd=>.tup [.str p.1,kD p.2]) (λp=>.str p.1) fs ?_ (Y7 hl (by decide)) (λp _ N hN=>?_) ?_
 ·exact trivial
 ·exact⟨rfl,hN⟩
 ·exact .inl (ao h)
theorem pG {α β:Type} (f:α->D) (g:β->D):∀(as:List α) (bs:List β),List.zipWith (λx y=>D.tup [x,y]) (as.map f) (bs.map g)=(as.zip bs).map λp=>.tup [f p.1,g p.2]
 |[],_=>by simp
 |_::_,[]=>by simp
 |a::as,b::bs=>by rw[Yu,Yu,List.zipWith_cons_cons,pG f g as bs,Zo,Yu]
theorem Oe (fs:List (Str×Qn)):∀ κs:List Kd,(fs.zip κs).map (λp=>(p.1.1,p.2))=(fs.map (·.1)).zip κs:=fun κs=>by
 rw[List.zip_map_left];rfl
theorem Of (O:Lw w):FO w 17 1 (de λq ks d=>∃fs κs,q=.row fs/\ks=κs.map kD/\κs.length=fs.length/\fs.length<100/\d=kD (.row ((fs.map (·.1)).zip κs))):=by
 refine aI O.ok O.hn _ ⟨"row_kind",top 34,["question","below"]⟩ (by rw[O.hd];rfl) {} { cs:=trivial } NY NZ λds M Q _ h=>?_;obtain⟨q,ks,d,rfl,⟨fs,κs,rfl,rfl,hl,hf,rfl⟩,h⟩:=h;refine⟨rfl,_,rfl,?_⟩;show cS (λM=>True/\True) (.many [0,1]) gO _ _ _ (List.zipWith (λx y=>D.tup [x,y]) (bE fs) (κs.map kD)) [] M;rw[mj,pG];refine iN (λp:(Str×Qn)×Kd=>.tup [.tup [.str p.1.1,qD p.1.2],kD p.2]) (λp=>.tup [.str p.1.1,kD p.2]) (fs.zip κs) ?_ (Y7 (by rw[ZZ];lia:_<100) (by decide)) (λp _ N hN=>?_) ?_
 ·exact⟨trivial,trivial⟩
 ·exact⟨rfl,_,rfl,l2,hN⟩
 ·refine .inl ⟨l2,ao ?_⟩;rw[kD,ml,<- Oe,Zq]at h;exact h
theorem BB:∀{fs pre:Sc},((pre++fs).map (·.1)).Nodup->(aL fs).foldl (λal kv=>a9 al kv.1 kv.2) (aL pre)=aL (pre++fs)
 |[],pre,_=>by rw[YH];rfl
 |(x,k)::r,pre,nd=>by
  have nx:x ∉ pre.map (·.1):=by
   rw[YS,Yu]at nd;exact λz=>(List.nodup_append.mp nd).2.2 x z x Ys rfl
  show (aL r).foldl _ (a9 (aL pre) (.inr x) (kD k))=_;rw[AD nx,BB (by simpa using nd)];simp
theorem BC {fs:Sc} (nd:(fs.map (·.1)).Nodup):bT (aL fs)=aL fs:=BB (pre:=[]) nd
theorem Og (fs:Sc):bI fs=(aL fs).map eH:=by unfold aL;rw[ml,Zq];rfl
theorem Oh (O:Lw w):FO w 18 1 (de λq ks d=>∃f q' fs κ,q=.at f q'/\ks=[kD (.row fs)]/\(fs.map (·.1)).Nodup/\lk f fs=some κ/\d=kD κ):=by
 refine aI O.ok O.hn _ ⟨"part_kind",top 35,["question","below"]⟩ (by rw[O.hd];rfl) {} { cs:=trivial } N1 N7 λds M Q _ h=>?_;obtain⟨q,ks,d,rfl,⟨f,q',fs,κ,rfl,rfl,nd,hk,rfl⟩,h⟩:=h;refine⟨rfl,_,rfl,_,rfl,av (aw (by decide) ⟨_,rfl,_,rfl,.inr ⟨aL fs,Og fs,.inl ?_⟩⟩)⟩;refine⟨rfl,_,rfl,ao ?_⟩;rw[BC nd,gZ,gq,hk];exact h
variable {w:Wo}
theorem FO.b8 {i k:Nat}{sp:Sp}{d:Ds} (h:FO w i k sp) (hd:w.ds[i]?=some d):cA w.G k (ba w d.x) sp:=by
 obtain⟨d',f,fd,h1,D,F⟩:=h;rw[hd]at h1;cases h1;have e:ba w d.x=f:=by unfold ba;rw[D.mg]
 rw[e];exact⟨fd,d.ps,w.G.K,F,D.kp,D.b,λz m b o=>m.ez.keeps λa ob q=>o.fz a _ (b.b a ob q)⟩
noncomputable def wd:Qn->Str
 |.num _=>"num" |.word _=>"word" |.var _=>"var" |.tab _=>"table" |.none _=>"none" |.row _=>"row" |.at _ _=>"at"
 |.add _ _=>"add" |.mul _ _=>"mul" |.one _=>"one" |.both _ _=>"both" |.times _ _=>"times" |.for _ _ _=>"for"
 |.bh _ _=>"when" |.let _ _ _=>"let" |.same _ _=>"same" |.under _ _=>"under" |.and _ _=>"and" |.or _ _=>"or" |.not _=>"not"
theorem fB (q:Qn):∃r,qD q=.tup (.str (wd q)::r):=by cases q <;> exact⟨_,rfl⟩
noncomputable def fC:List (Str×(Qn->List D->D->Prop)):=[
 ("plain_kind",λq _ d=>(∃i,q=.num i)/\d=kD .num\/(∃s,q=.word s)/\d=kD .word),
 ("row_kind",λq ks d=>∃fs κs,q=.row fs/\ks=κs.map kD/\κs.length=fs.length/\fs.length<100/\d=kD (.row ((fs.map (·.1)).zip κs))),
 ("part_kind",λq ks d=>∃f q' fs κ,q=.at f q'/\ks=[kD (.row fs)]/\(fs.map (·.1)).Nodup/\lk f fs=some κ/\d=kD κ),
 ("number_kind",λ_ ks d=>ks=[kD .num,kD .num]/\d=kD .num),
 ("none_kind",λq _ d=>∃k,q=.none k/\d=kD (.ai k)),
 ("one_kind",λ_ ks d=>∃k,ks=[kD k]/\d=kD (.ai k)),
 ("both_kind",λ_ ks d=>∃k,kz k<900/\ks=[kD (.ai k),kD (.ai k)]/\d=kD (.ai k)),
 ("last_bag_kind",λ_ ks d=>∃pre k,ks=pre++[kD (.ai k)]/\d=kD (.ai k)),
 ("same_kind",λ_ ks d=>(ks=[kD .num,kD .num]\/ks=[kD .word,kD .word])/\d=.tup [.str "truth"]),
 ("under_kind",λ_ ks d=>ks=[kD .num,kD .num]/\d=.tup [.str "truth"]),
 ("truth_kind",λ_ _ d=>d=.tup [.str "truth"])]
def BD (w:Wo) (f:Addr) (sp:Sp):Prop:=∃p∈fC,f=ba w p.1/\sp=de p.2
def mq (q:Qn) (ks:List D) (d:D):Prop:=(∃ds,d=.tup ds)/\∃p∈fC,(wd q,p.1)∈br/\p.2 q ks d
theorem um {s g:Str}:∀{t:List (Str×Str)},(t.map (·.1)).Nodup->(s,g)∈t->aG ((t.map λp=>(Zs p.1:Key)).zip (t.map λp=>D.ref (ba w p.2))) (.inr s)=some (.ref (ba w g))
 |(x,y)::r,nd,h=>by
  rw[Yu,Z9]at nd;rw[Yu,Yu,Zo];unfold aG;rw[Z0];rcases List.mem_cons.mp h with e |h
  ·cases e;simp
  ·have:¬x=s:=λe=>nd.1 (e ▸ List.mem_map.mpr ⟨_,h,rfl⟩);have e':¬(Zs x:Key)=Zs s:=λz=>this (aap z);simp only[e',decide_false];exact um nd.2 h
theorem BE:(br.map (·.1)).Nodup:=by decide +kernel
def BF (w:Wo):Sp:=λds M Q _=>∃M0 x a b ws q r fs ks d,ds=[.ref x,qD q,r]/\M=Wm M0 a b ws (fs++ks)/\Wc (w.ca 0) M0 x a b/\ks.length=(if wd q="for" then 1 else (us q).length)/\(us q).length<100/\fs.length<1000000/\mq q ks d/\Q .aj (Wm M0 a b ws (fs++[d]))
noncomputable def Oi:B:=.cons (.ex (.aU 2 (.v 0) (.cons (.v 5) .nil))) .nil
noncomputable def BG:B:=.cons (.cond (.cmp .Is (.v 5) (.c .aj)) (.cons .dead .nil) .nil) Oi
noncomputable def BH:B:=.cons (.set (.one 5) (.app (.ix (.g 4) (.v 3)) (.cons (.v 1) (.cons (.aU 3 (.v 0) (.cons (.v 4) .nil)) .nil)))) BG
noncomputable def Oj:B:=.cons (.set (.one 4) (.ite (.cmp .Eq (.v 3) (.c (.str "for"))) (.c (.int 1)) (.bi .len (.cons (.call 0 (.cons (.v 1) .nil)) .nil)))) BH
noncomputable def Ol:B:=.cons (.set (.one 3) (.ix (.v 1) (.c (.int 0)))) Oj
theorem Om:ay ["walk","question","around","word","many","kind"] ["walk","question","around"] (af (top 32)):=⟨rfl,rfl,rfl,by decide +kernel,rfl,by decide +kernel,by decide +kernel⟩
theorem Oo:aC nm 40 ["walk","question","around","word","many","kind"] (af (top 32)) (ar (top 32))=Ol:=by kernel_rfl
noncomputable abbrev VH (w:Wo):aS w:={ cs:=[(0,j6)],ms:=[(2,ek w),(3,iV w)],ca:=BD w }
theorem Oq (O:Lw w) (hF:∀p∈fC,cA w.G 5 (ba w p.1) (de p.2)):FO w 15 6 (BF w):=by
 refine aI O.ok O.hn _ ⟨"finish",top 32,["walk","question","around"]⟩ (by rw[O.hd];rfl) (VH w) { cs:=⟨⟨1,by decide,mm O⟩,trivial⟩,ms:=⟨⟨1,by decide,iU O⟩,⟨1,by decide,j7 O⟩,trivial⟩,ca:=?_ } Om Oo λds M Q _ h=>?_
 ·rintro f sp ⟨p,hp,rfl,rfl⟩;exact hF p hp
 obtain⟨M0,x,a,b,ws,q,r,fs,ks,d,rfl,rfl,W,hl,hu,eg,⟨⟨dd,No⟩,p,hp,ht,hd⟩,h⟩:=h;obtain⟨rr,e⟩:=fB q;obtain⟨dx,hx⟩:=W.gx (ws:=ws) (fs:=fs++ks);obtain⟨BI,cI⟩:=W.gx (ws:=ws) (fs:=fs);have hlk:ks.length<100:=by rw[hl];split <;> lia
 refine⟨rfl,?_⟩;rw[e];refine⟨_,g6,?_⟩;have go:∀n:Int,(ks.length:Int)=n->B.w (VH w).wd nm.ah BH (bg Q) [some (.ref x),some (.tup (.str (wd q)::rr)),some r,some (.str (wd q)),some (.int n),none] (Wm M0 a b ws (fs++ks)):=by
  intro n hn;show aB (w.gv.getD 4 .aj) (.str (wd q)) (Wm M0 a b ws (fs++ks)) λx1 M1=>rN x1 λf=>∃sp,BD w f sp/\L.w (VH w).wd nm.ah (.cons (.v 1) (.cons (.aU 3 (.v 0) (.cons (.v 4) .nil)) .nil)) [some (.ref x),some (.tup (.str (wd q)::rr)),some r,some (.str (wd q)),some (.int n),none] M1 λds M2=>sp ds M2 (λd M3=>bM (.one 5) d [some (.ref x),some (.tup (.str (wd q)::rr)),some r,some (.str (wd q)),some (.int n),none] M3 (B.w (VH w).wd nm.ah BG (bg Q))) X0;rw[O.gt];refine⟨_,um BE ht,?_⟩;refine⟨_,⟨p,hp,rfl,rfl⟩,_,dx,_,hx,(O.mc _ (by decide)).symm,bo (by decide +kernel) (by decide +kernel),x,a,b,dx,n,fs,ks,rfl,hx,Wm.gb,hn,by lia,?_⟩;rw[Wm.pb];refine⟨q,ks,d,by rw[e],hd,?_⟩;subst No;refine⟨_,BI,_,cI,(O.mc _ (by decide)).symm,bo (by decide +kernel) (by decide +kernel),x,a,b,BI,_,fs,rfl,cI,Wm.gb,Y7 eg (by decide),?_⟩;rw[Wm.pb];exact ao h
 refine av (aR (λz=>go 1 ?_) λz=>?_)
 ·have z:=of_decide_eq_true z;rw[hl,if_pos z];rfl
 ·refine⟨q,by rw[e];rfl,hu,go _ ?_⟩;have z:¬wd q="for":=λy=>z (decide_eq_true y);rw[hl,if_neg z,Ym]
noncomputable def Ot:B:=(.cons (.cond (.cmp .NotIn (.v 1) (.v 0)) (.cons .dead .nil) .nil) (.cons (.ret (.ix (.v 0) (.v 1))) .nil))
theorem Ou:ay ["kinds","name","path"] ["kinds","name","path"] (af (top 30)):=⟨rfl,rfl,rfl,by decide +kernel,rfl,by decide +kernel,by decide +kernel⟩
theorem Ov:aC nm 40 ["kinds","name","path"] (af (top 30)) (ar (top 30))=Ot:=by kernel_rfl
theorem Ow {a:Addr}{kvs:List (Key×D)}{x:Str}{M:Mp}{k:Bool->Prop} (h:M a=some (.ak kvs)) (q:k (aG kvs (.inr x)).isSome):fi (.str x) (.ref a) M k:=⟨.inl ⟨_,h,q⟩⟩
def hB (v:D) (kvs:List (Key×D)) (M:Mp):Prop:=v=dD kvs\/∃p,v=.ref p/\M p=some (.ak kvs)
theorem hB.up {v:D}{kvs:List (Key×D)}{M M':Mp} (h:hB v kvs M) (l:∀a o,M a=some o->M' a=some o):hB v kvs M':=h.imp id λ⟨p,e,q⟩=>⟨p,e,l _ _ q⟩
def BJ:Sp:=λds M Q _=>∃v kvs x p d,ds=[v,.str x,p]/\hB v kvs M/\aG kvs (.inr x)=some d/\Q d M
theorem Ox (O:Lw w):FO w 13 1 BJ:=by
 refine aI O.ok O.hn _ ⟨"found_kind",top 30,["kinds","name","path"]⟩ (by rw[O.hd];rfl) {} { cs:=trivial } Ou Ov λds M Q _ h=>?_;obtain⟨v,kvs,x,p,d,rfl,hc,hv,h⟩:=h;rcases hc with rfl |⟨a,rfl,ha⟩
 ·refine⟨rfl,t6 ?_⟩;rw[hv];exact t4 hv (ao h)
 ·have hs:(aG kvs (.inr x)).isSome=true:=by rw[hv];rfl
  refine⟨rfl,Ow ha ?_⟩;rw[hs];exact .inr ⟨_,ha,d,hv,ao h⟩
noncomputable def bb (w:Wo) (i:Nat) (q:Qn) (r:D):D:=.tup [w.gv.getD i .aj,qD q,r]
noncomputable def a3 (K:List (Key×D)) (S:D) (ps:List D):D:=.tup [dD K,S,.tup ps]
noncomputable def BK:B:=.cons (.ex (.aU 1 (.v 0) (.cons (.g 18) (.cons (.ix (.v 1) (.c (.int 3))) (.cons (.tup (.cons (.call 7 (.cons (.v 3) (.cons (.ix (.v 1) (.c (.int 1))) (.cons (.v 6) .nil)))) (.cons (.v 4) (.cons (.op .Add (.v 5) (.tup (.cons (.c (.int 1)) .nil))) .nil)))) .nil))))) .nil
noncomputable def Oy:B:=.cons (.cond (.cmp .Eq (.ix (.v 1) (.c (.int 0))) (.c (.str "for"))) (.cons (.cond (.cmp .NotEq (.ix (.v 6) (.c (.int 0))) (.c (.str "bag"))) (.cons .dead .nil) .nil) (.cons (.set (.one 6) (.ix (.v 6) (.c (.int 1)))) (.cons (.ex (.aU 1 (.v 0) (.cons (.g 21) (.cons (.v 1) (.cons (.v 2) .nil))))) .nil))) .nil) BK
noncomputable def Oz:B:=.cons (.set (.one 6) (.ix (.aU 3 (.v 0) (.cons (.c (.int 1)) .nil)) (.c (.int 0)))) Oy
noncomputable def OA:B:=.cons (.set (.many [3,4,5]) (.v 2)) Oz
theorem OB:ay ["walk","question","around","kinds","stock","path","kind"] ["walk","question","around"] (af (top 31)):=⟨rfl,rfl,rfl,by decide +kernel,rfl,by decide +kernel,by decide +kernel⟩
theorem OD:aC nm 40 ["walk","question","around","kinds","stock","path","kind"] (af (top 31)) (ar (top 31))=OA:=by kernel_rfl
def BL (w:Wo):Sp:=λds M Q _=>∃ M0 x a b ws fs K S ps q y qa qb k,ds=[.ref x,qD q,a3 K S ps]/\ps.length<1000000/\ws.length<1000000/\K.length<1000/\Wc (w.ca 0) M0 x a b /\
  ((q=.for y qa qb/\M=Wm M0 a b ws (fs++[kD (.ai k)])/\Q .aj (Wm M0 a b (ws++[bb w 21 q (a3 K S ps),bb w 18 qb (a3 (a9 K (.inr y) (kD k)) S (ps++[.int 1]))]) fs)) \/
   (q=.let y qa qb/\M=Wm M0 a b ws (fs++[kD k])/\Q .aj (Wm M0 a b (ws++[bb w 18 qb (a3 (a9 K (.inr y) (kD k)) S (ps++[.int 1]))]) fs)))
noncomputable abbrev Vj (w:Wo):aS w:={ cs:=[(7,Bz)],ms:=[(1,fA w),(3,iV w)] }
theorem OE (O:Lw w):FO w 14 2 (BL w):=by
 refine aI O.ok O.hn _ ⟨"bind",top 31,["walk","question","around"]⟩ (by rw[O.hd];rfl) (Vj w) { cs:=⟨⟨1,by decide,Oc O⟩,trivial⟩,ms:=⟨⟨1,by decide,iT O⟩,⟨1,by decide,j7 O⟩,trivial⟩ } OB OD λds M Q _ h=>?_;obtain⟨M0,x,a,b,ws,fs,K,S,ps,q,y,qa,qb,k,rfl,hp,hw,f6,W,h⟩:=h;have m4:w.ca 0=w.mc 3:=(O.mc _ (by decide)).symm;have m2:w.ca 0=w.mc 1:=(O.mc _ (by decide)).symm;have tail:∀ (d:D) (cr:List D),cr.length<1000001->Q .aj (Wm M0 a b (cr++[bb w 18 qb (a3 (a9 K (.inr y) d) S (ps++[.int 1]))]) fs)->∀ z z2 q', q'=.tup [z,.str y,z2,qD qb] ->
   B.w (Vj w).wd nm.ah BK (bg Q) [some (.ref x),some q',some (a3 K S ps),some (dD K),some S,some (.tup ps),some d] (Wm M0 a b cr fs):=by
  rintro d cr NE h z z2 q' rfl;obtain⟨dx,hx⟩:=W.gx (ws:=cr) (fs:=fs);refine⟨_,dx,_,hx,m2,bo (by decide +kernel) (by decide +kernel),_,rfl,_,rfl,K,y,d,rfl,f6,l1,Yy (by simp;lia:_<=1000001) (by decide),l3,?_⟩;refine⟨x,a,b,dx,_,_,_,cr,rfl,hx,W.ga,YD NE (by decide),?_⟩;rw[W.pa];exact ao h
 rcases h with ⟨rfl,rfl,h⟩ |⟨rfl,rfl,h⟩
 ·obtain⟨dx,hx⟩:=W.gx (ws:=ws) (fs:=fs++[kD (.ai k)]);obtain⟨dy,hy⟩:=W.gx (ws:=ws) (fs:=fs);refine⟨rfl,rfl,_,dx,_,hx,m4,bo (by decide +kernel) (by decide +kernel),x,a,b,dx,1,fs,[kD (.ai k)],rfl,hx,Wm.gb,rfl,by decide,?_⟩;rw[Wm.pb];refine⟨_,rfl,_,rfl,av (aW (by decide) ⟨_,rfl,av (aw (by decide) ⟨_,rfl,?_⟩)⟩)⟩;refine⟨_,dy,_,hy,m2,bo (by decide +kernel) (by decide +kernel),x,a,b,dy,_,_,_,ws,rfl,hy,W.ga,YD hw (by decide),?_⟩;rw[W.pa];refine tail (kD k) _ (by simp;lia) ?_ _ _ _ rfl;rw[YT];exact h
 ·obtain⟨dx,hx⟩:=W.gx (ws:=ws) (fs:=fs++[kD k]);refine⟨rfl,rfl,_,dx,_,hx,m4,bo (by decide +kernel) (by decide +kernel),x,a,b,dx,1,fs,[kD k],rfl,hx,Wm.gb,rfl,by decide,?_⟩;rw[Wm.pb];refine⟨_,rfl,_,rfl,av (aw (by decide) ?_)⟩;exact tail (kD k) ws (by lia) h _ _ _ rfl
variable {w:Wo}
noncomputable def dg (w:Wo) (K:List (Key×D)) (S:D) (ps:List D):Nat->List Qn->List D
 |_,[]=>[]
 |i,q::r=>bb w 18 q (a3 K S (ps++[.int i]))::dg w K S ps (i+1) r
theorem uo {K:List (Key×D)}{S:D}{ps:List D}:∀{r:List Qn}{i:Nat},(dg w K S ps i r).length=r.length
 |[],_=>by rw[dg];rfl
 |q::r,i=>by rw[dg,Yv,Yv,uo]
structure Pl (q:Qn):Prop where
 v:∀y,q≠.var y
 t:∀y,q≠.tab y
 f:wd q≠"for"
 l:wd q≠"let"
def BM (w:Wo):Sp:=λds M Q _=>∃ M0 x a b ws fs K S ps q,ds=[.ref x,qD q,a3 K S ps]/\M=Wm M0 a b ws fs/\Wc (w.ca 0) M0 x a b/\ps.length<1000000/\ws.length<1000000/\fs.length<1000000/\(us q).length<100 /\
  ((∃y d,q=.var y/\aG K (.inr y)=some d/\Q .aj (Wm M0 a b ws (fs++[d]))) \/
   (∃y d,q=.tab y/\(∃kvs,hB S kvs (Wm M0 a b ws fs)/\aG kvs (.inr y)=some d)/\Q .aj (Wm M0 a b ws (fs++[.tup [.str "bag",d]]))) \/
   (∃y qa qb,(q=.for y qa qb\/q=.let y qa qb)/\Q .aj (Wm M0 a b (ws++[bb w 20 q (a3 K S ps),bb w 18 qa (a3 K S (ps++[.int 0]))]) fs)) \/
   (Pl q/\Q .aj (Wm M0 a b (ws++[bb w 21 q (a3 K S ps)]++(dg w K S ps 0 (us q)).reverse) fs)))
theorem OG {q:Qn} (h:∀y,q≠.var y):wd q≠"var":=by cases q <;> first |exact absurd rfl (h _) |(rw[wd];decide)
theorem uq {q:Qn} (h:∀y,q≠.tab y):wd q≠"table":=by cases q <;> first |exact absurd rfl (h _) |(rw[wd];decide)
theorem OH {q:Qn} (h1:wd q≠"for") (h2:wd q≠"let"):dO (.str (wd q)) [D.str "for",D.str "let"]=false:=by
 cases q <;> first |exact absurd rfl h1 |exact absurd rfl h2 |(rw[wd];decide +kernel)
theorem dW {z y:Str}{p r:Prop} (n:z≠y) (h:r):if decide (z=y)=true then p else r:=by
 rw[if_neg];exact h;exact λe=>n (of_decide_eq_true e)
theorem BN {s:Str}{M:Mp}{k:Bool->Prop}{b:Bool} (hb:dO (.str s) [D.str "for",D.str "let"]=b) (q:k b):fi (.str s) (.tup [.str "for",.str "let"]) M k:=by
 refine⟨⟨rfl,rfl,by decide +kernel,?_⟩⟩;rw[hb];exact q
theorem BO {ds:List D}{d:D}:gJ (ds++[d])=gJ ds++[.tup [.int ds.length,d]]:=by
 unfold gJ;rw[List.mapIdx_append];simp
noncomputable def ur:B:=(.cons (.set (.many [3,4,5]) (.v 2)) (.cons (.cond (.cmp .Eq (.ix (.v 1) (.c (.int 0))) (.c (.str "var"))) (.cons (.ex (.aU 2 (.v 0) (.cons (.call 13 (.cons (.v 3) (.cons (.ix (.v 1) (.c (.int 1))) (.cons (.v 5) .nil)))) .nil))) .nil) (.cons (.cond (.cmp .Eq (.ix (.v 1) (.c (.int 0))) (.c (.str "table"))) (.cons (.ex (.aU 2 (.v 0) (.cons (.tup (.cons (.c (.str "bag")) (.cons (.call 13 (.cons (.v 4) (.cons (.ix (.v 1) (.c (.int 1))) (.cons (.v 5) .nil)))) .nil))) .nil))) .nil) (.cons (.cond (.cmp .In (.ix (.v 1) (.c (.int 0))) (.tup (.cons (.c (.str "for")) (.cons (.c (.str "let")) .nil)))) (.cons (.ex (.aU 1 (.v 0) (.cons (.g 20) (.cons (.v 1) (.cons (.v 2) .nil))))) (.cons (.ex (.aU 1 (.v 0) (.cons (.g 18) (.cons (.ix (.v 1) (.c (.int 2))) (.cons (.tup (.cons (.v 3) (.cons (.v 4) (.cons (.op .Add (.v 5) (.tup (.cons (.c (.int 0)) .nil))) .nil)))) .nil))))) .nil)) (.cons (.ex (.aU 1 (.v 0) (.cons (.g 21) (.cons (.v 1) (.cons (.v 2) .nil))))) (.cons (.loop (.many [6,7]) (.oE (.sy (.call 0 (.cons (.v 1) .nil)))) (.cons (.ex (.aU 1 (.v 0) (.cons (.g 18) (.cons (.v 7) (.cons (.tup (.cons (.v 3) (.cons (.v 4) (.cons (.op .Add (.v 5) (.tup (.cons (.v 6) .nil))) .nil)))) .nil))))) .nil)) .nil))) .nil)) .nil)) .nil))
theorem OI:ay ["walk","question","around","kinds","stock","path","place","part"] ["walk","question","around"] (af (top 28)):=⟨rfl,rfl,rfl,by decide +kernel,rfl,by decide +kernel,by decide +kernel⟩
theorem OJ:aC nm 40 ["walk","question","around","kinds","stock","path","place","part"] (af (top 28)) (ar (top 28))=ur:=by kernel_rfl
noncomputable abbrev V1 (w:Wo):aS w:={ cs:=[(0,j6),(13,BJ)],ms:=[(1,fA w),(2,ek w)] }
theorem OL (O:Lw w):FO w 12 2 (BM w):=by
  refine aI O.ok O.hn _ ⟨"begin_kinds",top 28,["walk","question","around"]⟩ (by rw[O.hd];rfl) (V1 w) { cs:=⟨⟨1,by decide,mm O⟩,⟨1,by decide,Ox O⟩,trivial⟩,ms:=⟨⟨1,by decide,iT O⟩,⟨1,by decide,iU O⟩,trivial⟩ } OI OJ λds M Q _ h=>?_;obtain⟨M0,x,a,b,ws,fs,K,S,ps,q,rfl,rfl,W,lE,j8,eg,hu,h⟩:=h;have m3:w.ca 0=w.mc 2:=(O.mc _ (by decide)).symm;have m2:w.ca 0=w.mc 1:=(O.mc _ (by decide)).symm;obtain⟨dx,hx⟩:=W.gx (ws:=ws) (fs:=fs);rcases h with ⟨y,d,rfl,hv,h⟩ |⟨y,d,rfl,⟨kvs,hc,hv⟩,h⟩ |⟨y,qa,qb,hq,h⟩ |⟨pl,h⟩
  · refine⟨rfl,rfl,_,rfl,av (aW (by decide) ⟨_,dx,_,hx,m3,bo (by decide +kernel) (by decide +kernel),_,rfl,_,K,y,_,d,rfl,.inl rfl,hv,x,a,b,dx,d,fs,rfl,hx,Wm.gb,Y7 eg (by decide),?_⟩)⟩;rw[Wm.pb];exact ao h
  · refine⟨rfl,rfl,_,rfl,av (aw (by decide) ⟨_,rfl,av (aW (by decide) ⟨_,dx,_,hx,m3,bo (by decide +kernel) (by decide +kernel),_,rfl,_,kvs,y,_,d,rfl,hc,hv,l2,x,a,b,dx,_,fs,rfl,hx,Wm.gb,Y7 eg (by decide),?_⟩)⟩)⟩;rw[Wm.pb];exact ao h
  · have go : ∀ z, z = .tup [.str (wd q), .str y, qD qa, qD qb] → (wd q = "for" ∨ wd q = "let") → Q .aj (Wm M0 a b (ws ++ [.tup [w.gv.getD 20 .aj, z, a3 K S ps], bb w 18 qa (a3 K S (ps ++ [.int 0]))]) fs) →
        ([D.ref x,z,a3 K S ps]).length=3/\B.w (V1 w).wd nm.ah ur (bg Q) [some (.ref x),some z,some (a3 K S ps),none,none,none,none,none] (Wm M0 a b ws fs):=by
      rintro z rfl hz h;have nv:wd q≠"var":=(by rcases hz with e |e <;> rw[e] <;> decide);have nt:wd q≠"table":=(by rcases hz with e |e <;> rw[e] <;> decide);have V2:dO (.str (wd q)) [D.str "for",D.str "let"]=true:=(by rcases hz with e |e <;> rw[e] <;> decide +kernel);refine⟨rfl,rfl,_,rfl,av (dW nv ⟨_,rfl,av (dW nt ⟨_,rfl,l2,BN V2 (aW rfl ?_)⟩)⟩)⟩;refine⟨_,dx,_,hx,m2,bo (by decide +kernel) (by decide +kernel),x,a,b,dx,_,_,_,ws,rfl,hx,W.ga,Y7 j8 (by decide),?_⟩;rw[W.pa];obtain⟨dy,hy⟩:=W.gx (ws:=ws++[.tup [w.gv.getD 20 .aj,.tup [.str (wd q),.str y,qD qa,qD qb],a3 K S ps]]) (fs:=fs);refine⟨_,dy,_,hy,m2,bo (by decide +kernel) (by decide +kernel),_,rfl,l1,Yy (by simp;lia:_<=1000001) (by decide),l3,?_⟩;refine⟨x,a,b,dy,_,_,_,_,rfl,hy,W.ga,YA (by simp;lia:_<=1000001) (by decide),?_⟩;rw[W.pa,YT];exact ao h
    rcases hq with rfl |rfl
    · exact go _ rfl (.inl rfl) h
    · exact go _ rfl (.inr rfl) h
  · obtain⟨r,e⟩:=fB q;have nf:=OH pl.f pl.l;have nl:(us q).length<sizeLine:=Y7 hu (by decide);have go:∀ z,z=qD q->([D.ref x,z,a3 K S ps]).length=3/\B.w (V1 w).wd nm.ah ur (bg Q) [some (.ref x),some z,some (a3 K S ps),none,none,none,none,none] (Wm M0 a b ws fs):=by
      intro z hz;have hz':z=.tup (.str (wd q)::r):=hz.trans e;subst hz';refine⟨rfl,rfl,_,g6,av (dW (OG pl.v) ⟨_,g6,av (dW (uq pl.t) ⟨_,g6,l2,BN nf (aw (by decide) ?_)⟩)⟩)⟩;refine⟨_,dx,_,hx,m2,bo (by decide +kernel) (by decide +kernel),x,a,b,dx,_,_,_,ws,rfl,hx,W.ga,Y7 j8 (by decide),?_⟩;rw[W.pa];have Op:D.tup [w.gv.getD 21 .aj,.tup (.str (wd q)::r),a3 K S ps]=bb w 21 q (a3 K S ps):=(by unfold bb;rw[e]);refine⟨q,by rw[e];rfl,hu,by simpa using nl,.inl ?_⟩;refine eS (λxs τ M'=>∃ rest done v6 v7,us q=rest++done/\xs=(gJ (rest.map qD)).reverse/\τ=[some (.ref x),some (.tup (.str (wd q)::r)),some (a3 K S ps),some (dD K),some S,some (.tup ps),v6,v7] /\
        M'=Wm M0 a b (ws++[bb w 21 q (a3 K S ps)]++(dg w K S ps rest.length done).reverse) fs/\done.length<100) ?_ ?_ _ _ _ ⟨us q,[],none,none,by simp,rfl,rfl,?_,by simp⟩
      · rintro τ M' ⟨rest,done,v6,v7,e1,e2,rfl,rfl,_⟩;have:rest=[]:=by
          rcases aaa rest with z |⟨r',q',z⟩
          · exact z
          · subst z;rw[ZV,YS,Yu,Zp,BO,List.reverse_append]at e2;simp at e2
        subst this;rw[List.nil_append]at e1;rw[e1]at h;exact⟨trivial,.rfl (ao h)⟩
      · rintro y xs τ M' ⟨rest,done,v6,v7,e1,e2,rfl,rfl,hd⟩;refine⟨trivial,?_⟩;rcases aaa rest with z | ⟨r',q',z⟩
        · subst z;cases e2
        subst z;rw[ZV]at e1 e2;rw[ZV];rw[YS,Yu,Zp,BO,List.reverse_append]at e2;cases e2;have hlen:(us q).length=r'.length+1+done.length:=(by rw[e1];simp;lia);obtain⟨dy,hy⟩:=W.gx (ws:=ws++[bb w 21 q (a3 K S ps)]++(dg w K S ps (r'++[q']).length done).reverse) (fs:=fs);refine λN hN=>⟨rfl,_,dy,_,hy,m2,bo (by decide +kernel) (by decide +kernel),l1,Yy (by simp;lia:_<=1000001) (by decide),l3,?_⟩;refine⟨x,a,b,dy,_,_,_,_,rfl,hy,W.ga,YA (?_:_<=2000000) (by decide),hN _ _ ⟨r',q'::done,_,_,by rw[e1];simp,rfl,rfl,?_,by rw[Yv];lia⟩⟩
        · rw[YB,YB,Z1,uo];simp;lia
        · rw[W.pa];have Xn:dg w K S ps r'.length (q'::done)=bb w 18 q' (a3 K S (ps++[.int r'.length]))::dg w K S ps (r'.length+1) done:=(by rw[dg]);rw[Xn,Zz,<- YT,YB,Ym];rfl
      · rw[<- Op,dg,List.reverse_nil,YH];rfl
    exact go _ rfl
variable {w:Wo}
noncomputable def OO:B:=.cons (.ret (.c (.bl true))) .nil
noncomputable def BP:B:=.cons (.jL (.v 3) (.cons (.set (.many [4,5]) (.mt .pop (.v 3) .nil)) (.cons (.cond (.cmp .NotEq (.ix (.v 4) (.c (.int 0))) (.ix (.v 5) (.c (.int 0)))) (.cons (.ret (.c (.bl false))) .nil) .nil) (.cons (.cond (.cmp .Eq (.ix (.v 4) (.c (.int 0))) (.c (.str "row"))) (.cons (.cond (.cmp .NotEq (.call 8 (.cons (.v 4) .nil)) (.call 8 (.cons (.v 5) .nil))) (.cons (.ret (.c (.bl false))) .nil) .nil) (.cons (.ex (.mt .extend (.v 3) (.cons (.lc 2 [] (.many [0,1]) (.zip (.ix (.v 4) (.c (.int 1))) (.ix (.v 5) (.c (.int 1)))) .aq (.tup (.cons (.ix (.v 0) (.c (.int 1))) (.cons (.ix (.v 1) (.c (.int 1))) .nil)))) .nil))) .nil)) .nil) (.cons (.cond (.cmp .Eq (.ix (.v 4) (.c (.int 0))) (.c (.str "bag"))) (.cons (.ex (.mt .extend (.v 3) (.cons (.lc 1 [5] (.one 0) (.seq (.app (.v 2) (.cons (.v 4) .nil))) .aq (.tup (.cons (.v 0) (.cons (.ix (.v 1) (.c (.int 1))) .nil)))) .nil))) .nil) .nil) .nil))))) OO
noncomputable def OP:B:=.cons (.set (.one 3) (.lst (.cons (.tup (.cons (.v 0) (.cons (.v 1) .nil))) .nil))) BP
theorem OQ:ay ["whole","kind","rows_of","waiting","part","wanted"] ["whole","kind","rows_of"] (af (top 22)):=⟨rfl,rfl,rfl,by decide +kernel,rfl,by decide +kernel,by decide +kernel⟩
theorem OR:aC nm 40 ["whole","kind","rows_of","waiting","part","wanted"] (af (top 22)) (ar (top 22))=OP:=by kernel_rfl
def uv:Sp:=λas M Q _=>∃x y,as=[.tup [x,y]]/\Q (.lst [y]) M
def OT (f:Addr):Sp:=λds M Q _=>∃k,ds=[kD k,kD k,.ref f]/\kz k<1000/\Q (.bl true) M
noncomputable abbrev V3 (w:Wo) (f:Addr):aS w:={ cs:=[(8,BA)],ca:=λg sp=>g=f/\sp=uv }
noncomputable def pr (k:Kd):D:=.tup [kD k,kD k]
noncomputable def bO:List Kd->Nat
 |[]=>0
 |k::r=>kz k+bO r
theorem pH:∀{a b:List Kd},bO (a++b)=bO a+bO b
 |[],b=>by rw[List.nil_append,bO];lia
 |k::a,b=>by rw[ZH,bO,bO,pH];lia
theorem OU (k:Kd):1<=kz k:=by cases k <;> (rw[kz];try lia)
theorem uw:∀a:List Kd,a.length<=bO a
 |[]=>YE _
 |k::r=>by have:=OU k;have:=uw r;rw[bO,Yv];lia
theorem ux:∀fs:List (Str×Kd),bO (fs.map (·.2))+fs.length=md fs
 |[]=>by rw[md];rfl
 |(_,k)::r=>by have:=ux r;rw[Yu,bO,md,Yv];show kz k+_+_=_;lia
theorem OV {fs:List (Str×Kd)} (h:kz (.row fs)<1000):fs.length<1000:=by
 have:=ux fs;rw[kz]at h;lia
noncomputable def uy:S->B
 |.jL _ b=>b
 |_=>.nil
theorem BQ:∀fs:List (Str×Kd),aM (fs.map λp=>D.str p.1)=true/\a4 (fs.map λp=>D.str p.1)=0
 |[]=>⟨rfl,rfl⟩
 |(x,k)::r=>by obtain⟨h1,h2⟩:=BQ r;rw[Yu,aM,a4,h1,h2];exact⟨rfl,rfl⟩
theorem OW {n:Bool}{fs:List (Str×Kd)}{M:Mp}{k:Bool->Prop} (q:k true):eG n (.lst (fs.map λp=>D.str p.1)) (.lst (fs.map λp=>D.str p.1)) M k:=by
 obtain⟨h1,h2⟩:=BQ fs;have ok:aD (.lst (fs.map λp=>D.str p.1))=true:=by rw[aD];exact h1
 refine .mk (.inl ⟨ok,ok,?_⟩) ?_
 ·show bc (.lst _)<=100;rw[bc,h2];decide
 ·show k (aA (.lst _) (.lst _));rw[fU _ ok];exact q
theorem BR (O:Lw w) {e:En}{wa f:Addr}{UM VB:D}{M0:Mp} (hn:∀ v4 v5 ws,e.nx [some UM,some VB,some (.ref f),some (.ref wa),v4,v5] (up M0 wa (.lst ws))) :
  ∀(n:Nat) (ws:List Kd) v4 v5,bO ws<n->bO ws<1000->hZ (E.w (V3 w f).wd nm.ah (.v 3)).2 (B.w (V3 w f).wd nm.ah (uy (jZ BP))) e n [some UM,some VB,some (.ref f),some (.ref wa),v4,v5] (up M0 wa (.lst (ws.map pr)))
 | 0,ws,v4,v5,h,_=>by lia
 |n+1,ws,v4,v5,h,hz=>by
  rcases aaa ws with z |⟨r,k,z⟩
  ·subst z;exact .inl ⟨_,au,hn _ _ _⟩
  subst z;rw[ZV]at h hz ⊢;rw[pH,bO,bO]at h hz;have cH:(!((r++[k]).map pr).isEmpty)=true:=by simp
  refine .inl ⟨_,au,?_⟩;rw[cH];refine⟨.inl ⟨rfl,_,au⟩,_,au,pr k,by simp,rfl,?_⟩;have e1:up (up M0 wa (.lst ((r++[k]).map pr))) wa (.lst ((r++[k]).map pr).dropLast)=up M0 wa (.lst (r.map pr)):=by rw[_root_.N.cF,YS,Yu,Zp,List.dropLast_concat]
  rw[e1];have fin:=λ(rr:List Kd) v4 v5 (h1:bO rr+1<=kz k+bO r)=>BR O hn n rr v4 v5 (by lia) (by lia);cases k with
  |num=>exact⟨_,rfl,_,rfl,av (aw (by decide) ⟨_,rfl,av (aw (by decide) ⟨_,rfl,av (aw (by decide) (fin r _ _ (by rw[kz];lia)))⟩)⟩)⟩
  |word=>exact⟨_,rfl,_,rfl,av (aw (by decide) ⟨_,rfl,av (aw (by decide) ⟨_,rfl,av (aw (by decide) (fin r _ _ (by rw[kz];lia)))⟩)⟩)⟩
  |ai k'=>
   refine⟨_,rfl,_,rfl,av (aw (by decide) ⟨_,rfl,av (aw (by decide) ⟨_,rfl,av (aW (by decide) ?_)⟩)⟩)⟩;refine⟨.inl ⟨rfl,_,au⟩,_,⟨rfl,rfl⟩,_,_,rfl,trivial,by decide,_,rfl,l2,trivial,(by show 1<sizeLine;decide),.inl ⟨_,au,?_,?_⟩⟩
   ·have:=uw r;refine Yy (?_:_<=2000) (by decide);simp;lia
   ·have:=fin (r++[k']) (some (kD (.ai k'))) (some (kD (.ai k'))) (by rw[pH,bO,bO,kz];lia);rw[YS]at this;rw[_root_.N.cF];exact this
  |row fs=>
   have hl:=OV (fs:=fs) (by lia);refine⟨_,rfl,_,rfl,av (aw (by decide) ⟨_,rfl,av (aW (by decide) ⟨fs,rfl,hl,fs,rfl,hl,OW (aw (by decide) ?_)⟩)⟩)⟩;refine⟨.inl ⟨rfl,_,au⟩,_,rfl,_,rfl,?_⟩;show cS (λM=>True/\True) (.many [0,1]) gO _ _ _ (List.zipWith (λx y=>D.tup [x,y]) (bI fs) (bI fs)) [] _;rw[ml,pG];refine iN (λp:(Str×Kd)×(Str×Kd)=>.tup [.tup [.str p.1.1,kD p.1.2],.tup [.str p.2.1,kD p.2.2]]) (λp=>.tup [kD p.1.2,kD p.2.2]) (fs.zip fs) ?_ (Y7 (by rw[ZZ];lia:_<1000) (by decide)) (λp _ N hN=>?_) ?_
   ·exact⟨trivial,trivial⟩
   ·exact⟨rfl,_,rfl,_,rfl,l2,hN⟩
   ·refine .inl ⟨_,au,?_,?_⟩
    ·have:=uw r;refine Yy (?_:_<=3000) (by decide);simp;lia
    ·have e2:(fs.zip fs).map (λp=>D.tup [kD p.1.2,kD p.2.2])=(fs.map (·.2)).map pr:=by
      clear fin e1 cH h hz hl
      induction fs with
      |nil=>rfl
      |cons g fs ih=>rw[Zo,Yu,ih];rfl
     rw[e2,_root_.N.cF,<- YS];exact⟨_,rfl,av (aw (by decide) (fin (r++fs.map (·.2)) _ _ (by have:=ux fs;rw[pH,kz];lia)))⟩
theorem OX (O:Lw w) {f:Addr} (hf:cA w.G 1 f uv):FO w 10 2 (OT f):=by
 refine aI O.ok O.hn _ ⟨"fits",top 22,["whole","kind","rows_of"]⟩ (by rw[O.hd];rfl) (V3 w f) { cs:=⟨⟨1,by decide,Od O⟩,trivial⟩,ca:=?_ } OQ OR λds M Q _ h=>?_
 ·rintro g sp ⟨rfl,rfl⟩;exact hf
 obtain⟨k,rfl,hz,h⟩:=h;refine⟨rfl,l2,l1,.inr λwa OY=>⟨1000,?_⟩⟩;refine BR O (λv4 v5 ws=>?_) 1000 [k] none none (by rw[bO,bO];lia) (by rw[bO,bO];lia);exact Ka OY rfl h
theorem OZ:ay ["one","other"] ["one","other"] (af (top 21)):=⟨rfl,rfl,rfl,by decide +kernel,rfl,by decide +kernel,by decide +kernel⟩
def BS:Sp:=λds M Q _=>∃k,ds=[kD k,kD k]/\kz k<1000/\Q (.bl true) M
theorem O0 (O:Lw w):FO w 9 3 BS:=by
 refine Kk O.ok O.hn (kl:=0) (n:=30) (nl:=30) (ns:=["one","other"]) (lps:=["bag"]) (es:=.cons (.v 0) (.cons (.v 1) .nil)) (el:=.lst (.cons (.ix (.v 0) (.c (.int 1))) .nil)) (lX:=uv) 9 10 ⟨"alike",top 21,["one","other"]⟩ (by rw[O.hd];rfl) hA (λf fd q=>O.VE f fd q) {} { cs:=trivial } OZ
  (λ_ _ _ _=>rfl) (λ_ _ _ _=>rfl) (by kernel_rfl) (by kernel_rfl) (by kernel_rfl) (by kernel_rfl) (by kernel_rfl) ⟨by kernel_rfl,by kernel_rfl,by kernel_rfl,by decide +kernel,by decide +kernel,by decide +kernel,by decide +kernel⟩ (by decide +kernel) (λq pm c ctv K=>bC.all λus h=>?_) (by kernel_rfl) (λe l=>⟨{},{ cs:=trivial },λds M Q E hs=>?_⟩) λds M Q E hs=>?_
 ·match us,h with
  |[_],_=>rfl
 ·obtain⟨x,y,rfl,q⟩:=hs;exact⟨rfl,_,rfl,(by show 1<=sizeLine;decide),.inl (ao q)⟩
 ·obtain⟨k,rfl,hz,q⟩:=hs;exact⟨rfl,λe f l hh=>⟨_,OX (O.at l) hh,k,rfl,hz,ao q⟩⟩
noncomputable def O3:B:=(.cons (.ret (.ite (.call 9 (.cons (.ix (.v 1) (.c (.int 0))) (.cons (.ix (.v 1) (.c (.int 1))) .nil))) (.call 23 (.cons (.v 0) (.cons (.v 1) .nil))) (.c .aj))) .nil)
theorem O4:ay ["question","below"] ["question","below"] (af (top 39)):=⟨rfl,rfl,rfl,by decide +kernel,rfl,by decide +kernel,by decide +kernel⟩
theorem O5:aC nm 40 ["question","below"] (af (top 39)) (ar (top 39))=O3:=by kernel_rfl
noncomputable abbrev O6 (w:Wo):aS w:={ cs:=[(9,BS),(23,de λ_ ks d=>∃pre k,ks=pre++[kD (.ai k)]/\d=kD (.ai k))] }
theorem O7 (O:Lw w):FO w 22 4 (de λ_ ks d=>∃k,kz k<900/\ks=[kD (.ai k),kD (.ai k)]/\d=kD (.ai k)):=by
 refine aI O.ok O.hn _ ⟨"both_kind",top 39,["question","below"]⟩ (by rw[O.hd];rfl) (O6 w) { cs:=⟨⟨3,by decide,O0 O⟩,⟨1,by decide,Bx O⟩,trivial⟩ } O4 O5 λds M Q _ h=>?_;obtain⟨q,ks,d,rfl,⟨k,hz,rfl,rfl⟩,h⟩:=h;exact⟨rfl,_,rfl,_,rfl,.ai k,rfl,by rw[kz];lia,q,_,_,rfl,⟨[kD (.ai k)],k,rfl,rfl⟩,ao h⟩
theorem O8 (O:Lw w):∀p∈fC,cA w.G 5 (ba w p.1) (de p.2):=by
 intro p hp;unfold fC at hp;simp only[YZ,YJ,or_false]at hp;rcases hp with rfl |rfl |rfl |rfl |rfl |rfl |rfl |rfl |rfl |rfl |rfl
 ·exact FO.b8 ((Nx O).mono (by decide)) (d:=⟨"plain_kind",top 33,["question","below"]⟩) (by rw[O.hd];rfl)
 ·exact FO.b8 ((Of O).mono (by decide)) (d:=⟨"row_kind",top 34,["question","below"]⟩) (by rw[O.hd];rfl)
 ·exact FO.b8 ((Oh O).mono (by decide)) (d:=⟨"part_kind",top 35,["question","below"]⟩) (by rw[O.hd];rfl)
 ·exact FO.b8 ((N9 O).mono (by decide)) (d:=⟨"number_kind",top 36,["question","below"]⟩) (by rw[O.hd];rfl)
 ·exact FO.b8 ((Nw O).mono (by decide)) (d:=⟨"none_kind",top 37,["question","below"]⟩) (by rw[O.hd];rfl)
 ·exact FO.b8 ((Ny O).mono (by decide)) (d:=⟨"one_kind",top 38,["question","below"]⟩) (by rw[O.hd];rfl)
 ·exact FO.b8 ((O7 O).mono (by decide)) (d:=⟨"both_kind",top 39,["question","below"]⟩) (by rw[O.hd];rfl)
 ·exact FO.b8 ((Bx O).mono (by decide)) (d:=⟨"last_bag_kind",top 40,["question","below"]⟩) (by rw[O.hd];rfl)
 ·exact FO.b8 ((Ob O).mono (by decide)) (d:=⟨"same_kind",top 41,["question","below"]⟩) (by rw[O.hd];rfl)
 ·exact FO.b8 ((Oa O).mono (by decide)) (d:=⟨"under_kind",top 42,["question","below"]⟩) (by rw[O.hd];rfl)
 ·exact FO.b8 ((Nz O).mono (by decide)) (d:=⟨"truth_kind",top 43,["question","below"]⟩) (by rw[O.hd];rfl)
variable {w:Wo}
noncomputable def BU:B:=(.cons (.jL (.fld (.v 0) "waiting") (.cons (.set (.many [1,2,3]) (.mt .pop (.fld (.v 0) "waiting") .nil)) (.cons (.ex (.app (.v 1) (.cons (.v 0) (.cons (.v 2) (.cons (.v 3) .nil))))) .nil))) (.cons (.ret (.mt .pop (.fld (.v 0) "found") .nil)) .nil))
theorem uz:ay ["self","step","question","around"] ["self"] (af (bj (top 14) 4)):=⟨rfl,rfl,rfl,by decide +kernel,rfl,by decide +kernel,by decide +kernel⟩
theorem uA:aC nm 40 ["self","step","question","around"] (af (bj (top 14) 4)) (ar (bj (top 14) 4))=BU:=by kernel_rfl
noncomputable abbrev Vf (w:Wo) (ca:Addr->Sp->Prop):aS w:={ ca:=ca }
def Lp (w:Wo) (ca:Addr->Sp->Prop) (e:En) (n:Nat) (x:Addr) (M:Mp):Prop:=∀u v z,hZ (E.w (Vf w ca).wd nm.ah (.fld (.v 0) "waiting")).2 (B.w (Vf w ca).wd nm.ah (uy (jZ BU))) e n [some (.ref x),u,v,z] M
theorem turn (O:Lw w) {ca:Addr->Sp->Prop}{e:En}{n:Nat}{M0:Mp}{x a b:Addr}{ws fs:List D}{f:Addr}{sp:Sp}{qd r:D} (hc:ca f sp) (W:Wc (w.ca 0) M0 x a b)
  (h:∀Q:QK,(∀d M',Lp w ca e n x M'->Q d M')->sp [.ref x,qd,r] (Wm M0 a b ws fs) Q X0):Lp w ca e (n+1) x (Wm M0 a b (ws++[.tup [.ref f,qd,r]]) fs):=by
 intro u v z;obtain⟨dx,hx⟩:=W.gx (ws:=ws++[.tup [.ref f,qd,r]]) (fs:=fs);refine⟨_,dx,_,hx,.ref a,O.fw,rfl,.inl ⟨_,W.ga,?_⟩⟩;have cH:(!(ws++[D.tup [.ref f,qd,r]]).isEmpty)=true:=by simp
 rw[cH];refine⟨_,dx,_,hx,.ref a,O.fw,rfl,.inl ⟨rfl,_,W.ga⟩,_,W.ga,.tup [.ref f,qd,r],by simp,rfl,sp,hc,?_⟩;rw[List.dropLast_concat,W.pa];exact h _ λd M' z=>z _ _ _
theorem over (O:Lw w) {ca:Addr->Sp->Prop}{e:En}{n:Nat}{M0:Mp}{x a b:Addr}{fs:List D} (W:Wc (w.ca 0) M0 x a b) (h:∀u v z,e.nx [some (.ref x),u,v,z] (Wm M0 a b [] fs)):Lp w ca e (n+1) x (Wm M0 a b [] fs):=by
 intro u v z;obtain⟨dx,hx⟩:=W.gx (ws:=[]) (fs:=fs);exact⟨_,dx,_,hx,.ref a,O.fw,rfl,.inl ⟨_,W.ga,h u v z⟩⟩
mutual
noncomputable def Nt:Qn->Nat
 |.var _=>1 |.tab _=>1
 |.for _ a b=>3+Nt a+Nt b
 |.let _ a b=>2+Nt a+Nt b
 |.row fs=>2+Nr fs
 |.at _ q=>2+Nt q
 |.add a b=>2+Nt a+Nt b
 |.mul a b=>2+Nt a+Nt b
 |.one q=>2+Nt q
 |.both a b=>2+Nt a+Nt b
 |.times _ q=>2+Nt q
 |.bh a b=>2+Nt a+Nt b
 |.same a b=>2+Nt a+Nt b
 |.under a b=>2+Nt a+Nt b
 |.and a b=>2+Nt a+Nt b
 |.or a b=>2+Nt a+Nt b
 |.not q=>2+Nt q
 |.num _=>2 |.word _=>2 |.none _=>2
noncomputable def Nr:List (Str×Qn)->Nat
 |[]=>0
 |(_,q)::r=>Nt q+Nr r
end
noncomputable def Nl:List Qn->Nat
 |[]=>0
 |q::r=>Nt q+Nl r
theorem BV:∀fs:List (Str×Qn),Nl (fs.map (·.2))=Nr fs
 |[]=>by rw[Nr];rfl
 |(x,q)::r=>by rw[Nr,<- BV r];rfl
theorem O9 {q:Qn} (h1:∀y,q≠.var y) (h2:∀y,q≠.tab y) (h3:wd q≠"for") (h4:wd q≠"let"):Nt q=2+Nl (us q):=by
 cases q with
 |var y=>exact absurd rfl (h1 y)
 |tab y=>exact absurd rfl (h2 y)
 | «for»=>exact absurd rfl h3
 | «let»=>exact absurd rfl h4
 |row fs=>rw[Nt,us,BV]
 |_=>simp [Nt,us,Nl] <;> lia
theorem fD {a k:Key}{v:D}{r:List (Key×D)}:aG ((a,v)::r) k=if a=k then some v else aG r k:=by
 unfold aG;rw[Z0];by_cases h:a=k
 ·simp [h]
 ·simp [h]
theorem uB {k k':Key}{d:D} (h:k'≠k):∀r:List (Key×D),aG (r.map λkv=>if kv.1=k then (kv.1,d) else kv) k'=aG r k'
 |[]=>rfl
 |(a,v)::r=>by
  rw[Yu];by_cases e:a=k
  ·rw[if_pos e,fD,fD,if_neg (λz=>h (by rw[<- z,e])),if_neg (λz=>h (by rw[<- z,e])),uB h r]
  ·rw[if_neg e,fD,fD,uB h r]
theorem BW {k:Key}{d:D}:∀r:List (Key×D),(r.any λkv=>decide (kv.1=k))=true->aG (r.map λkv=>if kv.1=k then (kv.1,d) else kv) k=some d
 |[],h=>by cases h
 |(a,v)::r,h=>by
  rw[Yu];by_cases e:a=k
  ·rw[if_pos e,fD,if_pos e]
  ·rw[if_neg e,fD,if_neg e];rw[aaj,decide_eq_false e,Bool.false_or]at h;exact BW r h
theorem BX {kvs:List (Key×D)}{k k':Key}{d:D}:aG (a9 kvs k d) k'=if k'=k then some d else aG kvs k':=by
 unfold a9;by_cases h:(kvs.any λkv=>decide (kv.1=k))=true
 ·rw[if_pos h];by_cases e:k'=k
  ·subst e;rw[if_pos rfl,BW kvs h]
  ·rw[if_neg e,uB e]
 ·rw[if_neg h]
  induction kvs with
  |nil=>
   rw[List.nil_append,fD];by_cases e:k'=k
   ·rw[if_pos e,if_pos e.symm]
   ·rw[if_neg e,if_neg (Zl e)]
  |cons p r ih=>
   obtain⟨a,v⟩:=p;have h':¬a=k/\¬(r.any λkv=>decide (kv.1=k))=true:=by
    rw[aaj]at h;exact⟨λz=>h (by simp [z]),λz=>h (by rw[z,Bool.or_true])⟩
   rw[ZH,fD,fD,ih h'.2];by_cases e:k'=k
   ·subst e;rw[if_neg h'.1,if_pos rfl,if_pos rfl]
   ·rw[if_neg e,if_neg e]
theorem BY {kvs:List (Key×D)}{k:Key}{d:D}:(a9 kvs k d).length<=kvs.length+1:=by
 unfold a9;split <;> simp
mutual
noncomputable def dn:Qn->Nat
 |.var _=>1 |.tab _=>1 |.num _=>1 |.word _=>1 |.none _=>1
 |.for _ a b=>1+max (dn a) (dn b)
 |.let _ a b=>1+max (dn a) (dn b)
 |.row fs=>1+j9 fs
 |.at _ q=>1+dn q
 |.add a b=>1+max (dn a) (dn b)
 |.mul a b=>1+max (dn a) (dn b)
 |.one q=>1+dn q
 |.both a b=>1+max (dn a) (dn b)
 |.times _ q=>1+dn q
 |.bh a b=>1+max (dn a) (dn b)
 |.same a b=>1+max (dn a) (dn b)
 |.under a b=>1+max (dn a) (dn b)
 |.and a b=>1+max (dn a) (dn b)
 |.or a b=>1+max (dn a) (dn b)
 |.not q=>1+dn q
noncomputable def j9:List (Str×Qn)->Nat
 |[]=>0
 |(_,q)::r=>max (dn q) (j9 r)
end
noncomputable def fE:List Qn->Nat
 |[]=>0
 |q::r=>max (dn q) (fE r)
theorem BZ:∀fs:List (Str×Qn),fE (fs.map (·.2))=j9 fs
 |[]=>by rw[j9];rfl
 |(x,q)::r=>by rw[j9,<- BZ r];rfl
theorem uC (q:Qn):dn q=1+fE (us q):=by
 cases q with
 |row fs=>rw[dn,us,BZ]
 |_=>simp [dn,us,fE]
mutual
inductive Tk (S:Str->Option Kd):Sc->Qn->D->Prop
 |var {G y k}:lk y G=some k->Tk S G (.var y) (kD k)
 |tab {G y k}:S y=some k->Tk S G (.tab y) (kD (.ai k))
 |for {G y a b k l}:Tk S G a (kD (.ai l))->Tk S ((y,l)::G) b (kD (.ai k))->Tk S G (.for y a b) (kD (.ai k))
 |let {G y a b l d}:Tk S G a (kD l)->Tk S ((y,l)::G) b d->Tk S G (.let y a b) d
 |cW {G q ks d}:Pl q->hE S G (us q) ks->mq q ks d->(us q).length<100->Tk S G q d
inductive hE (S:Str->Option Kd):Sc->List Qn->List D->Prop
 |nil {G}:hE S G [] []
 |cons {G q r d s}:Tk S G q d->hE S G r s->hE S G (q::r) (d::s)
end
theorem hE.len {S:Str->Option Kd}:∀{G:Sc}{qs:List Qn}{ks:List D},hE S G qs ks->ks.length=qs.length
 |_,_,_,.nil=>rfl
 |_,_,_,.cons _ r=>by rw[Yv,Yv,r.len]
def dh (K:List (Key×D)) (G:Sc):Prop:=∀y k,lk y G=some k->aG K (.inr y)=some (kD k)
def gw (v:D) (S:Str->Option Kd) (M:Mp):Prop:=∀y k,S y=some k->∃kvs,hB v kvs M/\aG kvs (.inr y)=some (kD k)
def uD (v:D) (S:Str->Option Kd) (M0:Mp) (a b:Addr):Prop:=∀ws fs,gw v S (Wm M0 a b ws fs)
theorem dh.put {K:List (Key×D)}{G:Sc}{y:Str}{l:Kd} (h:dh K G):dh (a9 K (.inr y) (kD l)) ((y,l)::G):=λz k e=>by
 rw[BX];rw[lk]at e;by_cases c:z=y
 ·rw[if_pos c]at e;cases e;rw[if_pos (by rw[c])]
 ·rw[if_neg c]at e;rw[if_neg (λx=>c (aap x))];exact h z k e
structure WH (n m:Nat) (ps ws fs:List D) (K:List (Key×D)):Prop where
 p:ps.length+(n+103 * m)<1000000
 w:ws.length+(n+103 * m)<1000000
 f:fs.length+(n+103 * m)<1000000
 k:K.length+m<1000
theorem mr (O:Lw w) {q:Qn}{r:D}:bb w 18 q r=.tup [.ref (ba w "begin_kinds"),qD q,r]:=by unfold bb;rw[O.gb]
theorem fK (O:Lw w) {q:Qn}{r:D}:bb w 20 q r=.tup [.ref (ba w "bind"),qD q,r]:=by unfold bb;rw[O.gd]
theorem Pa (O:Lw w) {q:Qn}{r:D}:bb w 21 q r=.tup [.ref (ba w "finish"),qD q,r]:=by unfold bb;rw[O.gf]
def iW (w:Wo) (f:Addr) (sp:Sp):Prop:=(f=ba w "begin_kinds"/\sp=BM w)\/(f=ba w "bind"/\sp=BL w)\/(f=ba w "finish"/\sp=BF w)
theorem Pb {y:Str}{a b:Qn}{k:Kd}:mq (.for y a b) [kD (.ai k)] (kD (.ai k)):=by
 have hm:((("last_bag_kind" : Str),λ(_:Qn) (ks:List D) (d:D)=>∃pre k,ks=pre++[kD (.ai k)]/\d=kD (.ai k)):Str×(Qn->List D->D->Prop))∈fC:=by
  unfold fC
  iterate 7 refine Yt _ ?_
  exact Ys
 exact⟨⟨_,rfl⟩,_,hm,(by decide +kernel:(("for" : Str),("last_bag_kind" : Str))∈br),[],k,rfl,rfl⟩
section
variable {e:En}{n:Nat}{M0:Mp}{x a b:Addr}{ws fs:List D}{K:List (Key×D)}{S':D}{ps:List D}
theorem B0 (O:Lw w) {ks:List D}{q:Qn}{r d:D} (W:Wc (w.ca 0) M0 x a b) (hk:ks.length=if wd q="for" then 1 else (us q).length) (hu:(us q).length<100) (hf:fs.length<1000000) (F:mq q ks d)
  (k:Lp w (iW w) e n x (Wm M0 a b ws (fs++[d]))):Lp w (iW w) e (n+1) x (Wm M0 a b (ws++[bb w 21 q r]) (fs++ks)):=by
 rw[Pa O];exact turn O (.inr (.inr ⟨rfl,rfl⟩)) W λQ hQ=>⟨M0,x,a,b,ws,q,r,fs,ks,d,rfl,rfl,W,hk,hu,hf,F,hQ _ _ k⟩
end
def B1 (w:Wo) (S:Str->Option Kd) (G:Sc) (q:Qn) (d:D):Prop:=∀ {e:En}{n:Nat}{M0:Mp}{x a b:Addr}{ws fs:List D}{K:List (Key×D)}{S':D}{ps:List D},Wc (w.ca 0) M0 x a b->dh K G->uD S' S M0 a b->WH 0 (dn q) ps ws fs K ->
  Lp w (iW w) e n x (Wm M0 a b ws (fs++[d]))->Lp w (iW w) e (n+Nt q) x (Wm M0 a b (ws++[bb w 18 q (a3 K S' ps)]) fs)
def Pc (w:Wo) (S:Str->Option Kd) (G:Sc) (qs:List Qn) (ks:List D):Prop:=∀ {e:En}{n i:Nat}{M0:Mp}{x a b:Addr}{ws fs:List D}{K:List (Key×D)}{S':D}{ps:List D},Wc (w.ca 0) M0 x a b->dh K G->uD S' S M0 a b->WH (1+qs.length) (fE qs) ps ws fs K ->
  Lp w (iW w) e n x (Wm M0 a b ws (fs++ks))->Lp w (iW w) e (n+Nl qs) x (Wm M0 a b (ws++(dg w K S' ps i qs).reverse) fs)
theorem Pd (O:Lw w) {S:Str->Option Kd}{G:Sc}{q:Qn}{d:D} (t:Tk S G q d):B1 w S G q d:=by
 refine @Tk.rec S (λG q d _=>B1 w S G q d) (λG qs ks _=>Pc w S G qs ks) ?_ ?_ ?_ ?_ ?_ ?_ ?_ _ _ _ t
 ·intro G y k h e n M0 x a b ws fs K S' ps W rg rs B k';rw[Nt];have b1:=B.p;have b2:=B.w;have b3:=B.f
  rw[mr O];exact turn O (.inl ⟨rfl,rfl⟩) W λQ hQ=>⟨M0,x,a,b,ws,fs,K,S',ps,_,rfl,rfl,W,by lia,by lia,by lia,(by decide:0<100),.inl ⟨y,_,rfl,rg _ _ h,hQ _ _ k'⟩⟩
 ·intro G y k h e n M0 x a b ws fs K S' ps W rg rs B k';rw[Nt];have b1:=B.p;have b2:=B.w;have b3:=B.f
  rw[mr O];exact turn O (.inl ⟨rfl,rfl⟩) W λQ hQ=>⟨M0,x,a,b,ws,fs,K,S',ps,_,rfl,rfl,W,by lia,by lia,by lia,(by decide:0<100),.inr (.inl ⟨y,_,rfl,rs _ _ _ _ h,hQ _ _ k'⟩)⟩
 ·intro G y qa qb k l _ _ t1 t2 e n M0 x a b ws fs K S' ps W rg rs B k';have b1:=B.p;have b2:=B.w;have b3:=B.f;have b4:=B.k
  rw[Nt];rw[dn]at b1 b2 b3 b4;rw[mr O,show n+(3+Nt qa+Nt qb)=(n+1+Nt qb+1+Nt qa)+1 by lia];refine turn O (.inl ⟨rfl,rfl⟩) W λQ hQ=>⟨M0,x,a,b,ws,fs,K,S',ps,_,rfl,rfl,W,by lia,by lia,by lia,(by decide:2<100),.inr (.inr (.inl ⟨y,qa,qb,.inl rfl,hQ _ _ ?_⟩))⟩;rw[show ws++[bb w 20 (.for y qa qb) (a3 K S' ps),bb w 18 qa (a3 K S' (ps++[.int 0]))]=(ws++[bb w 20 (.for y qa qb) (a3 K S' ps)])++[bb w 18 qa (a3 K S' (ps++[.int 0]))] by simp];refine t1 W rg rs ⟨by simp;lia,by simp;lia,by lia,by lia⟩ ?_;rw[fK O];have pl:=@BY K (.inr y) (kD l);refine turn O (.inr (.inl ⟨rfl,rfl⟩)) W λQ hQ=>⟨M0,x,a,b,ws,fs,K,S',ps,_,y,qa,qb,l,rfl,by lia,by lia,by lia,W,.inl ⟨rfl,rfl,hQ _ _ ?_⟩⟩;rw[show ws++[bb w 21 (.for y qa qb) (a3 K S' ps),bb w 18 qb (a3 (a9 K (.inr y) (kD l)) S' (ps++[.int 1]))]=(ws++[bb w 21 (.for y qa qb) (a3 K S' ps)])++[bb w 18 qb (a3 (a9 K (.inr y) (kD l)) S' (ps++[.int 1]))] by simp];refine t2 W rg.put rs ⟨by simp;lia,by simp;lia,by lia,by lia⟩ ?_;exact B0 O W (by rw[if_pos (show wd (.for y qa qb)="for" from rfl)];rfl) (by decide:2<100) (by lia) Pb k'
 ·intro G y qa qb l d _ _ t1 t2 e n M0 x a b ws fs K S' ps W rg rs B k';have b1:=B.p;have b2:=B.w;have b3:=B.f;have b4:=B.k
  rw[Nt];rw[dn]at b1 b2 b3 b4;rw[mr O,show n+(2+Nt qa+Nt qb)=(n+Nt qb+1+Nt qa)+1 by lia];refine turn O (.inl ⟨rfl,rfl⟩) W λQ hQ=>⟨M0,x,a,b,ws,fs,K,S',ps,_,rfl,rfl,W,by lia,by lia,by lia,(by decide:2<100),.inr (.inr (.inl ⟨y,qa,qb,.inr rfl,hQ _ _ ?_⟩))⟩;rw[show ws++[bb w 20 (.let y qa qb) (a3 K S' ps),bb w 18 qa (a3 K S' (ps++[.int 0]))]=(ws++[bb w 20 (.let y qa qb) (a3 K S' ps)])++[bb w 18 qa (a3 K S' (ps++[.int 0]))] by simp];refine t1 W rg rs ⟨by simp;lia,by simp;lia,by lia,by lia⟩ ?_;rw[fK O];have pl:=@BY K (.inr y) (kD l);refine turn O (.inr (.inl ⟨rfl,rfl⟩)) W λQ hQ=>⟨M0,x,a,b,ws,fs,K,S',ps,_,y,qa,qb,l,rfl,by lia,by lia,by lia,W,.inr ⟨rfl,rfl,hQ _ _ ?_⟩⟩;exact t2 W rg.put rs ⟨by simp;lia,by lia,by lia,by lia⟩ k'
 ·intro G q ks d p ht F hu t e n M0 x a b ws fs K S' ps W rg rs B k';have hN:=O9 p.v p.t p.f p.l;have hb:=uC q;have b1:=B.p;have b2:=B.w;have b3:=B.f;have b4:=B.k
  rw[hN];rw[hb]at b1 b2 b3 b4;rw[mr O,show n+(2+Nl (us q))=(n+1+Nl (us q))+1 by lia];refine turn O (.inl ⟨rfl,rfl⟩) W λQ hQ=>⟨M0,x,a,b,ws,fs,K,S',ps,q,rfl,rfl,W,by lia,by lia,by lia,hu,.inr (.inr (.inr ⟨p,hQ _ _ ?_⟩))⟩;refine t W rg rs ⟨by lia,by simp;lia,by lia,by lia⟩ ?_;exact B0 O W (by rw[if_neg p.f,ht.len]) hu (by lia) F k'
 ·intro G e n i M0 x a b ws fs K S' ps W rg rs B k';rw[dg,List.reverse_nil,YH];rw[YH]at k';exact k'
 ·intro G q r d s _ B2 t ts e n i M0 x a b ws fs K S' ps W rg rs B k';have b1:=B.p;have b2:=B.w;have b3:=B.f;have b4:=B.k
  rw[Nl];rw[fE,Yv]at b1 b2 b3;rw[fE]at b4;have Ut:(dg w K S' ps (i+1) r).length=r.length:=uo;rw[dg,Zz,<- YT,show n+(Nt q+Nl r)=n+Nl r+Nt q by lia];refine t W rg rs ⟨by simp;lia,by simp;lia,by lia,by lia⟩ ?_;refine ts W rg rs ⟨by lia,by lia,by simp;lia,by lia⟩ ?_;rw[YT];exact k'
def B3 (w:Wo):Sp:=λds M Q _=>∃M0 x a b K S' S G q d,ds=[.ref x]/\M=Wm M0 a b [bb w 18 q (a3 K S' [])] []/\Wc (w.ca 0) M0 x a b/\dh K G/\uD S' S M0 a b/\Tk S G q d/\dn q<500/\K.length<500/\Q d (Wm M0 a b [] [])
theorem Pe (O:Lw w):c7 w 4 7 (B3 w):=by
 refine iL O.ok O.hn _ ⟨"run",(bj (top 14) 4),["self"]⟩ (by rw[O.hms];rfl) (Vf w (iW w)) { cs:=trivial,ca:=?_ } uz uA λds M Q _ h=>?_
 ·rintro f sp (⟨rfl,rfl⟩ |⟨rfl,rfl⟩ |⟨rfl,rfl⟩)
  ·exact FO.b8 ((OL O).mono (by decide)) (d:=⟨"begin_kinds",top 28,["walk","question","around"]⟩) (by rw[O.hd];rfl)
  ·exact FO.b8 ((OE O).mono (by decide)) (d:=⟨"bind",top 31,["walk","question","around"]⟩) (by rw[O.hd];rfl)
  ·exact FO.b8 (Oq O (O8 O)) (d:=⟨"finish",top 32,["walk","question","around"]⟩) (by rw[O.hd];rfl)
 obtain⟨M0,x,a,b,K,S',S,G,q,d,rfl,rfl,W,rg,rs,t,hn,f6,h⟩:=h;refine⟨rfl,1+Nt q,?_⟩;refine Pd O t (ws:=[]) (fs:=[]) (n:=1) W rg rs ⟨by simp;lia,by simp;lia,by simp;lia,by lia⟩ (over O W λ_ _ _=>?_) _ _ _;obtain⟨dx,hx⟩:=W.gx (ws:=[]) (fs:=[]++[d]);refine⟨_,dx,_,hx,.ref b,O.UK,rfl,.inl ⟨rfl,_,Wm.gb⟩,_,Wm.gb,d,rfl,?_⟩;rw[Wm.pb];exact ao h
theorem pI {C x dx a b:Addr}{M:Mp}{i0 i1:List (Str×D)}{ws fs:List D} (h1:M x=none) (h2:M dx=none) (h3:up (up M dx (.own x)) x (.ins C dx i0) a=none) (h4:up (up M dx (.own x)) x (.ins C dx i0) b=none) (n1:dx≠x) (n2:a≠b):cg M (Wm (up (up (up M dx (.own x)) x (.ins C dx i0)) x (.ins C dx i1)) a b ws fs)/\Wc C (up (up (up M dx (.own x)) x (.ins C dx i0)) x (.ins C dx [("waiting",.ref a),("found",.ref b)])) x a b:=by
 have xa:x≠a:=by rintro rfl;rw[au]at h3;cases h3
 have xb:x≠b:=by rintro rfl;rw[au]at h4;cases h4
 have da:dx≠a:=by rintro rfl;rw[ax n1,au]at h3;cases h3
 have db:dx≠b:=by rintro rfl;rw[ax n1,au]at h4;cases h4
 rw[ax (Zl xa),ax (Zl da)]at h3;rw[ax (Zl xb),ax (Zl db)]at h4;refine⟨KZ (λc hc=>?_) λc e q cH=>?_,⟨dx,au⟩,n2,xa,xb⟩
 ·unfold Wm;rw[ax,ax,ax,ax,ax]
  ·rintro rfl;exact hc h2
  ·rintro rfl;exact hc h1
  ·rintro rfl;exact hc h1
  ·rintro rfl;exact hc h3
  ·rintro rfl;exact hc h4
 ·unfold Wm at q;by_cases WI:c=b
  ·subst WI;rw[au]at q;cases q
  rw[ax WI]at q;by_cases ca:c=a
  ·subst ca;rw[au]at q;cases q
  rw[ax ca]at q;by_cases V4:c=x
  ·subst V4;rw[au]at q;cases q
  rw[ax V4,ax V4]at q;by_cases cd:c=dx
  ·subst cd;rw[au]at q;cases q;exact absurd h1 cH
  rw[ax cd]at q;exact q
noncomputable def Pf:B:=.cons (.ret (.aU 4 (.v 3) .nil)) .nil
noncomputable def Pg:B:=.cons (.ex (.aU 1 (.v 3) (.cons (.g 18) (.cons (.v 0) (.cons (.tup (.cons (.v 1) (.cons (.v 2) (.cons (.tup .nil) .nil)))) .nil))))) Pf
noncomputable def Ph:B:=.cons (.set (.one 3) (.new 0 .nil)) Pg
theorem Pj:ay ["question","kinds","stock","walk"] ["question","kinds","stock"] (af (top 27)):=⟨rfl,rfl,rfl,by decide +kernel,rfl,by decide +kernel,by decide +kernel⟩
theorem Pk:aC nm 40 ["question","kinds","stock","walk"] (af (top 27)) (ar (top 27))=Ph:=by kernel_rfl
def j':Sp:=λds M Q _=>∃K S' S G q d,ds=[qD q,dD K,S']/\dh K G/\gw S' S M/\Tk S G q d/\dn q<500/\K.length<500/\Q d M
noncomputable abbrev Xo (w:Wo):aS w:={ ms:=[(1,fA w),(4,B3 w)],ci:=[(0,0,pF w)] }
theorem Pm (O:Lw w):FO w 11 8 j':=by
 refine aI O.ok O.hn _ ⟨"kind_of",top 27,["question","kinds","stock"]⟩ (by rw[O.hd];rfl) (Xo w) { cs:=trivial,ms:=⟨⟨1,by decide,iT O⟩,⟨7,by decide,Pe O⟩,trivial⟩,ci:=⟨⟨O.mc _ (by decide),by rw[O.hms];rfl,1,by decide,uk O⟩,trivial⟩ } Pj Pk λds M Q _ h=>?_;obtain⟨K,S',S,G,q,d,rfl,rg,rs,t,hn,f6,h⟩:=h;have m2:w.ca 0=w.mc 1:=(O.mc _ (by decide)).symm;have m5:w.ca 0=w.mc 4:=(O.mc _ (by decide)).symm;refine⟨rfl,λx dx hx ka nd=>⟨x,dx,rfl,au,λa b ha hb ne=>⟨rfl,?_⟩⟩⟩;obtain⟨sb,W⟩:=pI (i1:=[("waiting",.ref a),("found",.ref b)]) (ws:=[]) (fs:=[]) hx ka ha hb nd ne;obtain⟨dy,hy⟩:=W.gx (ws:=[]) (fs:=[]);refine⟨_,dy,_,hy,m2,bo (by decide +kernel) (by decide +kernel),YE _,l3,x,a,b,dy,_,_,_,[],rfl,hy,W.ga,by decide,?_⟩;rw[W.pa];obtain⟨Vg,hz⟩:=W.gx (ws:=[]++[.tup [w.gv.getD 18 .aj,qD q,.tup [dD K,S',.tup []]]]) (fs:=[]);exact⟨_,Vg,_,hz,m5,bo (by decide +kernel) (by decide +kernel),_,x,a,b,K,S',S,G,q,d,rfl,rfl,W,rg,λws fs y k e=>let ⟨kvs,h1,h2⟩:=rs y k e;⟨kvs,h1.up (pI (ws:=ws) (fs:=fs) hx ka ha hb nd ne).1.sub,h2⟩,t,hn,f6,me sb h⟩
variable {w:Wo}
noncomputable def tD:D:=.tup [.str "truth"]
section
variable {S:Str->Option Kd}{G:Sc}
theorem Pn {i:Nat}{p:Str×(Qn->List D->D->Prop)} (h:fC[i]?=some p):p∈fC:=Y4 h
theorem bD {q:Qn}{ks ds:List D} (i:Nat) {p:Str×(Qn->List D->D->Prop)} (h:fC[i]?=some p) (hp:p.2 q ks (.tup ds)) (ht:br.any (λx=>decide (x=(wd q,p.1)))=true:=by rw[wd];decide +kernel):mq q ks (.tup ds):=by
 refine⟨⟨ds,rfl⟩,p,Pn h,?_,hp⟩;obtain⟨x,hx,e⟩:=List.any_eq_true.mp ht;rw[<- of_decide_eq_true e];exact hx
theorem pl {q:Qn} (h:wd q≠"var":=by rw[wd];decide) (h2:wd q≠"table":=by rw[wd];decide) (h3:wd q≠"for":=by rw[wd];decide) (h4:wd q≠"let":=by rw[wd];decide):Pl q:=⟨λy e=>h (by rw[e];rfl),λy e=>h2 (by rw[e];rfl),h3,h4⟩
theorem n0:0<100:=by decide
theorem n1:1<100:=by decide
theorem n2:2<100:=by decide
theorem Po {i:Int}:Tk S G (.num i) (kD .num):=.cW pl .nil (bD 0 rfl (.inl ⟨⟨i,rfl⟩,rfl⟩)) n0
theorem Pp {i:Str}:Tk S G (.word i) (kD .word):=.cW pl .nil (bD 0 rfl (.inr ⟨⟨i,rfl⟩,rfl⟩)) n0
theorem Pq {k:Kd}:Tk S G (.none k) (kD (.ai k)):=.cW pl .nil (bD 4 rfl ⟨k,rfl,rfl⟩) n0
theorem Pr {q:Qn}{k:Kd} (h:Tk S G q (kD k)):Tk S G (.one q) (kD (.ai k)):=.cW pl (.cons h .nil) (bD 5 rfl ⟨k,rfl,rfl⟩) n1
theorem Pt {a b:Qn}{k:Kd} (hz:kz k<900) (h:Tk S G a (kD (.ai k))) (h':Tk S G b (kD (.ai k))):Tk S G (.both a b) (kD (.ai k)):=.cW pl (.cons h (.cons h' .nil)) (bD 6 rfl ⟨k,hz,rfl,rfl⟩) n2
theorem Pu {i:Int}{q:Qn}{k:Kd} (h:Tk S G q (kD (.ai k))):Tk S G (.times i q) (kD (.ai k)):=.cW pl (.cons h .nil) (bD 7 rfl ⟨[],k,rfl,rfl⟩) n1
theorem Pw {a b:Qn}{k:Kd} (h:Tk S G a tD) (h':Tk S G b (kD (.ai k))):Tk S G (.bh a b) (kD (.ai k)):=.cW pl (.cons h (.cons h' .nil)) (bD 7 rfl ⟨[tD],k,rfl,rfl⟩) n2
theorem Px {a b:Qn} (h:Tk S G a (kD .num)) (h':Tk S G b (kD .num)):Tk S G (.add a b) (kD .num):=.cW pl (.cons h (.cons h' .nil)) (bD 3 rfl ⟨rfl,rfl⟩) n2
theorem Py {a b:Qn} (h:Tk S G a (kD .num)) (h':Tk S G b (kD .num)):Tk S G (.mul a b) (kD .num):=.cW pl (.cons h (.cons h' .nil)) (bD 3 rfl ⟨rfl,rfl⟩) n2
theorem B4 {a b:Qn}{k:Kd} (hk:k=.num\/k=.word) (h:Tk S G a (kD k)) (h':Tk S G b (kD k)):Tk S G (.same a b) tD:=.cW pl (.cons h (.cons h' .nil)) (bD 8 rfl ⟨hk.imp (λe=>by rw[e]) (λe=>by rw[e]),rfl⟩) n2
theorem Pz {a b:Qn} (h:Tk S G a (kD .num)) (h':Tk S G b (kD .num)):Tk S G (.under a b) tD:=.cW pl (.cons h (.cons h' .nil)) (bD 9 rfl ⟨rfl,rfl⟩) n2
theorem PB {a b:Qn} (h:Tk S G a tD) (h':Tk S G b tD):Tk S G (.and a b) tD:=.cW pl (.cons h (.cons h' .nil)) (bD 10 rfl rfl) n2
theorem PC {a b:Qn} (h:Tk S G a tD) (h':Tk S G b tD):Tk S G (.or a b) tD:=.cW pl (.cons h (.cons h' .nil)) (bD 10 rfl rfl) n2
theorem PD {a:Qn} (h:Tk S G a tD):Tk S G (.not a) tD:=.cW pl (.cons h .nil) (bD 10 rfl rfl) n1
theorem PH {f:Str}{q:Qn}{fs:List (Str×Kd)}{k:Kd} (nd:(fs.map (·.1)).Nodup) (hf:lk f fs=some k) (h:Tk S G q (kD (.row fs))):Tk S G (.at f q) (kD k):=by
 have key:∀x,x=kD k->Tk S G (.at f q) x:=by
  intro x hx;obtain⟨ds,e⟩:∃ds,x=.tup ds:=by rw[hx];cases k <;> exact⟨_,by rw[kD]⟩
  subst e;exact .cW pl (.cons h .nil) (bD 2 rfl ⟨f,q,fs,k,rfl,rfl,nd,hf,hx⟩) (by show 1<100;decide)
 exact key _ rfl
theorem PJ {fs:List (Str×Qn)} {κs:List Kd} (hl:fs.length<100) (hk:κs.length=fs.length) (h:hE S G (fs.map (·.2)) (κs.map kD)):Tk S G (.row fs) (kD (.row ((fs.map (·.1)).zip κs))):=by
 rw[kD];exact .cW pl h (bD 1 rfl ⟨fs,κs,rfl,rfl,hk,hl,by rw[kD]⟩) (by show (fs.map (·.2)).length<100;simpa using hl)
end
section
variable {S:Str->Option Kd}
theorem B5 {G:Sc}{q:Qn}{k:Kd}:Ty S G q k->Tk S G q (kD k):=
 (Ty.all (P:=λG q k=>Tk S G q (kD k)) (L:=λG fs ks=>∃ κs:List Kd,κs.length=fs.length/\ks=(fs.map (·.1)).zip κs/\hE S G (fs.map (·.2)) (κs.map kD)) (C:=λG q=>Tk S G q tD)
  Po Pp .var .tab (λ_ _=>Pq) (λl _ h=>by
   obtain⟨κs,e1,e2,e3⟩:=h;rw[e2];exact PJ l e1 e3) (λn h e=>PH n e h) Px Py Pr Pt Pu (λ_=>.for) Pw (λ_=>.let) ⟨[],rfl,rfl,.nil⟩ (λ{_ _ _ k _ _} h e=>by
   obtain⟨κs,e1,e2,e3⟩:=e;exact⟨k::κs,by rw[Yv,Yv,e1],by rw[e2];rfl,.cons h e3⟩)
  (B4 (.inl rfl)) (B4 (.inr rfl)) Pz PB PC PD).1
end
theorem j1 {m a:Nat} (h:m<=a):1+m<=1+a:=Nat.add_le_add_left h 1
theorem V5 {m n a b:Nat} (h:m<=a) (e:n<=b):max m n<=max a b:=Nat.max_le.mpr ⟨Yy h (Nat.le_max_left ..),Yy e (Nat.le_max_right ..)⟩
theorem j2 {m n a b:Nat} (h:m<=a) (e:n<=b):1+max m n<=1+max a b:=j1 (V5 h e)
mutual
theorem bF:∀q:Qn,dn q<=dq q
 |.row fs=>Nat.add_le_add (by decide) (B6 fs)
 |.at _ a=>j1 (bF a) |.one a=>j1 (bF a) |.times _ a=>j1 (bF a) |.not a=>j1 (bF a)
 |.add a b=>j2 (bF a) (bF b) |.mul a b=>j2 (bF a) (bF b) |.both a b=>j2 (bF a) (bF b) |.for _ a b=>Nat.add_le_add (by decide) (V5 (bF a) (bF b)) |.bh a b=>j2 (bF a) (bF b) |.let _ a b=>j2 (bF a) (bF b)
 |.same a b=>j2 (bF a) (bF b) |.under a b=>j2 (bF a) (bF b) |.and a b=>j2 (bF a) (bF b) |.or a b=>j2 (bF a) (bF b)
 |.num _=>Yr _ |.word _=>Yr _ |.var _=>Yr _ |.tab _=>Yr _ |.none _=>Z5 ..
theorem B6:∀fs:List (Str×Qn),j9 fs<=bV fs
 |[]=>Yr _
 |(_,q)::r=>V5 (bF q) (B6 r)
end
variable {w:Wo}
mutual
noncomputable def aE:Qn->List Str
 |.tab x=>[x]
 |.row fs=>kb fs
 |.at _ q=>aE q
 |.one q=>aE q
 |.times _ q=>aE q
 |.not q=>aE q
 |.add a b=>aE a++aE b
 |.mul a b=>aE a++aE b
 |.both a b=>aE a++aE b
 |.for _ a b=>aE a++aE b
 |.bh a b=>aE a++aE b
 |.let _ a b=>aE a++aE b
 |.same a b=>aE a++aE b
 |.under a b=>aE a++aE b
 |.and a b=>aE a++aE b
 |.or a b=>aE a++aE b
 |.num _=>[] |.word _=>[] |.var _=>[] |.none _=>[]
noncomputable def kb:List (Str×Qn)->List Str
 |[]=>[]
 |(_,q)::r=>aE q++kb r
end
mutual
def wq:Qn->Prop
 |.row fs=>fs.length<100/\mu fs
 |.at _ q=>wq q
 |.one q=>wq q
 |.times _ q=>wq q
 |.not q=>wq q
 |.add a b=>wq a/\wq b
 |.mul a b=>wq a/\wq b
 |.both a b=>wq a/\wq b
 |.for _ a b=>wq a/\wq b
 |.bh a b=>wq a/\wq b
 |.let _ a b=>wq a/\wq b
 |.same a b=>wq a/\wq b
 |.under a b=>wq a/\wq b
 |.and a b=>wq a/\wq b
 |.or a b=>wq a/\wq b
 |.num _=>True |.word _=>True |.var _=>True |.none _=>True |.tab _=>True
def mu:List (Str×Qn)->Prop
 |[]=>True
 |(_,q)::r=>wq q/\mu r
end
noncomputable def bG:List Qn->Nat
 |[]=>0
 |q::r=>nq q+bG r
theorem uE:∀{a b:List Qn},bG (a++b)=bG a+bG b
 |[],b=>by rw[List.nil_append,bG];lia
 |q::r,b=>by rw[ZH,bG,bG,uE];lia
theorem B7:∀fs:List (Str×Qn),bG (fs.map (·.2))=b7 fs
 |[]=>by rw[b7];rfl
 |(x,q)::r=>by rw[b7,<- B7 r];rfl
theorem iX (q:Qn):nq q=1+bG (us q):=by
 cases q with
 |row fs=>rw[nq,us,B7]
 |_=>simp [nq,us,bG,Nat.add_assoc]
theorem B8:∀fs:List (Str×Qn),(fs.map (·.2)).flatMap aE=kb fs
 |[]=>by rw[kb];rfl
 |(x,q)::r=>by rw[kb,<- B8 r];rfl
theorem PK {q:Qn} (h:∀x,q≠.tab x):aE q=(us q).flatMap aE:=by
 cases q with
 |tab x=>exact absurd rfl (h x)
 |row fs=>rw[aE,us,B8]
 |_=>simp [aE,us]
theorem B9:∀fs:List (Str×Qn),mu fs->∀p∈fs.map (·.2),wq p
 |[],_,p,h=>by cases h
 |(x,q)::r,hw,p,h=>by
  rw[mu]at hw;rcases List.mem_cons.mp h with e |h
  ·rw[e];exact hw.1
  ·exact B9 r hw.2 p h
theorem pJ {q:Qn} (h:wq q):(us q).length<100/\∀p∈us q,wq p:=by
 cases q with
 |row fs=>rw[wq]at h;rw[us];exact⟨by simpa using h.1,B9 fs h.2⟩
 |_=>simp [us] <;> simpa [wq] using h
structure Fq (S:Str->Option Kd) (q:Qn):Prop where
 w:wq q
 t:∀x∈aE q,∃l,S x=some l
section
variable {S:Str->Option Kd}
theorem f2 {a b:Qn} (h:Fq S a) (e:Fq S b):(wq a/\wq b)/\∀x∈aE a++aE b,∃l,S x=some l:=⟨⟨h.w,e.w⟩,λx z=>(List.mem_append.mp z).elim (h.t x) (e.t x)⟩
theorem eY {q a b:Qn} (hw:wq q=(wq a/\wq b)) (ht:aE q=aE a++aE b) (h:Fq S a) (e:Fq S b):Fq S q:=⟨hw ▸ (f2 h e).1,ht ▸ (f2 h e).2⟩
theorem B' {G:Sc}{q:Qn}{k:Kd}:Ty S G q k->Fq S q:=
 (Ty.all (P:=λ_ q _=>Fq S q) (L:=λ_ fs _=>mu fs/\∀x∈kb fs,∃l,S x=some l) (C:=λ_ q=>Fq S q)
  ⟨aai,λ_ z=>nomatch z⟩ ⟨aai,λ_ z=>nomatch z⟩ (λ_=>⟨aai,λ_ z=>nomatch z⟩) (λh=>⟨aai,λx z=>by rw[List.mem_singleton.mp z];exact⟨_,h⟩⟩) (λ_ _=>⟨aai,λ_ z=>nomatch z⟩) (λl _ h=>⟨⟨l,h.1⟩,h.2⟩) (λ_ h _=>⟨h.w,h.t⟩)
  (eY rfl rfl) (eY rfl rfl) (λh=>⟨h.w,h.t⟩) (λ_=>eY rfl rfl) (λh=>⟨h.w,h.t⟩) (λ_=>eY rfl rfl) (eY rfl rfl) (λ_=>eY rfl rfl) ⟨aai,λ_ z=>nomatch z⟩ (λh e=>⟨⟨h.w,e.1⟩,λx z=>(List.mem_append.mp z).elim (h.t x) (e.2 x)⟩)
  (eY rfl rfl) (eY rfl rfl) (eY rfl rfl) (eY rfl rfl) (eY rfl rfl) (λh=>⟨h.w,h.t⟩)).1
end
theorem uF {x:Str}{p:Qn}:x∈aE p ↔ (p=.tab x\/x∈(us p).flatMap aE):=by
 by_cases h:∃y,p=.tab y
 ·obtain⟨y,rfl⟩:=h;simp [aE,us,eq_comm]
 ·rw[PK λy e=>h ⟨y,e⟩];exact⟨.inr,λz=>z.elim (λe=>absurd ⟨x,e⟩ h) id⟩
theorem uG:∀l:List Qn,l.length<=bG l
 |[]=>Yr _
 |q::r=>by have:=uG r;rw[bG,iX,Yv];lia
noncomputable def PM:B:=.cons (.ret (.v 1)) .nil
noncomputable def Cb:B:=.cons (.jL (.v 2) (.cons (.set (.one 3) (.mt .pop (.v 2) .nil)) (.cons (.ex (.mt .append (.v 1) (.cons (.v 3) .nil))) (.cons (.ex (.mt .extend (.v 2) (.cons (.call 0 (.cons (.v 3) .nil)) .nil))) .nil)))) PM
noncomputable def PN:B:=.cons (.set (.one 2) (.lst (.cons (.v 0) .nil))) Cb
noncomputable def PQ:B:=.cons (.set (.one 1) (.lst .nil)) PN
theorem PR:ay ["question","found","waiting","part"] ["question"] (af (top 11)):=⟨rfl,rfl,rfl,by decide +kernel,rfl,by decide +kernel,by decide +kernel⟩
theorem PU:aC nm 40 ["question","found","waiting","part"] (af (top 11)) (ar (top 11))=PQ:=by kernel_rfl
def Cc:Sp:=λds M Q _=>∃q,ds=[qD q]/\wq q/\nq q<1000000/\∀kl:List Qn,(∀x,Qn.tab x∈kl ↔ x∈aE q)->kl.length<=nq q->Q (.lst (kl.map qD)) M
noncomputable abbrev uH (w:Wo):aS w:={ cs:=[(0,j6)] }
theorem PV {M:Mp}{q0:Qn}{a b:Addr}{e:En} (hq:nq q0<1000000) (ne:a≠b) (h:∀ v (kl:List Qn),(∀ x,Qn.tab x∈kl ↔ x∈aE q0)->kl.length<=nq q0->e.nx [some (qD q0),some (.ref a),some (.ref b),v] (Wm M a b (kl.map qD) [])) :
  ∀(n:Nat) (ws kl:List Qn) v,bG ws=n->(∀p∈ws,wq p)->(∀x,(Qn.tab x∈kl\/x∈ws.flatMap aE) ↔ x∈aE q0)->kl.length+n<=nq q0 ->
   hZ (E.w (uH w).wd nm.ah (.v 2)).2 (B.w (uH w).wd nm.ah (uy (jZ Cb))) e (n+1) [some (qD q0),some (.ref a),some (.ref b),v] (Wm M a b (kl.map qD) (ws.map qD)):=by
 have ga:∀{ws fs:List D},Wm M a b ws fs a=some (.lst ws):=by intro ws fs;unfold Wm;rw[ax ne];exact au
 have pa:∀{ws fs cr:List D},up (Wm M a b ws fs) a (.lst cr)=Wm M a b cr fs:=by intro ws fs cr;unfold Wm;rw[mh (Zl ne),_root_.N.cF]
 intro n
 induction n with
 |zero=>
  intro ws kl v e1 hw ht hl;have:ws=[]:=by
   cases ws with
   |nil=>rfl
   |cons p r=>rw[bG,iX]at e1;lia
  subst this;exact .inl ⟨_,Wm.gb,h v kl (λx=>by have:=ht x;simpa using this) (by lia)⟩
 |succ n ih=>
  intro ws kl v e1 hw ht hl;rcases aaa ws with rfl |⟨init,p,rfl⟩
  ·cases e1
  rw[ZV]at e1 hw ht ⊢;have wp:=pJ (hw p (by simp));rw[uE,bG,bG,iX p]at e1;have hn:(!((init++[p]).map qD).isEmpty)=true:=by simp
  refine .inl ⟨_,Wm.gb,?_⟩;rw[hn];have bl:=uG (us p);have bi:=uG init;refine⟨.inl ⟨rfl,_,Wm.gb⟩,_,Wm.gb,qD p,by simp,?_⟩;rw[Wm.pb,YS,Yu,Zp,List.dropLast_concat];refine⟨.inl ⟨rfl,_,ga⟩,_,ga,YA (by rw[Ym];lia:_<=1000000) (by decide),?_⟩;rw[pa];refine⟨.inl ⟨rfl,_,Wm.gb⟩,p,rfl,wp.1,_,Wm.gb,Yy (by rw[Ym,Ym];lia:_<=2000000) (by decide),?_⟩;have UP:kl.map qD++[qD p]=(kl++[p]).map qD:=by simp
  rw[Wm.pb,<- YS,UP];refine ih (init++us p) (kl++[p]) _ (by rw[uE];lia) (λr hr=>?_) (λx=>?_) (by rw[YB,List.length_singleton];lia)
  ·rcases List.mem_append.mp hr with z |z
   ·exact hw r (aal _ z)
   ·exact wp.2 r z
  ·rw[<- ht x,List.flatMap_append,List.flatMap_append,ZQ,ZQ,ZQ,List.mem_singleton,List.flatMap_cons,List.flatMap_nil,YH,uF (p:=p)];constructor
   ·rintro ((z |z) |z |z)
    ·exact .inl z
    ·exact .inr (.inr (.inl z.symm))
    ·exact .inr (.inl z)
    ·exact .inr (.inr (.inr z))
   ·rintro (z |z |z |z)
    ·exact .inl (.inl z)
    ·exact .inr (.inl z)
    ·exact .inl (.inr z.symm)
    ·exact .inr (.inr z)
theorem PX (O:Lw w):FO w 2 2 Cc:=by
 refine aI O.ok O.hn _ ⟨"knots",top 11,["question"]⟩ (by rw[O.hd];rfl) (uH w) { cs:=⟨⟨1,by decide,mm O⟩,trivial⟩ } PR PU λds M Q _ h=>?_;obtain⟨q,rfl,hw,hn,h⟩:=h;refine⟨rfl,YE _,.inr λa ha=>⟨l1,.inr λb hb=>⟨nq q+1,?_⟩⟩⟩;have ne:a≠b:=by rintro rfl;rw[au]at hb;cases hb
 rw[ax (Zl ne)]at hb;refine PV (M:=M) hn ne ?_ (nq q) [q] [] _ (by rw[bG,bG];lia) (λp hp=>by rw[List.mem_singleton.mp hp];exact hw) (λx=>by simp) (by simp);intro v kl e2 e3;refine AI (M:=M) ?_ ha (by unfold Wm;rw[ax ne];exact au) (h kl e2 e3);exact pe (pe .rfl ha rfl) hb rfl
noncomputable def tn:Qn->Option Str
 |.tab x=>some x
 |_=>none
theorem Cd {kl:List Qn}{x:Str}:x∈kl.filterMap tn ↔ Qn.tab x∈kl:=by
 rw[List.mem_filterMap];constructor
 ·rintro⟨g,h1,h2⟩;cases g <;> cases h2;exact h1
 ·exact λh=>⟨_,h,rfl⟩
noncomputable def PY:B:=(.cons (.ret (.sset (.lc 1 [] (.one 0) (.seq (.call 2 (.cons (.v 0) .nil))) (.cmp .Eq (.ix (.v 0) (.c (.int 0))) (.c (.str "table"))) (.ix (.v 0) (.c (.int 1)))))) .nil)
theorem PZ:ay ["question"] ["question"] (af (top 12)):=⟨rfl,rfl,rfl,by decide +kernel,rfl,by decide +kernel,by decide +kernel⟩
theorem P0:aC nm 40 ["question"] (af (top 12)) (ar (top 12))=PY:=by kernel_rfl
def Ce:Sp:=λds M Q _=>∃(q:Qn) (N:List Str),ds=[qD q]/\wq q/\nq q<1000000/\N.length<64/\(∀x∈aE q,x∈N)/\∀ys:List Str,ys.Nodup->(∀x,x∈ys ↔ x∈aE q)->Q (.lst (ys.map D.str)) M
theorem P1 (O:Lw w):FO w 3 3 Ce:=by
 refine aI O.ok O.hn _ ⟨"tables",top 12,["question"]⟩ (by rw[O.hd];rfl) { cs:=[(2,Cc)] } { cs:=⟨⟨2,by decide,PX O⟩,trivial⟩ } PZ P0 λds M Q _ h=>?_;obtain⟨q,N,rfl,hw,hn,hN,hs,h⟩:=h;refine⟨rfl,q,rfl,hw,hn,λkl hk hl=>?_⟩;refine gm (λxs ys M'=>M'=M/\∃rest pre,xs=rest.map qD/\kl=pre++rest/\ys=(pre.filterMap tn).map D.str) ?_ ?_ _ _ _ ⟨rfl,kl,[],rfl,rfl,rfl⟩
 ·rintro ys M' ⟨rfl,rest,pre,e1,e2,rfl⟩;have:rest=[]:=by simpa using e1.symm
  subst this;rw[YH]at e2;subst e2;have ln:(kl.filterMap tn).length<=kl.length:=List.length_filterMap_le ..;exact⟨trivial,YA (by rw[Ym];lia:_<=1000000) (by decide),.inl ⟨kl.filterMap tn,N,rfl,hN,λx hx=>hs x ((hk x).mp (Cd.mp hx)),λys nd hy _=>.inl (ao (h ys nd λx=>(hy x).trans (Cd.trans (hk x))))⟩⟩
 ·rintro x xs ys M' ⟨rfl,rest,pre,e1,e2,rfl⟩;cases rest with
  |nil=>cases e1
  |cons g rest=>
   cases e1;have ln:(pre.filterMap tn).length<=pre.length:=List.length_filterMap_le ..;have lp:pre.length<=kl.length:=(by rw[e2];simp);refine⟨trivial,YA (by rw[Ym];lia:_<=1000000) (by decide),λN' pc=>?_⟩;by_cases hg:∃x,g=.tab x
   ·obtain⟨x,rfl⟩:=hg;exact⟨_,rfl,av (aW (by decide) ⟨_,rfl,pc _ _ ⟨rfl,rest,pre++[.tab x],rfl,by rw[e2];simp,by rw[List.filterMap_append,YS];rfl⟩⟩)⟩
   ·obtain⟨r,hr⟩:=fB g;have hd:=uq λx e=>hg ⟨x,e⟩;have ht:tn g=none:=by cases g <;> first |rfl |exact absurd ⟨_,rfl⟩ hg
    rw[hr];exact⟨_,g6,av (dW hd (pc _ _ ⟨rfl,rest,pre++[g],rfl,by rw[e2];simp,by rw[List.filterMap_append,List.filterMap_cons,ht,List.filterMap_nil,YH]⟩))⟩
abbrev Nv:=List (Str×Str)
noncomputable def aN (nv:Nv):List (Key×D):=nv.map λp=>(.inr p.1,.str p.2)
noncomputable def cX (x:Str):Nv->Option Str
 |[]=>none
 |(y,z)::r=>if y=x then some z else cX x r
theorem kc {x:Str}:∀{nv:Nv},aG (aN nv) (.inr x)=(cX x nv).map D.str
 |[]=>rfl
 |(y,z)::r=>by
  show aG ((.inr y,.str z)::aN r) (.inr x)=_;rw[fD,cX];by_cases e:y=x
  ·rw[if_pos (by rw[e]),if_pos e];rfl
  ·rw[if_neg (λh=>e (aap h)),if_neg e,kc]
noncomputable def hs (nv:Nv) (q:Qn):Bool:=(aE q).any λx=>(cX x nv).isSome
noncomputable def P2:B:=(.cons (.ret (.bi .any (.cons (.lc 1 [1] (.one 0) (.seq (.call 3 (.cons (.v 0) .nil))) .aq (.cmp .In (.v 0) (.v 1))) .nil))) .nil)
theorem P4:ay ["question","names"] ["question","names"] (af (top 50)):=⟨rfl,rfl,rfl,by decide +kernel,rfl,by decide +kernel,by decide +kernel⟩
theorem P5:aC nm 40 ["question","names"] (af (top 50)) (ar (top 50))=P2:=by kernel_rfl
def Cf:Sp:=λds M Q _=>∃(q:Qn) (N:List Str) (nv:Nv),ds=[qD q,dD (aN nv)]/\wq q/\nq q<1000000/\N.length<64/\(∀x∈aE q,x∈N)/\Q (.bl (hs nv q)) M
theorem Cg:∀{ys N:List Str},ys.Nodup->(∀x∈ys,x∈N)->ys.length<=N.length
 |[],N,_,_=>YE _
 |y::ys,N,nd,h=>by
  rw[Z9]at nd;have hy:=h y Ys;have:=Cg (N:=N.erase y) nd.2 λx hx=>(List.mem_erase_of_ne (by rintro rfl;exact nd.1 hx)).mpr (h x (Yt _ hx));rw[List.length_erase_of_mem hy]at this;have:=List.length_pos_of_mem hy;rw[Yv];lia
theorem P6 (O:Lw w):FO w 30 4 Cf:=by
 refine aI O.ok O.hn _ ⟨"names_some",top 50,["question","names"]⟩ (by rw[O.hd];rfl) { cs:=[(3,Ce)] } { cs:=⟨⟨3,by decide,P1 O⟩,trivial⟩ } P4 P5 λds M Q _ h=>?_;obtain⟨q,N,nv,rfl,hw,hn,hN,ht,h⟩:=h;refine⟨rfl,q,N,rfl,hw,hn,hN,ht,λys nd hy=>?_⟩;have ly:=Cg nd (N:=N) λx hx=>ht x ((hy x).mp hx);refine iN (M:=M) D.str (λx=>D.bl (cX x nv).isSome) ys ?_ (YA (by lia:_<=64) (by decide)) (λy _ N' pc=>?_) ?_
 ·exact trivial
 ·refine t6 ?_;rw[kc,Option.isSome_map];exact pc
 ·refine .inl ⟨ys.map λx=>(cX x nv).isSome,by rw[Zq];rfl,ao ?_⟩;have:((ys.map λx=>(cX x nv).isSome).any id)=hs nv q:=by
   rw[List.any_map];unfold hs;rw[Zv,List.any_eq_true,List.any_eq_true];constructor
   ·rintro⟨x,h1,h2⟩;exact⟨x,(hy x).mp h1,h2⟩
   ·rintro⟨x,h1,h2⟩;exact⟨x,(hy x).mpr h1,h2⟩
  show Q (.bl ((ys.map λx=>(cX x nv).isSome).any id)) M;rw[this];exact h
variable {w:Wo}
noncomputable def oD:Option Qn->D
 |none=>.aj
 |some q=>qD q
noncomputable def mv:Qn->Bool
 |.none _=>true
 |_=>false
noncomputable def mw:Option Qn->Bool
 |none=>true
 |some q=>mv q
noncomputable def P7:Option Qn->Qn->Qn
 |none,q=>q
 |some s,q=>.both s q
noncomputable def dC:Option Qn->List (Option Qn)->Option Qn
 |s,[]=>s
 |s,none::r=>dC s r
 |s,some q::r=>dC (some (P7 s q)) r
noncomputable def mf (x:Str):Option Qn->Option Qn->Option Qn
 |some a,some b=>if mv a ||mv b then none else some (.for x a b)
 |_,_=>none
theorem P8 (q:Qn):mv q=decide (wd q="none"):=by
 cases q with
 |none k=>rfl
 |_=>exact (decide_eq_false (by rw[wd];decide +kernel)).symm
noncomputable def P9:B:=(.cons (.ret (.or (.cmp .Is (.v 0) (.c .aj)) (.cmp .Eq (.ix (.v 0) (.c (.int 0))) (.c (.str "none"))))) .nil)
theorem P':ay ["question"] ["question"] (af (top 51)):=⟨rfl,rfl,rfl,by decide +kernel,rfl,by decide +kernel,by decide +kernel⟩
theorem Qa:aC nm 40 ["question"] (af (top 51)) (ar (top 51))=P9:=by kernel_rfl
def Ci:Sp:=λds M Q _=>∃o,ds=[oD o]/\Q (.bl (mw o)) M
theorem Qb (O:Lw w):FO w 31 1 Ci:=by
 refine aI O.ok O.hn _ ⟨"is_none",top 51,["question"]⟩ (by rw[O.hd];rfl) {} { cs:=trivial } P' Qa λds M Q _ h=>?_;obtain⟨o,rfl,h⟩:=h;cases o with
 |none=>exact⟨rfl,ao h⟩
 |some q=>
  have h:Q (.bl (mv q)) M:=h;rw[P8]at h;obtain⟨r,hr⟩:=fB q;have e:oD (some q)=.tup (.str (wd q)::r):=hr;rw[e];exact⟨rfl,_,g6,av (ao h)⟩
noncomputable def Qc:B:=.cons (.ret (.v 1)) .nil
noncomputable def Qd:B:=.cons (.loop (.one 2) (.seq (.lc 1 [] (.one 0) (.seq (.v 0)) (.cmp .IsNot (.v 0) (.c .aj)) (.v 0))) (.cons (.set (.one 1) (.ite (.cmp .Is (.v 1) (.c .aj)) (.v 2) (.tup (.cons (.c (.str "both")) (.cons (.v 1) (.cons (.v 2) .nil)))))) .nil)) Qc
noncomputable def Qe:B:=.cons (.set (.one 1) (.c .aj)) Qd
theorem Qf:ay ["parts","summed","part"] ["parts"] (af (top 52)):=⟨rfl,rfl,rfl,by decide +kernel,rfl,by decide +kernel,by decide +kernel⟩
theorem Qg:aC nm 40 ["parts","summed","part"] (af (top 52)) (ar (top 52))=Qe:=by kernel_rfl
def uJ:Sp:=λds M Q _=>∃ps:List (Option Qn),ds=[.lst (ps.map oD)]/\ps.length<100/\Q (oD (dC none ps)) M
theorem uK:∀{ps:List (Option Qn)}{s:Option Qn},dC s ps=dC s ((ps.filterMap id).map some)
 |[],s=>rfl
 |none::r,s=>by rw[dC,List.filterMap_cons];exact uK
 |some q::r,s=>by rw[dC,List.filterMap_cons];show _=dC s (some q::_);rw[dC];exact uK
theorem Cj (O:Lw w):FO w 32 1 uJ:=by
 refine aI O.ok O.hn _ ⟨"total",top 52,["parts"]⟩ (by rw[O.hd];rfl) {} { cs:=trivial } Qf Qg λds M Q _ h=>?_;obtain⟨ps,rfl,hl,h⟩:=h;rw[uK]at h;have ln:(ps.filterMap id).length<=ps.length:=List.length_filterMap_le ..;refine⟨rfl,?_⟩;refine gm (λxs ys M'=>M'=M/\∃rest pre,xs=rest.map oD/\ps=pre++rest/\ys=(pre.filterMap id).map qD) ?_ ?_ _ _ _ ⟨rfl,ps,[],rfl,rfl,rfl⟩
 ·rintro ys M' ⟨rfl,rest,pre,e1,e2,rfl⟩;have:rest=[]:=by simpa using e1.symm
  subst this;rw[YH]at e2;subst e2;refine⟨trivial,YA (by rw[Ym];lia:_<=100) (by decide),.inl ?_⟩;generalize ps.filterMap id=qs at h;refine eS (λxs τ X=>X=M'/\∃(rest:List Qn) (s:Option Qn) (v:Option D),xs=rest.map qD/\τ=[some (.lst (ps.map oD)),some (oD s),v]/\Q (oD (dC s (rest.map some))) M') ?_ ?_ _ _ _ ⟨rfl,qs,none,_,rfl,rfl,h⟩
  ·rintro τ X ⟨rfl,rest,s,v,e1,rfl,h⟩;have:rest=[]:=(by simpa using e1.symm);subst this;exact⟨trivial,.rfl (ao h)⟩
  ·rintro x xs τ X ⟨rfl,rest,s,v,e1,rfl,h⟩;cases rest with
   |nil=>cases e1
   |cons q rest=>
    cases e1;refine⟨trivial,λN hN=>?_⟩;cases s with
    |none=>exact hN _ _ ⟨rfl,rest,some q,_,rfl,rfl,h⟩
    |some t=>
     obtain⟨r,hr⟩:=fB t;have fin:N [some (.lst (ps.map oD)),some (oD (some (.both t q))),some (qD q)] X:=hN _ _ ⟨rfl,rest,some (.both t q),_,rfl,rfl,h⟩;have e:oD (some t)=.tup (.str (wd t)::r):=hr;have e2:oD (some (.both t q))=.tup [.str "both",.tup (.str (wd t)::r),qD q]:=(by rw[<- hr];rfl);rw[e2]at fin;rw[e];exact⟨l3,fin⟩
 ·rintro x xs ys M' ⟨rfl,rest,pre,e1,e2,rfl⟩;cases rest with
  |nil=>cases e1
  |cons o rest=>
   cases e1;have Uu:(pre.filterMap id).length<=pre.length:=List.length_filterMap_le ..;have lp:pre.length<=ps.length:=(by rw[e2];simp);refine⟨trivial,YA (by rw[Ym];lia:_<=100) (by decide),λN hN=>?_⟩;cases o with
   |none=>exact hN _ _ ⟨rfl,rest,pre++[none],rfl,by rw[e2];simp,by simp⟩
   |some t=>
    obtain⟨r,hr⟩:=fB t;have fin:N ((pre.filterMap id).map qD++[qD t]) M':=hN _ _ ⟨rfl,rest,pre++[some t],rfl,by rw[e2];simp,by simp⟩;have e:oD (some t)=.tup (.str (wd t)::r):=hr;rw[hr]at fin;rw[e];exact fin
noncomputable def Qh:B:=(.cons (.ret (.ite (.or (.call 31 (.cons (.v 1) .nil)) (.call 31 (.cons (.v 2) .nil))) (.c .aj) (.tup (.cons (.c (.str "for")) (.cons (.v 0) (.cons (.v 1) (.cons (.v 2) .nil))))))) .nil)
theorem Qi:ay ["name","over","inner"] ["name","over","inner"] (af (top 55)):=⟨rfl,rfl,rfl,by decide +kernel,rfl,by decide +kernel,by decide +kernel⟩
theorem Qj:aC nm 40 ["name","over","inner"] (af (top 55)) (ar (top 55))=Qh:=by kernel_rfl
def Ck:Sp:=λds M Q _=>∃x a b,ds=[.str x,oD a,oD b]/\Q (oD (mf x a b)) M
theorem Cm {x:Str}{a b:Option Qn} (h:mw a=true\/mw b=true):mf x a b=none:=by
 cases a with
 |none=>rfl
 |some a=>
  cases b with
  |none=>rfl
  |some b=>rw[mf,if_pos];simpa [mw] using h
theorem Qk (O:Lw w):FO w 35 2 Ck:=by
 refine aI O.ok O.hn _ ⟨"made_for",top 55,["name","over","inner"]⟩ (by rw[O.hd];rfl) { cs:=[(31,Ci)] } { cs:=⟨⟨1,by decide,Qb O⟩,trivial⟩ } Qi Qj λds M Q _ h=>?_;obtain⟨x,a,b,rfl,h⟩:=h;refine⟨rfl,a,rfl,aR (λe=>?_) λe=>⟨b,rfl,?_⟩⟩
 ·rw[Cm (.inl e)]at h;exact aW rfl (ao h)
 ·refine aR (λe'=>?_) λe'=>?_
  ·rw[Cm (.inr e')]at h;exact ao h
  ·cases a with
   |none=>exact absurd rfl e
   |some a=>
    cases b with
    |none=>exact absurd rfl e'
    |some b=>
     rw[mf,if_neg (by simp only[mw]at e e';simp [e,e'])]at h;exact⟨l4,ao h⟩
noncomputable def Ql:B:=(.cons (.ex (.aU 2 (.v 0) (.cons (.call 32 (.cons (.aU 3 (.v 0) (.cons (.c (.int 2)) .nil)) .nil)) .nil))) .nil)
theorem Qm:ay ["walk","question","names"] ["walk","question","names"] (af (top 53)):=⟨rfl,rfl,rfl,by decide +kernel,rfl,by decide +kernel,by decide +kernel⟩
theorem Qo:aC nm 40 ["walk","question","names"] (af (top 53)) (ar (top 53))=Ql:=by kernel_rfl
noncomputable def Qp:B:=.cons (.ex (.aU 2 (.v 0) (.cons (.call 32 (.cons (.lst (.cons (.call 35 (.cons (.v 3) (.cons (.v 6) (.cons (.v 5) .nil)))) (.cons (.call 35 (.cons (.v 3) (.cons (.v 4) (.cons (.v 7) .nil)))) (.cons (.call 35 (.cons (.v 3) (.cons (.v 6) (.cons (.v 7) .nil)))) .nil)))) .nil)) .nil))) .nil
noncomputable def Qq:B:=.cons (.set (.many [6,7]) (.aU 3 (.v 0) (.cons (.c (.int 2)) .nil))) Qp
noncomputable def Qr:B:=.cons (.set (.many [3,4,5]) (.sl (.v 1) (.c (.int 1)) .aq)) Qq
theorem Qs:ay ["walk","question","names","name","over","inner","more_over","more_inner"] ["walk","question","names"] (af (top 54)):=⟨rfl,rfl,rfl,by decide +kernel,rfl,by decide +kernel,by decide +kernel⟩
theorem Qt:aC nm 40 ["walk","question","names","name","over","inner","more_over","more_inner"] (af (top 54)) (ar (top 54))=Qr:=by kernel_rfl
noncomputable def Qu:B:=(.cons (.set (.one 3) (.ix (.aU 3 (.v 0) (.cons (.c (.int 1)) .nil)) (.c (.int 0)))) (.cons (.ex (.aU 2 (.v 0) (.cons (.ite (.cmp .Is (.v 3) (.c .aj)) (.c .aj) (.op .Add (.sl (.v 1) .aq (.neg (.c (.int 1)))) (.tup (.cons (.v 3) .nil)))) .nil))) .nil))
theorem Qv:ay ["walk","question","names","inner"] ["walk","question","names"] (af (top 57)):=⟨rfl,rfl,rfl,by decide +kernel,rfl,by decide +kernel,by decide +kernel⟩
theorem Qw:aC nm 40 ["walk","question","names","inner"] (af (top 57)) (ar (top 57))=Qu:=by kernel_rfl
def Cn (w:Wo):Sp:=λds M Q _=>∃M0 x a b ws fs p q qd nr,ds=[.ref x,qd,nr]/\M=Wm M0 a b ws (fs++[oD p,oD q])/\Wc (w.ca 0) M0 x a b/\fs.length<1000000/\Q .aj (Wm M0 a b ws (fs++[oD (dC none [p,q])]))
theorem Qx (O:Lw w):FO w 33 2 (Cn w):=by
 refine aI O.ok O.hn _ ⟨"both_differences",top 53,["walk","question","names"]⟩ (by rw[O.hd];rfl) { cs:=[(32,uJ)],ms:=[(2,ek w),(3,iV w)] } { cs:=⟨⟨1,by decide,Cj O⟩,trivial⟩,ms:=⟨⟨1,by decide,iU O⟩,⟨1,by decide,j7 O⟩,trivial⟩ } Qm Qo λds M Q _ h=>?_;obtain⟨M0,x,a,b,ws,fs,p,q,qd,nr,rfl,rfl,W,eg,h⟩:=h;have m3:w.ca 0=w.mc 2:=(O.mc _ (by decide)).symm;have m4:w.ca 0=w.mc 3:=(O.mc _ (by decide)).symm;obtain⟨dx,hx⟩:=W.gx (ws:=ws) (fs:=fs++[oD p,oD q]);obtain⟨dy,hy⟩:=W.gx (ws:=ws) (fs:=fs);refine⟨rfl,_,dx,_,hx,m3,bo (by decide +kernel) (by decide +kernel),_,dx,_,hx,m4,bo (by decide +kernel) (by decide +kernel),x,a,b,dx,2,fs,[oD p,oD q],rfl,hx,Wm.gb,rfl,by decide,?_⟩;rw[Wm.pb];refine⟨[p,q],rfl,(by decide:2<100),x,a,b,dy,_,fs,rfl,hy,Wm.gb,Y7 eg (by decide),?_⟩;rw[Wm.pb];exact ao h
def Co (w:Wo):Sp:=λds M Q _=>∃M0 x a b ws fs y qa qb p q nr,ds=[.ref x,qD (.for y qa qb),nr]/\M=Wm M0 a b ws (fs++[oD p,oD q])/\Wc (w.ca 0) M0 x a b/\fs.length<1000000/\Q .aj (Wm M0 a b ws (fs++[oD (dC none [mf y p (some qb),mf y (some qa) q,mf y p q])]))
theorem Qy (O:Lw w):FO w 34 3 (Co w):=by
 refine aI O.ok O.hn _ ⟨"for_differences",top 54,["walk","question","names"]⟩ (by rw[O.hd];rfl) { cs:=[(32,uJ),(35,Ck)],ms:=[(2,ek w),(3,iV w)] } { cs:=⟨⟨1,by decide,Cj O⟩,⟨2,by decide,Qk O⟩,trivial⟩,ms:=⟨⟨1,by decide,iU O⟩,⟨1,by decide,j7 O⟩,trivial⟩ } Qs Qt λds M Q _ h=>?_;obtain⟨M0,x,a,b,ws,fs,y,qa,qb,p,q,nr,rfl,rfl,W,eg,h⟩:=h;have m3:w.ca 0=w.mc 2:=(O.mc _ (by decide)).symm;have m4:w.ca 0=w.mc 3:=(O.mc _ (by decide)).symm;obtain⟨dx,hx⟩:=W.gx (ws:=ws) (fs:=fs++[oD p,oD q]);obtain⟨dy,hy⟩:=W.gx (ws:=ws) (fs:=fs);refine⟨rfl,rfl,_,dx,_,hx,m4,bo (by decide +kernel) (by decide +kernel),x,a,b,dx,2,fs,[oD p,oD q],rfl,hx,Wm.gb,rfl,by decide,?_⟩;rw[Wm.pb];refine⟨rfl,_,dy,_,hy,m3,bo (by decide +kernel) (by decide +kernel),y,p,some qb,rfl,y,some qa,q,rfl,y,p,q,rfl,l3,.inl ⟨[mf y p (some qb),mf y (some qa) q,mf y p q],rfl,(by decide:3<100),x,a,b,dy,_,fs,rfl,hy,Wm.gb,Y7 eg (by decide),?_⟩⟩;rw[Wm.pb];exact ao h
def Wr (q:Qn) (f:Qn->Qn):Prop:=(∃i r,q=.times i r/\f=.times i)\/(∃c r,q=.bh c r/\f=.bh c)\/∃y r s,q=.let y r s/\f=.let y r
def Cp (w:Wo):Sp:=λds M Q _=>∃M0 x a b ws fs q f o nr,ds=[.ref x,qD q,nr]/\Wr q f/\M=Wm M0 a b ws (fs++[oD o])/\Wc (w.ca 0) M0 x a b/\fs.length<1000000/\Q .aj (Wm M0 a b ws (fs++[oD (o.map f)]))
theorem Qz (O:Lw w):FO w 36 2 (Cp w):=by
 refine aI O.ok O.hn _ ⟨"wrap",top 57,["walk","question","names"]⟩ (by rw[O.hd];rfl) { cs:=[],ms:=[(2,ek w),(3,iV w)] } { cs:=trivial,ms:=⟨⟨1,by decide,iU O⟩,⟨1,by decide,j7 O⟩,trivial⟩ } Qv Qw λds M Q _ h=>?_;obtain⟨M0,x,a,b,ws,fs,q,f,o,nr,rfl,wr,rfl,W,eg,h⟩:=h;have m3:w.ca 0=w.mc 2:=(O.mc _ (by decide)).symm;have m4:w.ca 0=w.mc 3:=(O.mc _ (by decide)).symm;obtain⟨dx,hx⟩:=W.gx (ws:=ws) (fs:=fs++[oD o]);obtain⟨dy,hy⟩:=W.gx (ws:=ws) (fs:=fs);refine⟨rfl,_,dx,_,hx,m4,bo (by decide +kernel) (by decide +kernel),x,a,b,dx,1,fs,[oD o],rfl,hx,Wm.gb,rfl,by decide,?_⟩;rw[Wm.pb];refine⟨_,rfl,_,dy,_,hy,m3,bo (by decide +kernel) (by decide +kernel),?_⟩;have fin:∀d,d=oD (o.map f)->ek w [.ref x,d] (Wm M0 a b ws fs) (λ_ M1=>(bg Q).nx [some (.ref x),some (qD q),some nr,some (oD o)] M1) X0:=by
  rintro d rfl;refine⟨x,a,b,dy,_,fs,rfl,hy,Wm.gb,Y7 eg (by decide),?_⟩;rw[Wm.pb];exact ao h
 cases o with
 |none=>exact fin .aj rfl
 |some t=>
  obtain⟨r,hr⟩:=fB t;have e:oD (some t)=.tup (.str (wd t)::r):=hr;have fin:∀d,d=qD (f t)->ek w [.ref x,d] (Wm M0 a b ws fs) (λ_ M1=>(bg Q).nx [some (.ref x),some (qD q),some nr,some (oD (some t))] M1) X0:=fin;rw[e]at fin ⊢;rcases wr with ⟨i,s,rfl,rfl⟩ |⟨c,s,rfl,rfl⟩ |⟨y,s,u,rfl,rfl⟩
  ·exact⟨l1,l3,fin _ (by rw[qD,hr];rfl)⟩
  ·exact⟨l1,l3,fin _ (by rw[qD,hr];rfl)⟩
  ·exact⟨l1,l4,fin _ (by rw[qD,hr];rfl)⟩
variable {w:Wo}
mutual
noncomputable def aF (nv:Nv):Qn->Qn
 |.tab x=>match cX x nv with
  |some y=>.both (.tab x) (.tab y)
  |none=>.tab x
 |.row fs=>.row (mx nv fs)
 |.at f q=>.at f (aF nv q)
 |.one q=>.one (aF nv q)
 |.times i q=>.times i (aF nv q)
 |.not q=>.not (aF nv q)
 |.add a b=>.add (aF nv a) (aF nv b)
 |.mul a b=>.mul (aF nv a) (aF nv b)
 |.both a b=>.both (aF nv a) (aF nv b)
 |.for y a b=>.for y (aF nv a) (aF nv b)
 |.bh a b=>.bh (aF nv a) (aF nv b)
 |.let y a b=>.let y (aF nv a) (aF nv b)
 |.same a b=>.same (aF nv a) (aF nv b)
 |.under a b=>.under (aF nv a) (aF nv b)
 |.and a b=>.and (aF nv a) (aF nv b)
 |.or a b=>.or (aF nv a) (aF nv b)
 |.num i=>.num i |.word s=>.word s |.var s=>.var s |.none k=>.none k
noncomputable def mx (nv:Nv):List (Str×Qn)->List (Str×Qn)
 |[]=>[]
 |(f,q)::r=>(f,aF nv q)::mx nv r
end
noncomputable def ke (nv:Nv) (q:Qn):Qn:=.both (aF nv q) (.times (-1) q)
theorem Cq (nv:Nv):∀fs:List (Str×Qn),mx nv fs=fs.map λp=>(p.1,aF nv p.2)
 |[]=>by rw[mx];rfl
 |(f,q)::r=>by rw[mx,Cq nv r];rfl
theorem z0:decide (((0:Nat):Int)=0)=true:=rfl
theorem z1:¬decide (((1:Nat):Int)=0)=true:=by decide
theorem z2:¬decide (((2:Nat):Int)=0)=true:=by decide
noncomputable def QA:B:=.cons (.ret (.op .Add (.sl (.v 0) .aq (.neg (.bi .len (.cons (.v 1) .nil)))) (.bi .tuple (.cons (.v 1) .nil)))) .nil
noncomputable def QB:B:=.cons (.cond (.cmp .Eq (.bi .len (.cons (.v 1) .nil)) (.c (.int 0))) (.cons (.ret (.v 0)) .nil) .nil) QA
noncomputable def QC:B:=.cons (.cond (.cmp .Eq (.ix (.v 0) (.c (.int 0))) (.c (.str "row"))) (.cons (.ret (.tup (.cons (.c (.str "row")) (.cons (.bi .tuple (.cons (.lc 2 [] (.many [0,1]) (.zip (.ix (.v 0) (.c (.int 1))) (.v 1)) .aq (.tup (.cons (.ix (.v 0) (.c (.int 0))) (.cons (.v 1) .nil)))) .nil)) .nil)))) .nil) .nil) QB
theorem QD:ay ["question","parts"] ["question","parts"] (af (top 10)):=⟨rfl,rfl,rfl,by decide +kernel,rfl,by decide +kernel,by decide +kernel⟩
theorem QE:aC nm 40 ["question","parts"] (af (top 10)) (ar (top 10))=QC:=by kernel_rfl
def pK:Sp:=λds M Q _=>∃q nv,ds=[qD q,.lst (((us q).map (aF nv)).map qD)]/\(∀x,q=.tab x->cX x nv=none)/\(us q).length<100/\Q (qD (aF nv q)) M
theorem QF (O:Lw w):FO w 1 1 pK:=by
 refine aI O.ok O.hn _ ⟨"with_under",top 10,["question","parts"]⟩ (by rw[O.hd];rfl) {} { cs:=trivial } QD QE λds M Q _ h=>?_;obtain⟨q,nv,rfl,ht,hl,h⟩:=h;cases q with
 |row fs=>
  refine⟨rfl,_,rfl,av (aW (by decide) ⟨_,rfl,?_⟩)⟩;have e:(((us (.row fs)).map (aF nv)).map qD)=fs.map λp=>qD (aF nv p.2):=by rw[us,Zq,Zq];rfl
  have hf:fs.length<100:=by simpa [us] using hl
  rw[aF,qD,Cq,mj,Zq]at h;have key:∀ds,ds=(fs.map λp=>qD (aF nv p.2))->cS (λM=>True/\True) (.many [0,1]) gO (E.w ({}:aS w).wd nm.ah (.tup (.cons (.ix (.v 0) (.c (.int 0))) (.cons (.v 1) .nil)))).1 [none,none] (λys M2=>bL ys M2 λd M3=>ra [d] M3 λd Xp=>2<=sizeLine/\aZ Q (.tup [.str "row",d]) Xp) (List.zipWith (λx y=>D.tup [x,y]) (bE fs) ds) [] M:=by
   rintro _ rfl;rw[mj,pG];have UT:fs.zip fs=fs.map λp=>(p,p):=by
    clear h hf hl e ht
    induction fs with
    |nil=>rfl
    |cons p r ih=>rw[Zo,ih];rfl
   rw[UT,Zq];refine iN (λp:Str×Qn=>.tup [.tup [.str p.1,qD p.2],qD (aF nv p.2)]) (λp=>.tup [.str p.1,qD (aF nv p.2)]) fs ⟨trivial,trivial⟩ (Y7 hf (by decide)) (λp _ N hN=>?_) ?_
   ·exact⟨rfl,_,rfl,l2,hN⟩
   ·exact .inl ⟨l2,ao h⟩
  exact key _ e
 |tab x=>
  have hx:=ht x rfl;have e:aF nv (.tab x)=.tab x:=by rw[aF,hx]
  rw[e]at h;exact⟨rfl,_,rfl,av (aw (by decide) (a' (aW z0 (ao h))))⟩
 |num i=>exact⟨rfl,_,rfl,av (aw (by decide) (a' (aW z0 (ao h))))⟩
 |word s=>exact⟨rfl,_,rfl,av (aw (by decide) (a' (aW z0 (ao h))))⟩
 |var s=>exact⟨rfl,_,rfl,av (aw (by decide) (a' (aW z0 (ao h))))⟩
 |none k=>exact⟨rfl,_,rfl,av (aw (by decide) (a' (aW z0 (ao h))))⟩
 | «at» f q=>exact⟨rfl,_,rfl,av (aw (by decide) (a' (aw z1 ⟨l3,ao h⟩)))⟩
 |one q=>exact⟨rfl,_,rfl,av (aw (by decide) (a' (aw z1 ⟨l2,ao h⟩)))⟩
 |times i q=>exact⟨rfl,_,rfl,av (aw (by decide) (a' (aw z1 ⟨l3,ao h⟩)))⟩
 |not q=>exact⟨rfl,_,rfl,av (aw (by decide) (a' (aw z1 ⟨l2,ao h⟩)))⟩
 | «for» y a b=>exact⟨rfl,_,rfl,av (aw (by decide) (a' (aw z2 ⟨l4,ao h⟩)))⟩
 | «let» y a b=>exact⟨rfl,_,rfl,av (aw (by decide) (a' (aw z2 ⟨l4,ao h⟩)))⟩
 |_=>exact⟨rfl,_,rfl,av (aw (by decide) (a' (aw z2 ⟨l3,ao h⟩)))⟩
noncomputable def uL:B:=(.cons (.cond (.and (.cmp .Eq (.ix (.v 0) (.c (.int 0))) (.c (.str "table"))) (.cmp .In (.ix (.v 0) (.c (.int 1))) (.v 2))) (.cons (.ret (.tup (.cons (.c (.str "both")) (.cons (.v 0) (.cons (.tup (.cons (.c (.str "table")) (.cons (.ix (.v 2) (.ix (.v 0) (.c (.int 1)))) .nil))) .nil))))) .nil) .nil) (.cons (.ret (.call 1 (.cons (.v 0) (.cons (.v 1) .nil)))) .nil))
def my (v:D):Sp:=λds M Q _=>∃q nv,v=dD (aN nv)/\ds=[qD q,.lst (((us q).map (aF nv)).map qD)]/\(us q).length<100/\Q (qD (aF nv q)) M
theorem QG {q:Qn}{nv:Nv}{M:Mp}{Q:QK} (hl:(us q).length<100) (h:Q (qD (aF nv q)) M):B.w ({ cs:=[(1,pK)] }:aS w).wd nm.ah uL (bg Q) [some (qD q),some (.lst (((us q).map (aF nv)).map qD)),some (dD (aN nv))] M:=by
 by_cases hq:∃x,q=.tab x
 ·obtain⟨x,rfl⟩:=hq;refine⟨_,rfl,av (aW (by decide) ⟨_,rfl,t6 ?_⟩)⟩;rw[kc,Option.isSome_map];cases e:cX x nv with
  |none=>exact⟨.tab x,nv,rfl,λy z=>by cases z;exact e,hl,ao h⟩
  |some y=>
   rw[aF,e]at h;exact⟨_,rfl,t4 (d:=.str y) (by rw[kc,e];rfl) ⟨l2,l3,ao h⟩⟩
 ·obtain⟨r,e⟩:=fB q;have hd:=uq λx z=>hq ⟨x,z⟩;have key:∀ z,z=qD q->B.w ({ cs:=[(1,pK)] }:aS w).wd nm.ah uL (bg Q) [some z,some (.lst (((us q).map (aF nv)).map qD)),some (dD (aN nv))] M:=by
   intro z hz;have hz':=hz.trans e;subst hz';exact⟨_,g6,av (dW hd ⟨q,nv,by rw[e];rfl,λy z=>absurd ⟨y,z⟩ hq,hl,ao h⟩)⟩
  exact key _ rfl
noncomputable def uI (w:Wo) (q:Qn) (r:D):D:=.tup [w.gv.getD 11 .aj,qD q,r]
noncomputable def Vh (w:Wo) (q:Qn) (r:D):D:=.tup [w.gv.getD 12 .aj,qD q,r]
noncomputable def QH:B:=(.cons (.ex (.aU 1 (.v 0) (.cons (.g 12) (.cons (.v 1) (.cons (.v 2) .nil))))) (.cons (.loop (.one 3) (.oE (.call 0 (.cons (.v 1) .nil))) (.cons (.ex (.aU 1 (.v 0) (.cons (.g 11) (.cons (.v 3) (.cons (.v 2) .nil))))) .nil)) .nil))
theorem QI:ay ["walk","question","told_of","part"] ["walk","question","told_of"] (af (top 16)):=⟨rfl,rfl,rfl,by decide +kernel,rfl,by decide +kernel,by decide +kernel⟩
theorem QJ:aC nm 40 ["walk","question","told_of","part"] (af (top 16)) (ar (top 16))=QH:=by kernel_rfl
noncomputable def QL:B:=(.cons (.ex (.aU 2 (.v 0) (.cons (.app (.v 2) (.cons (.v 1) (.cons (.aU 3 (.v 0) (.cons (.bi .len (.cons (.call 0 (.cons (.v 1) .nil)) .nil)) .nil)) .nil))) .nil))) .nil)
theorem QO:ay ["walk","question","told_of"] ["walk","question","told_of"] (af (top 17)):=⟨rfl,rfl,rfl,by decide +kernel,rfl,by decide +kernel,by decide +kernel⟩
theorem QP:aC nm 40 ["walk","question","told_of"] (af (top 17)) (ar (top 17))=QL:=by kernel_rfl
noncomputable def QQ:B:=.cons (.ret (.aU 4 (.v 2) .nil)) .nil
noncomputable def QR:B:=.cons (.ex (.aU 1 (.v 2) (.cons (.g 11) (.cons (.v 0) (.cons (.v 1) .nil))))) QQ
noncomputable def QT:B:=.cons (.set (.one 2) (.new 0 .nil)) QR
theorem QU:ay ["question","told_of","walk"] ["question","told_of"] (af (top 15)):=⟨rfl,rfl,rfl,by decide +kernel,rfl,by decide +kernel,by decide +kernel⟩
theorem QV:aC nm 40 ["question","told_of","walk"] (af (top 15)) (ar (top 15))=QT:=by kernel_rfl
def Cr (w:Wo):Sp:=λds M Q _=>∃M0 x a b ws fs q r,ds=[.ref x,qD q,r]/\M=Wm M0 a b ws fs/\Wc (w.ca 0) M0 x a b/\ws.length<1000000/\(us q).length<100/\Q .aj (Wm M0 a b (ws++[Vh w q r]++((us q).map λp=>uI w p r).reverse) fs)
theorem QW (O:Lw w):FO w 5 2 (Cr w):=by
 refine aI O.ok O.hn _ ⟨"unfold",top 16,["walk","question","told_of"]⟩ (by rw[O.hd];rfl) { cs:=[(0,j6)],ms:=[(1,fA w)] } { cs:=⟨⟨1,by decide,mm O⟩,trivial⟩,ms:=⟨⟨1,by decide,iT O⟩,trivial⟩ } QI QJ λds M Q _ h=>?_;obtain⟨M0,x,a,b,ws,fs,q,r,rfl,rfl,W,j8,hu,h⟩:=h;have m2:w.ca 0=w.mc 1:=(O.mc _ (by decide)).symm;obtain⟨dx,hx⟩:=W.gx (ws:=ws) (fs:=fs);refine⟨rfl,_,dx,_,hx,m2,bo (by decide +kernel) (by decide +kernel),x,a,b,dx,_,_,_,ws,rfl,hx,W.ga,Y7 j8 (by decide),?_⟩;rw[W.pa];refine⟨q,rfl,hu,?_⟩;refine eS (λxs τ M'=>∃rest done v,us q=rest++done/\xs=(rest.map qD).reverse/\τ=[some (.ref x),some (qD q),some r,v]/\M'=Wm M0 a b (ws++[Vh w q r]++(done.map λp=>uI w p r).reverse) fs) ?_ ?_ _ _ _ ⟨us q,[],none,by simp,rfl,rfl,by rw[Zp,List.reverse_nil,YH];rfl⟩
 ·rintro τ M' ⟨rest,done,v,e1,e2,rfl,rfl⟩;have:rest=[]:=by
   have:=congrArg List.length e2;simpa using this.symm
  subst this;rw[List.nil_append]at e1;rw[e1]at h;exact⟨trivial,.rfl (ao h)⟩
 ·rintro y xs τ M' ⟨rest,done,v,e1,e2,rfl,rfl⟩;refine⟨trivial,?_⟩;rcases aaa rest with z |⟨r',q',z⟩
  ·subst z;cases e2
  subst z;rw[ZV]at e1 e2;rw[YS,Yu,Zp,List.reverse_append]at e2;cases e2;have hlen:(us q).length=r'.length+1+done.length:=by rw[e1];simp;lia
  obtain⟨dy,hy⟩:=W.gx (ws:=ws++[Vh w q r]++(done.map λp=>uI w p r).reverse) (fs:=fs);refine λN hN=>⟨_,dy,_,hy,m2,bo (by decide +kernel) (by decide +kernel),x,a,b,dy,_,_,_,_,rfl,hy,W.ga,YA (by simp;lia:_<=2000000) (by decide),hN _ _ ⟨r',q'::done,_,by rw[e1];simp,rfl,rfl,?_⟩⟩;rw[W.pa,Yu,Zz,<- YT];rfl
def Cs (w:Wo) (f:Addr) (nv:Nv):Sp:=λds M Q _=>∃M0 x a b ws fs q,ds=[.ref x,qD q,.ref f]/\M=Wm M0 a b ws (fs++((us q).map (aF nv)).map qD)/\Wc (w.ca 0) M0 x a b/\fs.length<1000000/\(us q).length<100/\Q .aj (Wm M0 a b ws (fs++[qD (aF nv q)]))
theorem QX (O:Lw w) {f:Addr}{nv:Nv} (hf:cA w.G 2 f (my (dD (aN nv)))):FO w 6 3 (Cs w f nv):=by
 refine aI O.ok O.hn _ ⟨"fold",top 17,["walk","question","told_of"]⟩ (by rw[O.hd];rfl) { cs:=[(0,j6)],ms:=[(2,ek w),(3,iV w)],ca:=λg sp=>g=f/\sp=my (dD (aN nv)) } { cs:=⟨⟨1,by decide,mm O⟩,trivial⟩,ms:=⟨⟨1,by decide,iU O⟩,⟨1,by decide,j7 O⟩,trivial⟩,ca:=?_ } QO QP λds M Q _ h=>?_
 ·rintro g sp ⟨rfl,rfl⟩;exact hf
 obtain⟨M0,x,a,b,ws,fs,q,rfl,rfl,W,eg,hu,h⟩:=h;have m3:w.ca 0=w.mc 2:=(O.mc _ (by decide)).symm;have m4:w.ca 0=w.mc 3:=(O.mc _ (by decide)).symm;obtain⟨dx,hx⟩:=W.gx (ws:=ws) (fs:=fs++((us q).map (aF nv)).map qD);obtain⟨dy,hy⟩:=W.gx (ws:=ws) (fs:=fs);refine⟨rfl,_,dx,_,hx,m3,bo (by decide +kernel) (by decide +kernel),_,⟨rfl,rfl⟩,_,dx,_,hx,m4,bo (by decide +kernel) (by decide +kernel),q,rfl,hu,x,a,b,dx,_,fs,((us q).map (aF nv)).map qD,rfl,hx,Wm.gb,by simp,by simp;lia,?_⟩;rw[Wm.pb];refine⟨q,nv,rfl,rfl,hu,x,a,b,dy,_,fs,rfl,hy,Wm.gb,Y7 eg (by decide),?_⟩;rw[Wm.pb];exact ao h
def mz (w:Wo) (f:Addr) (nv:Nv) (g:Addr) (sp:Sp):Prop:=(g=ba w "unfold"/\sp=Cr w)\/(g=ba w "fold"/\sp=Cs w f nv)
theorem QY (O:Lw w) {q:Qn}{r:D}:uI w q r=.tup [.ref (ba w "unfold"),qD q,r]:=by unfold uI;rw[O.WA]
theorem QZ (O:Lw w) {q:Qn}{r:D}:Vh w q r=.tup [.ref (ba w "fold"),qD q,r]:=by unfold Vh;rw[O.go]
theorem Ct (O:Lw w) {f:Addr}{nv:Nv}{M0:Mp}{x a b:Addr} (W:Wc (w.ca 0) M0 x a b) {e:En}:∀ (m:Nat) (q:Qn),nq q<=m->wq q->∀ {n:Nat}{ws fs:List D},ws.length+110 * dn q<900000->fs.length+110 * dn q<900000 ->
  Lp w (mz w f nv) e n x (Wm M0 a b ws (fs++[qD (aF nv q)]))->Lp w (mz w f nv) e (n+2 * nq q) x (Wm M0 a b (ws++[uI w q (.ref f)]) fs)
 | 0,q,h,_,_,_,_,_,_,_=>by rw[iX]at h;lia
 |m+1,q,h,hw,n,ws,fs,lw,lf,k=>by
  obtain⟨hu,j8⟩:=pJ hw;have hd:=uC q;rw[iX]at h ⊢;rw[show n+2 * (1+bG (us q))=(n+1+2 * bG (us q))+1 by lia,QY O];refine turn O (.inl ⟨rfl,rfl⟩) W λQ hQ=>⟨M0,x,a,b,ws,fs,q,_,rfl,rfl,W,by lia,hu,hQ _ _ ?_⟩;have list:∀ (qs:List Qn),bG qs<=m->(∀ p∈qs,wq p)->∀ {n:Nat}{ws fs:List D},ws.length+qs.length+110 * fE qs<900000->fs.length+qs.length+110 * fE qs<900000 ->
    Lp w (mz w f nv) e n x (Wm M0 a b ws (fs++(qs.map (aF nv)).map qD))->Lp w (mz w f nv) e (n+2 * bG qs) x (Wm M0 a b (ws++(qs.map λp=>uI w p (.ref f)).reverse) fs):=by
   intro qs
   induction qs with
   |nil=>intro _ _ n ws fs _ _ k;rw[Zp,Zp,YH]at k;rw[Zp,List.reverse_nil,YH];exact k
   |cons p r ih=>
    intro hm Ch n ws fs lw lf k;rw[bG]at hm;rw[fE,Yv]at lw lf;have n1:=iX p;rw[Yu,Zz,<- YT,bG,show n+2 * (nq p+bG r)=(n+2 * bG r)+2 * nq p by lia];refine Ct O W m p (by lia) (Ch p Ys) (by simp;lia) (by lia) ?_;refine ih (by lia) (λz hz=>Ch z (Yt _ hz)) (by lia) (by simp;lia) ?_;rw[YT];exact k
  refine list (us q) (by lia) j8 (by simp;lia) (by lia) ?_;rw[QZ O];exact turn O (.inr ⟨rfl,rfl⟩) W λQ hQ=>⟨M0,x,a,b,ws,fs,q,rfl,rfl,W,by lia,hu,hQ _ _ k⟩
def Cu (w:Wo) (f:Addr) (nv:Nv):Sp:=λds M Q _=>∃M0 x a b q,ds=[.ref x]/\M=Wm M0 a b [uI w q (.ref f)] []/\Wc (w.ca 0) M0 x a b/\wq q/\dn q<500/\Q (qD (aF nv q)) (Wm M0 a b [] [])
theorem Q3 (O:Lw w) {f:Addr}{nv:Nv} (hf:cA w.G 2 f (my (dD (aN nv)))):c7 w 4 4 (Cu w f nv):=by
 refine iL O.ok O.hn _ ⟨"run",(bj (top 14) 4),["self"]⟩ (by rw[O.hms];rfl) (Vf w (mz w f nv)) { cs:=trivial,ca:=?_ } uz uA λds M Q _ h=>?_
 ·rintro g sp (⟨rfl,rfl⟩ |⟨rfl,rfl⟩)
  ·exact FO.b8 ((QW O).mono (by decide)) (d:=⟨"unfold",top 16,["walk","question","told_of"]⟩) (by rw[O.hd];rfl)
  ·exact FO.b8 (QX O hf) (d:=⟨"fold",top 17,["walk","question","told_of"]⟩) (by rw[O.hd];rfl)
 obtain⟨M0,x,a,b,q,rfl,rfl,W,hw,hd,h⟩:=h;refine⟨rfl,1+2 * nq q,?_⟩;refine Ct O W (nq q) q (Yr _) hw (ws:=[]) (fs:=[]) (n:=1) (by simp;lia) (by simp;lia) (over O W λ_ _ _=>?_) _ _ _;obtain⟨dx,hx⟩:=W.gx (ws:=[]) (fs:=[]++[qD (aF nv q)]);refine⟨_,dx,_,hx,.ref b,O.UK,rfl,.inl ⟨rfl,_,Wm.gb⟩,_,Wm.gb,qD (aF nv q),rfl,?_⟩;rw[Wm.pb];exact ao h
def Q4 (f:Addr) (nv:Nv):Sp:=λds M Q _=>∃q,ds=[qD q,.ref f]/\wq q/\dn q<500/\Q (qD (aF nv q)) M
theorem Q5 (O:Lw w) {f:Addr}{nv:Nv} (hf:cA w.G 2 f (my (dD (aN nv)))):FO w 4 5 (Q4 f nv):=by
 refine aI O.ok O.hn _ ⟨"folded",top 15,["question","told_of"]⟩ (by rw[O.hd];rfl) { ms:=[(1,fA w),(4,Cu w f nv)],ci:=[(0,0,pF w)] } { cs:=trivial,ms:=⟨⟨1,by decide,iT O⟩,⟨4,by decide,Q3 O hf⟩,trivial⟩,ci:=⟨⟨O.mc _ (by decide),by rw[O.hms];rfl,1,by decide,uk O⟩,trivial⟩ } QU QV λds M Q _ h=>?_;obtain⟨q,rfl,hw,hd,h⟩:=h;have m2:w.ca 0=w.mc 1:=(O.mc _ (by decide)).symm;have m5:w.ca 0=w.mc 4:=(O.mc _ (by decide)).symm;refine⟨rfl,λx dx hx ka nd=>⟨x,dx,rfl,au,λa b ha hb ne=>⟨rfl,?_⟩⟩⟩;obtain⟨sb,W⟩:=pI (i1:=[("waiting",.ref a),("found",.ref b)]) (ws:=[]) (fs:=[]) hx ka ha hb nd ne;obtain⟨dy,hy⟩:=W.gx (ws:=[]) (fs:=[]);refine⟨_,dy,_,hy,m2,bo (by decide +kernel) (by decide +kernel),x,a,b,dy,_,_,_,[],rfl,hy,W.ga,by decide,?_⟩;rw[W.pa];obtain⟨Vg,hz⟩:=W.gx (ws:=[]++[.tup [w.gv.getD 11 .aj,qD q,.ref f]]) (fs:=[]);exact⟨_,Vg,_,hz,m5,bo (by decide +kernel) (by decide +kernel),_,x,a,b,q,rfl,rfl,W,hw,hd,me sb h⟩
noncomputable def Q6:Expr:=pB.es.headD (.Name "" ⟨0,0,0,0⟩)
theorem Q7:ar (top 59)=[.FunctionDef pB.name pB.params pB.body [] none [] pB.scope none pB.name pB.np,.Return (some (.Call (.Name pB.g pB.gp) (Q6::pB.es.tail) [] pB.cp)) pB.rp]:=by kernel_rfl
theorem Q8:ay ["question","names","put"] ["question","names"] (af (top 59)):=⟨rfl,rfl,rfl,by decide +kernel,rfl,by decide +kernel,by decide +kernel⟩
def Cv:Sp:=λds M Q _=>∃q nv,ds=[qD q,dD (aN nv)]/\wq q/\dn q<500/\Q (qD (aF nv q)) M
theorem Q9 (O:Lw w):FO w 38 6 Cv:=by
 refine Kp O.ok O.hn (kp:=1) (n:=40) (np:=40) (j:=2) (ci:=1) (ns:=["question","names","put"]) (jT:=["part","below"]) (ls:=[]) (x:="names") (b:=uL) (t:=.cons (.v 0) (.cons (.v 2) .nil)) (l9:=my) 38 4 ⟨"behind",top 59,["question","names"]⟩ (by rw[O.hd];rfl) Q7 (λf fd q=>O.VF f fd q) {} { cs:=trivial } Q8 (by kernel_rfl) (by kernel_rfl) (by decide) rfl (by decide) (by kernel_rfl)
  (λ_ _ _ _=>rfl) (λ_ _ _ _=>rfl) (λ_=>rfl) (by kernel_rfl) (by kernel_rfl) (λ_=>by kernel_rfl) (by kernel_rfl) (by kernel_rfl) (by kernel_rfl) (by kernel_rfl) (by kernel_rfl) ⟨by kernel_rfl,by kernel_rfl,by kernel_rfl,by decide +kernel,by decide +kernel,by decide +kernel,by decide +kernel⟩ (by decide +kernel) (λq clos doc pm c ctv K=>bC.all λus h=>?_) (by kernel_rfl) (λe v l=>⟨{ cs:=[(1,pK)] },{ cs:=⟨⟨1,by decide,QF (O.at l)⟩,trivial⟩ },λds M Q E hs=>?_⟩) λds M Q E hs=>?_
 ·match us,h with
  |[_,_],_=>rfl
 ·obtain⟨q,nv,rfl,rfl,hu,h⟩:=hs;exact⟨rfl,QG (w:=w.at e) hu h⟩
 ·obtain⟨q,nv,rfl,hw,hd,h⟩:=hs;exact⟨rfl,λf e v l UW hh=>by
   cases UW;exact⟨_,Q5 (O.at l) hh,q,rfl,hw,hd,ao h⟩⟩
noncomputable def Ra:B:=(.cons (.ret (.tup (.cons (.c (.str "both")) (.cons (.call 38 (.cons (.v 0) (.cons (.v 1) .nil))) (.cons (.tup (.cons (.c (.str "times")) (.cons (.neg (.c (.int 1))) (.cons (.v 0) .nil)))) .nil))))) .nil)
theorem Rb:ay ["question","names"] ["question","names"] (af (top 58)):=⟨rfl,rfl,rfl,by decide +kernel,rfl,by decide +kernel,by decide +kernel⟩
theorem Rc:aC nm 40 ["question","names"] (af (top 58)) (ar (top 58))=Ra:=by kernel_rfl
def Cw:Sp:=λds M Q _=>∃q nv,ds=[qD q,dD (aN nv)]/\wq q/\dn q<500/\Q (qD (ke nv q)) M
theorem Rd (O:Lw w):FO w 37 7 Cw:=by
 refine aI O.ok O.hn _ ⟨"behind_less_ahead",top 58,["question","names"]⟩ (by rw[O.hd];rfl) { cs:=[(38,Cv)] } { cs:=⟨⟨6,by decide,Q9 O⟩,trivial⟩ } Rb Rc λds M Q _ h=>?_;obtain⟨q,nv,rfl,hw,hd,h⟩:=h;exact⟨rfl,q,nv,rfl,hw,hd,l3,l3,ao h⟩
variable {w:Wo}
theorem Cy {W:Wd}{mn:List Str}{s:S}{r:B}{e:En} {τ:St} {M:Mp} (h:S.w W mn s { e with nx:=B.w W mn r e } τ M):B.w W mn (.cons s r) e τ M:=by cases r <;> exact h
section
variable {e:En} {τ:St} {M0:Mp}{x a b:Addr}{ws fs:List D}
theorem uM (O:Lw w) {c:aS w} (hm:gi c.ms 2=some (ek w)) {f:E}{r:B}{d:D} (W:Wc (w.ca 0) M0 x a b) (h0:∀ k:QK,k (.ref x) (Wm M0 a b ws fs)->cK 0 τ (Wm M0 a b ws fs) k) (hl:fs.length<1000000) (hf:∀ k:QK,k d (Wm M0 a b ws fs)->(f.w c.wd nm.ah).1 τ (Wm M0 a b ws fs) k) (h:B.w c.wd nm.ah r e τ (Wm M0 a b ws (fs++[d]))) :
  B.w c.wd nm.ah (.cons (.ex (.aU 2 (.v 0) (.cons f .nil))) r) e τ (Wm M0 a b ws fs):=by
 refine Cy ?_;show mZ (sC ((gi c.ms 2).map λsp=>(w.mc 2,sp)) (nm.ah.getD 2 "") (cK 0) (dk (f.w c.wd nm.ah).1 dJ)) { e with nx:=B.w c.wd nm.ah r e } τ (Wm M0 a b ws fs);rw[hm];obtain⟨dx,hx⟩:=W.gx (ws:=ws) (fs:=fs);refine h0 (λo M1=>cq o M1 λ_ C' _ fs=>C'=w.mc 2/\fs.lookup (nm.ah.getD 2 "")=none/\dk (f.w c.wd nm.ah).1 dJ τ M1 λds M2=>ek w (o::(ds++[])) M2 (λ_ M3=>B.w c.wd nm.ah r e τ M3) X0) ⟨_,dx,_,hx,(O.mc _ (by decide)).symm,bo (by decide +kernel) (by decide +kernel),hf _ ⟨x,a,b,dx,d,fs,rfl,hx,Wm.gb,Y7 hl (by decide),?_⟩⟩;rw[Wm.pb];exact h
theorem eo (O:Lw w) {c:aS w} (hm:gi c.ms 1=some (fA w)) {f g i:E}{rr:B}{d s r:D} (W:Wc (w.ca 0) M0 x a b) (h0:∀ k:QK,k (.ref x) (Wm M0 a b ws fs)->cK 0 τ (Wm M0 a b ws fs) k) (hl:ws.length<1000010) (hf:∀ k:QK,k d (Wm M0 a b ws fs)->(f.w c.wd nm.ah).1 τ (Wm M0 a b ws fs) k) (hg:∀ k:QK,k s (Wm M0 a b ws fs)->(g.w c.wd nm.ah).1 τ (Wm M0 a b ws fs) k) (hi:∀ k:QK,k r (Wm M0 a b ws fs)->(i.w c.wd nm.ah).1 τ (Wm M0 a b ws fs) k)
  (h:B.w c.wd nm.ah rr e τ (Wm M0 a b (ws++[.tup [d,s,r]]) fs)):B.w c.wd nm.ah (.cons (.ex (.aU 1 (.v 0) (.cons f (.cons g (.cons i .nil))))) rr) e τ (Wm M0 a b ws fs):=by
 refine Cy ?_;show mZ (sC ((gi c.ms 1).map λsp=>(w.mc 1,sp)) (nm.ah.getD 1 "") (cK 0) (dk (f.w c.wd nm.ah).1 (dk (g.w c.wd nm.ah).1 (dk (i.w c.wd nm.ah).1 dJ)))) { e with nx:=B.w c.wd nm.ah rr e } τ (Wm M0 a b ws fs);rw[hm];obtain⟨dx,hx⟩:=W.gx (ws:=ws) (fs:=fs);refine h0 (λo M1=>cq o M1 λ_ C' _ fs=>C'=w.mc 1/\fs.lookup (nm.ah.getD 1 "")=none/\dk (f.w c.wd nm.ah).1 (dk (g.w c.wd nm.ah).1 (dk (i.w c.wd nm.ah).1 dJ)) τ M1 λds M2=>fA w (o::(ds++[])) M2 (λ_ M3=>B.w c.wd nm.ah rr e τ M3) X0) ⟨_,dx,_,hx,(O.mc _ (by decide)).symm,bo (by decide +kernel) (by decide +kernel),hf _ (hg _ (hi _ ⟨x,a,b,dx,d,s,r,ws,rfl,hx,W.ga,Y7 hl (by decide),?_⟩))⟩;rw[W.pa];exact h
end
def Wl (nv:Nv) (q:Qn) (f:Qn->Qn) (r:Qn):Prop:=(∃i,q=.times i r/\f=.times i)\/(∃c,q=.bh c r/\f=.bh c)\/∃y s,q=.let y s r/\f=.let y s/\hs nv s=false
noncomputable def uN:B:=(.cons (.set (.one 3) (.ix (.v 1) (.c (.int 0)))) (.cons (.cond (.not (.call 30 (.cons (.v 1) (.cons (.v 2) .nil)))) (.cons (.ex (.aU 2 (.v 0) (.cons (.c .aj) .nil))) .nil) (.cons (.cond (.cmp .Eq (.v 3) (.c (.str "table"))) (.cons (.ex (.aU 2 (.v 0) (.cons (.tup (.cons (.c (.str "table")) (.cons (.ix (.v 2) (.ix (.v 1) (.c (.int 1)))) .nil))) .nil))) .nil) (.cons (.cond (.cmp .In (.v 3) (.tup (.cons (.c (.str "both")) (.cons (.c (.str "for")) .nil)))) (.cons (.ex (.aU 1 (.v 0) (.cons (.ix (.g 5) (.v 3)) (.cons (.v 1) (.cons (.v 2) .nil))))) (.cons (.ex (.aU 1 (.v 0) (.cons (.g 35) (.cons (.ix (.v 1) (.neg (.c (.int 1)))) (.cons (.v 2) .nil))))) (.cons (.ex (.aU 1 (.v 0) (.cons (.g 35) (.cons (.ix (.v 1) (.neg (.c (.int 2)))) (.cons (.v 2) .nil))))) .nil))) (.cons (.cond (.or (.cmp .In (.v 3) (.tup (.cons (.c (.str "times")) (.cons (.c (.str "when")) .nil)))) (.and (.cmp .Eq (.v 3) (.c (.str "let"))) (.not (.call 30 (.cons (.ix (.v 1) (.c (.int 2))) (.cons (.v 2) .nil)))))) (.cons (.ex (.aU 1 (.v 0) (.cons (.g 42) (.cons (.v 1) (.cons (.v 2) .nil))))) (.cons (.ex (.aU 1 (.v 0) (.cons (.g 35) (.cons (.ix (.v 1) (.neg (.c (.int 1)))) (.cons (.v 2) .nil))))) .nil)) (.cons (.ex (.aU 2 (.v 0) (.cons (.call 37 (.cons (.v 1) (.cons (.v 2) .nil))) .nil))) .nil)) .nil)) .nil)) .nil)) .nil))
theorem Rg:ay ["walk","question","names","word"] ["walk","question","names"] (af (top 48)):=⟨rfl,rfl,rfl,by decide +kernel,rfl,by decide +kernel,by decide +kernel⟩
theorem Rh:aC nm 40 ["walk","question","names","word"] (af (top 48)) (ar (top 48))=uN:=by kernel_rfl
noncomputable def bN (w:Wo) (q:Qn) (nv:Nv):D:=.tup [w.gv.getD 35 .aj,qD q,dD (aN nv)]
def pL (nv:Nv) (q:Qn):Prop:=wd q≠"table"/\wd q≠"both"/\wd q≠"for"/\wd q≠"times"/\wd q≠"when"/\(wd q≠"let"\/∃y a b,q=.let y a b/\hs nv a=true)
structure Wt (ws fs:List D) (q:Qn) (N:List Str):Prop where
 lw:ws.length+3 * dn q<900000
 lf:fs.length+3 * dn q<900000
 wd:wq q
 n:nq q<1000000
 d:dn q<500
 lN:N.length<64
 t:∀x∈aE q,x∈N
def Cz (w:Wo) (nv:Nv) (q:Qn) (ws fs:List D) (K:List D->List D->Prop):Prop:=
  (hs nv q=false/\K ws (fs++[.aj])) \/
   (hs nv q=true/\((∃y z,q=.tab y/\cX y nv=some z/\K ws (fs++[qD (.tab z)])) \/
    (∃f r s,(q=.both r s/\f=ba w "both_differences"\/∃y,q=.for y r s/\f=ba w "for_differences")/\K (ws++[.tup [.ref f,qD q,dD (aN nv)],bN w s nv,bN w r nv]) fs) \/
    (∃f r,Wl nv q f r/\K (ws++[.tup [w.gv.getD 42 .aj,qD q,dD (aN nv)],bN w r nv]) fs) \/
    (pL nv q/\K ws (fs++[qD (ke nv q)]))))
def CA (w:Wo):Sp:=λds M Q _=>∃M0 x a b ws fs q nv N,ds=[.ref x,qD q,dD (aN nv)]/\M=Wm M0 a b ws fs/\Wc (w.ca 0) M0 x a b/\Wt ws fs q N/\Cz w nv q ws fs λcr fs'=>Q .aj (Wm M0 a b cr fs')
noncomputable abbrev b9 (w:Wo):aS w:={ cs:=[(30,Cf),(37,Cw)],ms:=[(1,fA w),(2,ek w)] }
theorem CC {s t z:Str} (h:z≠s) (h':z≠t):dO (.str z) [D.str s,D.str t]=false:=by
 have e:∀u:Str,z≠u->aA (.str u) (.str z)=false:=λu hu=>by
  show (some z == some u)=false;exact beq_eq_false_iff_ne.mpr λq=>hu (YY q)
 unfold dO;rw[aaj,aaj,List.any_nil,e s h,e t h'];rfl
theorem fF {s t z:Str}{M:Mp}{k:Bool->Prop}{b:Bool} (hb:dO (.str z) [D.str s,D.str t]=b) (q:k b):fi (.str z) (.tup [.str s,.str t]) M k:=by
 refine⟨⟨rfl,rfl,by rw[a4,a4,a4,bc,bc];decide,?_⟩⟩;rw[hb];exact q
theorem CD:(([("both","both_differences"),("for","for_differences")]:List (Str×Str)).map (·.1)).Nodup:=by decide +kernel
theorem Ri (O:Lw w):FO w 29 8 (CA w):=by
 refine aI O.ok O.hn _ ⟨"begin_differences",top 48,["walk","question","names"]⟩ (by rw[O.hd];rfl) (b9 w) { cs:=⟨⟨4,by decide,P6 O⟩,⟨7,by decide,Rd O⟩,trivial⟩,ms:=⟨⟨1,by decide,iT O⟩,⟨1,by decide,iU O⟩,trivial⟩ } Rg Rh λds M Q _ h=>?_;obtain⟨M0,x,a,b,ws,fs,q,nv,N,rfl,rfl,W,C,h⟩:=h;have lf:fs.length<1000000:=by have:=C.lf;lia
 have lw:=C.lw;obtain⟨r,e⟩:=fB q;have start:∀ z,z=qD q->(hs nv q=true->B.w (b9 w).wd nm.ah (KW (jZ (AJ uN))) (bg Q) [some (.ref x),some z,some (dD (aN nv)),some (.str (wd q))] (Wm M0 a b ws fs))->(hs nv q=false->B.w (b9 w).wd nm.ah (.cons (.ex (.aU 2 (.v 0) (.cons (.c .aj) .nil))) .nil) (bg Q) [some (.ref x),some z,some (dD (aN nv)),some (.str (wd q))] (Wm M0 a b ws fs)) ->
   [D.ref x,z,dD (aN nv)].length=3/\B.w (b9 w).wd nm.ah uN (bg Q) [some (.ref x),some z,some (dD (aN nv)),none] (Wm M0 a b ws fs):=by
  intro z hz h1 h2;have hz':=hz.trans e;subst hz';refine⟨rfl,_,g6,q,N,nv,by rw[e];rfl,C.wd,C.n,C.lN,C.t,?_⟩;cases hh:hs nv q with
  |true=>exact h1 hh
  |false=>exact h2 hh
 rcases h with ⟨hf,h⟩ |⟨ht,⟨y,z,rfl,hz,h⟩ |⟨f,p,s,hq,h⟩ |⟨f,p,hq,h⟩ |⟨hq,h⟩⟩
 ·exact start _ rfl (λz=>by rw[hf]at z;cases z) λ_=>uM (c:=b9 w) O rfl W (λ_ z=>z) lf (λ_ z=>z) (ao h)
 ·refine start _ rfl (λ_=>av (aW (by rw[wd];decide +kernel) ?_)) λz=>by rw[ht]at z;cases z
  exact uM (c:=b9 w) O rfl W (λ_ z=>z) lf (d:=qD (.tab z)) (λk hk=>⟨_,rfl,t4 (d:=.str z) (by rw[kc,hz];rfl) ⟨l2,hk⟩⟩) (ao h)
 ·have no:hs nv q=false->False:=λz=>by rw[ht]at z;cases z
  have WJ:∀{s g:Str} (Mx:Mp) (k:QK),(s,g)∈([("both","both_differences"),("for","for_differences")]:List (Str×Str))->k (.ref (ba w g)) Mx->aB (w.gv.getD 5 .aj) (.str s) Mx k:=λ{s g} Mx k hm z=>by
   rw[O.gs];exact⟨_,um CD hm,z⟩
  rcases hq with ⟨rfl,rfl⟩ |⟨y,rfl,rfl⟩
  ·refine start _ rfl (λ_=>av (dW (by rw[wd];decide +kernel) ⟨l2,fF (b:=true) (by rw[wd];decide +kernel) (aW rfl ?_)⟩)) λz=>(no z).elim;refine eo (c:=b9 w) O rfl W (λ_ z=>z) (by lia) (λk hk=>WJ (s:="both") _ k Ys hk) (λk hk=>hk) (λk hk=>hk) ?_;refine eo (c:=b9 w) O rfl W (λ_ z=>z) (by simp;lia) (λk hk=>hk) (λk hk=>⟨_,rfl,hk⟩) (λk hk=>hk) ?_;refine eo (c:=b9 w) O rfl W (λ_ z=>z) (by simp;lia) (λk hk=>hk) (λk hk=>⟨_,rfl,hk⟩) (λk hk=>hk) (ao ?_);rw[YT,YT];exact h
  ·refine start _ rfl (λ_=>av (dW (by rw[wd];decide +kernel) ⟨l2,fF (b:=true) (by rw[wd];decide +kernel) (aW rfl ?_)⟩)) λz=>(no z).elim;refine eo (c:=b9 w) O rfl W (λ_ z=>z) (by lia) (λk hk=>WJ (s:="for") _ k (Yt _ Ys) hk) (λk hk=>hk) (λk hk=>hk) ?_;refine eo (c:=b9 w) O rfl W (λ_ z=>z) (by simp;lia) (λk hk=>hk) (λk hk=>⟨_,rfl,hk⟩) (λk hk=>hk) ?_;refine eo (c:=b9 w) O rfl W (λ_ z=>z) (by simp;lia) (λk hk=>hk) (λk hk=>⟨_,rfl,hk⟩) (λk hk=>hk) (ao ?_);rw[YT,YT];exact h
 ·have no:hs nv q=false->False:=λz=>by rw[ht]at z;cases z
  rcases hq with ⟨i,rfl,rfl⟩ |⟨c,rfl,rfl⟩ |⟨y,s,rfl,rfl,e8⟩
  ·refine start _ rfl (λ_=>av (dW (by rw[wd];decide +kernel) ⟨l2,fF (b:=false) (by rw[wd];decide +kernel) (aw (by decide) ⟨l2,fF (b:=true) (by rw[wd];decide +kernel) (aW rfl ?_)⟩)⟩)) λz=>(no z).elim;refine eo (c:=b9 w) O rfl W (λ_ z=>z) (by lia) (λk hk=>hk) (λk hk=>hk) (λk hk=>hk) ?_;refine eo (c:=b9 w) O rfl W (λ_ z=>z) (by simp;lia) (λk hk=>hk) (λk hk=>⟨_,rfl,hk⟩) (λk hk=>hk) (ao ?_);rw[YT];exact h
  ·refine start _ rfl (λ_=>av (dW (by rw[wd];decide +kernel) ⟨l2,fF (b:=false) (by rw[wd];decide +kernel) (aw (by decide) ⟨l2,fF (b:=true) (by rw[wd];decide +kernel) (aW rfl ?_)⟩)⟩)) λz=>(no z).elim;refine eo (c:=b9 w) O rfl W (λ_ z=>z) (by lia) (λk hk=>hk) (λk hk=>hk) (λk hk=>hk) ?_;refine eo (c:=b9 w) O rfl W (λ_ z=>z) (by simp;lia) (λk hk=>hk) (λk hk=>⟨_,rfl,hk⟩) (λk hk=>hk) (ao ?_);rw[YT];exact h
  ·have n2:=C.n;have w2:=C.wd;have t2:=C.t
   rw[nq]at n2;rw[wq]at w2;rw[aE]at t2;refine start _ rfl (λ_=>av (dW (by rw[wd];decide +kernel) ⟨l2,fF (b:=false) (by rw[wd];decide +kernel) (aw (by decide) ⟨l2,fF (b:=false) (by rw[wd];decide +kernel) (aw (by decide) (av (aW (by rw[wd];decide +kernel) ⟨_,rfl,s,N,nv,rfl,w2.1,by lia,C.lN,λx z=>t2 x (aal _ z),?_⟩)))⟩)⟩)) λz=>(no z).elim;rw[e8];refine eo (c:=b9 w) O rfl W (λ_ z=>z) (by lia) (λk hk=>hk) (λk hk=>hk) (λk hk=>hk) ?_;refine eo (c:=b9 w) O rfl W (λ_ z=>z) (by simp;lia) (λk hk=>hk) (λk hk=>⟨_,rfl,hk⟩) (λk hk=>hk) (ao ?_);rw[YT];exact h
 ·have no:hs nv q=false->False:=λz=>by rw[ht]at z;cases z
  obtain⟨h1,h2,h3,h4,h5,h6⟩:=hq;have fin:∀z,z=qD q->B.w (b9 w).wd nm.ah (.cons (.ex (.aU 2 (.v 0) (.cons (.call 37 (.cons (.v 1) (.cons (.v 2) .nil))) .nil))) .nil) (bg Q) [some (.ref x),some z,some (dD (aN nv)),some (.str (wd q))] (Wm M0 a b ws fs):=by
   rintro z rfl;exact uM (c:=b9 w) O rfl W (λ_ z=>z) lf (d:=qD (ke nv q)) (λk hk=>⟨q,nv,rfl,C.wd,C.d,hk⟩) (ao h)
  refine start _ rfl (λ_=>av (dW h1 ⟨l2,fF (CC h2 h3) (aw (by decide) ⟨l2,fF (CC h4 h5) (aw (by decide) ?_)⟩)⟩)) λz=>(no z).elim;rcases h6 with h6 |⟨y,p,s,rfl,hp⟩
  ·exact av (dW h6 (fin _ rfl))
  ·have n2:=C.n;have w2:=C.wd;have t2:=C.t
   rw[nq]at n2;rw[wq]at w2;rw[aE]at t2;refine av (aW (by rw[wd];decide +kernel) ⟨_,rfl,p,N,nv,rfl,w2.1,by lia,C.lN,λx z=>t2 x (aal _ z),?_⟩);rw[hp];exact fin _ rfl
variable {w:Wo}
noncomputable def pM (nv:Nv) (q:Qn):Option Qn:=if hs nv q=true then some (ke nv q) else none
noncomputable def aV (nv:Nv):Qn->Option Qn
 |.tab x=>if hs nv (.tab x)=true then (cX x nv).map .tab else none
 |.both a b=>if hs nv (.both a b)=true then dC none [aV nv a,aV nv b] else none
 |.for y a b=>if hs nv (.for y a b)=true then dC none [mf y (aV nv a) (some b),mf y (some a) (aV nv b),mf y (aV nv a) (aV nv b)] else none
 |.times i a=>if hs nv (.times i a)=true then (aV nv a).map (.times i) else none
 |.bh c a=>if hs nv (.bh c a)=true then (aV nv a).map (.bh c) else none
 |.let y a b=>if hs nv (.let y a b)=true then (if hs nv a=true then some (ke nv (.let y a b)) else (aV nv b).map (.let y a)) else none
 |q=>pM nv q
def mC (w:Wo) (f:Addr) (sp:Sp):Prop:=(f=ba w "begin_differences"/\sp=CA w)\/(f=ba w "both_differences"/\sp=Cn w)\/(f=ba w "for_differences"/\sp=Co w)\/(f=ba w "wrap"/\sp=Cp w)
theorem mD (O:Lw w) {e:En}{n:Nat}{M0:Mp}{x a b:Addr}{ws fs:List D}{q:Qn}{nv:Nv}{N:List Str} (W:Wc (w.ca 0) M0 x a b) (T:Wt ws fs q N) (h:Cz w nv q ws fs λcr fs'=>Lp w (mC w) e n x (Wm M0 a b cr fs')):Lp w (mC w) e (n+1) x (Wm M0 a b (ws++[bN w q nv]) fs):=by
 unfold bN;rw[O.ga];refine turn O (.inl ⟨rfl,rfl⟩) W λQ hQ=>⟨M0,x,a,b,ws,fs,q,nv,N,rfl,rfl,W,T,?_⟩;rcases h with ⟨h1,h⟩ |⟨h1,⟨y,z,e1,e2,h⟩ |⟨f,r,s,e1,h⟩ |⟨f,r,e1,h⟩ |⟨e1,h⟩⟩
 ·exact .inl ⟨h1,hQ _ _ h⟩
 ·exact .inr ⟨h1,.inl ⟨y,z,e1,e2,hQ _ _ h⟩⟩
 ·exact .inr ⟨h1,.inr (.inl ⟨f,r,s,e1,hQ _ _ h⟩)⟩
 ·exact .inr ⟨h1,.inr (.inr (.inl ⟨f,r,e1,hQ _ _ h⟩))⟩
 ·exact .inr ⟨h1,.inr (.inr (.inr ⟨e1,hQ _ _ h⟩))⟩
def gy (w:Wo) (nv:Nv) (N:List Str) (q:Qn) (m:Nat):Prop:=∀ {e:En}{n:Nat}{M0:Mp}{x a b:Addr}{ws fs:List D},Wc (w.ca 0) M0 x a b->Wt ws fs q N ->
  Lp w (mC w) e n x (Wm M0 a b ws (fs++[oD (aV nv q)]))->Lp w (mC w) e (n+m) x (Wm M0 a b (ws++[bN w q nv]) fs)
theorem iY (O:Lw w) {nv:Nv}{N:List Str}{q:Qn} (h:hs nv q=false) (e:aV nv q=none):gy w nv N q 1:=λW T K=>by
 rw[e]at K;exact mD O W T (.inl ⟨h,K⟩)
theorem CE (O:Lw w) {nv:Nv}{N:List Str}{q:Qn} (h:hs nv q=true) (hq:pL nv q) (e:aV nv q=some (ke nv q)):gy w nv N q 1:=λW T K=>by
 rw[e]at K;exact mD O W T (.inr ⟨h,.inr (.inr (.inr ⟨hq,K⟩))⟩)
theorem CF (O:Lw w) {nv:Nv}{N:List Str}{q r s:Qn}{f:Addr}{m1 m2:Nat} (h:hs nv q=true) (hq:q=.both r s/\f=ba w "both_differences"\/∃y,q=.for y r s/\f=ba w "for_differences") (h1:gy w nv N r m1) (h2:gy w nv N s m2):gy w nv N q (m1+m2+2):=by
 intro e n M0 x a b ws fs W T K;have hu:us q=[r,s]:=by rcases hq with ⟨rfl,_⟩ |⟨y,rfl,_⟩ <;> rfl
 have hd:=uC q;rw[hu]at hd;have hd:dn q=1+max (dn r) (max (dn s) 0):=hd;have hn:=iX q;rw[hu]at hn;have hn:nq q=1+(nq r+(nq s+0)):=hn;obtain⟨_,hw⟩:=pJ T.wd;rw[hu]at hw;have ht:∀p∈us q,∀x∈aE p,x∈N:=λp hp x hx=>T.t x (uF.mpr (.inr (List.mem_flatMap.mpr ⟨p,hp,hx⟩)));rw[hu]at ht;have lw:=T.lw;have lf:=T.lf;have Rj:=T.n;have td:=T.d
 rw[show n+(m1+m2+2)=(n+1+m2+m1)+1 by lia];refine mD O W T (.inr ⟨h,.inr (.inl ⟨f,r,s,hq,?_⟩)⟩);rw[show ws++[.tup [.ref f,qD q,dD (aN nv)],bN w s nv,bN w r nv]=(ws++[.tup [.ref f,qD q,dD (aN nv)],bN w s nv])++[bN w r nv] by simp];refine h1 W ⟨by simp;lia,by lia,hw r (by simp),by lia,by lia,T.lN,ht r (by simp)⟩ ?_;rw[show ws++[.tup [.ref f,qD q,dD (aN nv)],bN w s nv]=(ws++[.tup [.ref f,qD q,dD (aN nv)]])++[bN w s nv] by simp];refine h2 W ⟨by simp;lia,by simp;lia,hw s (by simp),by lia,by lia,T.lN,ht s (by simp)⟩ ?_;rw[show fs++[oD (aV nv r)]++[oD (aV nv s)]=fs++[oD (aV nv r),oD (aV nv s)] by simp];rcases hq with ⟨rfl,rfl⟩ |⟨y,rfl,rfl⟩
 ·rw[aV,if_pos h]at K;exact turn O (.inr (.inl ⟨rfl,rfl⟩)) W λQ hQ=>⟨M0,x,a,b,ws,fs,aV nv r,aV nv s,_,_,rfl,rfl,W,by lia,hQ _ _ K⟩
 ·rw[aV,if_pos h]at K;exact turn O (.inr (.inr (.inl ⟨rfl,rfl⟩))) W λQ hQ=>⟨M0,x,a,b,ws,fs,y,r,s,aV nv r,aV nv s,_,rfl,rfl,W,by lia,hQ _ _ K⟩
theorem uO (O:Lw w) {nv:Nv}{N:List Str}{q r:Qn}{f:Qn->Qn}{m:Nat} (h:hs nv q=true) (hq:Wl nv q f r) (e1:aV nv q=(aV nv r).map f) (hd:dn r+1<=dn q) (hn:nq r<=nq q) (hr:r∈us q) (h1:gy w nv N r m):gy w nv N q (m+2):=by
 intro e n M0 x a b ws fs W T K;obtain⟨_,hw⟩:=pJ T.wd;have ht:∀x∈aE r,x∈N:=λx hx=>T.t x (uF.mpr (.inr (List.mem_flatMap.mpr ⟨r,hr,hx⟩)));have lw:=T.lw;have lf:=T.lf;have Rj:=T.n;have td:=T.d
 rw[show n+(m+2)=(n+1+m)+1 by lia];refine mD O W T (.inr ⟨h,.inr (.inr (.inl ⟨f,r,hq,?_⟩))⟩);rw[show ws++[.tup [w.gv.getD 42 .aj,qD q,dD (aN nv)],bN w r nv]=(ws++[.tup [w.gv.getD 42 .aj,qD q,dD (aN nv)]])++[bN w r nv] by simp];refine h1 W ⟨by simp;lia,by lia,hw r hr,by lia,by lia,T.lN,ht⟩ ?_;rw[O.gp];rw[e1]at K;have wr:Wr q f:=by
  rcases hq with ⟨i,rfl,rfl⟩ |⟨c,rfl,rfl⟩ |⟨y,s,rfl,rfl,_⟩
  ·exact .inl ⟨_,_,rfl,rfl⟩
  ·exact .inr (.inl ⟨_,_,rfl,rfl⟩)
  ·exact .inr (.inr ⟨_,_,_,rfl,rfl⟩)
 exact turn O (.inr (.inr (.inr ⟨rfl,rfl⟩))) W λQ hQ=>⟨M0,x,a,b,ws,fs,q,f,aV nv r,_,rfl,wr,rfl,W,by lia,hQ _ _ K⟩
theorem dE {nv:Nv}{q:Qn} (h:(["table","both","for","times","when","let"]:List Str).all (λs=>decide (wd q≠s))=true):pL nv q:=by
 have g:=λs hs=>of_decide_eq_true (List.all_eq_true.mp h s hs);exact⟨g _ (by simp),g _ (by simp),g _ (by simp),g _ (by simp),g _ (by simp),.inl (g _ (by simp))⟩
theorem dF (O:Lw w) {nv:Nv}{N:List Str}{q:Qn} (hq:pL nv q) (e:aV nv q=pM nv q):∃m,gy w nv N q m:=by
 cases h:hs nv q with
 |true=>exact⟨_,CE O h hq (by rw[e,pM,if_pos h])⟩
 |false=>exact⟨_,iY O h (by rw[e,pM,if_neg (by rw[h];decide)])⟩
theorem hH (O:Lw w) {nv:Nv}{N:List Str}:∀ q,∃ m,gy w nv N q m
  | .tab y=>by
    cases h:hs nv (.tab y) with
    |false=>exact⟨_,iY O h (by rw[aV,if_neg (by rw[h];decide)])⟩
    | true=>
      refine⟨1,λW T K=>?_⟩;cases hz:cX y nv with
      | none => have : hs nv (.tab y) = false := by simp [hs, aE, hz]
                rw[h]at this;cases this
      | some z=>
        rw[aV,if_pos h,hz]at K;exact mD O W T (.inr ⟨h,.inl ⟨y,z,rfl,hz,K⟩⟩)
  | .both a b=>by
    cases h:hs nv (.both a b) with
    |false=>exact⟨_,iY O h (by rw[aV,if_neg (by rw[h];decide)])⟩
    | true=>
      obtain⟨m1,h1⟩:=hH O a;obtain⟨m2,h2⟩:=hH O b;exact⟨_,CF O h (.inl ⟨rfl,rfl⟩) h1 h2⟩
  | .for y a b=>by
    cases h:hs nv (.for y a b) with
    |false=>exact⟨_,iY O h (by rw[aV,if_neg (by rw[h];decide)])⟩
    | true=>
      obtain⟨m1,h1⟩:=hH O a;obtain⟨m2,h2⟩:=hH O b;exact⟨_,CF O h (.inr ⟨y,rfl,rfl⟩) h1 h2⟩
  | .times i a=>by
    cases h:hs nv (.times i a) with
    |false=>exact⟨_,iY O h (by rw[aV,if_neg (by rw[h];decide)])⟩
    | true=>
      obtain⟨m1,h1⟩:=hH O a;exact⟨_,uO O h (.inl ⟨i,rfl,rfl⟩) (by rw[aV,if_pos h]) (by rw[dn];lia) (by rw[nq];lia) (by simp [us]) h1⟩
  | .bh c a=>by
    cases h:hs nv (.bh c a) with
    |false=>exact⟨_,iY O h (by rw[aV,if_neg (by rw[h];decide)])⟩
    | true=>
      obtain⟨m1,h1⟩:=hH O a;exact⟨_,uO O h (.inr (.inl ⟨c,rfl,rfl⟩)) (by rw[aV,if_pos h]) (by rw[dn];lia) (by rw[nq];lia) (by simp [us]) h1⟩
  | .let y a b=>by
    cases h:hs nv (.let y a b) with
    |false=>exact⟨_,iY O h (by rw[aV,if_neg (by rw[h];decide)])⟩
    | true=>
      cases h':hs nv a with
      |true=>exact⟨_,CE O h ⟨by rw[wd];decide +kernel,by rw[wd];decide +kernel,by rw[wd];decide +kernel,by rw[wd];decide +kernel,by rw[wd];decide +kernel,.inr ⟨y,a,b,rfl,h'⟩⟩ (by rw[aV,if_pos h,if_pos h'])⟩
      | false=>
        obtain⟨m1,h1⟩:=hH O b;exact⟨_,uO O h (.inr (.inr ⟨y,a,rfl,rfl,h'⟩)) (by rw[aV,if_pos h,if_neg (by rw[h'];decide)]) (by rw[dn];lia) (by rw[nq];lia) (by simp [us]) h1⟩
  |.num _=>dF O (dE (by rw[wd];decide +kernel)) rfl
  |.word _=>dF O (dE (by rw[wd];decide +kernel)) rfl
  |.var _=>dF O (dE (by rw[wd];decide +kernel)) rfl
  |.none _=>dF O (dE (by rw[wd];decide +kernel)) rfl
  |.row _=>dF O (dE (by rw[wd];decide +kernel)) rfl
  |.at _ _=>dF O (dE (by rw[wd];decide +kernel)) rfl
  |.add _ _=>dF O (dE (by rw[wd];decide +kernel)) rfl
  |.mul _ _=>dF O (dE (by rw[wd];decide +kernel)) rfl
  |.one _=>dF O (dE (by rw[wd];decide +kernel)) rfl
  |.same _ _=>dF O (dE (by rw[wd];decide +kernel)) rfl
  |.under _ _=>dF O (dE (by rw[wd];decide +kernel)) rfl
  |.and _ _=>dF O (dE (by rw[wd];decide +kernel)) rfl
  |.or _ _=>dF O (dE (by rw[wd];decide +kernel)) rfl
  |.not _=>dF O (dE (by rw[wd];decide +kernel)) rfl
def CG (w:Wo):Sp:=λds M Q _=>∃(M0:Mp) (x a b:Addr) (q:Qn) (nv:Nv) (N:List Str),ds=[.ref x]/\M=Wm M0 a b [bN w q nv] []/\Wc (w.ca 0) M0 x a b/\wq q/\nq q<1000000/\dn q<500/\N.length<64/\(∀x∈aE q,x∈N)/\Q (oD (aV nv q)) (Wm M0 a b [] [])
theorem Rl (O:Lw w):c7 w 4 9 (CG w):=by
 refine iL O.ok O.hn _ ⟨"run",(bj (top 14) 4),["self"]⟩ (by rw[O.hms];rfl) (Vf w (mC w)) { cs:=trivial,ca:=?_ } uz uA λds M Q _ h=>?_
 ·rintro f sp (⟨rfl,rfl⟩ |⟨rfl,rfl⟩ |⟨rfl,rfl⟩ |⟨rfl,rfl⟩)
  ·exact FO.b8 (Ri O) (d:=⟨"begin_differences",top 48,["walk","question","names"]⟩) (by rw[O.hd];rfl)
  ·exact FO.b8 ((Qx O).mono (by decide)) (d:=⟨"both_differences",top 53,["walk","question","names"]⟩) (by rw[O.hd];rfl)
  ·exact FO.b8 ((Qy O).mono (by decide)) (d:=⟨"for_differences",top 54,["walk","question","names"]⟩) (by rw[O.hd];rfl)
  ·exact FO.b8 ((Qz O).mono (by decide)) (d:=⟨"wrap",top 57,["walk","question","names"]⟩) (by rw[O.hd];rfl)
 obtain⟨M0,x,a,b,q,nv,N,rfl,rfl,W,hw,hn,hd,hN,ht,h⟩:=h;obtain⟨m,R⟩:=hH (nv:=nv) (N:=N) O q;refine⟨rfl,1+m,?_⟩;refine R (ws:=[]) (fs:=[]) (n:=1) W ⟨by simp;lia,by simp;lia,hw,hn,hd,hN,ht⟩ (over O W λ_ _ _=>?_) _ _ _;obtain⟨dx,hx⟩:=W.gx (ws:=[]) (fs:=[]++[oD (aV nv q)]);refine⟨_,dx,_,hx,.ref b,O.UK,rfl,.inl ⟨rfl,_,Wm.gb⟩,_,Wm.gb,oD (aV nv q),rfl,?_⟩;rw[Wm.pb];exact ao h
noncomputable def Rm:B:=.cons (.ret (.ix (.v 3) (.c (.int 1)))) .nil
noncomputable def Rn:B:=.cons (.cond (.cmp .NotEq (.ix (.v 3) (.c (.int 0))) (.c (.str "bag"))) (.cons .dead .nil) .nil) Rm
noncomputable def CH:B:=.cons (.cond (.c (.bl true)) (.cons (.set (.one 3) (.call 11 (.cons (.v 0) (.cons (.v 1) (.cons (.v 2) .nil))))) .nil) .nil) Rn
theorem Ro:ay ["question","kinds","stock","kind","fault"] ["question","kinds","stock"] (af (top 47)):=⟨rfl,rfl,rfl,by decide +kernel,rfl,by decide +kernel,by decide +kernel⟩
theorem Rp:aC nm 40 ["question","kinds","stock","kind","fault"] (af (top 47)) (ar (top 47))=CH:=by kernel_rfl
def Rq:Sp:=λds M Q _=>∃K S' S G q k,ds=[qD q,dD K,S']/\dh K G/\gw S' S M/\Ty S G q (.ai k)/\dn q<500/\K.length<500/\Q (kD k) M
noncomputable def Rr:B:=.cons (.ret (.ite (.cmp .Is (.v 6) (.c .aj)) (.tup (.cons (.c (.str "none")) (.cons (.v 4) .nil))) (.v 6))) .nil
noncomputable def Rt:B:=.cons (.set (.one 6) (.aU 4 (.v 5) .nil)) Rr
noncomputable def Ru:B:=.cons (.ex (.aU 1 (.v 5) (.cons (.g 35) (.cons (.v 0) (.cons (.v 1) .nil))))) Rt
noncomputable def CI:B:=.cons (.set (.one 5) (.new 0 .nil)) Ru
theorem Rv:ay ["question","names","kinds","stock","row_kind","walk","told"] ["question","names","kinds","stock"] (af (top 46)):=⟨rfl,rfl,rfl,by decide +kernel,rfl,by decide +kernel,by decide +kernel⟩
def Rw:Sp:=λds M Q _=>∃(nv:Nv) (K:List (Key×D)) (S':D) (S:Str->Option Kd) (G:Sc) (q:Qn) (k:Kd) (N:List Str),ds=[qD q,dD (aN nv),dD K,S']/\dh K G/\gw S' S M/\Ty S G q (.ai k)/\dn q<500/\nq q<1000000/\K.length<500/\N.length<64/\(∀x∈aE q,x∈N)/\Q (qD ((aV nv q).getD (.none k))) M
end K28
end
section
set_option maxHeartbeats 1000000
namespace N
open PySem PySem.Spec PyProof.Rows L2
noncomputable abbrev eZ:List Value:=[.type "ValueError",.type "Exception",.type "BaseException",.type "object"]
structure fG (K:PySem.W.Frag) (C:Addr) (bm:List Value):Prop where
 base:bm.contains (.type "BaseException")=true
 go:∃nm q N bs hdct sn sub ab col dd k0 k1 k2 k3 k5 mN,mN "__init__"=none/\∀h,K.In h ->
  h.get? C=some (excClassObj nm q C N bs bm hdct sn sub ab col dd k0 k1 k2 k3 k5 "ValueError.__new__")/\h.Ns N mN/\OwnTail h eZ bm
def CJ (C:Addr) (E:XQ) (t:DA):DS:=λ_ τ M=>t τ M λds M1=>ds.length<=sizeLine/\E ⟨.ref C,[]⟩ M1
section
variable {X:Cx}{C:Addr}{bm:List Value}{x:Str}{np cpos pos:Pos}{e:Expr}{es:List Expr}{t:DA}{E:XQ}
theorem Rx (XC:fG X.G.K C bm) (hc:X.calm=true) (hg:Gl X x) (hm:X.G.mg x=some (.ref C)) (hd:(x == ("__debug__" : Str))=false) (hx:dt X E) (ha:PA X (e::es) t)
  (he:starEach (e::es) X.env=(false,eval e X.env)::starEach es X.env) (bv:(backTo cpos (starEach es X.env)).any (·.1)=false) :
  PS X (.Raise (some (.Call (.Name x np) (e::es) [] cpos)) none pos) (CJ C E t):=by
 intro τ z en R I h k;obtain⟨nm,q,N,bs,hdct,sn,sub,ab,col,dd,k0,k1,k2,k3,k5,mN,Ps,go⟩:=XC.go;have hp:(backTo cpos (starEach (e::es) X.env)).any (·.1)=false:=by
  rw[he];show (false ||(backTo cpos (starEach es X.env)).any (·.1))=false;rw[bv];rfl
 refine wpAny_Raise_call_subU (C:=C) (nm:=nm) (q:=q) (N:=N) (bs:=bs) (bm:=bm) (hdct:=hdct) (sn:=sn) (sub:=sub) (ab:=ab) (col:=col) (dd:=dd) (k0:=k0) (k1:=k1) (k2:=k2) (k3:=k3) (k5:=k5) (mN:=mN)
  PySem.F.excBase_ValueError (by decide +kernel) PySem.F.excBase_ValueError XC.base (I.ok.hd hc) hp Ps (fb I hg hm hd ⟨rfl,?_⟩)
 have ha':=ha cpos τ z _ (λus s1=>us.length<=sizeLine/\s1.heap.get? C=some (excClassObj nm q C N bs bm hdct sn sub ab col dd k0 k1 k2 k3 k5 "ValueError.__new__")/\s1.heap.Ns N mN/\OwnTail s1.heap eZ bm /\
  ∀h' e,Heap.MadeExcOf s1.heap h' e (.ref C) us->XE X (.ref e) { s1 with heap:=h' }) I h λds z1 us l1 I1 r hq=>?_
 ·rw[he]at ha' ⊢;exact Calls.evalArgs_plain (Zm ha' (λus s1 y=>⟨rfl,y⟩) λ_ _ y=>y)
 ·obtain⟨g1,g2,g3⟩:=go z1.s.heap I1.bp;refine⟨by rw[<- r.len];exact hq.1,g1,g2,g3,λh' a m=>?_⟩;obtain⟨Wf,ht,_,_⟩:=m.there;refine⟨⟨.ref C,[]⟩,τ,⟨z1.F,z1.M,{ z1.s with heap:=h' }⟩,a,.ref Wf,none,rfl,I1.kept (t:=z1.s.toks) λb o e=>m.keeps b o e,rfl,⟨?_,?_,λob e=>by rw[show h'.get? a=_ from ht]at e;cases e;rfl,_,_,ht,⟨rfl,rfl⟩,rfl,rfl⟩,.inl rfl,hx _ _ _ hq.2⟩
  ·exact aaf λy=>by obtain⟨o,e⟩:=I1.vO y;rw[m.new]at e;cases e
  ·exact aaf λy=>by obtain⟨o,e⟩:=I1.vP y;rw[m.new]at e;cases e
end
end N
end
section
set_option maxHeartbeats 1000000
namespace N
open PySem PySem.Spec PyProof.Rows L2
section
variable {M:Model}{A:Around}{E:Value->Shared->Prop}
variable {nm q ul q':Str}{C N C' N':Addr}{bs bm ut pi:List Value}{hdct uP:Bool}{sn uQ:List Str}{sub uR:List Value}{ab uS:Bool}{col uT:Option Bool}{dd gN:Option Addr}{k0 k1 k2 k3 k5 U0 j1 j2 V6 V7:Option Value}{Re Rs:String}
theorem Ry {h:Heap}{g:Array GenState}{d:Drawn}{t:Nat}{os:OsState}{e:Addr}{oe:Obj}{Q:Bool->Shared->Prop}
  (hC:h.get? C=some (excClassObj nm q C N bs bm hdct sn sub ab col dd k0 k1 k2 k3 k5 Re)) (hA:h.get? C'=some (excClassObj ul q' C' N' ut pi uP uQ uR uS uT gN U0 j1 j2 V6 V7 Rs))
  (he:h.get? e=some oe) (kE:oe.cls=.ref C) (fZ:pi.contains (.type "BaseException")=true)
  (hq:Q ((YF C::bm).contains (.ref C')) ⟨h,g,d,t,os⟩):wpAny M A (excMatches (.ref e) (.ref C')) Q E ⟨h,g,d,t,os⟩:=by
 have Rz:(YF C'::pi).contains (.type "BaseException")=true:=by rw[List.contains_cons,fZ,Bool.or_true]
 have f:=tc_notTuple;unfold excMatches
 repeat (first |(with_reducible refine wpAny_loadPart_at he ?_;rw[kE]) |with_reducible refine wpAny_loadPart_at hA ?_ |(with_reducible refine wpAny_isSubtype_exc hA ?_;rw[Rz]) |with_reducible refine wpAny_isSubtype_exc hC ?_ |wp_step)
 cases hb:(YF C::bm).contains (.ref C') <;> (rw[hb]at hq;wp_walk;exact hq)
end
section
variable {prog:Program}{w:World}{A:Around}{E:Value->Shared->Prop}{s:Shared}{env:Env}
theorem RA {e:Addr}{t:Expr}{n:Str}{b₀:Stmt}{ge:List Stmt}{pos:Pos}{rest:List ExceptHandler}{Q:Flow->Shared->Prop}
  (h:wpAny (model prog w) (A.mark (some (.ref e))) (eval t env) (λc s₁=>wpAny (model prog w) (A.mark (some (.ref e))) (excMatches (.ref e) c) (λb s₁=>
   if b then wpAny (model prog w) (A.mark (some (.ref e))) (setFlight (.ref e) none) (λ_ s₂=>
     wpAny (model prog w) (A.mark (some (.ref e))) (storeName env n (.ref e)) (λ_ s₃=>
      wpAny (model prog w) (A.mark (some (.ref e))) (execs (b₀::ge) env)
       (λf s₄=>wpAny (model prog w) A (do bindName env n .none;unbindBehindTheSuite env n pos) (λ_ s₅=>Q f s₅) E s₄)
       (λ_ _=>False) s₃) (λ_ _=>False) s₂) (λ_ _=>False) s₁
   else wpAny (model prog w) A (handleBy (.ref e) env rest) Q E s₁) (λ_ _=>False) s₁) (λ_ _=>False) s) :
  wpAny (model prog w) A (handleBy (.ref e) env (.ExceptHandler (some t) (some n) (b₀::ge) pos::rest)) Q E s:=by
 refine wpAny_handleBy_cons (codeAny_handlers_test (Zm h (λc s₁ h₁=>?_) λ_ _ x=>x.elim)) (by intro q;cases q);refine Zm h₁ (λb s₂ h₂=>?_) λ_ _ x=>x.elim;cases b with
 |true=>
  refine codeAny_handlers_suite_as (Zm h₂ (λ_ s₃ h₃=>Zm h₃ (λ_ s₄ h₄=>Zm h₄ (λf s₅ h₅=>?_) λ_ _ x=>x.elim) λ_ _ x=>x.elim) λ_ _ x=>x.elim);exact h₅
 |false=>exact h₂
end
theorem RB {X:Cx} {τ:St} {z:Z}{M:Model}{A:Around}{E:Value->Shared->Prop}{j:Nat}{n:Str}{pos:Pos}{Q:Unit->Shared->Prop} (I:aa X τ z) (hN:X.N.Nodup) (hj:X.N[j]?=some n) (hk:X.env.scope.names.lookup n=some .local)
  (h:∀s',aa X (τ.set j none) ⟨z.F,z.M,s'⟩->Q () s'):wpAny M A (do bindName X.env n .none;unbindBehindTheSuite X.env n pos) Q E z.s:=by
 obtain⟨m,hn,hl⟩:=id I.loc;have kE:(X.env.scope.kind == .class ||(X.env.scope.kind == .module && X.env.locals != X.env.globals))=false:=by rw[I.ok.kind];rfl
 refine wpAny_nameGoes_keeps hk hn kE λh' v kF hs=>h _ (I.qm (.inl rfl) hs kF (λi y d e1 e2 e3=>?_) (λy hy=>absurd rfl (I.gA hy)) (List.length_set ..));have ne:i≠j:=λe=>by
  subst e;have:i < τ.length:=by rw[I.len];exact (List.getElem?_eq_some_iff.mp hj).1
  rw[List.getElem?_set_self this]at e2;cases e2
 rw[List.getElem?_set_ne (Zl ne)]at e2;obtain⟨u,r,q⟩:=hl i y d e1 e2 e3;have V2:y≠n:=λe=>ne (vA hN e1 (e ▸ hj));refine⟨u,r,?_⟩;rcases q with ⟨k,e⟩ |⟨k,c,e,q⟩
 ·exact .inl ⟨k,(if_neg V2).trans e⟩
 ·exact .inr ⟨k,c,e,q.sameBut hs (I.gA e)⟩
noncomputable def Cx.wx (X:Cx) (x:jd->St->Mp->Prop) (F:Fz):Cx:={ X with x:=x,F0:=F }
noncomputable def Cx.hx (X:Cx) (a:Addr) (F:Fz):Cx:={ X with A:=X.A.mark (some (.ref a)),calm:=false,x:=λ_ _ _=>False,F0:=F }
section
variable {X:Cx} {τ:St} {z:Z}{a:Addr}{x':jd->St->Mp->Prop}
theorem aa.wx (I:aa X τ z) (hs:X.stk=X.env::X.outer/\X.env.frame=some X.env.locals):aa (X.wx x' z.F) τ z:=⟨⟨I.ok.mod,I.ok.kind,I.ok.cw,I.ok.gz,I.ok.inj,I.ok.has,I.ok.hd,I.ok.frames,I.ok.stk,λ_ _ _ _=>hs⟩,I.bs,I.os,I.bare,I.bx,I.loc,I.cell,I.free,I.hok,I.len,Le.rfl⟩
theorem aa.CK {F:Fz} (ok:X.Ok) (l:Le X.F0 F) (I:aa (X.wx x' F) τ z):aa X τ z:=⟨ok,I.bs,I.os,I.bare,I.bx,I.loc,I.cell,I.free,I.hok,I.len,l.tr I.f0⟩
theorem aa.hx (I:aa X τ z):aa (X.hx a z.F) τ z:=⟨⟨I.ok.mod,I.ok.kind,I.ok.cw,I.ok.gz,I.ok.inj,I.ok.has,λh=>Bool.noConfusion (show false=true from h),I.ok.frames,I.ok.stk,λ_ _ _ h=>h.elim⟩,I.bs,I.os,I.bare,I.bx,I.loc,I.cell,I.free,I.hok,I.len,Le.rfl⟩
theorem aa.RC {F:Fz} (ok:X.Ok) (l:Le X.F0 F) (I:aa (X.hx a F) τ z):aa X τ z:=⟨ok,I.bs,I.os,I.bare,I.bx,I.loc,I.cell,I.free,I.hok,I.len,l.tr I.f0⟩
theorem aa.RD {oe:Obj}{vs:Array Value} (I:aa X τ z) (hF:z.F a=none) (hM:z.M a=none) (e:z.s.heap.get? a=some oe) (hd:oe.data=.fields vs):aa X τ ⟨up z.F a (.dat oe),z.M,z.s⟩:=by
 refine I.go (Le.new hF) (I.hok.jb hF hM (f:=.dat oe) e) (λb hb=>⟨a8.s λ_ e=>e,I.cy hb,ax λq=>?_⟩) rfl I.bare;subst q;rcases hb with rfl |⟨x,hx⟩
 ·obtain⟨o',es,ep,ho,em,_⟩:=I.ku;rw[ho]at e;cases e;rw[hd]at em;cases em
 ·obtain⟨⟨v,o',ho,em⟩,_⟩:=I.cell x _ hx;rw[ho]at e;cases e;rw[hd]at em;cases em
end
def CL (K:PySem.W.Frag) (CT:Addr) (ts:Addr->Addr->List Value->DS) (j:Nat) (e:En) (τ:St):XQ:=λx M1=>∃C bm,x.C=.ref C/\fG K C bm/\(YF C::bm).contains (.ref CT)=true/\∀a,ts a C bm { nx:=fun τ2 M2=>e.nx (τ2.set j none) M2,rt:=λ_ _=>False } (τ.set j (some (.ref a))) M1
def uU (K:PySem.W.Frag) (CT:Addr) (tc:XQ->DE) (ts:Addr->Addr->List Value->DS) (j:Nat):DS:=λe τ M=>tc (CL K CT ts j e τ) τ M λ_ M1=>e.nx τ M1
theorem RE {X:Cx}{iJ:Expr}{tc:XQ->DE}{ts:Addr->Addr->List Value->DS}{j:Nat}{n xT:Str}{pT p ph pos:Pos}{b₀:Stmt}{ge:List Stmt}{CT:Addr}{CN:List Value}
  (cf:X.stk=X.env::X.outer/\X.env.frame=some X.env.locals) (CO:X.N.Nodup) (hj:X.N[j]?=some n) (hk:X.env.scope.names.lookup n=some .local)
  (XT:fG X.G.K CT CN) (RF:Gl X xT) (RG:X.G.mg xT=some (.ref CT)) (gl:(xT == ("__debug__" : Str))=false) (lD:ed iJ=false)
  (rP:∀x' F (E:XQ) τ z Q R,(∀x M,E x M->x' x τ M)->aa (X.wx x' F) τ z->tc E τ z.M Q->KE (X.wx x' F) τ z.F Q R->W (X.wx x' F) (eval iJ X.env) R z.s)
  (hs:∀a F oe C bm,F a=some (.dat oe)->oe.cls=.ref C->(∃vs,oe.data=.fields vs)->oe.dict=none->fG X.G.K C bm->bR (X.hx a F) (b₀::ge) (ts a C bm)) :
  PS X (.Try [.Expr iJ p] [.ExceptHandler (some (.Name xT pT)) (some n) (b₀::ge) ph] [] [] pos) (uU X.G.K CT tc ts j):=by
 intro τ z e R I h k;have body:=rP (λx τ' M=>τ'=τ/\CL X.G.K CT ts j e τ x M) z.F _ τ z _ (λv s=>R .next s) (λx M h=>⟨rfl,h⟩) (I.wx cf) h λd z1 u l1 I1 r1 q1=>k.nx τ z1 l1 (I1.CK I.ok I.f0) q1;refine wpAny_Try_except (wpAny_execs_cons (wpAny_Expr_any (Zm body (λv s hv=>aan (aan hv)) λex s hx=>?_) I.wD (jO lD)));obtain⟨x,τ1,z1,a,a0,fo,rfl,I1,rfl,h1,h2,rfl,C,bm,hC,XC,sw,B2⟩:=hx;have J:=I1.CK I.ok I.f0;have l1:Le z.F z1.F:=I1.f0;refine qh J cf.1 cf.2 h1 h2 λh' I2 x2=>mY (z:=⟨z1.F,z1.M,{ z1.s with heap:=h' }⟩) (fl:=none) I2 cf.1 cf.2 x2 λh3 I3 x3=>?_;refine RA (fb (X:=X.hx a z1.F) I3.hx RF RG gl ?_);obtain⟨oe,vs,q1,⟨q2,q3⟩,q4,_⟩:=x3.o;obtain⟨_,_,_,_,_,_,_,_,_,_,_,_,_,_,_,_,_,go⟩:=XC.go;obtain⟨_,_,_,_,_,_,_,_,_,_,_,_,_,_,_,_,_,RH⟩:=XT.go;refine Ry (go _ I3.bp).1 (RH _ I3.bp).1 q1 (q2.trans hC) XT.base ?_;rw[sw,if_pos rfl];refine mY (z:=⟨z1.F,z1.M,{ z1.s with heap:=h3 }⟩) (fl:=none) I3 cf.1 cf.2 x3 λh4 I4 x4=>?_;obtain⟨oe,vs,q1,⟨q2,q3⟩,q4,_⟩:=x4.o;have I5:=I4.RD (z:=⟨z1.F,z1.M,{ z1.s with heap:=h4 }⟩) x4.f x4.m q1 q4;have l5:Le z.F (up z1.F a (.dat oe)):=l1.tr (Le.new x4.f);refine kC (X:=X.hx a (up z1.F a (.dat oe))) (aa.hx (X:=X) (a:=a) I5) CO hj (.inl hk) (.inr hk) (d:=.ref a) (by rw[ae]) λs6 I6=>?_;refine Zm (hs a _ oe C bm au (q2.trans hC) ⟨_,q4⟩ (x4.nd _ q1) XC (τ1.set j (some (.ref a))) ⟨up z1.F a (.dat oe),z1.M,s6⟩ _ (λf s=>wpAny (model X.G.P X.G.w) X.A (do bindName X.env n .none;unbindBehindTheSuite X.env n ph) (λ_ s₅=>R f s₅) (XE X) s) I6 (B2 a)
  ⟨fun τ2 z2 l2 I7 q=>?_,λ_ _ _ _ _ _ _ q=>q.elim,λ_ _ _ _ q=>q.elim,λ_ _ _ _ q=>q.elim⟩) (λ_ _ h=>h) λ_ _ h=>(h.no λ_ _ _ h=>h).elim
 exact RB (I7.RC I.ok (I.f0.tr l5)) CO hj hk λs8 I8=>k.nx _ ⟨z2.F,z2.M,s8⟩ (l5.tr l2) I8 q
end N
end
section
set_option maxHeartbeats 1000000
namespace N
open PySem PySem.Spec PyProof.Rows L2 PySem.W
section
variable {prog:Program}{w:World}{A:Around}{E:Value->Shared->Prop}{h:Heap}{g:Array GenState}{d:Drawn}{t:Nat}{os:OsState}{K:Frag}{a D:Addr}{oe:Obj}
theorem RI:builtinKind "BaseException.__getattribute__"=some .slot:=by decide +kernel
theorem RJ:splitId "BaseException.__getattribute__"=some ("BaseException","__getattribute__"):=by decide +kernel
theorem RK {tk:Tok}{Q:Fin->Shared->Prop} (X:K.In h) (I:PySem.W.InstAt h a oe D none) (hf:findObj K D none "__class__"=some (.bind (.builtin "getset_descriptor.__get__") (.builtin "object.__class__"))) (hm:mroIn K D (.type "object")=some true)
  (hq:Q (.done (.ret (.ref D))) ⟨h,g,d,t,os⟩):wpAny (model prog w) A (Builtin.«object.__getattribute__» ⟨[.ref a,.str "__class__" tk],[]⟩) Q E ⟨h,g,d,t,os⟩:=by
 have L0:=I.type (M:=model prog w);have L1:=looks_find (M:=model prog w) X I hf;refine Yj (Yl (Yj (Yl (Yj (L0.at (Yj (L1.at ?_)))))));show wpAny _ _ (call (.builtin "getset_descriptor.__get__") [.builtin "object.__class__",.ref a,.ref D] >>= ret) _ _ _;exact Yj (wpAny_call (class_get (s:=⟨h,g,d,t,os⟩) X I hm (Yl hq)))
theorem RL (self:Value):bindSpecial (.builtin "BaseException.__getattribute__") self=pure (.builtin "BaseException.__getattribute__",[self]):=F.excAttr_ValueError.ga.bind self
theorem RM {M:Model}{x:Value}{Q:Unit->Shared->Prop} (X:K.In h) (I:PySem.W.InstAt h a oe D none) (hs:subIn K (.ref D) (.type "BaseException")=some true)
  (hq:Q () ⟨h,g,d,t,os⟩):wpAny M A (checkBuiltinCall "BaseException.__getattribute__" ⟨[.ref a,x],[]⟩) Q E ⟨h,g,d,t,os⟩:=by
 have Xq:Looks M h (isInstance (.ref a) (.type "BaseException")) true:=(I.type (M:=M)).andThen (looks_subIn X hs);simp only[checkBuiltinCall,RI,RJ];refine Yj (Xq.at ?_);simp only[Bool.not_true,Z6,if_false];have ha:=F.args_bexc_ga (.ref a) x;cases RN:Manifest.signature? "BaseException.__getattribute__" with
 |none=>exact Yl hq
 |some CP=>
  simp only[argsOk,RN]at ha;have h2:Bind.checkArgs "BaseException.__getattribute__" CP ⟨[.ref a,x],[]⟩=pure ():=ha;show wpAny M A (Bind.checkArgs "BaseException.__getattribute__" CP ⟨[.ref a,x],[]⟩) Q E _;rw[h2];exact Yl hq
theorem RO {tk:Tok}{R:Result->Shared->Prop} (X:K.In h) (I:PySem.W.InstAt h a oe D none) (hs:subIn K (.ref D) (.type "BaseException")=some true) (hf:findObj K D none "__class__"=some (.bind (.builtin "getset_descriptor.__get__") (.builtin "object.__class__"))) (hm:mroIn K D (.type "object")=some true)
  (hq:R (.ok (.ret (.ref D))) ⟨h,g,d,t,os⟩):codeAny (model prog w) A (.call (.builtin "BaseException.__getattribute__") ⟨[.ref a,.str "__class__" tk],[]⟩) R ⟨h,g,d,t,os⟩:=
 codeAny_call_builtin F.excAttr_ValueError.ga.plain F.entry_bexc_ga (RM X I hs (RK X I hf hm hq))
theorem RP {Q:Option Value->Shared->Prop} (X:K.In h) (I:PySem.W.InstAt h a oe D none) (hs:subIn K (.ref D) (.type "BaseException")=some true) (hf:findObj K D none "__class__"=some (.bind (.builtin "getset_descriptor.__get__") (.builtin "object.__class__"))) (hm:mroIn K D (.type "object")=some true)
  (uV:findIn K (.ref D) "__getattribute__"=some (some (.builtin "BaseException.__getattribute__"))) (uW:findIn K (.ref D) "__getattr__"=some none)
  (hq:Q (some (.ref D)) ⟨h,g,d,t+1,os⟩):wpAny (model prog w) A (getAttr? (.ref a) "__class__") Q E ⟨h,g,d,t,os⟩:=by
 have L0:=I.type (M:=model prog w);have L1:=looks_findIn (M:=model prog w) X uV;have L2:=looks_findIn (M:=model prog w) X uW;unfold getAttr? getAttrBy? getAttrBy;refine Yj (wpAny_mkText (Yj (ZF (Y3 (Yj (L0.at (Yj (L1.at ?_))))))));dsimp only;rw[if_neg (by simp [onTheHeap])];unfold getAttrByItsOwn hookBefore;rw[if_pos (by rfl)];refine Yj (L2.at ?_);unfold callGetattribute;rw[if_neg (by simp)];unfold boundAndCalled;rw[RL];refine Yj (ZF (Y3 (Yj (Yl (wpAny_call (RO X I hs hf hm ?_))))));exact handed_on rfl (Yl hq)
end
structure iZ (K:Frag) (D:Addr):Prop where
 hs:subIn K (.ref D) (.type "BaseException")=some true
 hf:findObj K D none "__class__"=some (.bind (.builtin "getset_descriptor.__get__") (.builtin "object.__class__"))
 hm:mroIn K D (.type "object")=some true
 uV:findIn K (.ref D) "__getattribute__"=some (some (.builtin "BaseException.__getattribute__"))
 uW:findIn K (.ref D) "__getattr__"=some none
 hc:(clsIn K D).isSome=true
theorem iZ.obj {K:Frag}{D:Addr} (x:iZ K D):∃c' d' po jh,K.lookup D=some ⟨c',d',.cls po,jh⟩:=by
 have:=x.hc;unfold clsIn at this;split at this
 ·rename_i c' d' po jh ho;exact⟨_,_,_,_,ho⟩
 ·cases this
theorem CQ {K:Frag}{a D:Addr} (x:iZ K D):KitX K (.ref a) (.ref D) (λh=>∃oe,PySem.W.InstAt h a oe D none) where
 ty:=λM h _ p=>let ⟨_,I⟩:=p;I.type
 it:=λM h X _ A' Q' E' s' k q=>by
  obtain⟨c',d',po,jh,ho⟩:=x.obj;unfold isType loadHead;exact Yj (wpAny_loadPart (k _ _ (X _ _ ho)) (Yl q))
 ne:=λh tp dd its n sl X RQ=>Bool.eq_false_iff.mpr λq=>by
  obtain⟨c',d',po,jh,ho⟩:=x.obj;have e:D=tp:=Value.ref.inj (beq_iff_eq.mp q);subst e;have z:=(X _ _ ho).symm.trans RQ;cases z
 ca:=λ{prog w A E Q s} X p k=>by
  obtain⟨oe,I⟩:=p;obtain⟨h,g,d,t,os⟩:=s;exact RP X I x.hs x.hf x.hm x.uV x.uW k
def RS (K:Frag) (a D:Addr):QN:=λds M q=>∃b,((∃c,ds=[.ref a,.ref c]/\kitOne K (.ref D) (.ref c)=some b)\/∃T,ds=[.ref a,.ty T]/\kitOne K (.ref D) (.type T)=some b)/\q (.bl b) M
theorem CS {X:Cx}{a D:Addr}{oe:Obj} (x:iZ X.G.K D) (hF:X.F0 a=some (.dat oe)) (hc:oe.cls=.ref D) (hd:∃vs,oe.data=.fields vs) (hn:oe.dict=none):CB X (.builtin "isinstance") (RS X.G.K a D):=fun τ z Q R ds us I rs q k=>by
 have IA:∃oe,PySem.W.InstAt z.s.heap a oe D none:=⟨oe,I.hok.fz a _ (I.f0 a _ hF),hc,by obtain⟨vs,hd⟩:=hd;unfold notCls;rw[hd],by rw[hn];trivial⟩;obtain⟨b,h,q⟩:=q;rcases h with ⟨c,rfl,e⟩ |⟨T,rfl,e⟩
 ·obtain⟨u,v,rfl,ru,rv⟩:=ff rs;have ru:u=.ref a:=by rw[ae]at ru;exact ru
  rw[ae]at rv;subst ru;subst rv;exact kia_one (CQ x) I.bp IA e (λz=>nomatch z) λtk=>I.fin k Le.rfl (by rw[ae]) q _
 ·obtain⟨u,v,rfl,ru,rv⟩:=ff rs;have ru:u=.ref a:=by rw[ae]at ru;exact ru
  rw[ae]at rv;subst ru;subst rv;exact kia_one (CQ x) I.bp IA e (λz=>nomatch z) λtk=>I.fin k Le.rfl (by rw[ae]) q _
end N
end
section
set_option maxHeartbeats 1000000
namespace N
open PySem PySem.Spec PyProof.Rows L2
structure cY (m:Nm) (W:Wd) (k:Nat) (ns:List Str) (sc:Scope) (G:Gx) (X:Cx) (E:XQ):Prop where
 c:aX m W k ns sc X
 g:X.G=G
 fn:∀y,X.fn y=true
 st:X.stk=X.env::X.outer/\X.env.frame=some X.env.locals
 CU:dt X E
theorem RT {G:Gx}{m:Nm}{W:Wd}{k:Nat}{x qual:Str}{st:Stmt}{f:Addr}{fd:FuncData}{ns ps:List Str}{sp:Sp}{T:XQ->DS} (F:c5 G.K x qual st f fd) (S:ay ns ps (af st)) (En:jP m W k G)
  (hT:∀X E,cY m W k ns (af st) G X E->bR X (ar st) (T E))
  (h:∀ds M Q E,sp ds M Q E->ds.length=ps.length/\T E (bg Q) (start ns ds) M):a6 G (k+1) f fd ps sp:=by
 obtain⟨oc,od,kV,doc,pm,an,ap,ct,bY,rfl,lk,cL⟩:=F.ex;have key:a6 G (k+1) f (PySem.W.fnOf x qual (dN st) (ar st) (af st) .none kV doc pm an ap ct) ps λds M R E=>∃Q,R=aZ Q/\sp ds M Q E:=by
  refine nV lk cL S (λds M R E ⟨Q,_,z⟩=>(h ds M Q E z).1) λA outer s M ds R E hr ⟨Q,e,z⟩=>?_;subst e;have C:aX m W k ns (af st) (bQ G ns qual (af st) f ap A outer s E):=⟨rfl,rfl,S.nd,rfl,hr,En⟩;exact⟨_,hT _ E ⟨C,rfl,λ_=>rfl,⟨rfl,rfl⟩,λ_ _ _ h=>h⟩,(h ds M Q E z).2⟩
 refine⟨λds M Q E z=>(h ds M Q E z).1,λA outer z args us ds Q E hr e0 hb r hs=>Zy (key.dX A outer z args us ds (aZ Q) E hr e0 hb r ⟨Q,rfl,hs⟩) λr s q=>q.ret⟩
theorem u5 {w:Wo} (O:w.Ok) {nm:Nm} (hn:w.nm=nm) {k:Nat}{ns:List Str}{T:XQ->DS}{sp:Sp} (i:Nat) (d:Ds) (hd:w.ds[i]?=some d) (l:aS w) (hl:l.Ok k) (S:ay ns d.ps (af d.st))
  (hT:∀X E,cY nm l.wd k ns (af d.st) w.G X E->bR X (ar d.st) (T E))
  (h:∀ds M Q E,sp ds M Q E->ds.length=d.ps.length/\T E (bg Q) (start ns ds) M):FO w i (k+1) sp:=by
 subst hn;obtain⟨f,fd,F⟩:=O.df i d hd;obtain⟨n,Fn⟩:=F.fn;exact⟨d,f,fd,hd,F,RT Fn S (hl.env O) hT h⟩
theorem cY.s {m:Nm}{W:Wd}{k:Nat}{ns:List Str}{sc:Scope}{G:Gx}{X:Cx}{E:XQ} (H:cY m W k ns sc G X E) (n:Nat) (s:Stmt):PS X s ((cE m n ns sc s).w W m.ah):=tf H.c (λy _=>.inl (H.fn y)) n s
section
variable {m:Nm}{W:Wd}{k n:Nat}{ns:List Str}{sc:Scope}{G:Gx}{X:Cx}{E:XQ}{x y:Str}{a:Expr}{as:List Expr}{np cp yp pos:Pos}{i j:Nat}
theorem cY.call (H:cY m W k ns sc G X E) (hi:m.bD[i]?=some x) (hg:aH sc x=true) (hn:dQ x=true) (hs:aQ (a::as)=true):PE X (.Call (.Name x np) (a::as) [] cp) (fj (W.sp i) [] E ((L.of ((a::as).map (aJ m n ns sc))).w W m.ah)):=by
 obtain⟨f,fd,ps,g1,g2,g3,g4⟩:=H.c.en.fn i x hi;have h':(bA a && aQ as)=true:=hs;rw[Yq]at h';exact xU g1 H.c.room (H.c.aH hg) g2 g3 g4 fx H.CU (gg hs λe _=>(eP n H.c e).e) (cV hn).1 (bz h'.1) (dr h'.2)
theorem cY.gV (H:cY m W k ns sc G X E) (hl:loc sc y=true) (hj:cU y ns 0=some j):fR X [j] [y]:=⟨by rw[H.c.hN];exact H.c.nd,λVC z hz=>by
 cases List.mem_singleton.mp hz;exact⟨by rw[H.c.hN];exact gc hj,by rw[H.c.cC];exact lO hl,.inl (H.fn _)⟩⟩
theorem cY.RU (H:cY m W k ns sc G X E) (hl:loc sc y=true) (hj:cU y ns 0=some j) (hi:m.bD[i]?=some x) (hg:aH sc x=true) (hn:dQ x=true) (hs:aQ (a::as)=true) :
  PS X (.Assign [.Name y yp] (.Call (.Name x np) (a::as) [] cp) pos) (fS (fj (W.sp i) [] E ((L.of ((a::as).map (aJ m n ns sc))).w W m.ah)) (bM (.one j))):=kI (H.gV hl hj) (H.call hi hg hn hs) rfl
theorem cY.ss (H:cY m W k ns sc G X E) (n:Nat) (ss:List Stmt):bR X ss ((aC m n ns sc ss).w W m.ah):=gh (H.s n) ss
end
end N
end
section
namespace K28
open PySem N NQ
open L2
variable {w:Wo}
theorem RV:∃ s0 c np e cp rp p s2,ar (top 47)=[s0,.If c [.Raise (some (.Call (.Name "NoDifference" np) [e] [] cp)) none rp] [] p,s2] /\
  aJ nm 40 ["question","kinds","stock","kind","fault"] (af (top 47)) e=.c (.str "what is no bag has no difference")/\aH (af (top 47)) "NoDifference"=true/\bA e=true:=⟨_,_,_,_,_,_,_,_,rfl,by kernel_rfl,by kernel_rfl,by kernel_rfl⟩
noncomputable def r0:S:=.cond (.c (.bl true)) (.cons (.set (.one 3) (.call 11 (.cons (.v 0) (.cons (.v 1) (.cons (.v 2) .nil))))) .nil) .nil
noncomputable def rc:N.E:=.cmp .NotEq (.ix (.v 3) (.c (.int 0))) (.c (.str "bag"))
noncomputable def r2:S:=.ret (.ix (.v 3) (.c (.int 1)))
theorem RW:CH=.cons r0 (.cons (.cond rc (.cons .dead .nil) .nil) (.cons r2 .nil)):=rfl
def RX (w:Wo) (C:Addr) (E:XQ):DS:=
 eA (r0.w (({ cs:=[(11,j')] }:aS w)).wd nm.ah) (eA (ql (rc.w (({ cs:=[(11,j')] }:aS w)).wd nm.ah).2 (CJ C E (dk ((N.E.c (.str "what is no bag has no difference")).w (({ cs:=[(11,j')] }:aS w)).wd nm.ah).1 dJ)) (λe τ M=>e.nx τ M)) (r2.w (({ cs:=[(11,j')] }:aS w)).wd nm.ah))
theorem CV {e:Expr}{env:Env} (h:bA e=true):starEach [e] env=(false,eval e env)::starEach [] env:=by cases e <;> first |rfl |cases h
def u9 (C:Addr):Sp:=λds M Q E=>Rq ds M Q E\/∃K S' S G q k,ds=[qD q,dD K,S']/\dh K G/\gw S' S M/\Ty S G q k/\(∀k',k≠.ai k')/\dn q<500/\K.length<500/\E ⟨.ref C,[]⟩ M
theorem RY (O:Lw w) {C:Addr}{bm:List Value} (XC:fG w.G.K C bm) (hm:w.G.mg "NoDifference"=some (.ref C)):FO w 28 9 (u9 C):=by
 obtain⟨s0,c,np,e,cp,rp,p,s2,hb,he,hg,hs⟩:=RV;have hc:=Rp;rw[hb,RW]at hc;have hc:B.cons (cE nm 40 _ _ s0) (.cons (.cond (aJ nm 39 _ _ c) _ _) (.cons (cE nm 40 _ _ s2) .nil))=_:=hc;injection hc with h0 RZ;injection RZ with h1 h2;injection h2 with h2 _;injection h1 with hcc _ _;refine u5 (T:=RX w C) O.ok O.hn _ ⟨"kind_of_rows",top 47,["question","kinds","stock"]⟩ (by rw[O.hd];rfl) { cs:=[(11,j')] } { cs:=⟨⟨8,by decide,Pm O⟩,trivial⟩ } Ro (λX E H=>?_) λds M Q E h=>?_
 ·show bR X (ar (top 47)) _;rw[hb];exact gE (h0 ▸ H.s 40 s0) (gE (wF (hcc ▸ (eP 39 H.c c).t) (jj (Rx (H.g.symm ▸ XC) H.c.calm (H.c.aH hg) (by rw[H.g];exact hm) rfl H.CU (dm (he ▸ (eP 40 H.c e).e) gD (CV hs)) (CV hs) rfl)) wC) (jj (h2 ▸ H.s 40 s2)))
 ·rcases h with ⟨K,S',S,G,q,k,rfl,rg,rs,t,hd,hk,h⟩ |⟨K,S',S,G,q,k,rfl,rg,rs,t,hn,hd,hk,h⟩
  ·exact⟨rfl,K,S',S,G,q,_,rfl,rg,rs,B5 t,hd,hk,_,rfl,av (aw (by decide) ⟨_,rfl,ao h⟩)⟩
  ·refine⟨rfl,K,S',S,G,q,_,rfl,rg,rs,B5 t,hd,hk,?_⟩;cases k with
   |ai k=>exact absurd rfl (hn k)
   |_=>exact⟨_,rfl,av (aW (by decide) ⟨by decide,h⟩)⟩
variable {w:Wo}
theorem R0:∃ np cp yp p a as rest,ar (top 46)=.Assign [.Name "row_kind" yp] (.Call (.Name "kind_of_rows" np) (a::as) [] cp) p::rest/\aQ (a::as)=true /\
  L.of ((a::as).map (aJ nm 39 ["question","names","kinds","stock","row_kind","walk","told"] (af (top 46))))=.cons (.v 0) (.cons (.v 2) (.cons (.v 3) .nil)) /\
  aC nm 40 ["question","names","kinds","stock","row_kind","walk","told"] (af (top 46)) rest=CI:=⟨_,_,_,_,_,_,_,rfl,by kernel_rfl,by kernel_rfl,by kernel_rfl⟩
noncomputable abbrev vc (w:Wo) (C:Addr):aS w:={ cs:=[(28,u9 C)],ms:=[(1,fA w),(4,CG w)],ci:=[(0,0,pF w)] }
def R1 (w:Wo) (C:Addr) (E:XQ):DS:=eA (fS (fj (u9 C) [] E ((L.cons (.v 0) (.cons (.v 2) (.cons (.v 3) .nil))).w (vc w C).wd nm.ah)) (bM (.one 4))) (CI.w (vc w C).wd nm.ah)
def pN (C:Addr):Sp:=λds M Q E=>Rw ds M Q E\/∃nv K S' S G q k,ds=[qD q,dD (aN nv),dD K,S']/\dh K G/\gw S' S M/\Ty S G q k/\(∀k',k≠.ai k')/\dn q<500/\K.length<500/\E ⟨.ref C,[]⟩ M
theorem R2 (O:Lw w) {C:Addr}{bm:List Value} (XC:fG w.G.K C bm) (hm:w.G.mg "NoDifference"=some (.ref C)):FO w 27 10 (pN C):=by
 obtain⟨np,cp,yp,p,a,as,rest,hb,hs,ha,hr⟩:=R0;refine u5 (T:=R1 w C) O.ok O.hn _ ⟨"difference",top 46,["question","names","kinds","stock"]⟩ (by rw[O.hd];rfl) (vc w C) { cs:=⟨⟨9,by decide,RY O XC hm⟩,trivial⟩,ms:=⟨⟨1,by decide,iT O⟩,⟨9,by decide,Rl O⟩,trivial⟩,ci:=⟨⟨O.mc _ (by decide),by rw[O.hms];rfl,1,by decide,uk O⟩,trivial⟩ } Rv (λX E H=>?_) λds M Q E h=>?_
 ·show bR X (ar (top 46)) _;rw[hb];have hc:=H.RU (n:=39) (x:="kind_of_rows") (y:="row_kind") (j:=4) (i:=28) (np:=np) (cp:=cp) (yp:=yp) (pos:=p) (by decide +kernel) (by decide +kernel) (by kernel_rfl) (by decide +kernel) (by decide +kernel) hs;rw[ha]at hc;exact gE hc (hr ▸ H.ss 40 rest)
 ·rcases h with ⟨nv,K,S',S,G,q,kk,N,rfl,rg,rs,t,hd,hn,f6,hN,ht,h⟩ |⟨nv,K,S',S,G,q,k,rfl,rg,rs,t,hn,hd,hk,h⟩
  ·skip
   have m2:w.ca 0=w.mc 1:=(O.mc _ (by decide)).symm;have m5:w.ca 0=w.mc 4:=(O.mc _ (by decide)).symm;have hw:=(B' t).w;refine⟨rfl,.inl ⟨K,S',S,G,q,kk,rfl,rg,rs,t,hd,f6,λx dx hx ka nd=>⟨x,dx,rfl,au,λa b ha hb ne=>⟨rfl,?_⟩⟩⟩⟩;obtain⟨sb,W⟩:=pI (i1:=[("waiting",.ref a),("found",.ref b)]) (ws:=[]) (fs:=[]) hx ka ha hb nd ne;obtain⟨dy,hy⟩:=W.gx (ws:=[]) (fs:=[]);refine⟨_,dy,_,hy,m2,bo (by decide +kernel) (by decide +kernel),x,a,b,dy,_,_,_,[],rfl,hy,W.ga,by decide,?_⟩;rw[W.pa];obtain⟨Vg,hz⟩:=W.gx (ws:=[]++[.tup [w.gv.getD 35 .aj,qD q,dD (aN nv)]]) (fs:=[]);refine⟨_,Vg,_,hz,m5,bo (by decide +kernel) (by decide +kernel),_,x,a,b,q,nv,N,rfl,rfl,W,hw,hn,hd,hN,ht,?_⟩;cases hq:aV nv q with
   |none=>rw[hq]at h;exact⟨l2,me sb h⟩
   |some p=>
    rw[hq]at h;have h:Q (qD p) M:=h;obtain⟨r,hr⟩:=fB p;have e:oD (some p)=.tup (.str (wd p)::r):=hr;rw[hr]at h;rw[e];exact me sb h
  ·exact⟨rfl,.inr ⟨K,S',S,G,q,k,rfl,rg,rs,t,hn,hd,hk,h⟩⟩
end K28
end
section
set_option maxHeartbeats 1000000
namespace N
open PySem PySem.Spec PyProof.Rows L2
structure vd (X:Cx) (a D:Addr) (oe:Obj):Prop where
 x:iZ X.G.K D
 f:X.F0 a=some (.dat oe)
 c:oe.cls=.ref D
 d:∃vs,oe.data=.fields vs
 n:oe.dict=none
def kf (i:Nat) (a:Addr) (b:Bool):DE:=fun τ M q=>τ[i]?=some (some (.ref a))/\q (.bl b) M
section
variable {X:Cx}{a D c:Addr}{oe:Obj}{i:Nat}{n y:Str}{T:String}{b:Bool}{p np yp pos:Pos}
theorem R3 (I:vd X a D oe) (hg:Gl X "isinstance") (hm:X.G.mg "isinstance"=none) (hi:X.N[i]?=some n) (hv:dZ X.env.scope n) (hn:dQ n=true) (u8:Gl X y) (ve:X.G.mg y=some (.ref c)) (vf:dQ y=true)
  (hb:PySem.W.kitOne X.G.K (.ref D) (.ref c)=some b):PE X (.Call (.Name "isinstance" p) [.Name n np,.Name y yp] [] pos) (kf i a b):=
 wu (rj (CS I.x I.f I.c I.d I.n) hg hm rfl (dm (m6 hi hv (cV hn).1 (cV hn).2) (dm (wz (d:=.ref c) u8 ve (cV vf).1 fun τ z I=>by rw[ae]) gD rfl) rfl) (by decide) (by decide) rfl rfl)
  fun τ M Q ⟨h,q⟩=>by
   show cK i τ M _;unfold cK;rw[h];exact⟨b,.inl ⟨c,rfl,hb⟩,q⟩
theorem R4 (I:vd X a D oe) (hg:Gl X "isinstance") (hm:X.G.mg "isinstance"=none) (hi:X.N[i]?=some n) (hv:dZ X.env.scope n) (hn:dQ n=true) (u8:Gl X y) (ve:X.G.mg y=none) (lg:bootBuiltins y=some (.type T)) (vf:dQ y=true) (R5:y≠"__name__")
  (hb:PySem.W.kitOne X.G.K (.ref D) (.type T)=some b):PE X (.Call (.Name "isinstance" p) [.Name n np,.Name y yp] [] pos) (kf i a b):=
 wu (rj (CS I.x I.f I.c I.d I.n) hg hm rfl (dm (m6 hi hv (cV hn).1 (cV hn).2) (dm (yH u8 ve lg R5 (cV vf).1) gD rfl) rfl) (by decide) (by decide) rfl rfl)
  fun τ M Q ⟨h,q⟩=>by
   show cK i τ M _;unfold cK;rw[h];exact⟨b,.inr ⟨T,rfl,hb⟩,q⟩
end
theorem R6 {X:Cx}{k:Nat}{f:Addr}{fd:FuncData}{ps:List Str}{sp:Sp}{a5:List D}{ds:List Value}{E:XQ}{x:Str}{p pos:Pos}{e:Expr}{es:List Expr}{t:DA} {τ:St} {z:Z}{Q:QK}{R:Value->Shared->Prop}
  (F:a6 X.G k f fd ps sp) (hr:bq k X.A) (hg:Gl X x) (hm:X.G.mg x=some (.ref f)) (hk:PySem.W.keepIn X.G.K (.ref f)=true) (hb:bC X.G.K fd ps ds) (hd:d6 X a5 ds)
  (ha:PA X (e::es) t) (ce:(x == ("__debug__" : Str))=false) (he:starEach (e::es) X.env=(false,eval e X.env)::starEach es X.env) (bv:(backTo pos (starEach es X.env)).any (·.1)=false)
  (hx:∀x M,E x M->X.x x τ M) (I:aa X τ z) (h:fj sp a5 E t τ z.M Q) (K:KE X τ z.F Q R):W X (eval (.Call (.Name x p) (e::es) [] pos) X.env) R z.s:=
 Y8 (fb I hg hm ce (PySem.W.callWith_K (h₀:=X.G.base) I.ok.mod.ez hk (ha pos τ z _ _ I h λvs z1 us l1 I1 r q=>⟨I1.bp,nU F hr hb hd hx I1 r q λd z2 u l2=>K d z2 u (l1.tr l2)⟩) he bv))
theorem aX.wx {m:Nm}{W:Wd}{k:Nat}{ns:List Str}{sc:Scope}{X:Cx} (C:aX m W k ns sc X) (x':jd->St->Mp->Prop) (F:Fz):aX m W k ns sc (X.wx x' F):=⟨C.hN,C.cC,C.nd,C.calm,C.room,C.en⟩
theorem cY.R7 {m:Nm}{W:Wd}{k n:Nat}{ns:List Str}{sc:Scope}{G:Gx}{X:Cx}{E0:XQ}{x:Str}{a:Expr}{as:List Expr}{np cp:Pos}{i:Nat}
  (H:cY m W k ns sc G X E0) (hi:m.bD[i]?=some x) (hg:aH sc x=true) (hn:dQ x=true) (hs:aQ (a::as)=true) (x':jd->St->Mp->Prop) (F:Fz) (E:XQ) (τ:St) (z:Z) (Q:QK) (R:Value->Shared->Prop)
  (hx:∀x M,E x M->x' x τ M) (I:aa (X.wx x' F) τ z) (h:fj (W.sp i) [] E ((L.of ((a::as).map (aJ m n ns sc))).w W m.ah) τ z.M Q) (K:KE (X.wx x' F) τ z.F Q R):N.W (X.wx x' F) (eval (.Call (.Name x np) (a::as) [] cp) X.env) R z.s:=by
 have C:=H.c.wx x' F;obtain⟨f,fd,ps,g1,g2,g3,g4⟩:=C.en.fn i x hi;have h':(bA a && aQ as)=true:=hs;rw[Yq]at h';exact R6 (X:=X.wx x' F) g1 C.room (C.aH hg) g2 g3 g4 fx (gg hs λe _=>(eP n C e).e) (cV hn).1 (bz h'.1) (dr h'.2) hx I h K
end N
end
section
namespace K28
open PySem N NQ
open L2
variable {w:Wo}
theorem R8:ay ["asked","names","kinds","loose","e"] ["asked","names"] (af (top 87)):=⟨rfl,rfl,rfl,by decide +kernel,rfl,by decide +kernel,by decide +kernel⟩
structure Ks (G:Gx) (nd nc nk nq nv:Addr):Prop where
 i:G.mg "isinstance"=none
 v:G.mg "ValueError"=none
 c1:G.mg "NoDifference"=some (.ref nd)
 c2:G.mg "NoChange"=some (.ref nc)
 c3:G.mg "NoKind"=some (.ref nk)
 c4:G.mg "NoQuestion"=some (.ref nq)
 U6:G.mg "NoValue"=some (.ref nv)
 k0:PySem.W.kitOne G.K (.ref nd) (.ref nd)=some true
 k1:PySem.W.kitOne G.K (.ref nd) (.type "ValueError")=some true
 k2:PySem.W.kitOne G.K (.ref nd) (.ref nc)=some false
 k3:PySem.W.kitOne G.K (.ref nd) (.ref nk)=some false
 VT:PySem.W.kitOne G.K (.ref nd) (.ref nq)=some false
 k5:PySem.W.kitOne G.K (.ref nd) (.ref nv)=some false
 x:iZ G.K nd
abbrev d3 (a:Addr) (b1 b2 b3:Bool):DE:=qk (dk (kf 4 a b1) (dk (kf 4 a b2) (dk (kf 4 a b3) dJ)))
def vg (a:Addr):DS:=eA (fS (d3 a true true false) (bM (.one 2))) (fS (kB (qM .Add) (cK 2) (d3 a false false false)) (bM (.one 2)))
theorem R9 {nd nc nk nq nv:Addr}{W:Wd}{k:Nat}{X:Cx}{E0:XQ}{G:Gx} (H:cY nm W k ["asked","names","kinds","loose","e"] (af (top 87)) G X E0) (kg:Ks G nd nc nk nq nv) {a:Addr}{F:Fz}{oe:Obj} (hF:F a=some (.dat oe)) (hc:oe.cls=.ref nd) (hd:∃ vs,oe.data=.fields vs) (hn:oe.dict=none)
  {q0 q1 q2 q3 q4 q5 Xr l1 p1 n1 y1 c1 p2 n2 y2 c2 p3 n3 Xs c3 p4 n4 Xu c4 p5 n5 Xv U6 Xw n6 Xx VW:Pos} :
  bR (X.hx a F) [.Assign [.Name "kinds" q0] (.List [.Call (.Name "isinstance" p1) [.Name "e" n1,.Name "NoDifference" y1] [] c1,.Call (.Name "isinstance" p2) [.Name "e" n2,.Name "ValueError" y2] [] c2,.Call (.Name "isinstance" p3) [.Name "e" n3,.Name "NoChange" Xs] [] c3] Xr) q1,
   .Assign [.Name "kinds" q2] (.BinOp (.Name "kinds" q3) .Add (.List [.Call (.Name "isinstance" p4) [.Name "e" n4,.Name "NoKind" Xu] [] c4,.Call (.Name "isinstance" p5) [.Name "e" n5,.Name "NoQuestion" Xv] [] U6,.Call (.Name "isinstance" Xw) [.Name "e" n6,.Name "NoValue" Xx] [] VW] l1) q4) q5] (vg a):=by
 obtain rfl:=H.g;have I:vd (X.hx a F) a nd oe:=⟨kg.x,hF,hc,hd,hn⟩;have V8:∀{y:Str},aH (af (top 87)) y=true->Gl (X.hx a F) y:=λh=>H.c.aH h;have hi:(X.hx a F).N[4]?=some ("e" : Str):=by show X.N[4]?=_;rw[H.c.hN];rfl
 have lI:(X.hx a F).N[2]?=some ("kinds" : Str):=by show X.N[2]?=_;rw[H.c.hN];rfl
 have hv:dZ (X.hx a F).env.scope "e":=by show dZ X.env.scope _;rw[H.c.cC];exact .inl (by decide +kernel)
 have R':dZ (X.hx a F).env.scope "kinds":=by show dZ X.env.scope _;rw[H.c.cC];exact .inl (by decide +kernel)
 have CW:fR (X.hx a F) [2] ["kinds"]:=let h:=H.gV (y:="kinds") (j:=2) (by decide +kernel) (by decide +kernel);⟨h.nd,h.ok⟩
 have WK:Gl (X.hx a F) "isinstance":=V8 (by decide +kernel);have O:∀{y:Str}{c:Addr}{b:Bool}{p np yp pos:Pos},aH (af (top 87)) y=true->X.G.mg y=some (.ref c)->dQ y=true->PySem.W.kitOne X.G.K (.ref nd) (.ref c)=some b->PE (X.hx a F) (.Call (.Name "isinstance" p) [.Name "e" np,.Name y yp] [] pos) (kf 4 a b):=
  λh1 h2 h3 h4=>R3 I WK kg.i hi hv (by decide +kernel) (V8 h1) h2 h3 h4
 refine gE (kI CW (qq (dm (O (by decide +kernel) kg.c1 (by decide +kernel) kg.k0) (dm (R4 I WK kg.i hi hv (by decide +kernel) (V8 (by decide +kernel)) kg.v rfl (by decide +kernel) (by decide) kg.k1) (dm (O (by decide +kernel) kg.c2 (by decide +kernel) kg.k2) gD rfl) rfl) rfl)) rfl) ?_;exact jj (kI CW (wA (xA .Add) (m6 lI R' (by decide +kernel) (by decide +kernel)) (qq (dm (O (by decide +kernel) kg.c3 (by decide +kernel) kg.k3) (dm (O (by decide +kernel) kg.c4 (by decide +kernel) kg.VT) (dm (O (by decide +kernel) kg.U6 (by decide +kernel) kg.k5) gD rfl) rfl) rfl))) rfl)
variable {w:Wo}
section
variable {S S':Str->Option Kd}{nv:Nv}
end
noncomputable def fH:List Str:=["d","e","f","g"]
noncomputable def vh:Sc:=bu++fH.flatMap λm=>bu.map λp=>(m++p.1,p.2)
noncomputable def kN:List Str:=bu.map (·.1)
noncomputable def FS (x:Str):Option Kd:=lk x vh
theorem mE {x:Str}{k:Kd} (h:kS x=some k):FS x=some k:=by
 unfold FS vh;rw[pd];unfold kS at h;rw[h];rfl
theorem CX {m x:Str} (hm:m∈fH) (hx:x∈kN):FS (m++x)=kS x:=(by decide +kernel:∀m∈fH,∀x∈kN,FS (m++x)=kS x) m hm x hx
structure kh (nv:Nv) (m:Str):Prop where
 nd:(nv.map (·.1)).Nodup
 sub:∀p∈nv,p.1∈kN/\p.2=m++p.1
 len:nv.length<=5
structure hO (K:List (Key×D)) (n:Nat):Prop where
 Vi:∀z d,aG K (.inr z)=some d->∃k,FS z=some k/\d=kD k
 len:K.length<=n
noncomputable def Sk (K:List (Key×D)) (z:Str):Option Kd:=if (aG K (.inr z)).isSome=true then FS z else none
theorem hO.fX {K:List (Key×D)}{n:Nat} (h:hO K n) {v:D}{M:Mp} (hc:hB v K M):gw v (Sk K) M:=λy k e=>by
 refine⟨K,hc,?_⟩;unfold Sk at e;split at e
 ·rename_i z;obtain⟨d,hd⟩:=Option.isSome_iff_exists.mp z;obtain⟨k',h1,rfl⟩:=h.Vi y d hd;rw[h1]at e;cases e;exact hd
 ·cases e
theorem pO {K:List (Key×D)}{z:Str}{k:Kd}:Sk K z=some k ↔ (aG K (.inr z)).isSome=true/\FS z=some k:=by
 unfold Sk;split
 ·rename_i h;simp [h]
 ·rename_i h;simp [h]
theorem hO.bu:hO (aL bu) 5:=⟨λz d h=>by
 rw[gq]at h;obtain⟨k,h1,rfl⟩:=Option.map_eq_some_iff.mp h;exact⟨k,mE h1,rfl⟩,Yr _⟩
theorem vi {K:List (Key×D)}{y z:Str}{v:D}:aG (a9 K (.inr y) v) (.inr z)=if z=y then some v else aG K (.inr z):=by
 have:=@BX K (.inr y) (.inr z) v;rw[this];by_cases e:z=y
 ·rw[if_pos e,if_pos (by rw[e])]
 ·rw[if_neg e,if_neg λh=>e (aap h)]
theorem hO.put {K:List (Key×D)}{n:Nat} (h:hO K n) {y:Str}{k:Kd} (e:FS y=some k):hO (a9 K (.inr y) (kD k)) (n+1):=⟨λz d hd=>by
 rw[vi]at hd;split at hd
 ·rename_i UT;cases hd;exact⟨k,UT ▸ e,rfl⟩
 ·exact h.Vi z d hd,Yy (qI _ _ _) (Nat.succ_le_succ h.len)⟩
theorem vj {K:List (Key×D)}{y z:Str}{k:Kd}{v:D} (h:Sk K z=some k):Sk (a9 K (.inr y) v) z=some k:=by
 rw[pO]at h ⊢;refine⟨?_,h.2⟩;rw[vi];split
 ·rfl
 ·exact h.1
theorem Sa {K:List (Key×D)}{y:Str}{k:Kd}{v:D} (h:FS y=some k):Sk (a9 K (.inr y) v) y=some k:=by
 rw[pO];refine⟨?_,h⟩;rw[vi,if_pos rfl];rfl
variable {w:Wo}
theorem vk {ms:Sc}{x:Str}{k:Kd}{M:Mp}{Q:QK} (h:lk x ms=some k) (q:Q (kD k) M):aB (eV ms) (.str x) M Q:=⟨kD k,by rw[o8,gq,h];rfl,q⟩
def CY:Sp:=λds M Q _=>ds=[]/\∀p,M p=none->Q (.ref p) (up M p (.ak (aL bu)))
theorem Sb (O:Lw w):FO w 44 1 CY:=by
 refine aI O.ok O.hn _ ⟨"_law_kinds",top 71,[]⟩ (by rw[O.hd];rfl) {} { cs:=trivial } AR AS λds M Q _ h=>?_;obtain⟨rfl,h⟩:=h;refine⟨rfl,l1,l2,l1,l2,l2,l2,?_⟩;refine⟨l1,l2,l1,l2,l1,l2,l2,l1,l2,l4,l2,?_⟩;refine⟨l1,l1,l2,.inr λp hp=>?_⟩;have:aZ Q (.ref p) (up M p (.ak (bT (aL bu)))):=by rw[AU];exact ao (h p hp)
 exact this
theorem CZ {x:Str} (h:x∈kN):∃k,kS x=some k:=by
 have:(lk x bu).isSome=true:=by rw[NQ.lT];exact decide_eq_true h
 exact Option.isSome_iff_exists.mp this
theorem Se {nv:Nv}{x y:Str} (h:x ∉ nv.map (·.1)):a9 (aN nv) (.inr x) (.str y)=aN (nv++[(x,y)]):=by
 unfold a9;rw[if_neg]
 ·unfold aN;simp
 ·intro z;obtain⟨kv,h1,h2⟩:=List.any_eq_true.mp z;unfold aN at h1;obtain⟨m,hm,rfl⟩:=List.mem_map.mp h1;exact h (List.mem_map.mpr ⟨m,hm,aap (of_decide_eq_true h2)⟩)
theorem C0 {x y:Str}:∀{nv:Nv},(nv.map (·.1)).Nodup->(x,y)∈nv->cX x nv=some y
 |(a,b)::r,nd,h=>by
  rw[Yu,Z9]at nd;rw[cX];rcases List.mem_cons.mp h with e |h
  ·cases e;rw[if_pos rfl]
  ·rw[if_neg,C0 nd.2 h];intro e;exact nd.1 (e ▸ List.mem_map.mpr ⟨_,h,rfl⟩)
structure Sf (nv:Nv) (m:Str) (pre:List Str):Prop where
 nd:(nv.map (·.1)).Nodup
 sub:∀p∈nv,p.1∈pre/\p.2=m++p.1
 len:nv.length<=pre.length
def C1:Sp:=λds M Q _=>∃p m,ds=[.ref p,.str m]/\m∈fH/\Hs M p/\∀nv X,Sx M p X->kh nv m->Q (dD (aN nv)) X
theorem Sg {m x:Str} (hm:m∈fH) (hx:x∈kN):m.length+x.length<=sizeLine:=Yy ((by decide +kernel:∀m∈fH,∀x∈kN,m.length+x.length<=100) m hm x hx) (by decide)
noncomputable def Si:B:=.cons (.ret (.v 2)) .nil
noncomputable def Sj:B:=.cons (.loop (.one 3) (.seq (.lst (.cons (.c (.str "r")) (.cons (.c (.str "s")) (.cons (.c (.str "t")) (.cons (.c (.str "u")) (.cons (.c (.str "v")) .nil))))))) (.cons (.cond (.cmp .Gt (.call 40 (.cons (.v 0) (.cons (.c (.int 4)) .nil))) (.c (.int 0))) (.cons (.put (.v 2) (.v 3) (.op .Add (.v 1) (.v 3))) .nil) .nil) .nil)) Si
noncomputable def Sl:B:=.cons (.set (.one 2) .oy) Sj
theorem Sm:ay ["seed","mark","names","name"] ["seed","mark"] (af (top 84)):=⟨rfl,rfl,rfl,by decide +kernel,rfl,by decide +kernel,by decide +kernel⟩
theorem Sn:aC nm 40 ["seed","mark","names","name"] (af (top 84)) (ar (top 84))=Sl:=by kernel_rfl
noncomputable abbrev So (w:Wo):aS w:={ cs:=[(40,fy)] }
theorem Sq (O:Lw w):FO w 53 2 C1:=by
 refine aI O.ok O.hn _ ⟨"_law_names",top 84,["seed","mark"]⟩ (by rw[O.hd];rfl) (So w) { cs:=⟨⟨1,by decide,gr O⟩,trivial⟩ } Sm Sn λds M Q _ h=>?_;obtain⟨p,m,rfl,hm,hp,h⟩:=h;have WL:kN.Nodup:=by decide +kernel
 refine⟨rfl,.inr λpn C2=>⟨l5,.inl ?_⟩⟩;have vm:pn≠p:=by obtain⟨o,e,_⟩:=hp;exact Zl (di e C2)
 refine eS (λxs τ M'=>∃rest pre nv u X,xs=rest.map D.str/\kN=pre++rest/\Sf nv m pre/\τ=[some (.ref p),some (.str m),some (.ref pn),u]/\Sx M p X/\M'=up X pn (.ak (aN nv))) ?_ ?_ _ _ _ ⟨kN,[],[],none,M,rfl,rfl,⟨.nil,(λ_ z=>nomatch z),Yr _⟩,rfl,.rfl hp,rfl⟩
 ·rintro τ M' ⟨rest,pre,nv,u,X,e1,e2,hv,rfl,s,rfl⟩;have:rest=[]:=by simpa using e1.symm
  subst this;rw[YH]at e2;refine⟨trivial,.rfl ?_⟩;exact tL (by rw[s.ne vm];exact C2) (h nv X s ⟨hv.nd,λp hp=>⟨by rw[e2];exact (hv.sub p hp).1,(hv.sub p hp).2⟩,by have:=hv.len;rw[<- e2]at this;exact this⟩)
 ·rintro y xs τ M' ⟨rest,pre,nv,u,X,e1,e2,hv,rfl,s,rfl⟩;cases rest with
  |nil=>cases e1
  |cons x rest=>
   cases e1;have hx:x∈kN:=(by rw[e2];simp);have nx:x ∉ pre:=λz=>(by rw[e2]at WL;exact (List.nodup_append.mp WL).2.2 x z x Ys rfl);have C3:x ∉ nv.map (·.1):=λz=>by obtain⟨q,hq,e⟩:=List.mem_map.mp z;have e:q.1=x:=e;exact nx (e ▸ (hv.sub q hq).1)
   have pl:pre.length<=5:=by have:=congrArg List.length e2;rw[YB]at this;have:kN.length=5:=rfl;lia
   have hl:=hv.len;have hs:Hs (up X pn (.ak (aN nv))) p:=(by obtain⟨o,e,so⟩:=s.hs;exact⟨o,by rw[ax (Zl vm)];exact e,so⟩);have iM:kN=(pre++[x])++rest:=(by rw[e2];simp);refine⟨trivial,λN hN=>⟨p,4,rfl,hs,by decide,by decide,λr Y u2 _ _=>?_⟩⟩;obtain⟨o2,Ss,rfl⟩:=u2;have s2:Sx M p (up X p o2):=s.tr ⟨o2,Ss,rfl⟩;rw[mh vm];refine aR (λ_=>?_) λ_=>?_
   ·refine⟨Sg hm hx,.inr ⟨_,au,YA (by unfold aN;rw[Ym];lia:_<=5) (by decide),hN _ _ ⟨rest,pre++[x],nv++[(x,m++x)],_,_,rfl,iM,⟨?_,λq hq=>?_,?_⟩,rfl,s2,?_⟩⟩⟩
    ·rw[YS];exact AE hv.nd C3
    ·rcases List.mem_append.mp hq with z |z
     ·exact⟨aal _ (hv.sub q z).1,(hv.sub q z).2⟩
     ·rw[List.mem_singleton.mp z];exact⟨by simp,rfl⟩
    ·simp;lia
    ·rw[_root_.N.cF,Se C3]
   ·exact hN _ _ ⟨rest,pre++[x],nv,_,_,rfl,iM,⟨hv.nd,λq hq=>⟨aal _ (hv.sub q hq).1,(hv.sub q hq).2⟩,by simp;lia⟩,rfl,s2,rfl⟩
structure fI (rows:List Nv) (nv:Nv) (K:List (Key×D)) (n:Nat):Prop where
 k:hO K n
 s:∀x k,kS x=some k->Sk K x=some k
 r:∀nv∈rows,∀q∈nv,∀k,kS q.1=some k->Sk K q.2=some k
 l:∀q∈nv,∀k,kS q.1=some k->Sk K q.2=some k
theorem fI.put {rows:List Nv}{nv:Nv}{K:List (Key×D)}{n:Nat} (h:fI rows nv K n) {x y:Str}{k:Kd} (e:kS x=some k) (f:FS y=some k):fI rows (nv++[(x,y)]) (a9 K (.inr y) (kD k)) (n+1):=
 ⟨h.k.put f,λz l e=>vj (h.s z l e),λnv hn q hq l e=>vj (h.r nv hn q hq l e),λq hq l z=>by
  rcases List.mem_append.mp hq with hq |hq
  ·exact vj (h.l q hq l z)
  ·rw[List.mem_singleton.mp hq]at z ⊢;have z:kS x=some l:=z;rw[e]at z;cases z;exact Sa f⟩
def C4 (rows:List Nv):Prop:=rows.length<=4/\∀nv∈rows,∃m∈fH,kh nv m
noncomputable def mF (rows:List Nv):List D:=rows.map λnv=>dD (aN nv)
def C5:Sp:=λds M Q _=>∃rows,ds=[.lst (mF rows)]/\C4 rows/\∀K,fI rows [] K 25->Q (dD K) M
noncomputable def Su:B:=.cons (.ret (.v 1)) .nil
noncomputable def Sv:B:=.cons (.loop (.one 2) (.seq (.v 0)) (.cons (.loop (.one 3) (.seq (.v 2)) (.cons (.put (.v 1) (.ix (.v 2) (.v 3)) (.ix (.v 1) (.v 3))) .nil)) .nil)) Su
noncomputable def Sw:B:=.cons (.set (.one 1) (.call 44 .nil)) Sv
theorem Sy:ay ["rows","stock","names","name"] ["rows"] (af (top 83)):=⟨rfl,rfl,rfl,by decide +kernel,rfl,by decide +kernel,by decide +kernel⟩
theorem Sz:aC nm 40 ["rows","stock","names","name"] (af (top 83)) (ar (top 83))=Sw:=by kernel_rfl
noncomputable abbrev SA (w:Wo):aS w:={ cs:=[(44,CY)] }
theorem SD (O:Lw w):FO w 52 2 C5:=by
 refine aI O.ok O.hn _ ⟨"_law_stock",top 83,["rows"]⟩ (by rw[O.hd];rfl) (SA w) { cs:=⟨⟨1,by decide,Sb O⟩,trivial⟩ } Sy Sz λds M Q _ h=>?_;obtain⟨rows,rfl,⟨hr,SE⟩,h⟩:=h;refine⟨rfl,rfl,λps lE=>?_⟩;refine eS (λxs τ M'=>∃rest pre K u v,xs=mF rest/\rows=pre++rest/\fI pre [] K (5+5 * pre.length)/\τ=[some (.lst (mF rows)),some (.ref ps),u,v]/\M'=up M ps (.ak K)) ?_ ?_ _ _ _ ⟨rows,[],aL bu,none,none,rfl,rfl,⟨.bu,λx k e=>pO.mpr ⟨by rw[gq];unfold kS at e;rw[e];rfl,mE e⟩,λ_ z=>(nomatch z),λ_ z=>(nomatch z)⟩,rfl,rfl⟩
 ·rintro τ M' ⟨rest,pre,K,u,v,e1,e2,st,rfl,rfl⟩;have:rest=[]:=by unfold mF at e1;simpa using e1.symm
  subst this;rw[YH]at e2;refine⟨trivial,.rfl (tL lE (h K ⟨⟨st.k.Vi,Yy st.k.len (by rw[<- e2];lia)⟩,st.s,by rw[e2];exact st.r,st.l⟩))⟩
 ·rintro y xs τ M' ⟨rest,pre,K,u,v,e1,e2,st,rfl,rfl⟩;cases rest with
  |nil=>cases e1
  |cons nv rest=>
   cases e1;obtain⟨m,hm,hv⟩:=SE nv (by rw[e2];simp);have pl:pre.length<=4:=by have:=congrArg List.length e2;rw[YB]at this;lia
   refine⟨trivial,λN hN=>?_⟩;refine eS (λxs τ M'=>∃hR i6 K v,xs=hR.map (λp=>D.str p.1)/\nv=i6++hR/\fI pre i6 K (5+5 * pre.length+i6.length)/\τ=[some (.lst (mF rows)),some (.ref ps),some (dD (aN nv)),v]/\M'=up M ps (.ak K)) ?_ ?_ _ _ _ ⟨nv,[],K,v,by rw[gZ];unfold aN;rw[Zq];rfl,rfl,st,rfl,rfl⟩
   ·rintro τ M' ⟨hR,i6,K,v,e3,e4,st,rfl,rfl⟩;have:hR=[]:=(by simpa using e3.symm);subst this;rw[YH]at e4;refine⟨trivial,.rfl (hN _ _ ⟨rest,pre++[nv],K,_,_,rfl,by rw[e2];simp,⟨⟨st.k.Vi,Yy st.k.len (by have:=hv.len;rw[<- e4,YB,List.length_singleton];lia)⟩,st.s,λpt h'=>?_,λ_ z=>(nomatch z)⟩,rfl,rfl⟩)⟩
    rcases List.mem_append.mp h' with z |z
    ·exact st.r pt z
    ·rw[List.mem_singleton.mp z,e4];exact st.l
   ·rintro d xs τ M' ⟨hR,i6,K,v,e3,e4,st,rfl,rfl⟩;cases hR with
    |nil=>cases e3
    |cons q hR=>
     obtain⟨x,y⟩:=q;cases e3;have hq:(x,y)∈nv:=(by rw[e4];simp);obtain⟨h1,h2⟩:=hv.sub _ hq;have h2:y=m++x:=h2;obtain⟨k,hk⟩:=CZ h1;have p2:i6.length<=5:=by have:=congrArg List.length e4;rw[YB]at this;have:=hv.len;lia
     have sl:=st.k.len;have hK:=(pO.mp (st.s x k hk)).1;obtain⟨d,hd⟩:=Option.isSome_iff_exists.mp hK;obtain⟨k',f1,rfl⟩:=st.k.Vi x d hd;rw[mE hk]at f1;cases f1;refine⟨trivial,λYi SF=>.inr ⟨K,au,kD k,hd,.str y,by rw[gZ,kc,C0 hv.nd hq];rfl,.inr ⟨K,au,YA (by lia:_<=100) (by decide),SF _ _ ⟨hR,i6++[(x,y)],a9 K (.inr y) (kD k),_,rfl,by rw[e4];simp,?_,rfl,by rw[_root_.N.cF]⟩⟩⟩⟩;have:=st.put hk (y:=y) (by rw[h2,CX hm h1];exact hk);rw[YB,List.length_singleton,<- Nat.add_assoc];exact this
variable {w:Wo}
noncomputable def G1:Sc:=[("p",.num),("q",c8)]
def C6:Sp:=λds M Q _=>∃ κ p,ds=[kD κ,.ref p]/\(κ=.num\/κ=.word\/κ=c8)/\Hs M p/\∀q k X,Sx M p X->Ty kS G1 q k->(∀k',k≠.ai k')->dq q<=100->Q (qD q) X
def C7:Sp:=λds M Q _=>∃p,ds=[.ref p]/\Hs M p/\∀q κ X,Sx M p X->Ty kS G1 q (.ai κ)->nq q<1000000->dq q<=100->Q (qD q) X
theorem vn {m:Nat} (h:m<=40):dU [] m:=⟨λ_ z=>(nomatch z),by simpa using h,λ_ z=>(nomatch z)⟩
noncomputable def SG:B:=.cons (.ret (.v 2)) .nil
noncomputable def SH:B:=.cons (.cond (.cmp .Eq (.v 3) (.c (.int 4))) (.cons (.ret (.tup (.cons (.c (.str "at")) (.cons (.c (.str "a")) (.cons (.tup (.cons (.c (.str "var")) (.cons (.c (.str "q")) .nil))) .nil))))) .nil) .nil) SG
noncomputable def SI:B:=.cons (.cond (.cmp .Eq (.v 3) (.c (.int 3))) (.cons (.ret (.tup (.cons (.c (.str "var")) (.cons (.ix (.lst (.cons (.c (.str "p")) (.cons (.c (.str "q")) .nil))) (.call 40 (.cons (.v 1) (.cons (.c (.int 2)) .nil)))) .nil)))) .nil) .nil) SH
noncomputable def SJ:B:=.cons (.cond (.cmp .Eq (.v 3) (.c (.int 2))) (.cons (.ret (.tup (.cons (.c (.str "let")) (.cons (.c (.str "x")) (.cons (.v 2) (.cons (.tup (.cons (.c (.str "var")) (.cons (.c (.str "x")) .nil))) .nil)))))) .nil) .nil) SI
noncomputable def SK:B:=.cons (.cond (.cmp .Eq (.v 3) (.c (.int 1))) (.cons (.ret (.tup (.cons (.c (.str "let")) (.cons (.c (.str "x")) (.cons (.call 51 (.cons (.tup (.cons (.c (.str "bag")) (.cons (.tup (.cons (.c (.str "num")) .nil)) .nil))) (.cons (.lst .nil) (.cons (.c (.int 2)) (.cons (.v 1) .nil))))) (.cons (.v 2) .nil)))))) .nil) .nil) SJ
noncomputable def SM:B:=.cons (.cond (.cmp .Eq (.v 3) (.c (.int 0))) (.cons (.ret (.tup (.cons (.c (.str "at")) (.cons (.c (.str "e")) (.cons (.tup (.cons (.c (.str "row")) (.cons (.tup (.cons (.tup (.cons (.c (.str "d")) (.cons (.tup (.cons (.c (.str "table")) (.cons (.c (.str "t")) .nil))) .nil))) (.cons (.tup (.cons (.c (.str "e")) (.cons (.v 2) .nil))) .nil))) .nil))) .nil))))) .nil) .nil) SK
noncomputable def SN:B:=.cons (.set (.one 3) (.call 40 (.cons (.v 1) (.cons (.c (.int 6)) .nil)))) SM
noncomputable def SO:B:=.cons (.set (.one 2) (.call 47 (.cons (.v 0) (.cons (.lst .nil) (.cons (.c (.int 3)) (.cons (.v 1) .nil)))))) SN
theorem SP:ay ["kind","seed","asked","way"] ["kind","seed"] (af (top 86)):=⟨rfl,rfl,rfl,by decide +kernel,rfl,by decide +kernel,by decide +kernel⟩
theorem SQ:aC nm 40 ["kind","seed","asked","way"] (af (top 86)) (ar (top 86))=SO:=by kernel_rfl
noncomputable def SR:B:=.cons (.ret (.call 51 (.cons (.v 2) (.cons (.lst .nil) (.cons (.op .Add (.c (.int 2)) (.call 40 (.cons (.v 0) (.cons (.c (.int 2)) .nil)))) (.cons (.v 0) .nil)))))) .nil
noncomputable def SS:B:=.cons (.set (.one 2) (.tup (.cons (.c (.str "bag")) (.cons (.ix (.v 1) (.ix (.lst (.cons (.c (.str "r")) (.cons (.c (.str "t")) (.cons (.c (.str "u")) (.cons (.c (.str "v")) .nil))))) (.call 40 (.cons (.v 0) (.cons (.c (.int 4)) .nil))))) .nil)))) SR
noncomputable def SU:B:=.cons (.set (.one 1) (.call 44 .nil)) SS
theorem SV:ay ["seed","kinds","kind"] ["seed"] (af (top 85)):=⟨rfl,rfl,rfl,by decide +kernel,rfl,by decide +kernel,by decide +kernel⟩
theorem SW:aC nm 40 ["seed","kinds","kind"] (af (top 85)) (ar (top 85))=SU:=by kernel_rfl
noncomputable abbrev SX (w:Wo):aS w:={ cs:=[(47,gu 80),(40,fy),(51,ej 80)] }
theorem SY (O:Lw w):FO w 55 85 C6:=by
 refine aI O.ok O.hn _ ⟨"_law_no_bag",top 86,["kind","seed"]⟩ (by rw[O.hd];rfl) (SX w) { cs:=⟨⟨84,by decide,(pE O 80).s⟩,⟨1,by decide,gr O⟩,⟨84,by decide,(pE O 80).a⟩,trivial⟩ } SP SQ λds M Q _ h=>?_;obtain⟨κ,p,rfl,hκ,hp,h⟩:=h;have k0:κ∈AK/\kd κ<=9/\∀k',κ≠.ai k':=by
  rcases hκ with rfl |rfl |rfl
  ·exact⟨by decide +kernel,by decide +kernel,λ_=>nofun⟩
  ·exact⟨by decide +kernel,by decide +kernel,λ_=>nofun⟩
  ·exact⟨by decide +kernel,by decide +kernel,λ_=>nofun⟩
 obtain⟨k1,k2,k3⟩:=k0;refine⟨rfl,YE _,.inl ⟨κ,[],3,p,rfl,k1,by unfold Rk;show 20 * 3+_+_<=80;lia,vn (by decide),hp,λq X u g=>?_⟩⟩;have Uv:dq q<=36:=Yy g.d (dV (f:=3) k1).2.2.2;have tq:∀{G},Ty kS G q κ:=g.ty.mono (λ_ _ z=>z) λ_ _ z=>(nomatch z);refine⟨p,6,rfl,u.hs,by decide,by decide,λway Y u2 _ _=>?_⟩;have uu:=u.tr u2;refine a' (aR (λ_=>?w0) λ_=>a' (aR (λ_=>?w1) λ_=>a' (aR (λ_=>?w2) λ_=>a' (aR (λ_=>?w3) λ_=>a' (aR (λ_=>?w4) λ_=>?_)))))
 case w0=>
  exact⟨l2,l2,l2,l2,l2,l3,ao (h (.at "e" (.row [("d",.tab "t"),("e",q)])) κ Y uu (.at (ks:=[("d",.ai .num),("e",κ)]) (by show (["d","e"]:List Str).Nodup;decide +kernel) (.row (show 2<100 by decide) (by show ("table" : Str) ∉ (["d","e"]:List Str);decide +kernel) (.cons (.tab (by decide +kernel)) (.cons tq .nil))) (by rw[lk,if_neg (by decide +kernel),lk,if_pos rfl])) k3 (by rw[dq,dq,bV,bV,bV,dq];lia))⟩
 case w1=>
  refine⟨l1,l2,YE _,.inl ⟨.ai .num,[],2,p,rfl,by decide +kernel,by unfold Rk;decide +kernel,vn (by decide),uu.hs,λqa Z ua ga=>⟨l4,ao (h (.let "x" qa q) κ Z (uu.tr ua) (.let (l:=.ai .num) (by decide +kernel) (ga.ty.mono (λ_ _ z=>z) λ_ _ z=>(nomatch z)) tq) k3 ?_)⟩⟩⟩;have:dq qa<=27:=Yy ga.d (dV (f:=2) (by decide +kernel)).2.2.2;rw[dq];lia
 case w2=>
  exact⟨l2,l4,ao (h (.let "x" q (.var "x")) κ Y uu (.let (l:=κ) (by lia) tq (.var (by rw[lk,if_pos rfl]))) k3 (by rw[dq,dq];lia))⟩
 case w3=>
  refine⟨l2,.inl ⟨p,2,rfl,uu.hs,by decide,by decide,λr Z u3 r0 r1=>?_⟩⟩;obtain⟨d,e1,e2⟩:=dA (xs:=[.str "p",.str "q"]) r0 r1;refine⟨_,e1,l2,?_⟩;simp only[YZ,YJ,or_false]at e2;rcases e2 with rfl |rfl
  ·exact ao (h (.var "p") .num Z (uu.tr u3) (.var (by decide +kernel)) (λ_=>nofun) (by rw[dq];lia))
  ·exact ao (h (.var "q") c8 Z (uu.tr u3) (.var (by decide +kernel)) (λ_=>nofun) (by rw[dq];lia))
 case w4=>
  exact⟨l2,l3,ao (h (.at "a" (.var "q")) .num Y uu (.at (ks:=[("a",.num),("b",.word),("t",.ai .num),("z",.word)]) (by decide +kernel) (.var (by decide +kernel)) (by decide +kernel)) (λ_=>nofun) (by rw[dq,dq];lia))⟩
 exact ao (h q κ Y uu tq k3 (by lia))
noncomputable abbrev S2 (w:Wo):aS w:={ cs:=[(44,j0),(40,fy),(51,ej 80)] }
theorem S3 (O:Lw w):FO w 54 85 C7:=by
 refine aI O.ok O.hn _ ⟨"_law_question",top 85,["seed"]⟩ (by rw[O.hd];rfl) (S2 w) { cs:=⟨⟨1,by decide,mi O⟩,⟨1,by decide,gr O⟩,⟨84,by decide,(pE O 80).a⟩,trivial⟩ } SV SW λds M Q _ h=>?_;obtain⟨p,rfl,hp,h⟩:=h;refine⟨rfl,rfl,l4,.inl ⟨p,4,rfl,hp,by decide,by decide,λr X1 u1 r0 r1=>?_⟩⟩;obtain⟨d,e1,e2⟩:=dA (xs:=[.str "r",.str "t",.str "u",.str "v"]) r0 r1;obtain⟨x,κ,rfl,hx,hκ⟩:∃x κ,d=.str x/\kS x=some κ/\.ai κ∈AK:=by
  simp only[YZ,YJ,or_false]at e2;rcases e2 with z |z |z |z
  ·exact⟨"r",iO,z,by decide +kernel,by decide +kernel⟩
  ·exact⟨"t",.num,z,by decide +kernel,by decide +kernel⟩
  ·exact⟨"u",c8,z,by decide +kernel,by decide +kernel⟩
  ·exact⟨"v",.ai .word,z,by decide +kernel,by decide +kernel⟩
 refine⟨_,e1,vk hx ⟨l2,?_⟩⟩;refine⟨YE _,.inl ⟨p,2,rfl,u1.hs,by decide,by decide,λr2 X2 u2 o0 j3=>?_⟩⟩;have Uw:=eX hκ;have j3:r2<2:=j3;refine⟨.ai κ,[],2+r2,p,rfl,hκ,by unfold Rk;rw[UH];lia,vn (by lia),u2.hs,λq X3 u3 g=>ao (h q κ X3 ((u1.tr u2).tr u3) (g.ty.mono (λ_ _ z=>z) λ_ _ z=>(nomatch z)) ?_ ?_)⟩
 ·obtain⟨_,b2,_,_⟩:=dV (f:=2+r2) hκ;have:=pv (show (2+r2).toNat<=3 by lia);have:zf 3=2990:=rfl;have:=g.n;lia
 ·obtain⟨_,_,_,b4⟩:=dV (f:=2+r2) hκ;have:=g.d;lia
variable {w:Wo}
noncomputable def S4:S->B
 |.loop _ _ b=>b
 |_=>.nil
noncomputable def Sr (rows:List Nv) (z:Str):Option Kd:=if (kN.contains z ||rows.any λnv=>nv.any λq=>decide (q.2=z))=true then FS z else none
theorem vo {rows:List Nv}{z:Str}{k:Kd}:Sr rows z=some k ↔ (z∈kN\/∃nv∈rows,∃q∈nv,q.2=z)/\FS z=some k:=by
 unfold Sr;have:(kN.contains z ||rows.any λnv=>nv.any λq=>decide (q.2=z))=true ↔ (z∈kN\/∃nv∈rows,∃q∈nv,q.2=z):=by
  rw[Bool.or_eq_true,List.contains_iff_mem,List.any_eq_true];refine or_congr Iff.rfl (exists_congr λnv=>and_congr Iff.rfl ?_);rw[List.any_eq_true];exact exists_congr λq=>and_congr Iff.rfl decide_eq_true_iff
 split
 ·rename_i h;exact⟨λe=>⟨this.mp h,e⟩,λe=>e.2⟩
 ·rename_i h;exact⟨λe=>(nomatch e),λe=>absurd (this.mpr e.1) h⟩
theorem S5 {x:Str}{k:Kd} (h:kS x=some k):x∈kN:=List.mem_map.mpr ⟨_,ef h,rfl⟩
theorem S6 {x:Str} (h:x∈kN):FS x=kS x:=by
 obtain⟨k,e⟩:=CZ h;rw[e];exact mE e
theorem fI.sr {rows:List Nv}{l:Nv}{K:List (Key×D)}{n:Nat} (h:fI rows l K n) (hr:∀nv∈rows,∃m∈fH,kh nv m) {z:Str}{k:Kd} (e:Sr rows z=some k):Sk K z=some k:=by
 obtain⟨a,f⟩:=vo.mp e;rcases a with a |⟨nv,hn,q,hq,rfl⟩
 ·exact h.s z k (by rw[<- S6 a];exact f)
 ·obtain⟨m,hm,hv⟩:=hr nv hn;obtain⟨h1,h2⟩:=hv.sub q hq;rw[h2,CX hm h1]at f;exact h.r nv hn q hq k f
theorem fI.fX {rows:List Nv}{l:Nv}{K:List (Key×D)}{n:Nat} (h:fI rows l K n) (hr:∀nv∈rows,∃m∈fH,kh nv m) {v:D}{M:Mp} (hc:hB v K M):gw v (Sr rows) M:=λy k e=>h.k.fX hc y k (h.sr hr e)
theorem dh.Ve (ms:Sc):dh (aL ms) ms:=λy k e=>by rw[gq,e];rfl
variable {w:Wo}
noncomputable abbrev eQ:List Str:=["asked","names","kinds","loose","e"]
noncomputable def k0:S:=.set (.one 2) (.lst .nil)
noncomputable def k1:S:=.set (.one 3) (.oz (.cons (.c (.str "p")) (.cons (.c (.str "q")) .nil)) (.cons (.tup (.cons (.c (.str "num")) .nil)) (.cons (.ix (.call 44 .nil) (.c (.str "u"))) .nil)))
noncomputable def k3:S:=.ret (.v 2)
noncomputable def vp:L:=.cons (.v 0) (.cons (.v 1) (.cons (.v 3) (.cons (.call 52 (.cons (.lst (.cons (.v 1) .nil)) .nil)) .nil)))
theorem S7:∃ s0 s1 np a as cp ep pT V9 ge ph pos s3,ar (top 87)=[s0,s1,.Try [.Expr (.Call (.Name "difference" np) (a::as) [] cp) ep] [.ExceptHandler (some (.Name "NestError" pT)) (some "e") (V9::ge) ph] [] [] pos,s3] /\
  aQ (a::as)=true/\L.of ((a::as).map (aJ nm 38 eQ (af (top 87))))=vp/\cE nm 40 eQ (af (top 87)) s0=k0/\cE nm 40 eQ (af (top 87)) s1=k1/\cE nm 40 eQ (af (top 87)) s3=k3 /\
  ∀{nd nc nk nq nv:Addr}{W:Wd}{k:Nat}{X:Cx}{E0:XQ}{G:Gx},cY nm W k eQ (af (top 87)) G X E0->Ks G nd nc nk nq nv->∀{a:Addr}{F:Fz}{oe:Obj},F a=some (.dat oe)->oe.cls=.ref nd->(∃vs,oe.data=.fields vs)->oe.dict=none->bR (X.hx a F) (V9::ge) (vg a):=
 ⟨_,_,_,_,_,_,_,_,_,_,_,_,_,rfl,by kernel_rfl,by kernel_rfl,by kernel_rfl,by kernel_rfl,by kernel_rfl,λH kg=>@λ_ _ _ hF hc hd hn=>R9 H kg hF hc hd hn⟩
structure Kx (G:Gx) (nd ct:Addr) (bm bt:List Value):Prop where
 ks:∃nc nk nq nv,Ks G nd nc nk nq nv
 xd:fG G.K nd bm
 xt:fG G.K ct bt
 mt:G.mg "NestError"=some (.ref ct)
 sub:(YF nd::bm).contains (.ref ct)=true
noncomputable abbrev i7 (w:Wo) (nd:Addr):aS w:={ cs:=[(44,j0),(52,C5),(27,pN nd)] }
def C8 (nd:Addr) (a C:Addr) (_:List Value):DS:=λe τ M=>C=nd/\vg a e τ M
def S8 (w:Wo) (nd ct:Addr) (_:XQ):DS:=
 eA (k0.w (i7 w nd).wd nm.ah) (eA (k1.w (i7 w nd).wd nm.ah) (eA (uU w.G.K ct (λE=>fj (pN nd) [] E (vp.w (i7 w nd).wd nm.ah)) (C8 nd) 4) (k3.w (i7 w nd).wd nm.ah)))
noncomputable def vq:List D:=[.bl true,.bl true,.bl false,.bl false,.bl false,.bl false]
def C9:Sp:=λds M Q _=>∃q nv,ds=[qD q,dD (aN nv)]/\kh nv "d"/\dq q<=100/\((∃ κ,Ty kS G1 q (.ai κ)/\nq q<1000000/\Q (.lst []) M)\/(∃k,Ty kS G1 q k/\(∀k',k≠.ai k')/\Q (.lst vq) M))
theorem S9:bT (aL G1)=aL G1:=BC (by decide +kernel)
theorem Ta (O:Lw w) {nd ct:Addr}{bm bt:List Value} (kx:Kx w.G nd ct bm bt):FO w 56 11 C9:=by
 obtain⟨s0,s1,np,a,as,cp,ep,pT,V9,ge,ph,pos,s3,hb,hs,ha,h0,h1,h3,Tc⟩:=S7;obtain⟨nc,nk,Ux,pt,kg⟩:=kx.ks;refine u5 (T:=S8 w nd ct) O.ok O.hn _ ⟨"_law_kinds_of",top 87,["asked","names"]⟩ (by rw[O.hd];rfl) (i7 w nd) { cs:=⟨⟨1,by decide,mi O⟩,⟨2,by decide,SD O⟩,⟨10,by decide,R2 O kx.xd kg.c1⟩,trivial⟩ } R8 (λX E H=>?_) λds M Q E h=>?_
 ·show bR X (ar (top 87)) _;rw[hb];have hN:X.N=eQ:=H.c.hN;have g:=H.g;refine gE (h0 ▸ H.s 40 s0) (gE (h1 ▸ H.s 40 s1) (gE ?_ (jj (h3 ▸ H.s 40 s3))));rw[<- g]at kx;refine g ▸ RE (CN:=bt) H.st (by rw[hN];decide +kernel) (by rw[hN];rfl) (by rw[H.c.cC];decide +kernel) kx.xt (H.c.aH (by decide +kernel)) kx.mt (by decide +kernel) rfl (λx' F E τ z Q R hx I h k=>?_) λa F oe C pi h1 h2 h3 h4 _=>?_
  ·have:=H.R7 (n:=38) (x:="difference") (np:=np) (cp:=cp) (i:=27) (by decide +kernel) (by decide +kernel) (by decide +kernel) hs x' F E τ z Q R hx I;rw[ha]at this;exact this h k
  ·rintro τ z e R I ⟨rfl,h⟩ k;exact Tc H kg h1 h2 h3 h4 τ z e R I h k
 ·obtain⟨q,nv,rfl,hv,hd,h⟩:=h;have hm:("d" : Str)∈fH:=by decide +kernel
  have Td:C4 [nv]:=⟨by show 1<=4;decide,λpt z=>⟨"d",hm,by rw[List.mem_singleton.mp z];exact hv⟩⟩;refine⟨rfl,YE _,.inl ⟨l1,rfl,vk (k:=c8) (by decide +kernel) (.inl ?_)⟩⟩;have e1:D.ak ((bT (aL G1)).map (·.1)) ((bT (aL G1)).map (·.2))=dD (aL G1):=by rw[S9];rfl
  have key:∀d,d=dD (aL G1)->eA (uU w.G.K ct (λE=>fj (pN nd) [] E (vp.w (i7 w nd).wd nm.ah)) (C8 nd) 4) (k3.w (i7 w nd).wd nm.ah) (bg Q) [some (qD q),some (dD (aN nv)),some (.lst []),some d,none] M:=?_
  ·exact key _ e1
  rintro _ rfl;refine⟨l1,.inl ⟨[nv],rfl,Td,λK st=>?_⟩⟩;have fX:gw (dD K) (Sr [nv]) M:=st.fX (λpt z=>⟨"d",hm,by rw[List.mem_singleton.mp z];exact hv⟩) (.inl rfl);have Db:dn q<500:=by have:=bF q;lia
  have up:∀x k,kS x=some k->Sr [nv] x=some k:=λx k e=>vo.mpr ⟨.inl (S5 e),mE e⟩;rcases h with ⟨κ,t,hn,h⟩ |⟨k,t,nb,h⟩
  ·have t':Ty (Sr [nv]) G1 q (.ai κ):=t.mono up λ_ _ z=>z;refine .inl ⟨nv,aL G1,dD K,Sr [nv],G1,q,κ,vh.map (·.1),rfl,dh.Ve G1,fX,t',Db,hn,(by decide:2<500),(by decide:25<64),λx hx=>?_,ao h⟩;obtain⟨l,e⟩:=(B' t').t x hx;exact List.mem_map.mpr ⟨_,ef (vo.mp e).2,rfl⟩
  ·refine .inr ⟨nv,aL G1,dD K,Sr [nv],G1,q,k,rfl,dh.Ve G1,fX,t.mono up λ_ _ z=>z,nb,Db,(by decide:2<500),nd,bm,rfl,kx.xd,kx.sub,λa=>⟨rfl,?_⟩⟩;refine⟨rfl,rfl,rfl,l3,.inl ⟨rfl,rfl,rfl,l3,?_⟩⟩;exact .inl ⟨(by decide:6<=sizeLine),.inl (ao h)⟩
variable {w:Wo}
noncomputable def Dc:B:=(.cons (.loop (.one 1) (.seq (.op .Add (.sl (.v 0) .aq (.c (.int 12))) (.lst (.cons (.bi .len (.cons (.v 0) .nil)) .nil)))) (.cons (.set (.one 2) (.call 39 (.cons (.v 1) .nil))) (.cons (.set (.one 3) (.call 53 (.cons (.v 2) (.cons (.c (.str "d")) .nil)))) (.cons (.set (.one 4) (.call 40 (.cons (.v 2) (.cons (.c (.int 4)) .nil)))) (.cons (.set (.one 5) (.lst (.cons (.c (.bl true)) (.cons (.c (.bl true)) (.cons (.c (.bl false)) (.cons (.c (.bl false)) (.cons (.c (.bl false)) (.cons (.c (.bl false)) .nil)))))))) (.cons (.cond (.cmp .Eq (.v 4) (.c (.int 3))) (.cons (.set (.one 5) (.lst .nil)) (.cons (.set (.one 6) (.call 54 (.cons (.v 2) .nil))) .nil)) (.cons (.set (.one 7) (.ix (.lst (.cons (.tup (.cons (.c (.str "num")) .nil)) (.cons (.tup (.cons (.c (.str "word")) .nil)) (.cons (.ix (.call 44 .nil) (.c (.str "u"))) .nil)))) (.v 4))) (.cons (.set (.one 6) (.call 55 (.cons (.v 7) (.cons (.v 2) .nil)))) .nil))) (.cons (.cond (.or (.cmp .NotEq (.call 56 (.cons (.v 6) (.cons (.v 3) .nil))) (.v 5)) (.cmp .NotEq (.call 56 (.cons (.v 6) (.cons (.v 3) .nil))) (.v 5))) (.cons (.ret (.c (.bl false))) .nil) .nil) .nil))))))) (.cons (.ret (.c (.bl true))) .nil))
theorem Te:ay ["script","cell","seed","names","way","due","asked","kind"] ["script"] (af (top 88)):=⟨rfl,rfl,rfl,by decide +kernel,rfl,by decide +kernel,by decide +kernel⟩
theorem Tf:aC nm 40 ["script","cell","seed","names","way","due","asked","kind"] (af (top 88)) (ar (top 88))=Dc:=by kernel_rfl
def spLaw:Sp:=λds M Q _=>∃ns:List Int,ds=[.lst (ns.map D.int)]/\ns.length<=63/\∀M',Q (.bl true) M'
noncomputable abbrev VI (w:Wo):aS w:={ cs:=[(39,AQ),(53,C1),(40,fy),(44,j0),(54,C7),(55,C6),(56,C9)] }
noncomputable def vr:B:=S4 (jZ Dc)
noncomputable def vt:Nat->B->B
 | 0,b=>b
 |n+1,b=>vt n (AJ b)
section
variable {N:St->Mp->Prop}{bk:St->Mp->Prop}{Q:QK}{sc:D}{c:Int}{M:Mp}{v1 v2 v3 v4 v5 v6 v7:Option D}
theorem Dd {q:Qn}{nv:Nv}{ds:List D} (hv:kh nv "d") (hd:dq q<=100) (ho:aM ds=true/\a4 ds<=10)
  (hk:(∃ κ,Ty kS G1 q (.ai κ)/\nq q<1000000/\ds=[])\/(∃k,Ty kS G1 q k/\(∀k',k≠.ai k')/\ds=vq)) (hN:N [some sc,v1,v2,some (dD (aN nv)),v4,some (.lst ds),some (qD q),v7] M) :
  B.w (VI w).wd nm.ah (vt 5 vr) { nx:=N,ct:=N,rt:=aZ Q,bk:=bk } [some sc,v1,v2,some (dD (aN nv)),v4,some (.lst ds),some (qD q),v7] M:=by
 have same:∀{k:Bool->Prop},k true->eG true (.lst ds) (.lst ds) M k:=λh=>by
  have o:aD (.lst ds)=true:=by rw[aD];exact ho.1
  refine .mk (.inl ⟨o,o,by show bc (.lst ds)<=100;rw[bc];have:=ho.2;lia⟩) ?_
  show _;rw[show aA (bP (.lst ds) M) (bP (.lst ds) M)=true from fU _ o];exact h
 rcases hk with ⟨κ,t,n,rfl⟩ |⟨κ,t,n,rfl⟩
 ·exact⟨q,nv,rfl,hv,hd,.inl ⟨κ,t,n,same (aw (by decide) ⟨q,nv,rfl,hv,hd,.inl ⟨κ,t,n,same (aw (by decide) hN)⟩⟩)⟩⟩
 ·exact⟨q,nv,rfl,hv,hd,.inr ⟨κ,t,n,same (aw (by decide) ⟨q,nv,rfl,hv,hd,.inr ⟨κ,t,n,same (aw (by decide) hN)⟩⟩)⟩⟩
theorem Tg (O:Lw w) (hN:∀ v1 v2 v3 v4 v5 v6 v7 M,N [some sc,v1,v2,v3,v4,v5,v6,v7] M) :
  B.w (VI w).wd nm.ah vr { nx:=N,ct:=N,rt:=aZ Q,bk:=bk } [some sc,some (.int c),v2,v3,v4,v5,v6,v7] M:=by
 refine⟨c,rfl,λp o hp so=>⟨p,"d",rfl,by decide +kernel,⟨o,au,so⟩,λnv X u hv=>⟨p,4,rfl,u.hs,by decide,by decide,λway X1 u1 w0 w1=>⟨(by decide:6<=sizeLine),.inl ?_⟩⟩⟩⟩;have w1:way<4:=w1;show B.w (VI w).wd nm.ah (vt 4 vr) { nx:=N,ct:=N,rt:=aZ Q,bk:=bk } [some sc,some (.int c),some (.ref p),some (dD (aN nv)),some (.int way),some (.lst vq),v6,v7] X1;refine eW λN2 g8=>?_;refine a' (aR (λ_=>?_) λnw=>?_)
 ·refine⟨YE _,.inl ⟨p,rfl,u1.hs,λq κ X2 u2 t n d=>g8 _ _ ?_⟩⟩;exact Dd hv d ⟨rfl,YE _⟩ (.inl ⟨κ,t,n,rfl⟩) (hN _ _ _ _ _ _ _ _)
 ·have nw:way≠3:=of_decide_eq_false (Bool.eq_false_iff.mpr nw);refine⟨l1,l1,rfl,vk (k:=c8) (by decide +kernel) ⟨l3,.inl ?_⟩⟩;obtain⟨d,e1,e2⟩:=dA (xs:=[kD .num,kD .word,kD c8]) w0 (by show way<3;lia);obtain⟨κ,rfl,hκ⟩:∃ κ,d=kD κ/\(κ=.num\/κ=.word\/κ=c8):=by
   simp only[YZ,YJ,or_false]at e2;rcases e2 with z |z |z
   ·exact⟨_,z,.inl rfl⟩
   ·exact⟨_,z,.inr (.inl rfl)⟩
   ·exact⟨_,z,.inr (.inr rfl)⟩
  refine⟨_,e1,κ,p,rfl,hκ,u1.hs,λq k X2 u2 t nb d=>g8 _ _ ?_⟩;exact Dd hv d ⟨rfl,by decide⟩ (.inr ⟨k,t,nb,rfl⟩) (hN _ _ _ _ _ _ _ _)
end
theorem Th (O:Lw w) {nd ct:Addr}{bm bt:List Value} (kx:Kx w.G nd ct bm bt):FO w 57 100 spLaw:=by
 refine aI O.ok O.hn _ ⟨"law",top 88,["script"]⟩ (by rw[O.hd];rfl) (VI w) { cs:=⟨⟨1,by decide,Lb O⟩,⟨2,by decide,Sq O⟩,⟨1,by decide,gr O⟩,⟨1,by decide,mi O⟩,⟨85,by decide,S3 O⟩,⟨85,by decide,SY O⟩,⟨11,by decide,Ta O kx⟩,trivial⟩ } Te Tf λds M Q _ h=>?_;obtain⟨ns,rfl,hl,h⟩:=h;have cl:(du (ns.map D.int) none (some 12)).length<=63:=by
  unfold du;rw[List.length_take,List.length_drop,Ym];lia
 refine⟨rfl,.inl ⟨l1,.inl ⟨Yy (by show _+1<=100;lia) (by decide:100<=sizeLine),.inl ?_⟩⟩⟩;refine eS (λxs τ M'=>(∀d∈xs,∃i,d=.int i)/\∃v1 v2 v3 v4 v5 v6 v7,τ=[some (.lst (ns.map D.int)),v1,v2,v3,v4,v5,v6,v7]) ?_ ?_ _ _ _ ⟨λd hd=>?_,none,none,none,none,none,none,none,rfl⟩
 ·rintro τ M' ⟨_,v1,v2,v3,v4,v5,v6,v7,rfl⟩;exact⟨trivial,.rfl (ao (h _))⟩
 ·rintro x xs τ M' ⟨hi,v1,v2,v3,v4,v5,v6,v7,rfl⟩;obtain⟨i,rfl⟩:=hi x Ys;refine⟨trivial,λN hN=>?_⟩;exact Tg O (c:=i) (λv1 v2 v3 v4 v5 v6 v7 X'=>hN _ _ ⟨λd hd=>hi d (Yt _ hd),v1,v2,v3,v4,v5,v6,v7,rfl⟩)
 ·rcases List.mem_append.mp hd with z |z
  ·unfold du at z;obtain⟨i,_,e⟩:=List.mem_map.mp (List.mem_of_mem_drop (List.mem_of_mem_take z));exact⟨i,e.symm⟩
  ·exact⟨_,List.mem_singleton.mp z⟩
end K28
end
section
namespace NH
open PySem N NQ
open L2
def pP (K:PySem.W.Frag) (d:Ds):Prop:=∃(n:Str) (f:Addr) (fd:FuncData),PySem.W.nsIn K mainGlobals d.x=some (some (.ref f))/\c5 K n n d.st f fd
theorem Ti {K:PySem.W.Frag}{d:Ds}{n:Str}{f:Addr}{oc:Value}{od an:Option Addr}{bY:Array (Option Value)}{kV doc pm ap ct:Value} (a:PySem.W.nsIn K mainGlobals d.x=some (some (.ref f)))
  (l:K.lookup f=some ⟨oc,od,.func (PySem.W.fnOf n n (dN d.st) (ar d.st) (af d.st) .none kV doc pm an ap ct),bY⟩) (c:PySem.W.codeIn K ap n=true) (k:PySem.W.keepIn K (.ref f)=true):pP K d:=⟨n,f,_,a,qQ l c k⟩
def vv (d:Ds):Prop:=∀(n:Str) (kV doc pm:Value) (an:Option Addr) (ap ct:Value) (us:List Value),us.length=d.ps.length->bindArgs (PySem.W.fnOf n n (dN d.st) (ar d.st) (af d.st) .none kV doc pm an ap ct) ⟨us,[]⟩=pure (d.ps.zip us)
theorem De {P:List Value->Prop} (h:P []):∀us,us.length=0->P us
 |[],_=>h
theorem cZ {P:List Value->Prop} (h:∀a,P [a]):∀us,us.length=1->P us
 |a::us,e=>De (P:=λus=>P (a::us)) (h a) us (aaq e)
theorem bJ {P:List Value->Prop} (h:∀a b,P [a,b]):∀us,us.length=2->P us
 |a::us,e=>cZ (P:=λus=>P (a::us)) (h a) us (aaq e)
theorem cj {P:List Value->Prop} (h:∀a b c,P [a,b,c]):∀us,us.length=3->P us
 |a::us,e=>bJ (P:=λus=>P (a::us)) (h a) us (aaq e)
theorem mG {P:List Value->Prop} (h:∀a b c d,P [a,b,c,d]):∀us,us.length=4->P us
 |a::us,e=>cj (P:=λus=>P (a::us)) (h a) us (aaq e)
def mH (K:PySem.W.Frag):List Ds->Prop
 |[]=>True
 |d::r=>(pP K d/\vv d)/\mH K r
theorem mH.at {K:PySem.W.Frag}:∀{l:List Ds}{i:Nat}{d:Ds},mH K l->l[i]?=some d->pP K d/\vv d
 |[],_,_,_,h=>by simp at h
 |e::r,0,d,a,h=>by simp at h;rw[<- h];exact a.1
 |e::r,i+1,d,a,h=>mH.at a.2 (by simpa using h)
def i8 (K:PySem.W.Frag) (C:Addr) (d:Ds):Prop:=∃(q:Str) (f:Addr) (fd:FuncData),c5 K d.x q d.st f fd/\jo K C d.x f/\bC K fd d.ps []
theorem mI {K:PySem.W.Frag}{C:Addr}{d:Ds}{q:Str}{f:Addr}{oc:Value}{od an:Option Addr}{bY:Array (Option Value)}{kV doc pm ap ct:Value} (a:PySem.W.findIn K (.ref C) d.x=some (some (.ref f)))
  (l:K.lookup f=some ⟨oc,od,.func (PySem.W.fnOf d.x q (dN d.st) (ar d.st) (af d.st) .none kV doc pm an ap ct),bY⟩) (c:PySem.W.codeIn K ap q=true) (k:PySem.W.keepIn K (.ref f)=true) (n:PySem.W.isFn K (.ref f)=true)
  (b:∀us:List Value,us.length=d.ps.length->bindArgs (PySem.W.fnOf d.x q (dN d.st) (ar d.st) (af d.st) .none kV doc pm an ap ct) ⟨us,[]⟩=pure (d.ps.zip us)):i8 K C d:=⟨q,f,_,qQ l c k,⟨a,n,k⟩,.all b⟩
noncomputable def er (mg:Str->Option Value) (x:Str):Addr:=match mg x with
 |some (.ref f)=>f
 |_=>0
noncomputable def pQ (mg:Str->Option Value) (t:List (Str×Str)):D:=.ak (t.map λp=>.inr p.1) (t.map λp=>.ref (er mg p.2))
inductive i9 (P:Params) (K:PySem.W.Frag):List DictEntry->List (Str×Str)->Prop
 |nil:i9 P K [] []
 |cons {e:DictEntry}{es:List DictEntry}{x g:Str}{n:Tok}{f:Addr}{t:List (Str×Str)}:e.key=.str x n->e.hash=PyData.keyHash P x->e.val=.ref f->PySem.W.nsIn K mainGlobals g=some (some (.ref f))->i9 P K es t->i9 P K (e::es) ((x,g)::t)
structure pR (P:Params) (K:PySem.W.Frag) (x:Str) (t:List (Str×Str)):Prop where
 ex:∃(a:Addr) (es:List DictEntry) (n:Nat),PySem.W.nsIn K mainGlobals x=some (some (.ref a))/\K.lookup a=some ⟨.type "dict",none,.dict es.toArray n,#[]⟩/\(a == sysModules)=false/\i9 P K es t
theorem Df {P:Params}{K:PySem.W.Frag}{x:Str}{t:List (Str×Str)}{a:Addr}{es:List DictEntry}{n:Nat} (h1:PySem.W.nsIn K mainGlobals x=some (some (.ref a))) (h2:K.lookup a=some ⟨.type "dict",none,.dict es.toArray n,#[]⟩) (h3:(a == sysModules)=false) (h4:i9 P K es t):pR P K x t:=⟨a,es,n,h1,h2,h3,h4⟩
section
variable {G:Gx}{h:Heap}{w:World}
theorem Tj {P:Params}{K:PySem.W.Frag}{es:List DictEntry}{t:List (Str×Str)} (T:i9 P K es t):∀e∈es,∃x n,e.key=.str x n/\e.hash=PyData.keyHash P x:=by
 induction T with
 |nil=>exact λe h=>(nomatch h)
 |cons h1 h2 _ _ _ ih=>
  intro e he;rcases List.mem_cons.mp he with z |z
  ·subst z;exact⟨_,_,h1,h2⟩
  ·exact ih e z
theorem Tn {K:PySem.W.Frag}{P:Params}{mg:Str->Option Value}{prog:Program} (X:K.In h) (Gn:h.Ns mainGlobals mg) {es:List DictEntry}{t:List (Str×Str)} (T:i9 P K es t):Pairs (bw prog w) es ((t.map λp=>(Zs p.1:Key)).zip (t.map λp=>YF (er mg p.2))):=by
 induction T with
 |nil=>exact .nil
 |@cons e es x g n f t h1 h2 h3 h4 _ ih=>
  refine .cons (kv:=(Zs x,YF (er mg g))) (by show e7 (.inr x) e.key=true;rw[h1];exact pY x n) ?_ ih;rw[h3];show YF f=YF (er mg g);unfold er;rw[PySem.W.mg_of X Gn h4]
theorem Dg {F:Fz} {α:Type} (a:α->Addr):∀l:List α,ag G F (l.map λp=>.ref (a p)) (l.map λp=>.ref (a p))
 |[]=>.nil
 |x::r=>.cons (by rw[ae]) (Dg a r)
theorem Dh {K:PySem.W.Frag}{mg:Str->Option Value}{x:Str}{t:List (Str×Str)} (hK:G.K=K) (hmg:G.mg=mg) (hb:K.In G.base) (X:K.In h) (Gn:h.Ns mainGlobals mg) (nd:(t.map (·.1)).Nodup) (hl:t.length<=100) (T:pR G.w.params K x t):∃u,mg x=some u/\∀F:Fz,(∀b o,G.base.get? b=some o->F b=some (.dat o))->ae G F (pQ mg t) u:=by
 obtain⟨a,es,n,h1,h2,h3,h4⟩:=T.ex;refine⟨.ref a,PySem.W.mg_of X Gn h1,λF hF=>?_⟩;have o:=hF a _ (hb a _ h2);unfold pQ;rw[ae];refine⟨a,_,t.map λp=>YF (er mg p.2),rfl,o,⟨⟨rfl,rfl,rfl⟩,⟨es.toArray,n,rfl,λe he=>?_,?_⟩,?_,by simp,?_⟩,h3,Dg (λp:Str×Str=>er mg p.2) t⟩
 ·obtain⟨x,n,e1,e2⟩:=Tj h4 e (by simpa using he);exact⟨.inr x,by show e7 (.inr x) e.key=true;rw[e1];exact pY x n,e2⟩
 ·exact Tn X Gn h4
 ·have:(t.map λp=>(Zs p.1:Key))=(t.map (·.1)).map Zs:=by rw[Zq];rfl
  rw[this];exact List.pairwise_map.mpr (nd.imp λh e=>h (aap e))
 ·rw[Ym];exact Yy hl (by decide)
noncomputable def mJ:List Value->List Str->Bool
 |[],[]=>true
 |.str y _::r,x::s=>decide (y=x) && mJ r s
 |_,_=>false
theorem jB {F:Fz}:∀{us:List Value}{xs:List Str},mJ us xs=true->ag G F (xs.map D.str) us
 |[],[],_=>.nil
 |.str y t::r,x::s,h=>by
  rw[mJ,Yq]at h;cases of_decide_eq_true h.1;exact .cons (by rw[ae];exact⟨t,rfl⟩) (jB h.2)
structure ki (K:PySem.W.Frag) (x:Str) (xs:List Str):Prop where
 ex:∃(a:Addr) (us:List Value) (n:Nat),PySem.W.nsIn K mainGlobals x=some (some (.ref a))/\K.lookup a=some ⟨.type "tuple",none,.seq us.toArray n,#[]⟩/\mJ us xs=true
theorem pS {K:PySem.W.Frag}{x:Str}{xs:List Str}{a:Addr}{us:List Value}{n:Nat} (h1:PySem.W.nsIn K mainGlobals x=some (some (.ref a))) (h2:K.lookup a=some ⟨.type "tuple",none,.seq us.toArray n,#[]⟩) (h3:mJ us xs=true):ki K x xs:=⟨a,us,n,h1,h2,h3⟩
theorem pU {K:PySem.W.Frag}{mg:Str->Option Value}{x:Str}{xs:List Str} (hb:K.In G.base) (X:K.In h) (Gn:h.Ns mainGlobals mg) (hl:xs.length<=100) (T:ki K x xs):∃u,mg x=some u/\∀F:Fz,(∀b o,G.base.get? b=some o->F b=some (.dat o))->ae G F (.tup (xs.map D.str)) u:=by
 obtain⟨a,us,n,h1,h2,h3⟩:=T.ex;refine⟨.ref a,PySem.W.mg_of X Gn h1,λF hF=>?_⟩;have rs:=jB (G:=G) (F:=F) h3;exact m8 (hF a _ (hb a _ h2)) ⟨rfl,rfl,⟨n,rfl⟩,by rw[<- rs.len,Ym];exact Yy hl (by decide)⟩ rs
theorem Di {K:PySem.W.Frag}{d:Ds} (hK:G.K=K) (X:K.In h) (Gn:h.Ns mainGlobals G.mg) (a:pP K d) (b:vv d):∃f fd,lS G d.x d.st f fd d.ps:=by
 obtain⟨n,f,fd,e,F⟩:=a;subst hK;refine⟨f,fd,⟨n,F⟩,F.il (b n),PySem.W.mg_of X Gn e⟩
end
end NH
end
section
namespace K28
open PySem N NQ NH
open L2
noncomputable def Dj:List Str:=["HAVE_MORE","NUMBER","WORD","TRUTH","FINISHED","SUMS"]
noncomputable def Dk:List (Str×Str):=[("both","both_differences"),("for","for_differences")]
noncomputable def Dl (mg:Str->Option Value):List D:=[.tup (pg.map D.str),kD .num,kD .word,.tup [.str "truth"],pQ mg K28.br,pQ mg Dk]
noncomputable def wO (G:Gx) (C:Addr):Wo where
 G:=G
 ds:=ei
 fq:=nm.fq
 gv:=Dl G.mg++ei.map λd=>.ref (er G.mg d.x)
 fl:=λc f=>c=C/\(f="waiting"\/f="found")
 cls:=nm.cls
 ca:=λ_=>C
 ms:=pf
 mc:=λ_=>C
theorem To {i:Nat}{x:Str} (h:nm.fq[i]?=some x):(i<6/\Dj[i]?=some x)\/∃j d,i=6+j/\ei[j]?=some d/\d.x=x:=by
 have e:nm.fq=Dj++ei.map (·.x):=by kernel_rfl
 rw[e]at h;by_cases hi:i<6
 ·rw[Y5 hi]at h;exact .inl ⟨hi,h⟩
 ·rw[Y1 (by show 6<=i;lia),Yz]at h;obtain⟨d,h1,h2⟩:=Option.map_eq_some_iff.mp h;exact .inr ⟨i-6,d,by lia,h1,h2⟩
structure pV (K:PySem.W.Frag) (x:Str) (st:Stmt) (c T:Addr):Prop where
 d:∃(n:Str) (f:Addr) (fd:FuncData),PySem.W.nsIn K mainGlobals x=some (some (.ref f))/\c5 K n n st f fd/\fd.code=.ref c/\n=x
 h:PySem.W.codeHdIn K c T=true
theorem Dm {K:PySem.W.Frag}{x:Str}{st:Stmt}{c T f:Addr}{oc:Value}{od an:Option Addr}{bY:Array (Option Value)}{kV doc pm ct:Value} (a:PySem.W.nsIn K mainGlobals x=some (some (.ref f)))
  (l:K.lookup f=some ⟨oc,od,.func (PySem.W.fnOf x x (dN st) (ar st) (af st) .none kV doc pm an (.ref c) ct),bY⟩) (Xy:PySem.W.codeIn K (.ref c) x=true) (k:PySem.W.keepIn K (.ref f)=true) (h:PySem.W.codeHdIn K c T=true):pV K x st c T:=⟨⟨x,f,_,a,qQ l Xy k,rfl,rfl⟩,h⟩
def vw (K:PySem.W.Frag) (N:Addr) (m:Str->Option Value):Prop:=∃c d es ep sl,K.lookup N=some ⟨c,d,.dict es ep,sl⟩/\(es.all λe=>match e.key with |.str _ _=>true |_=>false)=true/\m=PySem.nsFind es
theorem vw.in {K:PySem.W.Frag}{N:Addr}{m:Str->Option Value} (n:vw K N m) {h:Heap} (X:K.In h):h.Ns N m:=by
 obtain⟨c,d,es,ep,sl,l,k,rfl⟩:=n;refine⟨_,es,ep,X _ _ l,rfl,λe he=>?_,λ_=>rfl⟩;have:=Array.all_eq_true_iff_forall_mem.mp k e he;split at this
 ·rename_i a b q;exact⟨a,b,q⟩
 ·cases this
def kj (K:PySem.W.Frag) (C N:Addr) (bm:List Value):Prop:=(∃nm q bs hdct sn sub ab col dd k0 k1 k2 k3 k5,K.lookup C=some (excClassObj nm q C N bs bm hdct sn sub ab col dd k0 k1 k2 k3 k5 "ValueError.__new__"))/\∃m,vw K N m/\m "__init__"=none
theorem Dn {K:PySem.W.Frag}{C N:Addr}{bm bs:List Value}{nm q:Str}{hdct ab:Bool}{sn:List Str}{sub:List Value}{col:Option Bool}{dd d:Option Addr}{k0 k1 k2 k3 k5:Option Value}{c:Value}{es:Array DictEntry}{ep:Nat}{sl:Array (Option Value)}
  (l:K.lookup C=some (excClassObj nm q C N bs bm hdct sn sub ab col dd k0 k1 k2 k3 k5 "ValueError.__new__")) (m:K.lookup N=some ⟨c,d,.dict es ep,sl⟩)
  (k:(es.all λe=>match e.key with |.str _ _=>true |_=>false)=true) (i:PySem.nsFind es "__init__"=none):kj K C N bm:=⟨⟨nm,q,bs,hdct,sn,sub,ab,col,dd,k0,k1,k2,k3,k5,l⟩,_,⟨c,d,es,ep,sl,m,k,rfl⟩,i⟩
theorem Tp {K:PySem.W.Frag}{C N:Addr} (c:kj K C N eZ):fG K C eZ:=by
 obtain⟨⟨nm,q,bs,hdct,sn,sub,ab,col,dd,k0,k1,k2,k3,k5,l⟩,m,n,i⟩:=c;exact⟨by decide,nm,q,N,bs,hdct,sn,sub,ab,col,dd,k0,k1,k2,k3,k5,m,i,λh X=>⟨X _ _ l,n.in X,.base⟩⟩
theorem Tq {K:PySem.W.Frag}{C N C' N':Addr} (c:kj K C N eZ) (c':kj K C' N' (.ref C::eZ)):fG K C' (.ref C::eZ):=by
 obtain⟨⟨nm,q,bs,hdct,sn,sub,ab,col,dd,k0,k1,k2,k3,k5,l⟩,m,n,i⟩:=c;obtain⟨⟨ul,q',ut,uP,uQ,uR,uS,uT,gN,Tl,Tr,Ts,Tt,Tu,l'⟩,m',n',VC⟩:=c';exact⟨by rw[List.contains_cons];exact Bool.or_eq_true_iff.mpr (.inr (by decide)),ul,q',N',ut,uP,uQ,uR,uS,uT,gN,Tl,Tr,Ts,Tt,Tu,m',VC,λh X=>⟨X _ _ l',n'.in X,.own (X _ _ l) (n.in X) i .base⟩⟩
structure km (P:Params) (K:PySem.W.Frag) (C:Addr):Prop where
 ds:mH K ei
 s0:ki K "HAVE_MORE" pg
 s1:ki K "NUMBER" ["num"]
 s2:ki K "WORD" ["word"]
 s3:ki K "TRUTH" ["truth"]
 s4:pR P K "FINISHED" K28.br
 s5:pR P K "SUMS" Dk
 bi:iK.all (λx=>decide (PySem.W.nsIn K mainGlobals x=some none))=true
 wa:PySem.W.nsIn K mainGlobals "Walk"=some (some (.ref C))
 wc:cP K C
 w1:d5 K C "waiting"
 w2:d5 K C "found"
 wm:PySem.W.makesIn K C=true
 wk:PySem.W.keepIn K (.ref C)=true
 m0:i8 K C ⟨"__init__",(bj (top 14) 0),["self"]⟩
 m1:i8 K C ⟨"later",(bj (top 14) 1),["self","step","question","around"]⟩
 m2:i8 K C ⟨"tell",(bj (top 14) 2),["self","result"]⟩
 m3:i8 K C ⟨"take",(bj (top 14) 3),["self","many"]⟩
 m4:i8 K C ⟨"run",(bj (top 14) 4),["self"]⟩
 la:pV K "alike" (top 21) 203 199
 lb:pV K "behind" (top 59) 403 399
 VN:kj K 24 23 eZ
 c1:kj K 61 60 (.ref 24::eZ)
 e0:PySem.W.nsIn K mainGlobals "NestError"=some (some (.ref 24))
 e1:PySem.W.nsIn K mainGlobals "NoDifference"=some (some (.ref 61))
 e2:PySem.W.nsIn K mainGlobals "NoChange"=some (some (.ref 73))
 e3:PySem.W.nsIn K mainGlobals "NoKind"=some (some (.ref 92))
 e4:PySem.W.nsIn K mainGlobals "NoQuestion"=some (some (.ref 49))
 e5:PySem.W.nsIn K mainGlobals "NoValue"=some (some (.ref 37))
 e6:PySem.W.nsIn K mainGlobals "ValueError"=some none
 V':PySem.W.nsIn K mainGlobals "isinstance"=some none
 i0:PySem.W.kitOne K (.ref 61) (.ref 61)=some true
 i1:PySem.W.kitOne K (.ref 61) (.type "ValueError")=some true
 i2:PySem.W.kitOne K (.ref 61) (.ref 73)=some false
 i3:PySem.W.kitOne K (.ref 61) (.ref 92)=some false
 i4:PySem.W.kitOne K (.ref 61) (.ref 49)=some false
 i5:PySem.W.kitOne K (.ref 61) (.ref 37)=some false
 Xz:iZ K 61
 bt:∃(bm:Addr) (ob:Obj),PySem.W.nsIn K mainGlobals "__builtins__"=some (some (.ref bm))/\K.lookup bm=some ob/\bm≠builtinsNs/\bm≠mainGlobals/\bm≠199/\bm≠399/\ob.cls=.type "module"/\ob.dict=some builtinsNs/\ob.data=.plain
noncomputable def tbs2:gj:=[(199,pA.lp,"alike.<locals>.<lambda>"),(399,pB.np,"behind.<locals>."++pB.name)]
section
variable {P:Program}{w:World}{K:PySem.W.Frag}{mg:Str->Option Value}{base h:Heap}{C:Addr}
theorem Tv (X:K.In h) (Gn:h.Ns mainGlobals mg) (hb:K.In base) (F:km w.params K C):(wO ⟨P,w,K,mg,base,N.br tbs2⟩ C).Ok where
 df:=λi d hd=>let ⟨a,b⟩:=F.ds.at hd;Di (G:=⟨P,w,K,mg,base,N.br tbs2⟩) rfl X Gn a b
 gv:=λi x hx=>by
  rcases To hx with ⟨h1,h2⟩ |⟨j,d,rfl,h1,rfl⟩
  ·rcases (by lia:i=0\/i=1\/i=2\/i=3\/i=4\/i=5) with rfl |rfl |rfl |rfl |rfl |rfl
   ·cases h2;exact pU (G:=⟨P,w,K,mg,base,N.br tbs2⟩) hb X Gn (by decide) F.s0
   ·cases h2;exact pU (G:=⟨P,w,K,mg,base,N.br tbs2⟩) hb X Gn (by decide) F.s1
   ·cases h2;exact pU (G:=⟨P,w,K,mg,base,N.br tbs2⟩) hb X Gn (by decide) F.s2
   ·cases h2;exact pU (G:=⟨P,w,K,mg,base,N.br tbs2⟩) hb X Gn (by decide) F.s3
   ·cases h2;exact Dh (G:=⟨P,w,K,mg,base,N.br tbs2⟩) rfl rfl hb X Gn BE (by decide) F.s4
   ·cases h2;exact Dh (G:=⟨P,w,K,mg,base,N.br tbs2⟩) rfl rfl hb X Gn CD (by decide) F.s5
  ·obtain⟨a,b⟩:=F.ds.at h1;obtain⟨f,fd,DF⟩:=Di (G:=⟨P,w,K,mg,base,N.br tbs2⟩) rfl X Gn a b;refine⟨.ref f,DF.mg,λFz _=>?_⟩;have e:(wO ⟨P,w,K,mg,base,N.br tbs2⟩ C).gv.getD (6+j) .aj=.ref f:=by
    show (Dl mg++ei.map λd=>D.ref (er mg d.x):List D).getD (6+j) .aj=_;rw[YN,Y1 (by show 6<=6+j;lia)];show ((ei.map λd=>D.ref (er mg d.x))[6+j-6]?).getD .aj=_;rw[Nat.add_sub_cancel_left,Yz,h1];show D.ref (er mg d.x)=_;have:mg d.x=some (.ref f):=DF.mg;unfold er;rw[this]
   rw[e,ae]
 bl:=λx hx=>PySem.W.mg_none_of X Gn (of_decide_eq_true (List.all_eq_true.mp F.bi x hx))
 fl:=λc f h=>by
  obtain⟨rfl,e |e⟩:=h
  ·rw[e];exact⟨F.wc,F.w1⟩
  ·rw[e];exact⟨F.wc,F.w2⟩
 mt:=λi d hd=>by
  have mk:∀{d:Ds},i8 K C d->∃f fd,tj K C d f fd:=λ⟨q,f,fd,F1,M1,XA⟩=>⟨f,fd,⟨q,F1⟩,XA,M1,F.wc⟩;have em:pf[i]?=some d:=hd
  match i,em with
  | 0,e=>cases e;exact mk F.m0
  | 1,e=>cases e;exact mk F.m1
  | 2,e=>cases e;exact mk F.m2
  | 3,e=>cases e;exact mk F.m3
  | 4,e=>cases e;exact mk F.m4
  |n+5,e=>cases e
 cl:=λi x hx=>by
  have cI:(["Walk"]:List Str)[i]?=some x:=hx
  match i,cI with
  | 0,e=>cases e;exact⟨PySem.W.mg_of X Gn F.wa,λf a n=>⟨F.wm,a,n,F.wk⟩⟩
  |n+1,e=>cases e
theorem Dp (X:K.In h) (Gn:h.Ns mainGlobals mg) (F:km w.params K C) {x:Str}{st:Stmt}{c T:Addr}{p:Pos}{q0:Str} (A:pV K x st c T) (hT:tbs2.lookup T=some (p,x++q0)) (XB:mainGlobals≠T) (nB:∀bm,bm≠199->bm≠399->bm≠T):∀f fd q,c5 K q q st f fd->mg x=some (.ref f)->∃c T,fd.code=.ref c/\eh ⟨P,w,K,mg,base,N.br tbs2⟩ c T p (q++q0):=by
 intro f fd q Fn hm;obtain⟨n,f0,Dq,e1,F0,e2,rfl⟩:=A.d;have m0:=PySem.W.mg_of X Gn e1;rw[m0]at hm;cases hm;obtain⟨oc,od,kV,doc,pm,an,ap,ct,bY,hf,l1,_⟩:=Fn.ex;obtain⟨Tw,Tx,Tz,Ar,TB,TC,TD,TF,TH,Dr,l2,_⟩:=F0.ex;rw[l1]at l2;injection l2 with l3;injection l3 with _ _ l4;injection l4 with l5;have XD:fd=Dq:=l5;have eq:q=n:=by
  have:fd.name=Dq.name:=congrArg FuncData.name l5;rw[hf,Dr]at this;exact this
 subst eq;subst XD;obtain⟨bm,ob,b1,b2,b3,b4,U9,TJ,U',Va,Vb⟩:=F.bt;exact⟨c,T,e2,A.h,⟨bm,ob,PySem.W.mg_of X Gn b1,b2,b3,b4,nB bm U9 TJ,U',Va,Vb⟩,XB,by show (tbs2.lookup T).map _=_;rw[hT];rfl⟩
theorem TK (X:K.In h) (Gn:h.Ns mainGlobals mg) (hb:K.In base) (F:km w.params K C):Lw (wO ⟨P,w,K,mg,base,N.br tbs2⟩ C) where
 ok:=Tv X Gn hb F
 hn:=by show (⟨ei.map (·.x),nm.fq,nm.cls,pf.map (·.x)⟩:Nm)=nm;kernel_rfl
 hd:=rfl
 hms:=rfl
 g0:=rfl
 g1:=rfl
 g2:=rfl
 g3:=rfl
 gt:=rfl
 gs:=rfl
 gb:=rfl
 gd:=rfl
 gf:=rfl
 WA:=rfl
 go:=rfl
 gp:=rfl
 ga:=rfl
 fw:=⟨rfl,.inl rfl⟩
 UK:=⟨rfl,.inr rfl⟩
 mc:=λ_ _=>rfl
 VE:=by
  intro f fd q h1 h2;have:=Dp (P:=P) (base:=base) X Gn F (p:=pA.lp) (q0:=".<locals>.<lambda>") F.la (by kernel_rfl) (by decide) (λ_ a _=>a) f fd q h1 h2;exact this
 VF:=by
  intro f fd q h1 h2;have:=Dp (P:=P) (base:=base) X Gn F (p:=pB.np) (q0:=".<locals>."++pB.name) F.lb (by kernel_rfl) (by decide) (λ_ _ a=>a) f fd q h1 h2;exact this
theorem TL (X:K.In h) (Gn:h.Ns mainGlobals mg) (F:km w.params K C):Kx ⟨P,w,K,mg,base,N.br tbs2⟩ 61 24 (.ref 24::eZ) eZ where
 ks:=⟨73,92,49,37,PySem.W.mg_none_of X Gn F.V',PySem.W.mg_none_of X Gn F.e6,PySem.W.mg_of X Gn F.e1,PySem.W.mg_of X Gn F.e2,PySem.W.mg_of X Gn F.e3,PySem.W.mg_of X Gn F.e4,PySem.W.mg_of X Gn F.e5,F.i0,F.i1,F.i2,F.i3,F.i4,F.i5,F.Xz⟩
 xd:=Tq F.VN F.c1
 xt:=Tp F.VN
 mt:=PySem.W.mg_of X Gn F.e0
 sub:=by decide
end
section
variable {P:Program}{w:World}{K:PySem.W.Frag}{mg:Str->Option Value}{h:Heap}{C:Addr}
theorem law_ok {fa:Addr} (X:K.In h) (Gn:h.Ns mainGlobals mg) (Dt:mg "law"=some (.ref fa)) (F:km w.params K C) :
  ∃fd:FuncData,(∀(s:Shared) (v:Value),BindsTo s fd ⟨[v],[]⟩ [("script",v)])/\∀base:Heap,K.In base->base.Ns mainGlobals mg->a6 ⟨P,w,K,mg,base,N.br tbs2⟩ 100 fa fd ["script"] spLaw:=by
 obtain⟨a,b⟩:=F.ds.at (i:=57) (d:=⟨"law",top 88,["script"]⟩) rfl;obtain⟨n,f,fd,e,Fn⟩:=a;have m1:=PySem.W.mg_of X Gn e;have m2:mg "law"=some (.ref f):=m1;rw[Dt]at m2;cases m2;refine⟨fd,?_,λbase hb _=>?_⟩
 ·obtain⟨oc,od,kV,doc,pm,an,ap,ct,bY,rfl,lk,cL⟩:=Fn.ex;exact λs v=>.of_eq rfl
 obtain⟨d',f',Ag,h1,D',TM⟩:=Th (TK (P:=P) (base:=base) X Gn hb F) (TL X Gn F);have e:d'=⟨"law",top 88,["script"]⟩:=by
  have h2:ei[57]?=some d':=h1;have h3:ei[57]?=some ⟨"law",top 88,["script"]⟩:=rfl;rw[h3]at h2;cases h2;rfl
 subst e;have m3:mg "law"=some (.ref f'):=D'.mg;rw[Dt]at m3;cases m3;obtain⟨_,TN⟩:=D'.fn;obtain⟨oc,od,kV,doc,pm,an,ap,ct,bY,hf,l1,_⟩:=Fn.ex;obtain⟨Tw,Tx,Tz,Ar,TB,TC,TD,TF,TH,Dr,l2,_⟩:=TN.ex;have TP:K.lookup fa=_:=l1;have Du:K.lookup fa=_:=l2;rw[TP]at Du;injection Du with l3;injection l3 with _ _ l4;injection l4 with l5;rw[l5];exact TM
end
theorem room_law:bq 100 callerA:=⟨rfl,by decide,by decide⟩
theorem Uy:PySem.Challenge.rw_keptnest_k28_no_difference=PySem.Challenge.rw_keptnest_k28_no_difference/\zK=zK:=by k_fill;exact⟨rfl,rfl⟩
theorem zF (w:World):km w.params (zK w.params) 160:=by
 refine' ⟨?ds,?s0,?s1,?s2,?s3,?s4,?s5,?bi,?wa,⟨?c1,?c2,?c3,?c4⟩,?w1,?w2,?wm,?wk,?m0,?m1,?m2,?m3,?m4,?la,?lb,?TQ,?TR,?e0,?e1,?e2,?e3,?e4,?e5,?e6,?V',?i0,?i1,?i2,?i3,?i4,?i5,⟨?U0,?j1,?j2,?V6,?XF,?V7⟩,?bt⟩
 case ds=>
  refine' ⟨⟨?_,λ_ _ _ _ _ _ _=>cZ λ_=>rfl⟩,⟨⟨?_,λ_ _ _ _ _ _ _=>bJ λ_ _=>rfl⟩,⟨⟨?_,λ_ _ _ _ _ _ _=>cZ λ_=>rfl⟩,⟨⟨?_,λ_ _ _ _ _ _ _=>cZ λ_=>rfl⟩,⟨⟨?_,λ_ _ _ _ _ _ _=>bJ λ_ _=>rfl⟩,⟨⟨?_,λ_ _ _ _ _ _ _=>cj λ_ _ _=>rfl⟩,⟨⟨?_,λ_ _ _ _ _ _ _=>cj λ_ _ _=>rfl⟩,⟨⟨?_,λ_ _ _ _ _ _ _=>cj λ_ _ _=>rfl⟩,⟨⟨?_,λ_ _ _ _ _ _ _=>cZ λ_=>rfl⟩,⟨⟨?_,λ_ _ _ _ _ _ _=>bJ λ_ _=>rfl⟩,⟨⟨?_,λ_ _ _ _ _ _ _=>cj λ_ _ _=>rfl⟩,⟨⟨?_,λ_ _ _ _ _ _ _=>cj λ_ _ _=>rfl⟩,⟨⟨?_,λ_ _ _ _ _ _ _=>cj λ_ _ _=>rfl⟩,⟨⟨?_,λ_ _ _ _ _ _ _=>cj λ_ _ _=>rfl⟩,⟨⟨?_,λ_ _ _ _ _ _ _=>cj λ_ _ _=>rfl⟩,⟨⟨?_,λ_ _ _ _ _ _ _=>cj λ_ _ _=>rfl⟩,⟨⟨?_,λ_ _ _ _ _ _ _=>bJ λ_ _=>rfl⟩,⟨⟨?_,λ_ _ _ _ _ _ _=>bJ λ_ _=>rfl⟩,⟨⟨?_,λ_ _ _ _ _ _ _=>bJ λ_ _=>rfl⟩,⟨⟨?_,λ_ _ _ _ _ _ _=>bJ λ_ _=>rfl⟩,⟨⟨?_,λ_ _ _ _ _ _ _=>bJ λ_ _=>rfl⟩,⟨⟨?_,λ_ _ _ _ _ _ _=>bJ λ_ _=>rfl⟩,⟨⟨?_,λ_ _ _ _ _ _ _=>bJ λ_ _=>rfl⟩,⟨⟨?_,λ_ _ _ _ _ _ _=>bJ λ_ _=>rfl⟩,⟨⟨?_,λ_ _ _ _ _ _ _=>bJ λ_ _=>rfl⟩,⟨⟨?_,λ_ _ _ _ _ _ _=>bJ λ_ _=>rfl⟩,⟨⟨?_,λ_ _ _ _ _ _ _=>bJ λ_ _=>rfl⟩,⟨⟨?_,λ_ _ _ _ _ _ _=>mG λ_ _ _ _=>rfl⟩,⟨⟨?_,λ_ _ _ _ _ _ _=>cj λ_ _ _=>rfl⟩,⟨⟨?_,λ_ _ _ _ _ _ _=>cj λ_ _ _=>rfl⟩,⟨⟨?_,λ_ _ _ _ _ _ _=>bJ λ_ _=>rfl⟩,⟨⟨?_,λ_ _ _ _ _ _ _=>cZ λ_=>rfl⟩,⟨⟨?_,λ_ _ _ _ _ _ _=>cZ λ_=>rfl⟩,⟨⟨?_,λ_ _ _ _ _ _ _=>cj λ_ _ _=>rfl⟩,⟨⟨?_,λ_ _ _ _ _ _ _=>cj λ_ _ _=>rfl⟩,⟨⟨?_,λ_ _ _ _ _ _ _=>cj λ_ _ _=>rfl⟩,⟨⟨?_,λ_ _ _ _ _ _ _=>cj λ_ _ _=>rfl⟩,⟨⟨?_,λ_ _ _ _ _ _ _=>bJ λ_ _=>rfl⟩,⟨⟨?_,λ_ _ _ _ _ _ _=>bJ λ_ _=>rfl⟩,⟨⟨?_,λ_ _ _ _ _ _ _=>cZ λ_=>rfl⟩,⟨⟨?_,λ_ _ _ _ _ _ _=>bJ λ_ _=>rfl⟩,⟨⟨?_,λ_ _ _ _ _ _ _=>cZ λ_=>rfl⟩,⟨⟨?_,λ_ _ _ _ _ _ _=>cZ λ_=>rfl⟩,⟨⟨?_,λ_ _ _ _ _ _ _=>cj λ_ _ _=>rfl⟩,⟨⟨?_,λ_ _ _ _ _ _ _=>De rfl⟩,⟨⟨?_,λ_ _ _ _ _ _ _=>cZ λ_=>rfl⟩,⟨⟨?_,λ_ _ _ _ _ _ _=>bJ λ_ _=>rfl⟩,⟨⟨?_,λ_ _ _ _ _ _ _=>mG λ_ _ _ _=>rfl⟩,⟨⟨?_,λ_ _ _ _ _ _ _=>cj λ_ _ _=>rfl⟩,⟨⟨?_,λ_ _ _ _ _ _ _=>cj λ_ _ _=>rfl⟩,⟨⟨?_,λ_ _ _ _ _ _ _=>mG λ_ _ _ _=>rfl⟩,⟨⟨?_,λ_ _ _ _ _ _ _=>mG λ_ _ _ _=>rfl⟩,⟨⟨?_,λ_ _ _ _ _ _ _=>cZ λ_=>rfl⟩,⟨⟨?_,λ_ _ _ _ _ _ _=>bJ λ_ _=>rfl⟩,⟨⟨?_,λ_ _ _ _ _ _ _=>cZ λ_=>rfl⟩,⟨⟨?_,λ_ _ _ _ _ _ _=>bJ λ_ _=>rfl⟩,⟨⟨?_,λ_ _ _ _ _ _ _=>bJ λ_ _=>rfl⟩,⟨⟨?_,λ_ _ _ _ _ _ _=>cZ λ_=>rfl⟩,trivial⟩⟩⟩⟩⟩⟩⟩⟩⟩⟩⟩⟩⟩⟩⟩⟩⟩⟩⟩⟩⟩⟩⟩⟩⟩⟩⟩⟩⟩⟩⟩⟩⟩⟩⟩⟩⟩⟩⟩⟩⟩⟩⟩⟩⟩⟩⟩⟩⟩⟩⟩⟩⟩⟩⟩⟩⟩⟩
  all_goals (refine' Ti ?a ?l ?c ?k;(case a=>k_is);(case l=>k_is);(case c=>k_is);(case k=>k_is))
 case s0=>refine' pS ?a ?l ?c;(case a=>k_is);(case l=>k_is);(case c=>kernel_rfl)
 case s1=>refine' pS ?a ?l ?c;(case a=>k_is);(case l=>k_is);(case c=>kernel_rfl)
 case s2=>refine' pS ?a ?l ?c;(case a=>k_is);(case l=>k_is);(case c=>kernel_rfl)
 case s3=>refine' pS ?a ?l ?c;(case a=>k_is);(case l=>k_is);(case c=>kernel_rfl)
 case s4=>refine' Df ?a ?l ?z ?c;(case a=>k_is);(case l=>k_is);(case z=>rfl);(case c=>repeat (first |exact .nil |(refine' .cons rfl rfl rfl ?k ?_;(case k=>k_is))))
 case s5=>refine' Df ?a ?l ?z ?c;(case a=>k_is);(case l=>k_is);(case z=>rfl);(case c=>repeat (first |exact .nil |(refine' .cons rfl rfl rfl ?k ?_;(case k=>k_is))))
 case bi=>kernel_rfl
 (case wa=>k_is);(case c1=>k_is);(case c2=>k_is);(case c3=>k_is);(case c4=>k_is);(case w1=>show PySem.W.findIn _ _ _=_;k_is);(case w2=>show PySem.W.findIn _ _ _=_;k_is);(case wm=>k_is);(case wk=>k_is)
 case m0=>refine' mI ?a ?l ?c ?k ?n (cZ λ_=>rfl);(case a=>k_is);(case l=>k_is);(case c=>k_is);(case k=>k_is);(case n=>k_is)
 case m1=>refine' mI ?a ?l ?c ?k ?n (mG λ_ _ _ _=>rfl);(case a=>k_is);(case l=>k_is);(case c=>k_is);(case k=>k_is);(case n=>k_is)
 case m2=>refine' mI ?a ?l ?c ?k ?n (bJ λ_ _=>rfl);(case a=>k_is);(case l=>k_is);(case c=>k_is);(case k=>k_is);(case n=>k_is)
 case m3=>refine' mI ?a ?l ?c ?k ?n (bJ λ_ _=>rfl);(case a=>k_is);(case l=>k_is);(case c=>k_is);(case k=>k_is);(case n=>k_is)
 case m4=>refine' mI ?a ?l ?c ?k ?n (cZ λ_=>rfl);(case a=>k_is);(case l=>k_is);(case c=>k_is);(case k=>k_is);(case n=>k_is)
 case la=>refine' Dm ?a ?l ?c ?k ?h;(case a=>k_is);(case l=>k_is);(case c=>k_is);(case k=>k_is);(case h=>kernel_rfl)
 case lb=>refine' Dm ?a ?l ?c ?k ?h;(case a=>k_is);(case l=>k_is);(case c=>k_is);(case k=>k_is);(case h=>kernel_rfl)
 case TQ=>refine' Dn ?l ?m ?k ?i;(case l=>k_is);(case m=>k_is);(case k=>kernel_rfl);(case i=>kernel_rfl)
 case TR=>refine' Dn ?l ?m ?k ?i;(case l=>k_is);(case m=>k_is);(case k=>kernel_rfl);(case i=>kernel_rfl)
 (case e0=>k_is);(case e1=>k_is);(case e2=>k_is);(case e3=>k_is);(case e4=>k_is);(case e5=>k_is);(case e6=>kernel_rfl);(case V'=>kernel_rfl)
 (case i0=>kernel_rfl);(case i1=>kernel_rfl);(case i2=>kernel_rfl);(case i3=>kernel_rfl);(case i4=>kernel_rfl);(case i5=>kernel_rfl)
 (case U0=>kernel_rfl);(case j1=>kernel_rfl);(case j2=>kernel_rfl);(case V6=>kernel_rfl);(case XF=>kernel_rfl);(case V7=>kernel_rfl)
 case bt=>refine' ⟨4,{ cls:=PySem.Value.type "module",data:=PySem.Data.plain,dict:=some 0 },?a,?l,?h1,?h2,?h3,?h3',?h4,?h5,?h6⟩;(case a=>kernel_rfl);(case l=>kernel_rfl);(case h1=>decide);(case h2=>decide);(case h3=>decide);(case h3'=>decide);(case h4=>rfl);(case h5=>rfl);(case h6=>rfl)
end K28
open PySem PySem.W PyProof.Rows
set_option maxRecDepth 100000 in
set_option maxHeartbeats 0 in
theorem PySem.Challenge.cw_keptnest_k28_no_difference_holds : PySem.Challenge.rw_keptnest_k28_no_difference.Holds := by
 w_on
 refine PySem.W.holds_law K28.zS fun said=>?_
 refine PySem.W.holds_open (q:=K28.zV) (loose:=K28.zL) (Xt:=fun s=>PySem.W.xlAt K28.zV [] s && PySem.W.recOk (PySem.W.RowW.records (PySem.W.OpenRow.toRowW PySem.Challenge.rw_keptnest_k28_no_difference.row)) s) (XP:=PySem.W.XL K28.zV []) (Yf:=PySem.W.Hook.obs (PySem.W.kmHook K28.zK K28.zA K28.zE K28.zTs)) (Ya:=PySem.W.Hook.val (PySem.W.kmHook K28.zK K28.zA K28.zE K28.zTs)) (YP:=PySem.W.Hook.says (PySem.W.kmHook K28.zK K28.zA K28.zE K28.zTs)) (N:=8390) (Hq.left_two "special-get-raises" K28.zR_false K28.zR_true) (PySem.W.Hook.of _) (PySem.W.Hook.keeps _) (fun s e=>PySem.W.xl_of s (Bool.and_eq_true_iff.mp e).1) PySem.W.XL.keeps (by rfl) (by rfl) (by rfl) (fun s e=>PySem.W.recFacts_of (Bool.and_eq_true_iff.mp e).2) (by rfl) (by first | assumption | decide +kernel) (by decide +kernel) ⟨rfl,rfl,rfl,rfl,rfl,by decide +kernel⟩ ?hw ?hc
 case hw=>w_witness2
 k_fill
 refine N.walk_of (l:=PySem.Challenge.rw_keptnest_k28_no_difference) (K:=K28.zK) (ts:=K28.tbs2) (x:="script") (k:=100) (sp:=fun _=>K28.spLaw) (n:=63) rfl (by decide) rfl K28.room_law (fun w h Y=>⟨PySem.W.km_in_of Y,fun T hT=>?Tb⟩) ?KT ?F (fun w ns hl=>⟨ns,rfl,hl,fun _=>rfl⟩)
 case Tb=>
  have:T∈K28.zTs:=by simpa [K28.tbs2,K28.zTs] using hT
  exact PySem.W.km_tabs_of Y T this
 case KT=>
  intro w T hT
  have:T=199\/T=399:=by simpa [K28.tbs2] using hT
  rcases this with rfl | rfl
  ·exact⟨by kernel_rfl,203,by kernel_rfl⟩
  ·exact⟨by kernel_rfl,403,by kernel_rfl⟩
 case F=>
  intro w mg fa h KX G hmg
  exact K28.law_ok KX G hmg (K28.zF w)
#print axioms PySem.Challenge.cw_keptnest_k28_no_difference_holds
end
