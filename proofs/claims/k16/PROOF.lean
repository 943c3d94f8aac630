import PyProof.Rows.All
import Wide.All
import OpenK.AllK
import Wide.FinOn
import PySem.Challenge.RW_keptnest_k16_kinds_told
import Lean
import PyProof.EqAt
import PyProof.EqKinds
import PyProof.TupleCall
import PyProof.DictWalks
import PyProof.DictKeyH
import PySem.Str
import PyProof.NeKinds
import KE.KRevSl
import KE.KDictSum
import PyProof.Rows.SortStr
import PyProof.IsiPairs
import PyProof.IsiHeapPairs
import PyProof.ZipIter
import KE.KSortAsk
import KE.KSortTup
import PyProof.EnumFor
import PyProof.EnumMake
import PyProof.StrWalks
import PyProof.Rows.EnumRows
import PyProof.Rows.FStr
import PyProof.Rows.SetFrom
import PyProof.CallStr
import PyProof.FitsBits
import KE.KUnpack
import KE.KTupSum
import KE.KDictOf
import PyProof.ConsumeS
import KE.KRevIter
import KE.KEqDict
import PyProof.AttrMissHeap
import KE.KItemsList
import KE.KPairComp
import PyProof.Draws
import PyProof.ListRange
import KE.KNestM
import KE.KLam
import KE.KIntText
import PyProof.FString5
import PyProof.StrBlock
import PyProof.Rows.StrNews2
import PyProof.SeqI3
import PyProof.RulesTry
import KE.KNest
set_option Elab.async false
set_option linter.all false
set_option maxRecDepth 100000
set_option maxHeartbeats 4000000
open PySem renaming wpAny_bind->aaC,wpAny_pure->aaE,wpAny_newObj_type->aa6,wpAny_callSpecial?_slot->aa8,wpAny_call_entry->abg,wpAny_field->abn,wpAny_holding->abr,wpAny_Call_Name_kw->abF,codeAny_builtin->abH,wpAny_setState_of->abJ,plainId_quiet->abK,wpAny_pyIter_tuple->abQ,wpAny_seqItems->abW,wpAny_ite_split->abZ,builtinLookup_eq_fast->ab4,wpAny_truthy_bool->ab8,wpAny_isInstance->acd,wpAny_setField_rec->ach,wpAny_passesOwn->acm,call_meets->acq
open PySem.Heap renaming get?_push_of_some->aaD,get?_push_size->aaG,lt_size->aaJ,get?_update_self->aa7,size_push->aba,SameBut->ab2,size_update->ab9,get?_update_other->aca
open List renaming size_toArray->aaF,getElem?_eq_getElem->aaI,mem_cons_of_mem->aaK,length_map->aaN,mem_cons_self->aaO,map_cons->aaR,length_cons->aaS,getElem?_map->aaU,mem_cons->aa0,not_mem_nil->aa2,mem_append_right->aa3,append_nil->aa4,replicate->aa5,lookup_cons->abb,getElem?_append_right->abc,length_append->abk,map_append->abo,getElem?_eq_none->abp,getElem?_append_left->abt,find?_cons->aby,append_assoc->abD,mem_of_getElem?->abE,lookup->abG,getD_eq_getElem?_getD->abM,any_cons->abR,replicate_succ->abU,length_nil->abV,length_replicate->ab1,reverse_cons->ab5,range->ab6,getElem?_replicate->ab7,zipWith->acf,flatten_cons->aci,drop_eq_getElem_cons->aco,getElem_mem->acr,length_reverse->acx
open Nat renaming le_refl->aaH,ne_of_lt->aaL,lt_of_lt_of_le->aaM,lt_of_le_of_lt->aaP,le_trans->aaZ,lt_succ_of_lt->aa',ne_of_gt->abh,lt_trans->abi,zero_le->abA,lt_irrefl->abT,lt_succ_self->ab0,le_add_right->acw
open Bool renaming false_ne_true->aaQ,and_eq_true->aaW,true->aaY,eq_iff_iff->abd
open Array renaming length_toList->aaT,getElem?_eq_getElem->abf,getElem?_toList->abP,getD_eq_getD_getElem?->ace
open True renaming intro->aaV
open PySem.Value renaming ref->aaX,none->abB,type->acg
open PySem.AutoSeq1 renaming wpAny_loadPart'->aa1
open PySem.Builtin.SmallTypes renaming nextOf->aa9,ownedTupleIsFree->abO
open Option.some renaming inj->abe
open PySem.Heap.SameBut renaming update->abj
open PySem.Obj renaming mapSeq->abl,mapFields->abS
open PySem.Around renaming under_plainId->abm
open PySem.Builtin.Tuple renaming tupleExact->abq
open PyProof.Rows renaming callWith_type1->abu,slot_tuple_getitem->abw
open Int renaming lt_of_le_of_lt->abv,emod_lt_of_pos->acb,toNat_natCast->ack
open Ne renaming symm->abx
open PySem.Str renaming ofString->abz
open PySem.Builtin.Slice renaming slicePlaces->abC,sliceApplied->ab'
open Option renaming some->abI
open Sum renaming inr->abL
open PySem.Builtin.List renaming listTooLong->abN
open PySem.NameKind renaming free->abX
open False renaming elim->abY
open PySem.F renaming slot_enumerate_next->ab3,slot_tuple_iterator_next->acp
open PySem.SeqAt.RcAt renaming lists_lengths->acj
open PySem.Builtin.Str renaming occurrences->acn
open List.cons renaming injEq->acs
open ForInStep renaming yield->acu
open Classical renaming propDecidable->acv
section
namespace Hq
open PySem PySem.W
def vS (s:PySem.Str) (n:Tok):Value:=.str s n
def vI (i:Int) (n:Tok):Value:=.int i n
def vR (a:Addr):Value:=.ref a
def vN:Value:=.none
def sO (s:String):PySem.Str:=PySem.Str.ofString s
def eN (P:Params) (k:PySem.Str) (n:Tok) (v:Value):DictEntry:=⟨PyData.keyHash P k,.str k n,v⟩
def Zh (s:Stmt):Arguments:=match s with
 |.FunctionDef _ a _ _ _ _ _ _ _ _=>a
 |_=>{ posonlyargs:=[],args:=[],vararg:=none,kwonlyargs:=[],kw_defaults:=[],kwarg:=none,defaults:=[] }
def Zi (s:Stmt):List Stmt:=match s with
 |.FunctionDef _ _ b _ _ _ _ _ _ _=>b
 |_=>[]
def Zj (s:Stmt):Scope:=match s with
 |.FunctionDef _ _ _ _ _ _ sc _ _ _=>sc
 |_=>{ kind:=.function,names:=[],isGenerator:=false,isCoroutine:=false }
def XR (s:Stmt):List Stmt:=match s with
 |.ClassDef _ _ _ b _ _ _ _ _ _ _=>b
 |_=>[]
def fO (nm qual:PySem.Str) (st:Stmt) (m cd:Value):Obj:={ cls:=.type "function",data:=.func (PySem.W.fnOf nm qual (Zh st) (Zi st) (Zj st) .none .none .none m none cd .none) }
def mK (p q:Program) (loose:List PySem.Str) (Xt:Shared->Bool) {α:Type} (Yf:Shared->α) (Ya:World->α) (N:Nat) (row:String) (b:Bool):Prop:=
 ∀w:World,(fencedOpening treeTable p w N).map (λs₀=>(topFrom treeTable p (w.withFollow row b) N s₀).map λs=>(openSeen q loose (importedModules p.main.body) Xt true s,Yf s))=some (some (openGood q loose,Ya (w.withFollow row b)))
theorem left_two {p q:Program}{loose:List PySem.Str}{Xt:Shared->Bool} {α:Type} {Yf:Shared->α}{Ya:World->α}{N:Nat} (row:String) (h0:mK p q loose Xt Yf Ya N row false) (h1:mK p q loose Xt Yf Ya N row true):LeftO p q loose Xt Yf Ya N:=λw=>by
 obtain⟨s₀,a,b1⟩:=Option.map_eq_some_iff.mp (h0 w);obtain⟨s₁,XS,b2⟩:=Option.map_eq_some_iff.mp (h1 w);rw[a]at XS;cases XS;have e:=World.withFollow_self w row;unfold openEnds;rw[a];cases hb:w.params.followText row <;> rw[hb]at e
 ·rw[e]at b1;exact b1
 ·rw[e]at b2;exact b2
end Hq
end
section
set_option maxHeartbeats 0
namespace Q16
open PySem Hq
def zT (i:Nat):Stmt:=PySem.Challenge.pw_keptnest_k16_kinds_told.main.body.getD i (.Pass ⟨0,0,0,0⟩)
def zM (i j:Nat):Stmt:=(XR (zT i)).getD j (.Pass ⟨0,0,0,0⟩)
def ko (P:Params):PySem.W.Frag:=(nat_lit 47,{ cls:=PySem.Value.type "tuple",data:=PySem.Data.seq #[vS "num" 234,vS "word" 235,vS "var" 236,vS "table" 237,vS "none" 238,vS "at" 239,vS "times" 240,vS "for" 241,vS "let" 242] }) ::
 (nat_lit 124,{ cls:=PySem.Value.type "tuple",data:=PySem.Data.seq #[vS "num" 349] }) ::
 (nat_lit 125,{ cls:=PySem.Value.type "tuple",data:=PySem.Data.seq #[vS "word" 351] }) ::
 (nat_lit 126,{ cls:=PySem.Value.type "tuple",data:=PySem.Data.seq #[vS "truth" 353] })::[]
def zK1 (P:Params):PySem.W.Frag:=(nat_lit 3,{ cls:=PySem.Value.type "dict",data:=PySem.Data.dict #[eN P "__name__" 165 (vS "law_keptnest_k16_kinds_told" 534),eN P "__doc__" 166 (vN),eN P "__package__" 167 (vN),eN P "__loader__" 168 (PySem.Value.builtin "__main__.__loader__#opaque"),eN P "__spec__" 169 (vN),eN P "__annotations__" 170 (vR 6),eN P "__builtins__" 171 (vR 4),eN P "__file__" 173 (vS "/claim/cut.py" 172),eN P "__cached__" 174 (vN),eN P "NestError" 206 (vR 24),eN P "NoKind" 231 (vR 44),eN P "HAVE_MORE" 243 (vR 47),eN P "under" 249 (vR 52),eN P "Walk" 314 (vR 95),eN P "bound" 324 (vR 106),eN P "fields_of" 332 (vR 111),eN P "alike" 340 (vR 118),eN P "fits" 346 (vR 123),eN P "NUMBER" 350 (vR 124),eN P "WORD" 352 (vR 125),eN P "TRUTH" 354 (vR 126),eN P "kind_of" 364 (vR 133),eN P "begin" 378 (vR 140),eN P "found_kind" 387 (vR 147),eN P "bind" 400 (vR 154),eN P "finish" 412 (vR 161),eN P "plain_kind" 420 (vR 168),eN P "row_kind" 426 (vR 173),eN P "part_kind" 434 (vR 180),eN P "number_kind" 442 (vR 187),eN P "none_kind" 450 (vR 194),eN P "one_kind" 458 (vR 201),eN P "both_kind" 466 (vR 208),eN P "last_bag_kind" 474 (vR 215),eN P "same_kind" 482 (vR 222),eN P "under_kind" 490 (vR 229),eN P "truth_kind" 498 (vR 236),eN P "FINISHED" 533 (vR 237),eN P "_law_hand" 542 (vR 244),eN P "_law_draw" 554 (vR 251),eN P "_law_name" 565 (vR 258),eN P "_law_number" 572 (vR 265),eN P "_law_fields" 578 (vR 270),eN P "_law_kind" 584 (vR 275),eN P "_law_dict" 594 (vR 282),eN P "_law_with_wide" 600 (vR 287),eN P "_law_claim" 612 (vR 294),eN P "_law_bound" 618 (vR 299),eN P "_law_field" 624 (vR 304),eN P "_law_bag" 630 (vR 309),eN P "_law_asked" 636 (vR 314),eN P "_law_setting" 646 (vR 321),eN P "_law_same" 652 (vR 326),eN P "_law_right" 664 (vR 333),eN P "law" 678 (vR 340)] 55 }) ::
 (nat_lit 4,{ cls:=PySem.Value.type "module",data:=PySem.Data.plain,dict:=some 0 }) ::
 (nat_lit 23,{ cls:=PySem.Value.type "dict",data:=PySem.Data.dict #[eN P "__module__" 196 (vS "keptnest.errors" 187),eN P "__firstlineno__" 200 (vI 2 199),eN P "__static_attributes__" 201 (vR 22),eN P "__weakref__" 203 (vR 25),eN P "__doc__" 204 (vN)] 3 }) ::
 (nat_lit 24,{ cls:=PySem.Value.type "type",data:=PySem.Data.cls { name:=sO "NestError",bases:=[PySem.Value.type "ValueError"],mro:=[vR 24,PySem.Value.type "ValueError",PySem.Value.type "Exception",PySem.Value.type "BaseException",PySem.Value.type "object"],ns:=23,qualname:=sO "NestError",subclasses:=[vR 44] },slots:=#[abI (vR 15),Option.none,abI (vS "NestError" 189),abI (vS "NestError" 197),abI (PySem.Value.builtin "ValueError.__new__"),abI (PySem.Value.bool aaY)] }) ::
 (nat_lit 43,{ cls:=PySem.Value.type "dict",data:=PySem.Data.dict #[eN P "__module__" 214 (vS "keptnest.errors" 187),eN P "__firstlineno__" 218 (vI 4 217),eN P "__init__" 226 (vR 41),eN P "__static_attributes__" 228 (vR 42),eN P "__doc__" 229 (vN)] 2 }) ::
 (nat_lit 44,{ cls:=PySem.Value.type "type",data:=PySem.Data.cls { name:=sO "NoKind",bases:=[vR 24],mro:=[vR 44,vR 24,PySem.Value.type "ValueError",PySem.Value.type "Exception",PySem.Value.type "BaseException",PySem.Value.type "object"],ns:=43,qualname:=sO "NoKind" },slots:=#[abI (vR 28),Option.none,abI (vS "NoKind" 207),abI (vS "NoKind" 215),abI (PySem.Value.builtin "ValueError.__new__"),abI (PySem.Value.bool aaY)] }) ::
 (nat_lit 51,{ cls:=PySem.Value.type "code",data:=PySem.Data.fields #[vS "under" 244,vS "under" 245,vS "/claim/cut.py" 246,vI 11 0,vI 1 0,vI 0 0,vI 0 0,vI 3 0,vR 48,PySem.Value.bool aaY,vI 181 0,vR 49,vN,vN,vN,vR 50,vI 247 0,vI 11 0,vS "/claim/cut.py" 248] }) ::
 (nat_lit 52,fO "under" "under" (zT 5) (vS "keptnest.asks.questions" 232) (vR 51)) ::
 (nat_lit 65,{ cls:=PySem.Value.type "code",data:=PySem.Data.fields #[vS "__init__" 264,vS "Walk.__init__" 265,vS "/claim/cut.py" 266,vI 18 0,vI 1 0,vI 0 0,vI 0 0,vI 3 0,vR 60,PySem.Value.bool aaY,vI 181 0,vR 61,vN,vR 62,vR 63,vR 64,vI 268 0,vI 18 0,vS "/claim/cut.py" 269] }) ::
 (nat_lit 66,fO "__init__" "Walk.__init__" (zM 7 0) (vS "keptnest.asks.walks" 250) (vR 65)) ::
 (nat_lit 72,{ cls:=PySem.Value.type "code",data:=PySem.Data.fields #[vS "later" 271,vS "Walk.later" 272,vS "/claim/cut.py" 273,vI 22 0,vI 4 0,vI 0 0,vI 0 0,vI 3 0,vR 67,PySem.Value.bool aaY,vI 181 0,vR 68,vN,vR 69,vR 70,vR 71,vI 278 0,vI 22 0,vS "/claim/cut.py" 279] }) ::
 (nat_lit 73,fO "later" "Walk.later" (zM 7 1) (vS "keptnest.asks.walks" 250) (vR 72)) ::
 (nat_lit 79,{ cls:=PySem.Value.type "code",data:=PySem.Data.fields #[vS "tell" 281,vS "Walk.tell" 282,vS "/claim/cut.py" 283,vI 25 0,vI 2 0,vI 0 0,vI 0 0,vI 3 0,vR 74,PySem.Value.bool aaY,vI 181 0,vR 75,vN,vR 76,vR 77,vR 78,vI 286 0,vI 25 0,vS "/claim/cut.py" 287] }) ::
 (nat_lit 80,fO "tell" "Walk.tell" (zM 7 2) (vS "keptnest.asks.walks" 250) (vR 79)) ::
 (nat_lit 84,{ cls:=PySem.Value.type "code",data:=PySem.Data.fields #[vS "take" 289,vS "Walk.take" 290,vS "/claim/cut.py" 291,vI 28 0,vI 2 0,vI 0 0,vI 0 0,vI 3 0,vR 81,PySem.Value.bool aaY,vI 181 0,vR 82,vN,vN,vN,vR 83,vI 292 0,vI 28 0,vS "/claim/cut.py" 293] }) ::
 (nat_lit 85,fO "take" "Walk.take" (zM 7 3) (vS "keptnest.asks.walks" 250) (vR 84)) ::
 (nat_lit 91,{ cls:=PySem.Value.type "code",data:=PySem.Data.fields #[vS "run" 295,vS "Walk.run" 296,vS "/claim/cut.py" 297,vI 32 0,vI 1 0,vI 0 0,vI 0 0,vI 3 0,vR 86,PySem.Value.bool aaY,vI 181 0,vR 87,vN,vR 88,vR 89,vR 90,vI 302 0,vI 32 0,vS "/claim/cut.py" 303] }) ::
 (nat_lit 92,fO "run" "Walk.run" (zM 7 4) (vS "keptnest.asks.walks" 250) (vR 91)) ::
 (nat_lit 94,{ cls:=PySem.Value.type "dict",data:=PySem.Data.dict #[eN P "__module__" 259 (vS "keptnest.asks.walks" 250),eN P "__firstlineno__" 263 (vI 16 262),eN P "__init__" 270 (vR 66),eN P "later" 280 (vR 73),eN P "tell" 288 (vR 80),eN P "take" 294 (vR 85),eN P "run" 304 (vR 92),eN P "__static_attributes__" 307 (vR 93),eN P "__dict__" 309 (vR 96),eN P "__weakref__" 311 (vR 97),eN P "__doc__" 312 (vN)] 4 }) ::
 (nat_lit 95,{ cls:=PySem.Value.type "type",data:=PySem.Data.cls { name:=sO "Walk",bases:=[PySem.Value.type "object"],mro:=[vR 95,PySem.Value.type "object"],ns:=94,qualname:=sO "Walk" },slots:=#[Option.none,Option.none,abI (vS "Walk" 252),abI (vS "Walk" 260),abI (PySem.Value.builtin "object.__new__"),abI (PySem.Value.bool aaY)] }) ::
 (nat_lit 105,{ cls:=PySem.Value.type "code",data:=PySem.Data.fields #[vS "bound" 315,vS "bound" 316,vS "/claim/cut.py" 317,vI 37 0,vI 3 0,vI 0 0,vI 0 0,vI 3 0,vR 100,PySem.Value.bool aaY,vI 181 0,vR 101,vN,vR 102,vR 103,vR 104,vI 322 0,vI 37 0,vS "/claim/cut.py" 323] }) ::
 (nat_lit 106,fO "bound" "bound" (zT 8) (vS "keptnest.asks.walks" 250) (vR 105)) ::
 (nat_lit 110,{ cls:=PySem.Value.type "code",data:=PySem.Data.fields #[vS "fields_of" 327,vS "fields_of" 328,vS "/claim/cut.py" 329,vI 42 0,vI 1 0,vI 0 0,vI 0 0,vI 3 0,vR 107,PySem.Value.bool aaY,vI 181 0,vR 108,vN,vN,vN,vR 109,vI 330 0,vI 42 0,vS "/claim/cut.py" 331] }) ::
 (nat_lit 111,fO "fields_of" "fields_of" (zT 10) (vS "keptnest.data.kinds" 325) (vR 110)) ::
 (nat_lit 117,{ cls:=PySem.Value.type "code",data:=PySem.Data.fields #[vS "alike" 333,vS "alike" 334,vS "/claim/cut.py" 335,vI 44 0,vI 2 0,vI 0 0,vI 0 0,vI 3 0,vR 112,PySem.Value.bool aaY,vI 181 0,vR 113,vN,vR 114,vR 115,vR 116,vI 338 0,vI 44 0,vS "/claim/cut.py" 339] }) ::
 (nat_lit 118,fO "alike" "alike" (zT 11) (vS "keptnest.data.kinds" 325) (vR 117)) ::
 (nat_lit 122,{ cls:=PySem.Value.type "code",data:=PySem.Data.fields #[vS "fits" 341,vS "fits" 342,vS "/claim/cut.py" 343,vI 46 0,vI 3 0,vI 0 0,vI 0 0,vI 3 0,vR 119,PySem.Value.bool aaY,vI 181 0,vR 120,vN,vN,vN,vR 121,vI 344 0,vI 46 0,vS "/claim/cut.py" 345] }) ::
 (nat_lit 123,fO "fits" "fits" (zT 12) (vS "keptnest.data.kinds" 325) (vR 122)) ::
 (nat_lit 132,{ cls:=PySem.Value.type "code",data:=PySem.Data.fields #[vS "kind_of" 355,vS "kind_of" 356,vS "/claim/cut.py" 357,vI 63 0,vI 3 0,vI 0 0,vI 0 0,vI 3 0,vR 127,PySem.Value.bool aaY,vI 181 0,vR 128,vN,vR 129,vR 130,vR 131,vI 362 0,vI 63 0,vS "/claim/cut.py" 363] }) ::
 (nat_lit 133,fO "kind_of" "kind_of" (zT 17) (vS "keptnest.asks.kinds" 347) (vR 132)) ::
 (nat_lit 139,{ cls:=PySem.Value.type "code",data:=PySem.Data.fields #[vS "begin" 365,vS "begin" 366,vS "/claim/cut.py" 367,vI 67 0,vI 3 0,vI 0 0,vI 0 0,vI 3 0,vR 134,PySem.Value.bool aaY,vI 181 0,vR 135,vN,vR 136,vR 137,vR 138,vI 376 0,vI 67 0,vS "/claim/cut.py" 377] }) ::
 (nat_lit 140,fO "begin" "begin" (zT 18) (vS "keptnest.asks.kinds" 347) (vR 139)) ::
 (nat_lit 146,{ cls:=PySem.Value.type "code",data:=PySem.Data.fields #[vS "found_kind" 379,vS "found_kind" 380,vS "/claim/cut.py" 381,vI 80 0,vI 3 0,vI 0 0,vI 0 0,vI 3 0,vR 141,PySem.Value.bool aaY,vI 181 0,vR 142,vN,vR 143,vR 144,vR 145,vI 385 0,vI 80 0,vS "/claim/cut.py" 386] }) ::
 (nat_lit 147,fO "found_kind" "found_kind" (zT 19) (vS "keptnest.asks.kinds" 347) (vR 146)) ::
 (nat_lit 153,{ cls:=PySem.Value.type "code",data:=PySem.Data.fields #[vS "bind" 388,vS "bind" 389,vS "/claim/cut.py" 390,vI 84 0,vI 3 0,vI 0 0,vI 0 0,vI 3 0,vR 148,PySem.Value.bool aaY,vI 181 0,vR 149,vN,vR 150,vR 151,vR 152,vI 398 0,vI 84 0,vS "/claim/cut.py" 399] }) ::
 (nat_lit 154,fO "bind" "bind" (zT 20) (vS "keptnest.asks.kinds" 347) (vR 153)) ::
 (nat_lit 160,{ cls:=PySem.Value.type "code",data:=PySem.Data.fields #[vS "finish" 401,vS "finish" 402,vS "/claim/cut.py" 403,vI 93 0,vI 3 0,vI 0 0,vI 0 0,vI 3 0,vR 155,PySem.Value.bool aaY,vI 181 0,vR 156,vN,vR 157,vR 158,vR 159,vI 410 0,vI 93 0,vS "/claim/cut.py" 411] }) ::
 (nat_lit 161,fO "finish" "finish" (zT 21) (vS "keptnest.asks.kinds" 347) (vR 160)) ::
 (nat_lit 167,{ cls:=PySem.Value.type "code",data:=PySem.Data.fields #[vS "plain_kind" 413,vS "plain_kind" 414,vS "/claim/cut.py" 415,vI 100 0,vI 2 0,vI 0 0,vI 0 0,vI 3 0,vR 162,PySem.Value.bool aaY,vI 181 0,vR 163,vN,vR 164,vR 165,vR 166,vI 418 0,vI 100 0,vS "/claim/cut.py" 419] }) ::
 (nat_lit 168,fO "plain_kind" "plain_kind" (zT 22) (vS "keptnest.asks.kinds" 347) (vR 167)) ::
 (nat_lit 172,{ cls:=PySem.Value.type "code",data:=PySem.Data.fields #[vS "row_kind" 421,vS "row_kind" 422,vS "/claim/cut.py" 423,vI 102 0,vI 2 0,vI 0 0,vI 0 0,vI 3 0,vR 169,PySem.Value.bool aaY,vI 181 0,vR 170,vN,vN,vN,vR 171,vI 424 0,vI 102 0,vS "/claim/cut.py" 425] }) ::
 (nat_lit 173,fO "row_kind" "row_kind" (zT 23) (vS "keptnest.asks.kinds" 347) (vR 172)) ::
 (nat_lit 179,{ cls:=PySem.Value.type "code",data:=PySem.Data.fields #[vS "part_kind" 427,vS "part_kind" 428,vS "/claim/cut.py" 429,vI 104 0,vI 2 0,vI 0 0,vI 0 0,vI 3 0,vR 174,PySem.Value.bool aaY,vI 181 0,vR 175,vN,vR 176,vR 177,vR 178,vI 432 0,vI 104 0,vS "/claim/cut.py" 433] }) ::
 (nat_lit 180,fO "part_kind" "part_kind" (zT 24) (vS "keptnest.asks.kinds" 347) (vR 179)) ::
 (nat_lit 186,{ cls:=PySem.Value.type "code",data:=PySem.Data.fields #[vS "number_kind" 435,vS "number_kind" 436,vS "/claim/cut.py" 437,vI 108 0,vI 2 0,vI 0 0,vI 0 0,vI 3 0,vR 181,PySem.Value.bool aaY,vI 181 0,vR 182,vN,vR 183,vR 184,vR 185,vI 440 0,vI 108 0,vS "/claim/cut.py" 441] }) ::
 (nat_lit 187,fO "number_kind" "number_kind" (zT 25) (vS "keptnest.asks.kinds" 347) (vR 186)) ::
 (nat_lit 193,{ cls:=PySem.Value.type "code",data:=PySem.Data.fields #[vS "none_kind" 443,vS "none_kind" 444,vS "/claim/cut.py" 445,vI 110 0,vI 2 0,vI 0 0,vI 0 0,vI 3 0,vR 188,PySem.Value.bool aaY,vI 181 0,vR 189,vN,vR 190,vR 191,vR 192,vI 448 0,vI 110 0,vS "/claim/cut.py" 449] }) ::
 (nat_lit 194,fO "none_kind" "none_kind" (zT 26) (vS "keptnest.asks.kinds" 347) (vR 193)) ::
 (nat_lit 200,{ cls:=PySem.Value.type "code",data:=PySem.Data.fields #[vS "one_kind" 451,vS "one_kind" 452,vS "/claim/cut.py" 453,vI 112 0,vI 2 0,vI 0 0,vI 0 0,vI 3 0,vR 195,PySem.Value.bool aaY,vI 181 0,vR 196,vN,vR 197,vR 198,vR 199,vI 456 0,vI 112 0,vS "/claim/cut.py" 457] }) ::
 (nat_lit 201,fO "one_kind" "one_kind" (zT 27) (vS "keptnest.asks.kinds" 347) (vR 200)) ::
 (nat_lit 207,{ cls:=PySem.Value.type "code",data:=PySem.Data.fields #[vS "both_kind" 459,vS "both_kind" 460,vS "/claim/cut.py" 461,vI 114 0,vI 2 0,vI 0 0,vI 0 0,vI 3 0,vR 202,PySem.Value.bool aaY,vI 181 0,vR 203,vN,vR 204,vR 205,vR 206,vI 464 0,vI 114 0,vS "/claim/cut.py" 465] }) ::
 (nat_lit 208,fO "both_kind" "both_kind" (zT 28) (vS "keptnest.asks.kinds" 347) (vR 207)) ::
 (nat_lit 214,{ cls:=PySem.Value.type "code",data:=PySem.Data.fields #[vS "last_bag_kind" 467,vS "last_bag_kind" 468,vS "/claim/cut.py" 469,vI 116 0,vI 2 0,vI 0 0,vI 0 0,vI 3 0,vR 209,PySem.Value.bool aaY,vI 181 0,vR 210,vN,vR 211,vR 212,vR 213,vI 472 0,vI 116 0,vS "/claim/cut.py" 473] }) ::
 (nat_lit 215,fO "last_bag_kind" "last_bag_kind" (zT 29) (vS "keptnest.asks.kinds" 347) (vR 214)) ::
 (nat_lit 221,{ cls:=PySem.Value.type "code",data:=PySem.Data.fields #[vS "same_kind" 475,vS "same_kind" 476,vS "/claim/cut.py" 477,vI 118 0,vI 2 0,vI 0 0,vI 0 0,vI 3 0,vR 216,PySem.Value.bool aaY,vI 181 0,vR 217,vN,vR 218,vR 219,vR 220,vI 480 0,vI 118 0,vS "/claim/cut.py" 481] }) ::
 (nat_lit 222,fO "same_kind" "same_kind" (zT 30) (vS "keptnest.asks.kinds" 347) (vR 221)) ::
 (nat_lit 228,{ cls:=PySem.Value.type "code",data:=PySem.Data.fields #[vS "under_kind" 483,vS "under_kind" 484,vS "/claim/cut.py" 485,vI 120 0,vI 2 0,vI 0 0,vI 0 0,vI 3 0,vR 223,PySem.Value.bool aaY,vI 181 0,vR 224,vN,vR 225,vR 226,vR 227,vI 488 0,vI 120 0,vS "/claim/cut.py" 489] }) ::
 (nat_lit 229,fO "under_kind" "under_kind" (zT 31) (vS "keptnest.asks.kinds" 347) (vR 228)) ::
 (nat_lit 235,{ cls:=PySem.Value.type "code",data:=PySem.Data.fields #[vS "truth_kind" 491,vS "truth_kind" 492,vS "/claim/cut.py" 493,vI 122 0,vI 2 0,vI 0 0,vI 0 0,vI 3 0,vR 230,PySem.Value.bool aaY,vI 181 0,vR 231,vN,vR 232,vR 233,vR 234,vI 496 0,vI 122 0,vS "/claim/cut.py" 497] }) ::
 (nat_lit 236,fO "truth_kind" "truth_kind" (zT 32) (vS "keptnest.asks.kinds" 347) (vR 235)) ::
 (nat_lit 237,{ cls:=PySem.Value.type "dict",data:=PySem.Data.dict #[eN P "num" 499 (vR 168),eN P "word" 501 (vR 168),eN P "row" 503 (vR 173),eN P "at" 505 (vR 180),eN P "add" 507 (vR 187),eN P "mul" 509 (vR 187),eN P "none" 511 (vR 194),eN P "one" 513 (vR 201),eN P "both" 515 (vR 208),eN P "times" 517 (vR 215),eN P "for" 519 (vR 215),eN P "when" 521 (vR 215),eN P "same" 523 (vR 222),eN P "under" 525 (vR 229),eN P "and" 527 (vR 236),eN P "or" 529 (vR 236),eN P "not" 531 (vR 236)] 17 }) ::
 (nat_lit 243,{ cls:=PySem.Value.type "code",data:=PySem.Data.fields #[vS "_law_hand" 536,vS "_law_hand" 537,vS "/claim/cut.py" 538,vI 126 0,vI 1 0,vI 0 0,vI 0 0,vI 3 0,vR 238,PySem.Value.bool aaY,vI 181 0,vR 239,vN,vR 240,vR 241,vR 242,vI 540 0,vI 126 0,vS "/claim/cut.py" 541] }) ::
 (nat_lit 244,fO "_law_hand" "_law_hand" (zT 35) (vS "law_keptnest_k16_kinds_told" 534) (vR 243)) ::
 (nat_lit 250,{ cls:=PySem.Value.type "code",data:=PySem.Data.fields #[vS "_law_draw" 543,vS "_law_draw" 544,vS "/claim/cut.py" 545,vI 128 0,vI 2 0,vI 0 0,vI 0 0,vI 3 0,vR 245,PySem.Value.bool aaY,vI 181 0,vR 246,vN,vR 247,vR 248,vR 249,vI 552 0,vI 128 0,vS "/claim/cut.py" 553] }) ::
 (nat_lit 251,fO "_law_draw" "_law_draw" (zT 36) (vS "law_keptnest_k16_kinds_told" 534) (vR 250)) ::
 (nat_lit 257,{ cls:=PySem.Value.type "code",data:=PySem.Data.fields #[vS "_law_name" 555,vS "_law_name" 556,vS "/claim/cut.py" 557,vI 143 0,vI 1 0,vI 0 0,vI 0 0,vI 3 0,vR 252,PySem.Value.bool aaY,vI 181 0,vR 253,vN,vR 254,vR 255,vR 256,vI 563 0,vI 143 0,vS "/claim/cut.py" 564] }) ::
 (nat_lit 258,fO "_law_name" "_law_name" (zT 37) (vS "law_keptnest_k16_kinds_told" 534) (vR 257)) ::
 (nat_lit 264,{ cls:=PySem.Value.type "code",data:=PySem.Data.fields #[vS "_law_number" 566,vS "_law_number" 567,vS "/claim/cut.py" 568,vI 152 0,vI 1 0,vI 0 0,vI 0 0,vI 3 0,vR 259,PySem.Value.bool aaY,vI 181 0,vR 260,vN,vR 261,vR 262,vR 263,vI 570 0,vI 152 0,vS "/claim/cut.py" 571] }) ::
 (nat_lit 265,fO "_law_number" "_law_number" (zT 38) (vS "law_keptnest_k16_kinds_told" 534) (vR 264)) ::
 (nat_lit 269,{ cls:=PySem.Value.type "code",data:=PySem.Data.fields #[vS "_law_fields" 573,vS "_law_fields" 574,vS "/claim/cut.py" 575,vI 154 0,vI 2 0,vI 0 0,vI 0 0,vI 3 0,vR 266,PySem.Value.bool aaY,vI 181 0,vR 267,vN,vN,vN,vR 268,vI 576 0,vI 154 0,vS "/claim/cut.py" 577] }) ::
 (nat_lit 270,fO "_law_fields" "_law_fields" (zT 39) (vS "law_keptnest_k16_kinds_told" 534) (vR 269)) ::
 (nat_lit 274,{ cls:=PySem.Value.type "code",data:=PySem.Data.fields #[vS "_law_kind" 579,vS "_law_kind" 580,vS "/claim/cut.py" 581,vI 156 0,vI 2 0,vI 0 0,vI 0 0,vI 3 0,vR 271,PySem.Value.bool aaY,vI 181 0,vR 272,vN,vN,vN,vR 273,vI 582 0,vI 156 0,vS "/claim/cut.py" 583] }) ::
 (nat_lit 275,fO "_law_kind" "_law_kind" (zT 40) (vS "law_keptnest_k16_kinds_told" 534) (vR 274)) ::
 (nat_lit 281,{ cls:=PySem.Value.type "code",data:=PySem.Data.fields #[vS "_law_dict" 585,vS "_law_dict" 586,vS "/claim/cut.py" 587,vI 164 0,vI 2 0,vI 0 0,vI 0 0,vI 3 0,vR 276,PySem.Value.bool aaY,vI 181 0,vR 277,vN,vR 278,vR 279,vR 280,vI 592 0,vI 164 0,vS "/claim/cut.py" 593] }) ::
 (nat_lit 282,fO "_law_dict" "_law_dict" (zT 41) (vS "law_keptnest_k16_kinds_told" 534) (vR 281)) ::
 (nat_lit 286,{ cls:=PySem.Value.type "code",data:=PySem.Data.fields #[vS "_law_with_wide" 595,vS "_law_with_wide" 596,vS "/claim/cut.py" 597,vI 169 0,vI 2 0,vI 0 0,vI 0 0,vI 3 0,vR 283,PySem.Value.bool aaY,vI 181 0,vR 284,vN,vN,vN,vR 285,vI 598 0,vI 169 0,vS "/claim/cut.py" 599] }) ::
 (nat_lit 287,fO "_law_with_wide" "_law_with_wide" (zT 42) (vS "law_keptnest_k16_kinds_told" 534) (vR 286)) ::
 (nat_lit 293,{ cls:=PySem.Value.type "code",data:=PySem.Data.fields #[vS "_law_claim" 601,vS "_law_claim" 602,vS "/claim/cut.py" 603,vI 174 0,vI 4 0,vI 0 0,vI 0 0,vI 3 0,vR 288,PySem.Value.bool aaY,vI 181 0,vR 289,vN,vR 290,vR 291,vR 292,vI 610 0,vI 174 0,vS "/claim/cut.py" 611] }) ::
 (nat_lit 294,fO "_law_claim" "_law_claim" (zT 43) (vS "law_keptnest_k16_kinds_told" 534) (vR 293)) ::
 (nat_lit 298,{ cls:=PySem.Value.type "code",data:=PySem.Data.fields #[vS "_law_bound" 613,vS "_law_bound" 614,vS "/claim/cut.py" 615,vI 185 0,vI 6 0,vI 0 0,vI 0 0,vI 3 0,vR 295,PySem.Value.bool aaY,vI 181 0,vR 296,vN,vN,vN,vR 297,vI 616 0,vI 185 0,vS "/claim/cut.py" 617] }) ::
 (nat_lit 299,fO "_law_bound" "_law_bound" (zT 44) (vS "law_keptnest_k16_kinds_told" 534) (vR 298)) ::
 (nat_lit 303,{ cls:=PySem.Value.type "code",data:=PySem.Data.fields #[vS "_law_field" 619,vS "_law_field" 620,vS "/claim/cut.py" 621,vI 195 0,vI 5 0,vI 0 0,vI 0 0,vI 3 0,vR 300,PySem.Value.bool aaY,vI 181 0,vR 301,vN,vN,vN,vR 302,vI 622 0,vI 195 0,vS "/claim/cut.py" 623] }) ::
 (nat_lit 304,fO "_law_field" "_law_field" (zT 45) (vS "law_keptnest_k16_kinds_told" 534) (vR 303)) ::
 (nat_lit 308,{ cls:=PySem.Value.type "code",data:=PySem.Data.fields #[vS "_law_bag" 625,vS "_law_bag" 626,vS "/claim/cut.py" 627,vI 208 0,vI 5 0,vI 0 0,vI 0 0,vI 3 0,vR 305,PySem.Value.bool aaY,vI 181 0,vR 306,vN,vN,vN,vR 307,vI 628 0,vI 208 0,vS "/claim/cut.py" 629] }) ::
 (nat_lit 309,fO "_law_bag" "_law_bag" (zT 46) (vS "law_keptnest_k16_kinds_told" 534) (vR 308)) ::
 (nat_lit 313,{ cls:=PySem.Value.type "code",data:=PySem.Data.fields #[vS "_law_asked" 631,vS "_law_asked" 632,vS "/claim/cut.py" 633,vI 225 0,vI 5 0,vI 0 0,vI 0 0,vI 3 0,vR 310,PySem.Value.bool aaY,vI 181 0,vR 311,vN,vN,vN,vR 312,vI 634 0,vI 225 0,vS "/claim/cut.py" 635] }) ::
 (nat_lit 314,fO "_law_asked" "_law_asked" (zT 47) (vS "law_keptnest_k16_kinds_told" 534) (vR 313)) ::
 (nat_lit 320,{ cls:=PySem.Value.type "code",data:=PySem.Data.fields #[vS "_law_setting" 637,vS "_law_setting" 638,vS "/claim/cut.py" 639,vI 248 0,vI 1 0,vI 0 0,vI 0 0,vI 3 0,vR 315,PySem.Value.bool aaY,vI 181 0,vR 316,vN,vR 317,vR 318,vR 319,vI 644 0,vI 248 0,vS "/claim/cut.py" 645] }) ::
 (nat_lit 321,fO "_law_setting" "_law_setting" (zT 48) (vS "law_keptnest_k16_kinds_told" 534) (vR 320)) ::
 (nat_lit 325,{ cls:=PySem.Value.type "code",data:=PySem.Data.fields #[vS "_law_same" 647,vS "_law_same" 648,vS "/claim/cut.py" 649,vI 256 0,vI 2 0,vI 0 0,vI 0 0,vI 3 0,vR 322,PySem.Value.bool aaY,vI 181 0,vR 323,vN,vN,vN,vR 324,vI 650 0,vI 256 0,vS "/claim/cut.py" 651] }) ::
 (nat_lit 326,fO "_law_same" "_law_same" (zT 49) (vS "law_keptnest_k16_kinds_told" 534) (vR 325)) ::
 (nat_lit 332,{ cls:=PySem.Value.type "code",data:=PySem.Data.fields #[vS "_law_right" 653,vS "_law_right" 654,vS "/claim/cut.py" 655,vI 264 0,vI 4 0,vI 0 0,vI 0 0,vI 3 0,vR 327,PySem.Value.bool aaY,vI 181 0,vR 328,vN,vR 329,vR 330,vR 331,vI 662 0,vI 264 0,vS "/claim/cut.py" 663] }) ::
 (nat_lit 333,fO "_law_right" "_law_right" (zT 50) (vS "law_keptnest_k16_kinds_told" 534) (vR 332)) ::
 (nat_lit 339,{ cls:=PySem.Value.type "code",data:=PySem.Data.fields #[vS "law" 665,vS "law" 666,vS "/claim/cut.py" 667,vI 270 0,vI 1 0,vI 0 0,vI 0 0,vI 3 0,vR 334,PySem.Value.bool aaY,vI 181 0,vR 335,vN,vR 336,vR 337,vR 338,vI 676 0,vI 270 0,vS "/claim/cut.py" 677] }) ::
 (nat_lit 340,fO "law" "law" (zT 51) (vS "law_keptnest_k16_kinds_told" 534) (vR 339))::[]
def zK (P:Params):PySem.W.Frag:=ko P++zK1 P
def zA:List Addr:=[47,124,125,126,3,4,23,24,43,44,51,52,65,66,72,73,79,80,84,85,91,92,94,95,105,106,110,111,117,118,122,123,132,133,139,140,146,147,153,154,160,161,167,168,172,173,179,180,186,187,193,194,200,201,207,208,214,215,221,222,228,229,235,236,237,243,244,250,251,257,258,264,265,269,270,274,275,281,282,286,287,293,294,298,299,303,304,308,309,313,314,320,321,325,326,332,333,339,340]
def zV:Program:={ PySem.Challenge.pw_keptnest_k16_kinds_told with main:={ PySem.Challenge.pw_keptnest_k16_kinds_told.main with body:=[1,2,4,5,7,8,10,11,12,14,15,16,17,18,19,20,21,22,23,24,25,26,27,28,29,30,31,32,33,35,36,37,38,39,40,41,42,43,44,45,46,47,48,49,50,51].filterMap λi=>PySem.Challenge.pw_keptnest_k16_kinds_told.main.body[i]? } }
theorem zE:∀P,zA=(zK P).map (·.1):=λ_=>rfl
def zTs:List Addr:=[113]
def zL:List PySem.Str:=["FINISHED"]
end Q16
end
section
set_option maxHeartbeats 0
namespace Q16
open PySem Hq
theorem zR_false:mK PySem.Challenge.pw_keptnest_k16_kinds_told zV zL (λs=>PySem.W.xlAt zV [] s && PySem.W.recOk (PySem.W.RowW.records (PySem.W.OpenRow.toRowW PySem.Challenge.rw_keptnest_k16_kinds_told.row)) s) (PySem.W.Hook.obs (PySem.W.kmHook zK zA zE zTs)) (PySem.W.Hook.val (PySem.W.kmHook zK zA zE zTs)) 4736 "special-get-raises" false:=by
 intro w
 kernel_rfl
theorem zR_true:mK PySem.Challenge.pw_keptnest_k16_kinds_told zV zL (λs=>PySem.W.xlAt zV [] s && PySem.W.recOk (PySem.W.RowW.records (PySem.W.OpenRow.toRowW PySem.Challenge.rw_keptnest_k16_kinds_told.row)) s) (PySem.W.Hook.obs (PySem.W.kmHook zK zA zE zTs)) (PySem.W.Hook.val (PySem.W.kmHook zK zA zE zTs)) 4736 "special-get-raises" true:=by
 intro w
 kernel_rfl
theorem zS:PySem.Challenge.rw_keptnest_k16_kinds_told.wellSaid=true:=by kernel_rfl
end Q16
end
section
-- VL: CU VM module here,as dE last of VN VO
namespace L2
open PySem PySem.Spec PyProof.Rows
abbrev Key:=Sum Int Str
noncomputable def hY:Key->Value->Bool
 |.inl k,v=>Value.isInt k v
 |.inr x,v=>Value.isStrOf x v
noncomputable def CV (w:World):Key->Int
 |.inl k=>hashInt k
 |.inr x=>hashStr w x
theorem eY:∀{k:Key}{v:Value},hY k v=true->(∃i t,k=Sum.inl i/\v=Value.int i t)\/(∃x t,k=abL x/\v=Value.str x t)
 |.inl i,v,h=>by
  obtain⟨t,e⟩:=Value.isInt_shape (k:=i) (v:=v) h;exact .inl ⟨i,t,rfl,e⟩
 |.inr x,v,h=>by
  obtain⟨t,e⟩:=Value.isStrOf_shape (x:=x) (v:=v) h;exact .inr ⟨x,t,rfl,e⟩
theorem CW (i:Int) (t:Tok):hY (.inl i) (.int i t)=true:=by simp [hY,Value.isInt]
theorem CY (x:Str) (t:Tok):hY (.inr x) (.str x t)=true:=by simp [hY,Value.isStrOf]
theorem CZ (a b:Int):decide ((Sum.inl a:Key)=Sum.inl b)=(a == b):=by
 by_cases e:a=b
 ·subst e;simp
 ·have h:¬(Sum.inl a:Key)=Sum.inl b:=λq=>e (Sum.inl.inj q);rw[decide_eq_false h];exact (beq_eq_false_iff_ne.mpr e).symm
theorem C0 (a b:Str):decide ((abL a:Key)=abL b)=decide (a=b):=by
 by_cases e:a=b
 ·subst e;simp
 ·have h:¬(abL a:Key)=abL b:=λq=>e (Sum.inr.inj q);rw[decide_eq_false h,decide_eq_false e]
theorem C1 (a:Int) (b:Str):decide ((Sum.inl a:Key)=abL b)=false:=decide_eq_false (λq=>nomatch q)
theorem C2 (a:Str) (b:Int):decide ((abL a:Key)=Sum.inl b)=false:=decide_eq_false (λq=>nomatch q)
noncomputable def b6 (prog:Program) (w:World):PySem.KeyKind prog w Key where
 is:=hY
 hash:=CV w
 inj:=λv a b ha hb=>by
  rcases eY ha with ⟨i,t,rfl,rfl⟩ |⟨x,t,rfl,rfl⟩
  ·rcases eY hb with ⟨j,u,rfl,e⟩ |⟨y,u,rfl,e⟩
   ·injection e with e1 _;rw[e1]
   ·exact nomatch e
  ·rcases eY hb with ⟨j,u,rfl,e⟩ |⟨y,u,rfl,e⟩
   ·exact nomatch e
   ·injection e with e1 _;rw[e1]
 byValue:=λk v h=>by
  rcases eY h with ⟨i,t,rfl,rfl⟩ |⟨x,t,rfl,rfl⟩ <;> rfl
 pyHash:=λhv h=>by
  rcases eY hv with ⟨i,t,rfl,rfl⟩ |⟨x,t,rfl,rfl⟩
  ·exact wpAny_pyHash_int h
  ·exact wpAny_pyHash_str h
 eqBool:=λhu hv h=>by
  rcases eY hu with ⟨i,t,rfl,rfl⟩ |⟨x,t,rfl,rfl⟩
  ·rcases eY hv with ⟨j,u,rfl,rfl⟩ |⟨y,u,rfl,rfl⟩
   ·rw[CZ]at h;exact wpAny_eqBool_int h
   ·rw[C1]at h;exact SeqAt.EqAt.int_str i t y u _ _ _ _ h
  ·rcases eY hv with ⟨j,u,rfl,rfl⟩ |⟨y,u,rfl,rfl⟩
   ·rw[C2]at h;exact SeqAt.EqAt.str_int x t j u _ _ _ _ h
   ·rw[C0]at h;exact wpAny_eqBool_str h
 «strs»:=λk x t v h=>by
  rcases eY h with ⟨i,u,rfl,e⟩ |⟨y,u,rfl,e⟩
  ·exact nomatch e
  ·injection e with e1 _;subst e1;cases v <;> rfl
theorem C3 (prog:Program) (w:World) (i:Int) (t:Tok):(b6 prog w).is (.inl i) (.int i t)=true:=CW i t
theorem C4 (prog:Program) (w:World) (x:Str) (t:Tok):(b6 prog w).is (.inr x) (.str x t)=true:=CY x t
end L2
namespace L2
open PySem PySem.Spec PyProof.Rows
inductive V where
 |af |bl (b:Bool) |int (i:Int) |str (x:Str) |dt (b:Array UInt8) |hZ (b:UInt64) |ref (a:Addr) |ty (n:String)
 deriving DecidableEq
def av:V->Value->Prop
 |.af,u=>u=abB
 |.bl b,u=>u=Value.bool b
 |.int i,u=>∃t,u=Value.int i t
 |.str x,u=>∃t,u=Value.str x t
 |.dt b,u=>∃t,u=Value.bytes b t
 |.hZ b,u=>∃t,u=Value.float b t
 |.ref a,u=>u=aaX a
 |.ty n,u=>u=acg n
abbrev aq:List V->List Value->Prop:=Paired av
theorem aq.length {xs:List V}{us:List Value} (r:aq xs us):xs.length=us.length:=Paired.length r
theorem aq.get:∀{xs:List V}{us:List Value}{i:Nat}{x:V},aq xs us->xs[i]?=some x->∃u,us[i]?=some u/\av x u
 |_,_,_,_,.nil,e=>by simp at e
 |_,_,0,_,.cons r _,e=>by simp at e;subst e;exact⟨_,rfl,r⟩
 |_,_,i+1,x,.cons _ t,e=>by
  obtain⟨u,h1,h2⟩:=aq.get (i:=i) (x:=x) t (by simpa using e);exact⟨u,by simpa using h1,h2⟩
theorem aq.set {x:V}{u:Value} (r:av x u):∀{xs:List V}{us:List Value} (i:Nat),aq xs us->aq (xs.set i x) (us.set i u)
 |_,_,_,.nil=>.nil
 |_,_,0,.cons _ t=>.cons r t
 |_,_,i+1,.cons q t=>.cons q (aq.set r i t)
theorem aq.append {xs ys:List V}{us ws:List Value} (h:aq xs us) (s:aq ys ws):aq (xs++ys) (us++ws):=by
 induction h with
 |nil=>exact s
 |cons r t ih=>exact .cons r ih
theorem aq.take:∀{xs:List V}{us:List Value} (n:Nat),aq xs us->aq (xs.take n) (us.take n)
 |_,_,0,_=>.nil
 |_,_,_+1,.nil=>.nil
 |_,_,n+1,.cons r t=>.cons r (aq.take n t)
theorem aq.drop:∀{xs:List V}{us:List Value} (n:Nat),aq xs us->aq (xs.drop n) (us.drop n)
 |_,_,0,r=>r
 |_,_,_+1,.nil=>.nil
 |_,_,n+1,.cons _ t=>aq.drop n t
def cH:Option V->Option Value->Prop
 |some v,some u=>av v u
 |none,none=>True
 |_,_=>False
def KV {κ:Type}:List (κ×V)->List (κ×Value)->Prop:=Paired λ(p:κ×V) (q:κ×Value)=>p.1=q.1/\av p.2 q.2
noncomputable def kV:Key->V
 |.inl i=>.int i
 |.inr x=>.str x
inductive HO where
  |lst (xs:List V)
  |tup (xs:List V)
  |dK (kvs:List (Key×V)) |dT (kvs:List (List Key×V))
  |set (S:Int->Bool) (n:Nat)
  |ins (C dx:Addr) (fs:List (Str×V))
  |own (x:Addr)
  |xd (fs:List (Str×V))
  |met (f x:Addr)
  |dR (lo hi:Int)
  |cX (o:Obj) (u:HO)
  |bj (ps:Array Value)
  |ext (φ:Heap->Prop)
abbrev Hp:=Addr->Option HO
noncomputable def ag (H:Hp) (a:Addr) (o:HO):Hp:=λb=>if b=a then some o else H b
theorem b7 {H:Hp}{a:Addr}{o:HO}:ag H a o a=some o:=by unfold ag;rw[if_pos rfl]
theorem aD {H:Hp}{a b:Addr}{o:HO} (h:b≠a):ag H a o b=H b:=by unfold ag;rw[if_neg h]
theorem C5 {H:Hp}{a b:Addr}{o u:HO} (h:H a=some o) (h':H b=some u) (d:o≠u):a≠b:=by
 intro e;subst e;rw[h]at h';exact d (abe h')
theorem bB {H:Hp}{a b:Addr}{o:HO} (h:H a=some o) (h':H b=none):a≠b:=by
 intro e;subst e;rw[h]at h';cases h'
def pY (h:Heap) (a:Addr) (n:Nat):Prop:=n<=sizeLine/\∀o,h.get? a=some o->o.dict=none
theorem kq {h:Heap}{its:Array Value}{k n:Nat} (z:n<=sizeLine):pY (h.push { cls:=.type "tuple",data:=.seq its k }) h.objs.size n:=
 ⟨z,λo q=>by rw[aaG _ rfl]at q;cases q;rfl⟩
theorem mL {h:Heap}{a:Addr}{o:Obj}{n:Nat} (z:n<=sizeLine) (e:h.get? a=some o) (d:o.dict=none):pY h a n:=
 ⟨z,λo' q=>by rw[e]at q;cases q;exact d⟩
section
variable (P:Program) (w:World)
def bk (H:Hp) (h:Heap) (a:Addr):HO->Prop
 |.lst xs=>xs.length<=sizeLine/\∃(its:List Value) (n:Nat),aq xs its/\h.get? a=some { cls:=.type "list",data:=.seq its.toArray n }
 |.tup xs=>pY h a xs.length/\∃its:List Value,aq xs its/\IsTup h a its.toArray
 |.dK kvs=>kvs.length<=sizeLine/\(a == sysModules)=false/\∃vs,KV kvs vs/\h.DictOf (b6 P w) a vs
 | .dT kvs=>kvs.length<=sizeLine/\(a == sysModules)=false/\∃ xs:List (List Key×Addr×Value),
   Paired (λ(p:List Key×V) (q:List Key×Addr×Value)=>p.1=q.1/\H q.2.1=some (.tup (p.1.map kV))/\av p.2 q.2.2) kvs xs /\
   ∃o es ep,h.get? a=some o/\o.ExactDict/\o.data=.dict es ep/\es.toList=xs.map (entryOfKey (tupleKind (b6 P w)))/\(xs.map (·.1)).Nodup
 |.set S n=>h.SetOf (intKind P w) a S n
 | .ins C dx fs=>H dx=some (.own a)/\fs.length<=1000/\dx≠a/\h.get? a=some (PySem.W.instObj C dx) /\
   ∃mA,h.Ns1 dx mA/\(∀f,cH (fs.lookup f) (mA f))/\PySem.Within mA (fs.map (·.1))
 |.own _=>∃o,h.get? a=some o
 |.xd fs=>∃mA,h.Ns1 a mA/\∀f,cH (fs.lookup f) (mA f)
 |.dR lo hi=>∃t u v,h.get? a=some { cls:=.type "range",data:=.fields #[.int lo t,.int hi u,.int 1 v] }
 |.cX o u=>h.get? a=some o/\bk H h a u
 |.bj ps=>h.get? a=some { cls:=.none,data:=.fields ps }
 |.met f x=>h.get? a=some (PySem.W.methodObj (.ref f) (.ref x))
 |.ext φ=>φ h/\(∃o,h.get? a=some o)/\∀h1 h2:Heap,φ h1->(∀o,h1.get? a=some o->h2.get? a=some o)->φ h2
def aQ (H:Hp) (h:Heap):Prop:=∀a o,H a=some o->bk P w H h a o
end
section
variable {P:Program}{w:World}{H H':Hp}{h h':Heap}{a:Addr}{o:HO}
theorem bk.lt (x:bk P w H h a o):a<h.objs.size:=by
 cases o with
 |lst xs=>obtain⟨_,_,_,_,e⟩:=x;exact aaJ e
 |tup xs=>obtain⟨_,_,_,p⟩:=x;exact p.lt
 |dK kvs=>obtain⟨_,_,_,_,o,_,_,e,_⟩:=x;exact aaJ e
 |dT kvs=>obtain⟨_,_,_,_,o,_,_,e,_⟩:=x;exact aaJ e
 |set S n=>obtain⟨o,_,_,_,e,_⟩:=x;exact aaJ e
 |ins C dx fs=>obtain⟨_,_,_,e,_⟩:=x;exact aaJ e
 |own y=>obtain⟨_,e⟩:=x;exact aaJ e
 |xd fs=>obtain⟨_,⟨_,_,_,e,_⟩,_⟩:=x;exact aaJ e
 |dR lo hi=>obtain⟨_,_,_,e⟩:=x;exact aaJ e
 |cX ob u=>obtain⟨e,_⟩:=x;exact aaJ e
 |bj ps=>exact aaJ (show h.get? a=some _ from x)
 |met f y=>exact aaJ (show h.get? a=some _ from x)
 |ext φ=>obtain⟨_,⟨_,e⟩,_⟩:=x;exact aaJ e
theorem Paired.mM {α β:Type} {F G:α->β->Prop}:∀{l₁:List α}{l₂:List β},Paired F l₁ l₂->(∀a b,F a b->G a b)->Paired G l₁ l₂
 |_,_,.nil,_=>.nil
 |_,_,.cons r t,f=>.cons (f _ _ r) (Paired.mM t f)
theorem bk.el (x:bk P w H h a o) (k:∀ b u,(b=a\/H b=some (.own a))->h.get? b=some u->h'.get? b=some u)
  (ho:∀b,H b=some (.own a)->H' b=some (.own a)) (ht:∀b xs,H b=some (.tup xs)->H' b=some (.tup xs)):bk P w H' h' a o:=by
 induction o with
 |lst xs=>obtain⟨z,its,n,r,e⟩:=x;exact⟨z,its,n,r,k _ _ (.inl rfl) e⟩
 |tup xs=>obtain⟨z,its,r,ob,e,c⟩:=x;exact⟨mL z.1 (k _ _ (.inl rfl) e) (z.2 _ e),its,r,ob,k _ _ (.inl rfl) e,c⟩
 |dK kvs=>obtain⟨z,y,vs,r,ob,es,ep,e,c⟩:=x;exact⟨z,y,vs,r,ob,es,ep,k _ _ (.inl rfl) e,c⟩
 |dT kvs=>
  obtain⟨z,y,xs,r,ob,es,ep,e,c⟩:=x;exact⟨z,y,xs,Paired.mM r λp q z=>⟨z.1,ht _ _ z.2.1,z.2.2⟩,ob,es,ep,k _ _ (.inl rfl) e,c⟩
 |set S n=>obtain⟨ob,es,ep,t,e,c⟩:=x;exact⟨ob,es,ep,t,k _ _ (.inl rfl) e,c⟩
 |ins C dx fs=>
  obtain⟨d,z,ne,e,mA,⟨od,es,ep,e2,c⟩,r⟩:=x;exact⟨ho _ d,z,ne,k _ _ (.inl rfl) e,mA,⟨od,es,ep,k _ _ (.inr d) e2,c⟩,r⟩
 |own y=>obtain⟨ob,e⟩:=x;exact⟨ob,k _ _ (.inl rfl) e⟩
 |xd fs=>obtain⟨mA,⟨od,es,ep,e,c⟩,r⟩:=x;exact⟨mA,⟨od,es,ep,k _ _ (.inl rfl) e,c⟩,r⟩
 |dR lo hi=>obtain⟨t,u,v,e⟩:=x;exact⟨t,u,v,k _ _ (.inl rfl) e⟩
 |cX ob u ih=>obtain⟨e,q⟩:=x;exact⟨k _ _ (.inl rfl) e,ih q⟩
 |bj ps=>
  have e:h.get? a=some { cls:=.none,data:=.fields ps }:=x;show h'.get? a=some { cls:=.none,data:=.fields ps };exact k a _ (.inl rfl) e
 |met f y=>
  have e:h.get? a=some (PySem.W.methodObj (.ref f) (.ref y)):=x;show h'.get? a=some (PySem.W.methodObj (.ref f) (.ref y));exact k a _ (.inl rfl) e
 |ext φ=>obtain⟨p,⟨o,e⟩,st⟩:=x;exact⟨st _ _ p λo q=>k _ _ (.inl rfl) q,⟨o,k _ _ (.inl rfl) e⟩,st⟩
theorem aQ.lt (x:aQ P w H h) (e:H a=some o):a<h.objs.size:=(x a o e).lt
theorem aQ.fresh (x:aQ P w H h) (e:h.objs.size<=a):H a=none:=by
 cases q:H a with
 |none=>rfl
 |some u=>exact absurd (aaM (x.lt q) e) (abT _)
theorem aQ.bD (x:aQ P w H h) (k:∀b u,h.get? b=some u->h'.get? b=some u):aQ P w H h':=λa o e=>
 (x a o e).el (λb u _ q=>k b u q) (λ_ q=>q) λ_ _ q=>q
theorem aQ.laid (x:aQ P w H h) (k:∀b u,h.get? b=some u->h'.get? b=some u) (hp:h.objs.size<=a) (new:bk P w (ag H a o) h' a o):aQ P w (ag H a o) h':=λb u e=>by
 have hn:=x.fresh hp;by_cases hb:b=a
 ·subst hb;rw[b7]at e;cases e;exact new
 ·rw[aD hb]at e;exact (x b u e).el (λc v _ q=>k c v q) (λc q=>by rw[aD (bB q hn)];exact q) λc xs q=>by rw[aD (bB q hn)];exact q
end
def Rd (H:Hp) (a:Addr) (u:HO):Prop:=H a=some u\/∃o,H a=some (.cX o u)
theorem Rd.ok {P:Program}{w:World}{H:Hp}{h:Heap}{a:Addr}{u:HO} (r:Rd H a u) (x:aQ P w H h):bk P w H h a u:=by
 rcases r with r |⟨o,r⟩
 ·exact x a u r
 ·obtain⟨_,q⟩:=x a _ r;exact q
def kr:Option HO->Prop
 |some (.lst _)=>True
 |some (.dK _)=>True
 |some (.dT _)=>True
 |some (.set _ _)=>True
 |some (.ins _ _ _)=>True
 |some (.ext _)=>True
 |_=>False
section
variable {P:Program}{w:World}{H:Hp}{h h':Heap}{x e:Addr}{o':HO}
theorem aQ.fQ (ok:aQ P w H h) (mu:kr (H x)) (he:e=x\/H e=some (.own x)) (k:∀ b u,b≠e->h.get? b=some u->h'.get? b=some u) (jl:∃ u,h'.get? e=some u)
  (new:bk P w (ag H x o') h' x o'):aQ P w (ag H x o') h':=λb u q=>by
 have vg:∀c y,H c=some (.own y)->c≠x:=λc y r z=>by subst z;rw[r]at mu;exact mu
 have C6:∀c xs,H c=some (.tup xs)->c≠x:=λc xs r z=>by subst z;rw[r]at mu;exact mu
 by_cases hb:b=x
 ·subst hb;rw[b7]at q;cases q;exact new
 ·rw[aD hb]at q;by_cases h7:b=e
  ·have q':H b=some (.own x):=by
    rcases he with z |z
    ·exact absurd (h7.trans z) hb
    ·rw[h7];exact z
   rw[q]at q';cases q';obtain⟨v,hv⟩:=jl;exact⟨v,by rw[h7];exact hv⟩
  ·refine (ok b u q).el (λc v hc r=>k c v ?_ r) (λc r=>by rw[aD (vg c b r)];exact r) λc xs r=>(by rw[aD (C6 c xs r)];exact r);rcases hc with rfl |hc
   ·exact h7
   ·rintro rfl;rcases he with z |z
    ·exact vg c b hc z
    ·rw[hc]at z;cases z;exact hb rfl
end
structure Un (fs ex:List Addr) (H H':Hp) (h h':Heap):Prop where
 keep:∀b o,h.get? b=some o->H b=none->b ∉ fs->b ∉ ex->h'.get? b=some o
 slot:∀b o,h.get? b=some o->H b=none->b∈fs->b ∉ ex->∃sl,h'.get? b=some { o with slots:=sl }
 free:∀b o,h.get? b=some o->H b=none->b ∉ ex->H' b=none
 there:∀b o,h.get? b=some o->b ∉ ex->∃o',h'.get? b=some o'
 tups:∀b xs,H b=some (.tup xs)->H' b=some (.tup xs)
 eo:∀b o u,H b=some (.cX o u)->H' b=some (.cX o u)
 er:∀b ps,H b=some (.bj ps)->∃more,H' b=some (.bj (ps++more))
 et:∀b xs o,H b=some (.tup xs)->h.get? b=some o->h'.get? b=some o
section
variable {fs fs' ex VP:List Addr}{H H1 H2:Hp}{h h1 h2 h':Heap}{a x e:Addr}{o:HO}
theorem Un.any (u:Un fs ex H H1 h h1) {b:Addr}{ob:Obj} (q:h.get? b=some ob) (n:H b=none) (hx:b ∉ ex):∃sl,h1.get? b=some { ob with slots:=sl }:=by
 by_cases hb:b∈fs
 ·exact u.slot b ob q n hb hx
 ·exact⟨ob.slots,u.keep b ob q n hb hx⟩
theorem Un.bD (k:∀b u,h.get? b=some u->h'.get? b=some u):Un fs ex H H h h':=
 ⟨λb ob q _ _ _=>k b ob q,λb ob q _ _ _=>⟨ob.slots,k b ob q⟩,λ_ _ _ n _=>n,λb ob q _=>⟨ob,k b ob q⟩,λ_ _ q=>q,λ_ _ _ q=>q,λ_ ps q=>⟨#[],by rw[q];simp⟩,λb _ o _ e=>k b o e⟩
theorem Un.refl:Un fs ex H H h h:=Un.bD λ_ _ q=>q
theorem Un.laid (k:∀b u,h.get? b=some u->h'.get? b=some u) (hp:h.objs.size<=a) (hn:H a=none):Un fs ex H (ag H a o) h h' where
 keep:=λb u q _ _ _=>k b u q
 slot:=λb u q _ _ _=>⟨u.slots,k b u q⟩
 free:=λb u q n _=>by rw[aD (aaL (aaM (aaJ q) hp))];exact n
 there:=λb u q _=>⟨u,k b u q⟩
 tups:=λb xs q=>by rw[aD (bB q hn)];exact q
 eo:=λb u xs q=>by rw[aD (bB q hn)];exact q
 er:=λb ps q=>⟨#[],by rw[aD (bB q hn),q];simp⟩
 et:=λb _ o _ e=>k b o e
theorem Un.fQ (mu:kr (H x)) (he:e=x\/H e=some (.own x)) (k:∀b u,b≠e->h.get? b=some u->h'.get? b=some u) (jl:∃u,h'.get? e=some u):Un fs ex H (ag H x o) h h':=by
 have hx:∀b,H b=none->b≠x:=λb n z=>by subst z;rw[n]at mu;exact mu
 have hb:∀b,H b=none->b≠e:=λb n z=>by
  subst z;rcases he with r |r
  ·exact hx b n r
  ·rw[n]at r;cases r
 have hm:∀b u,H b=some u->¬kr (some u)->b≠x:=λb u q nm z=>by subst z;rw[q]at mu;exact nm mu
 refine⟨λb u q n _ _=>k b u (hb b n) q,λb u q n _ _=>⟨u.slots,k b u (hb b n) q⟩,λb u q n _=>by rw[aD (hx b n)];exact n,λb u q _=>?_,
  λb xs q=>by rw[aD (hm b _ q λz=>z)];exact q,λb u xs q=>by rw[aD (hm b _ q λz=>z)];exact q,λb ps q=>⟨#[],by rw[aD (hm b _ q λz=>z),q];simp⟩,λb xs o q e1=>k b o (λz=>by
   subst z;rcases he with r |r
   ·exact hm b _ q (λz=>z) r
   ·rw[q]at r;cases r) e1⟩
 by_cases h7:b=e
 ·subst h7;exact jl
 ·exact⟨u,k b u h7 q⟩
end
noncomputable def mN (h:Heap) (H:Hp):List Addr:=(ab6 h.objs.size).filter λa=>(H a).isSome
noncomputable def fR (h:Heap) (H:Hp):Heap:=PySem.W.hideAll h (mN h H)
theorem C7 (h:Heap) (H:Hp):(fR h H).objs.size=h.objs.size:=PySem.W.hideAll_size _ _
theorem C8 {h:Heap}{H:Hp}{b:Addr}{o:Obj} (e:h.get? b=some o) (n:H b=none):(fR h H).get? b=some o:=
 PySem.W.hideAll_get _ e λhm=>by
  have q:(H b).isSome=true:=(List.mem_filter.mp hm).2;rw[n]at q;simp at q
theorem C9 {h:Heap}{H:Hp}{b:Addr}{o:Obj} (e:(fR h H).get? b=some o):h.get? b=some o/\H b=none:=by
 have e':h.get? b=some o:=PySem.W.of_hideAll (mN h H) e;refine⟨e',?_⟩;cases q:H b with
 |none=>rfl
 |some x=>
  have hm:b∈mN h H:=List.mem_filter.mpr ⟨List.mem_range.mpr (aaJ e'),by simp [q]⟩;have z:(fR h H).get? b=none:=PySem.W.hideAll_none (mN h H) hm;rw[z]at e;cases e
end L2
namespace L2
open PySem PySem.Spec PyProof.Rows
structure Mod (K:PySem.W.Frag) (mg:Str->Option Value) (base:Heap):Prop where
 h8:K.In base
 eZ:base.Ns mainGlobals mg
 jm:∃mb,base.Ns builtinsNs mb/\∀x:Str,x≠"__name__"->mb x=bootBuiltins x
 nolimit:base.NoLimit
structure Cx where
 prog:Program
 w:World
 K:PySem.W.Frag
 mg:Str->Option Value
 base:Heap
 A:Around
 N:List Str
 s₀:Shared
 H₀:Hp
 env:Env
 outer:List Env
 stack:List Env
 ex:List Addr
 fn:Str->Bool
 calm:Bool
 pn:List (Addr×Obj)
 xe:Value->Shared->Prop
noncomputable def dc (l:List Env):List Addr:=l.filterMap (·.frame)
noncomputable abbrev Cx.fs (X:Cx):List Addr:=dc X.outer
def mO (sc:Scope) (x:Str):Prop:=sc.names.lookup x=some .local\/sc.names.lookup x=some .cell\/sc.names.lookup x=some .free
def dS (sc:Scope) (x:Str):Prop:=sc.names.lookup x=some .local\/sc.names.lookup x=some .cell
def De (env:Env) (h:Heap) (m:Str->Option Value) (x:Str) (u:Value):Prop:=
 (env.kindOf x=some .local/\m x=some u)\/((env.kindOf x=some .cell\/env.kindOf x=some .free)/\∃c,env.cells.lookup x=some c/\h.IsCell c (some u))
structure Cx.Ok (X:Cx):Prop where
 b8:Mod X.K X.mg X.base
 kind:X.env.scope.kind=.function
 eZ:X.env.globals=mainGlobals
 jm:X.env.builtins=builtinsNs
 above:X.s₀.heap.objs.size<=X.env.locals
 inj:∀x y c,X.env.cells.lookup x=some c->X.env.cells.lookup y=some c->x=y
 has:∀x,(X.env.kindOf x=some .cell\/X.env.kindOf x=some .free)->∃c,X.env.cells.lookup x=some c
 jn:∀x c,X.fn x=true->X.env.cells.lookup x=some c->X.s₀.heap.objs.size<=c
 hd:X.calm=true->X.A.handled=none
 frames:X.A.frames=some X.stack
 mP:X.stack=X.outer\/(X.stack=X.env::X.outer/\X.env.frame=some X.env.locals)
 vh:∀b∈X.ex,b≠X.env.locals/\∀x c,X.env.cells.lookup x=some c->c≠b
 bs:∀b o,X.base.get? b=some o->X.s₀.heap.get? b=some o/\X.H₀ b=none
 e6:X.base.objs.size<=X.s₀.heap.objs.size
 ku:∀b o,X.base.get? b=some o->b ∉ X.ex
 mQ:∀b∈X.ex,b ∉ X.fs
 dU:X.s₀.heap.FunFrames X.base X.outer
 h9:∀b∈X.fs,X.H₀ b=none
structure ab (X:Cx) (pins:List (Addr×Obj)) (σ:List (Option V)) (H:Hp) (s:Shared):Prop where
 ok:X.Ok
 os:s.os=X.s₀.os
 bT:AllBare s.gens
 base:Un X.fs X.ex X.H₀ H X.s₀.heap s.heap
 bL:∃m,s.heap.Ns X.env.locals m/\∀(i:Nat) (x:Str) (v:V),X.N[i]?=some x->σ[i]?=some (some v)->mO X.env.scope x->∃u,av v u/\De X.env s.heap m x u
 cell:∀x c,X.env.cells.lookup x=some c->∃v,s.heap.IsCell c v
 free:H X.env.locals=none
 dV:∀x c,X.env.cells.lookup x=some c->H c=none
 cA:∀p∈X.pn++pins,s.heap.get? p.1=some p.2/\H p.1=none/\p.1≠X.env.locals/\p.1 ∉ X.fs/\∀v,p.2.data≠.cell v
 ae:aQ X.prog X.w H s.heap
 len:σ.length=X.N.length
section
variable {X:Cx}{pins:List (Addr×Obj)} {σ:List (Option V)} {H H':Hp}{s:Shared}{h':Heap}
theorem Cx.Ok.Df (ok:X.Ok) {b:Addr}{o:Obj} (e:X.base.get? b=some o):b ∉ X.fs:=λhb=>by
 have:=(ok.dU.mem hb).1;rw[e]at this;cases this
theorem ab.bs (I:ab X pins σ H s):∀b o,X.base.get? b=some o->s.heap.get? b=some o/\H b=none:=λb o e=>
 ⟨I.base.keep b o (I.ok.bs b o e).1 (I.ok.bs b o e).2 (I.ok.Df e) (I.ok.ku b o e),I.base.free b o (I.ok.bs b o e).1 (I.ok.bs b o e).2 (I.ok.ku b o e)⟩
theorem ab.Xj (I:ab X pins σ H s):∀b o,X.base.get? b=some o->s.heap.get? b=some o:=λb o e=>(I.bs b o e).1
theorem ab.b8 (I:ab X pins σ H s):Mod X.K X.mg X.base:=I.ok.b8
theorem ab.bt (I:ab X pins σ H s):X.K.In s.heap:=I.ok.b8.h8.keeps I.Xj
theorem ab.fr (I:ab X pins σ H s):∃m,Fr X.base X.env.locals s.heap m:=
 let ⟨m,hn,_⟩:=I.bL
 ⟨m,hn,I.Xj,aaZ I.ok.e6 I.ok.above⟩
theorem ab.lt (I:ab X pins σ H s):X.env.locals<s.heap.objs.size:=let ⟨_,hn,_⟩:=I.bL;hn.lt
theorem ab.sz (I:ab X pins σ H s):X.s₀.heap.objs.size<=s.heap.objs.size:=aaZ I.ok.above (Nat.le_of_lt I.lt)
theorem ab.mR (I:ab X pins σ H s) {a:Addr} (h:s.heap.objs.size<=a):a ∉ X.fs:=λhb=>by
 obtain⟨_,o,ho,_⟩:=I.ok.dU.mem hb;exact absurd (aaM (aaJ ho) (aaZ I.sz h)) (abT _)
theorem ab.ia (I:ab X pins σ H s):∀x c,X.env.cells.lookup x=some c->c≠X.env.locals:=λx c e z=>by
 obtain⟨v,o,ho,hd⟩:=I.cell x c e;obtain⟨m,⟨o',es,ep,fS,kt,_⟩,_⟩:=I.bL;rw[z,fS]at ho;cases ho;rw[kt]at hd;cases hd
theorem ab.dU (I:ab X pins σ H s):s.heap.FunFrames X.base X.outer:=by
 have all:∀(l:List Env),(∀b∈dc l,b∈X.fs)->X.s₀.heap.FunFrames X.base l->s.heap.FunFrames X.base l:=by
  intro l
  induction l with
  |nil=>intro _ _;trivial
  |cons env r ih=>
   intro hs hl;obtain⟨hk,⟨L,o,hf,hn,ho,hd⟩,hr⟩:=hl;have hL:L∈X.fs:=hs L (by unfold dc;rw[List.filterMap_cons,hf];exact aaO);obtain⟨sl,e⟩:=I.base.slot L o ho (I.ok.h9 L hL) hL λz=>I.ok.mQ L z hL;exact⟨hk,⟨L,_,hf,hn,e,hd⟩,ih (λb hb=>hs b (by unfold dc;rw[List.filterMap_cons,hf];exact aaK _ hb)) hr⟩
 exact all X.outer (λ_ hb=>hb) I.ok.dU
theorem ab.stack (I:ab X pins σ H s):s.heap.FunFrames X.base X.stack:=by
 rcases I.ok.mP with e |⟨e,hf⟩
 ·rw[e];exact I.dU
 ·rw[e];obtain⟨m,hn,_⟩:=I.bL;refine .cons (by rw[I.ok.kind];decide) hf hn ?_ I.dU;exact Heap.get?_none_of_le (aaZ I.ok.e6 I.ok.above)
theorem ab.jo (I:ab X pins σ H s):∀b∈dc X.stack,b∈X.env.locals::X.fs:=λb hb=>by
 rcases I.ok.mP with e |⟨e,hf⟩
 ·rw[e]at hb;exact aaK _ hb
 ·rw[e]at hb;unfold dc at hb;rw[List.filterMap_cons,hf]at hb;exact hb
theorem ab.vi (I:ab X pins σ H s):∀b∈dc X.stack,H b=none:=λb hb=>by
 rcases List.mem_cons.mp (I.jo b hb) with e |hb
 ·rw[e];exact I.free
 ·obtain⟨_,o,ho,_⟩:=I.ok.dU.mem hb;exact I.base.free b o ho (I.ok.h9 b hb) λz=>I.ok.mQ b z hb
theorem ab.dF {g':Array GenState}{t':Nat}{d':Drawn}{ch:List Addr} (I:ab X pins σ H s)
  (e7:∀b∈ch,(b∈X.ex\/X.s₀.heap.objs.size<=b)/\b≠X.env.locals/\(∀x c,X.env.cells.lookup x=some c->c≠b)/\∀p∈X.pn++pins,p.1≠b)
  (keep:∀b o,b≠X.env.locals->b ∉ X.fs->b ∉ ch->s.heap.get? b=some o->H b=none->h'.get? b=some o)
  (slot:∀b o,b≠X.env.locals->b∈X.fs->b ∉ ch->s.heap.get? b=some o->H b=none->∃sl,h'.get? b=some { o with slots:=sl }) (free:∀b o,b ∉ ch->s.heap.get? b=some o->H b=none->H' b=none)
  (there:∀b o,b ∉ ch->s.heap.get? b=some o->∃o',h'.get? b=some o')
  (tups:∀b xs,H b=some (.tup xs)->H' b=some (.tup xs)) (eo:∀b o u,H b=some (.cX o u)->H' b=some (.cX o u)) (er:∀b ps,H b=some (.bj ps)->∃more,H' b=some (.bj (ps++more))) (et:∀b xs o,H b=some (.tup xs)->s.heap.get? b=some o->h'.get? b=some o)
  (ns:∀m,s.heap.Ns X.env.locals m->h'.Ns X.env.locals m) (ae:aQ X.prog X.w H' h') (hg:AllBare g') :
  ab X pins σ H' { s with heap:=h',gens:=g',drawn:=d',toks:=t' }:=by
 have vj:∀b o,X.s₀.heap.get? b=some o->b≠X.env.locals:=λb o e=>aaL (aaM (aaJ e) I.ok.above);have mS:∀b o,X.s₀.heap.get? b=some o->b ∉ X.ex->b ∉ ch:=λb o e hx hb=>by
  rcases (e7 b hb).1 with z |z
  ·exact hx z
  ·exact absurd (aaM (aaJ e) z) (abT _)
 have vk:∀x c,X.env.cells.lookup x=some c->∀v,s.heap.IsCell c v->h'.IsCell c v:=λx c e v ⟨o,ho,hd⟩=>by
  have ib:c ∉ ch:=λz=>(e7 c z).2.2.1 x c e rfl;by_cases hc:c∈X.fs
  ·obtain⟨sl,q⟩:=slot c o (I.ia x c e) hc ib ho (I.dV x c e);exact⟨_,q,hd⟩
  ·exact⟨o,keep c o (I.ia x c e) hc ib ho (I.dV x c e),hd⟩
 refine⟨I.ok,I.os,hg,⟨λb o e n hb hx=>?_,λb o e n hb hx=>?_,λb o e n hx=>?_,λb o e hx=>?_,λb xs e=>tups b xs (I.base.tups b xs e),λb o xs e=>eo b o xs (I.base.eo b o xs e),λb ps e=>?_,λb xs o e q=>et b xs o (I.base.tups b xs e) (I.base.et b xs o e q)⟩,?_,λx c e=>?_,?_,λx c e=>?_,λp hp=>?_,ae,I.len⟩
 ·exact keep b o (vj b o e) hb (mS b o e hx) (I.base.keep b o e n hb hx) (I.base.free b o e n hx)
 ·obtain⟨sl,e1⟩:=I.base.slot b o e n hb hx;obtain⟨Db,e2⟩:=slot b _ (vj b o e) hb (mS b o e hx) e1 (I.base.free b o e n hx);exact⟨Db,e2⟩
 ·obtain⟨o',e1⟩:=I.base.there b o e hx;exact free b o' (mS b o e hx) e1 (I.base.free b o e n hx)
 ·obtain⟨o',e1⟩:=I.base.there b o e hx;exact there b o' (mS b o e hx) e1
 ·obtain⟨m1,e1⟩:=I.base.er b ps e;obtain⟨m2,e2⟩:=er b _ e1;exact⟨m1++m2,by rw[e2,Array.append_assoc]⟩
 ·obtain⟨m,hn,hl⟩:=I.bL;refine⟨m,ns m hn,λi x v e1 e2 e3=>?_⟩;obtain⟨u,r,l⟩:=hl i x v e1 e2 e3;refine⟨u,r,?_⟩;rcases l with l |⟨k,c,e,z⟩
  ·exact .inl l
  ·exact .inr ⟨k,c,e,vk x c e _ z⟩
 ·obtain⟨v,z⟩:=I.cell x c e;exact⟨v,vk x c e v z⟩
 ·obtain⟨m,⟨o,_,_,ho,_⟩,_⟩:=I.bL;exact free _ o (λz=>(e7 _ z).2.1 rfl) ho I.free
 ·obtain⟨v,o,ho,hd⟩:=I.cell x c e;exact free c o (λz=>(e7 c z).2.2.1 x c e rfl) ho (I.dV x c e)
 ·obtain⟨e,n,ne,nf,d⟩:=I.cA p hp;have ib:p.1 ∉ ch:=λz=>(e7 p.1 z).2.2.2 p hp rfl;exact⟨keep p.1 p.2 ne nf ib e n,free p.1 p.2 ib e n,ne,nf,d⟩
theorem ab.un {t':Nat} (I:ab X pins σ H s) (u:Un X.fs [] H H' s.heap h') (ae:aQ X.prog X.w H' h'):ab X pins σ H' { s with heap:=h',toks:=t' }:=by
 obtain⟨m,⟨o,es,ep,ho,r⟩,_⟩:=id I.bL;obtain⟨sl,hL⟩:=u.any ho I.free (by simp);exact I.dF (g':=s.gens) (d':=s.drawn) (ch:=[]) (λ_ z=>nomatch z) (λb o _ hb _ e n=>u.keep b o e n hb (by simp)) (λb o _ hb _ e n=>u.slot b o e n hb (by simp)) (λb o _ e n=>u.free b o e n (by simp)) (λb o _ e=>u.there b o e (by simp)) u.tups u.eo u.er u.et (λm' hm=>by
  obtain⟨o',e8,pZ,fS,r'⟩:=hm;rw[ho]at fS;cases fS;exact⟨_,e8,pZ,hL,r'⟩) ae I.bT
theorem ab.call {g':Array GenState}{t':Nat}{d':Drawn}{ch:List Addr} (I:ab X pins σ H s) (u:Un (dc X.stack) ch H H' s.heap h') (ae:aQ X.prog X.w H' h') (hg:AllBare g')
  (e7:∀b∈ch,(b∈X.ex\/X.s₀.heap.objs.size<=b)/\b≠X.env.locals/\(∀x c,X.env.cells.lookup x=some c->c≠b)/\∀p∈X.pn++pins,p.1≠b) :
  ab X pins σ H' { s with heap:=h',gens:=g',drawn:=d',toks:=t' }:=by
 obtain⟨m,⟨o,es,ep,ho,r⟩,_⟩:=id I.bL;obtain⟨sl,hL⟩:=u.any ho I.free λz=>(e7 _ z).2.1 rfl;exact I.dF (ch:=ch) e7 (λb o hL hb hc e n=>u.keep b o e n (λz=>(List.mem_cons.mp (I.jo b z)).elim hL hb) hc) (λb o _ _ hc e n=>u.any e n hc) (λb o hc e n=>u.free b o e n hc) (λb o hc e=>u.there b o e hc) u.tups u.eo u.er u.et (λm' hm=>by
  obtain⟨o',e8,pZ,fS,r'⟩:=hm;rw[ho]at fS;cases fS;exact⟨_,e8,pZ,hL,r'⟩) ae hg
theorem ab.dW {t':Nat}{it:Addr} (I:ab X pins σ H s) (k:∀ b o,b≠it->s.heap.get? b=some o->h'.get? b=some o) (hn:H it=none) (hL:it≠X.env.locals)
  (h1:it∈X.ex\/X.s₀.heap.objs.size<=it) (h2:∀x c,X.env.cells.lookup x=some c->c≠it) (h3:∀p∈X.pn++pins,p.1≠it):ab X pins σ H { s with heap:=h',toks:=t' }:=by
 have p0:∀b u,H b=some u->b≠it:=λb u e z=>by rw[z,hn]at e;cases e
 refine I.dF (g':=s.gens) (d':=s.drawn) (ch:=[it]) (λb hb=>?_) (λb o _ _ hc e _=>k b o (λz=>hc (by simp [z])) e) (λb o _ _ hc e _=>⟨o.slots,k b o (λz=>hc (by simp [z])) e⟩) (λ_ _ _ _ n=>n)
  (λb o hc e=>⟨o,k b o (λz=>hc (by simp [z])) e⟩) (λ_ _ e=>e) (λ_ _ _ e=>e) (λb ps e=>⟨#[],by rw[e];simp⟩) (λb xs o q e=>k b o (p0 b _ q) e) (λm hm=>?_) (λb u e=>?_) I.bT
 ·have e:b=it:=by simpa using hb
  subst e;exact⟨h1,hL,h2,h3⟩
 ·obtain⟨o,es,ep,ho,r⟩:=hm;exact⟨o,es,ep,k _ o (abx hL) ho,r⟩
 ·refine (I.ae b u e).el (λc v hc q=>k c v ?_ q) (λ_ q=>q) λ_ _ q=>q;rcases hc with z |z
  ·rw[z];exact p0 b u e
  ·exact p0 c _ z
theorem ab.bx (I:ab X pins σ H s) (t:Nat):ab X pins σ H { s with toks:=t }:=I.un (h':=s.heap) (t':=t) Un.refl I.ae
theorem ab.bD {t':Nat} (I:ab X pins σ H s) (k:∀b u,s.heap.get? b=some u->h'.get? b=some u):ab X pins σ H { s with heap:=h',toks:=t' }:=I.un (Un.bD k) (I.ae.bD k)
theorem ab.laid {a:Addr}{o:HO}{t':Nat} (I:ab X pins σ H s) (k:∀ b u,s.heap.get? b=some u->h'.get? b=some u) (hp:s.heap.objs.size<=a) (new:bk X.prog X.w (ag H a o) h' a o) :
  ab X pins σ (ag H a o) { s with heap:=h',toks:=t' }:=I.un (Un.laid k hp (I.ae.fresh hp)) (I.ae.laid k hp new)
theorem ab.fQ {x e:Addr}{o:HO}{t':Nat} (I:ab X pins σ H s) (mu:kr (H x)) (he:e=x\/H e=some (.own x)) (k:∀ b u,b≠e->s.heap.get? b=some u->h'.get? b=some u) (jl:∃ u,h'.get? e=some u)
  (new:bk X.prog X.w (ag H x o) h' x o):ab X pins σ (ag H x o) { s with heap:=h',toks:=t' }:=I.un (Un.fQ mu he k jl) (I.ae.fQ mu he k jl new)
theorem ab.Dg {σ':List (Option V)} (I:ab X pins σ H s) (hl:σ'.length=σ.length) (w:∀(i:Nat) v,σ'[i]?=some (some v)->σ[i]?=some (some v)):ab X pins σ' H s:=
 ⟨I.ok,I.os,I.bT,I.base,let ⟨m,hn,bn⟩:=I.bL;⟨m,hn,λi x v e1 e2 e3=>bn i x v e1 (w i v e2) e3⟩,I.cell,I.free,I.dV,I.cA,I.ae,hl.trans I.len⟩
theorem ab.kx {vm:List (Addr×Obj)} (I:ab X pins σ H s) (h:∀p∈vm,s.heap.get? p.1=some p.2/\H p.1=none/\p.1≠X.env.locals/\p.1 ∉ X.fs/\∀v,p.2.data≠.cell v):ab X vm σ H s:=
 ⟨I.ok,I.os,I.bT,I.base,I.bL,I.cell,I.free,I.dV,λp hp=>(List.mem_append.mp hp).elim (λz=>I.cA p (List.mem_append_left _ z)) (h p),I.ae,I.len⟩
theorem vn {N:List Str} (hN:N.Nodup) {i j:Nat}{x:Str} (a:N[i]?=some x) (b:N[j]?=some x):i=j:=by
 obtain⟨h1,e1⟩:=List.getElem?_eq_some_iff.mp a;obtain⟨h2,e2⟩:=List.getElem?_eq_some_iff.mp b;exact (List.getElem_inj hN).mp (e1.trans e2.symm)
theorem Dh {M:Model}{A:Around}{E:Value->Shared->Prop}{i:Nat}{x:Str}{v:V}{u:Value}{Q:Unit->Shared->Prop} (I:ab X pins σ H s) (hN:X.N.Nodup) (hi:X.N[i]?=some x) (hx:dS X.env.scope x) (r:av v u)
  (h:∀s',ab X pins (σ.set i (some v)) H s'->(∃a,ab2 a s.heap s'.heap/\(a=X.env.locals\/X.env.cells.lookup x=some a))->Q () s') (hf:X.fn x=true\/X.env.scope.names.lookup x=some .local:=by first |exact .inl rfl |exact .inr rfl |assumption):wpAny M A (storeName X.env x u) Q E s:=by
 obtain⟨m,hn,hl⟩:=id I.bL;have Di:(X.env.scope.kind == .class ||(X.env.scope.kind == .module && X.env.locals != X.env.globals))=false:=by rw[I.ok.kind];rfl
 have hiσ:i < σ.length:=by rw[I.len];exact (List.getElem?_eq_some_iff.mp hi).1
 have ia:=I.ia;have vo:∀{a:Addr}{h':Heap},(∃o,s.heap.get? a=some o/\H a=none)->ab2 a s.heap h'->aQ X.prog X.w H h':=λ{a h'} ha hs b ob e=>by
  obtain⟨_,_,vp⟩:=ha;refine (I.ae b ob e).el (λc w' hc q=>(hs.2 c ?_).trans q) (λ_ q=>q) λ_ _ q=>q;rintro rfl;rcases hc with rfl |hc
  ·rw[vp]at e;cases e
  ·rw[vp]at hc;cases hc
 rcases hx with hk |hk
 ·refine wpAny_storeName_local hk hn (λh' Dj hs=>?_) Di;obtain⟨Zk,_,_,fT,_⟩:=id hn;refine h _ ⟨I.ok,I.os,I.bT,⟨λb o e n hb hx=>?_,λb o e n hb hx=>?_,I.base.free,λb o e hx=>?_,I.base.tups,I.base.eo,I.base.er,λb xs o q e=>(hs.2 b (aaL (aaM (aaJ e) I.ok.above))).trans (I.base.et b xs o q e)⟩,⟨_,Dj,λj y v' e1 e2 e3=>?_⟩,λy c e=>?_,I.free,I.dV,λp hp=>?_,vo ⟨Zk,fT,I.free⟩ hs,by simpa using I.len⟩ ⟨_,hs,.inl rfl⟩
  ·exact (hs.2 b (aaL (aaM (aaJ e) I.ok.above))).trans (I.base.keep b o e n hb hx)
  ·obtain⟨sl,e1⟩:=I.base.slot b o e n hb hx;exact⟨sl,(hs.2 b (aaL (aaM (aaJ e) I.ok.above))).trans e1⟩
  ·obtain⟨o',e1⟩:=I.base.there b o e hx;exact⟨o',(hs.2 b (aaL (aaM (aaJ e) I.ok.above))).trans e1⟩
  ·by_cases hj:j=i
   ·subst hj;rw[hi]at e1;cases e1;rw[List.getElem?_set_self hiσ]at e2;cases e2;exact⟨u,r,.inl ⟨hk,by simp⟩⟩
   ·rw[List.getElem?_set_ne (abx hj)]at e2;obtain⟨u',r',q⟩:=hl j y v' e1 e2 e3;refine⟨u',r',?_⟩;rcases q with ⟨k,e⟩ |⟨k,c,e,z⟩
    ·refine .inl ⟨k,?_⟩;have:y≠x:=λe=>hj (vn hN e1 (e ▸ hi));simp [this,e]
    ·exact .inr ⟨k,c,e,z.sameBut hs (ia y c e)⟩
  ·obtain⟨w',z⟩:=I.cell y c e;exact⟨w',z.sameBut hs (ia y c e)⟩
  ·obtain⟨e,n,ne,nf,d⟩:=I.cA p hp;exact⟨(hs.2 p.1 ne).trans e,n,ne,nf,d⟩
 ·have mT:X.fn x=true:=by
   rcases hf with z |z
   ·exact z
   ·rw[z]at hk;cases hk
  obtain⟨c,hc⟩:=I.ok.has x (.inl hk);obtain⟨w',z⟩:=I.cell x c hc;refine wpAny_storeName_cell I.ok.kind hk hc z (λh' cN hs=>?_);obtain⟨oc,vq,Dk⟩:=id z;refine h { s with heap:=h' } ⟨I.ok,I.os,I.bT,⟨λb o e n hb hx=>?_,λb o e n hb hx=>?_,I.base.free,λb o e hx=>?_,I.base.tups,I.base.eo,I.base.er,λb xs o q e=>(hs.2 b (aaL (aaM (aaJ e) (I.ok.jn x c mT hc)))).trans (I.base.et b xs o q e)⟩,⟨m,hn.sameBut hs (abx (ia x c hc)),λj y v' e1 e2 e3=>?_⟩,λy c' e=>?_,I.free,I.dV,λp hp=>?_,vo ⟨oc,vq,I.dV x c hc⟩ hs,by simpa using I.len⟩ ⟨c,hs,.inr hc⟩
  ·exact (hs.2 b (aaL (aaM (aaJ e) (I.ok.jn x c mT hc)))).trans (I.base.keep b o e n hb hx)
  ·obtain⟨sl,e1⟩:=I.base.slot b o e n hb hx;exact⟨sl,(hs.2 b (aaL (aaM (aaJ e) (I.ok.jn x c mT hc)))).trans e1⟩
  ·obtain⟨o',e1⟩:=I.base.there b o e hx;exact⟨o',(hs.2 b (aaL (aaM (aaJ e) (I.ok.jn x c mT hc)))).trans e1⟩
  ·by_cases hj:j=i
   ·subst hj;rw[hi]at e1;cases e1;rw[List.getElem?_set_self hiσ]at e2;cases e2;exact⟨u,r,.inr ⟨.inl hk,c,hc,cN⟩⟩
   ·rw[List.getElem?_set_ne (abx hj)]at e2;obtain⟨u',r',q⟩:=hl j y v' e1 e2 e3;refine⟨u',r',?_⟩;rcases q with q |⟨k,c',e,z'⟩
    ·exact .inl q
    ·refine .inr ⟨k,c',e,z'.sameBut hs ?_⟩;rintro rfl;exact hj (vn hN e1 (I.ok.inj _ _ _ e hc ▸ hi))
  ·by_cases hcc:c'=c
   ·subst hcc;exact⟨_,cN⟩
   ·obtain⟨w2,z2⟩:=I.cell y c' e;exact⟨w2,z2.sameBut hs hcc⟩
  ·obtain⟨e,n,ne,nf,d⟩:=I.cA p hp;refine⟨(hs.2 p.1 ?_).trans e,n,ne,nf,d⟩;intro q;rw[q,vq]at e;have q':oc=p.2:=abe e;exact d w' (by rw[<- q'];exact Dk)
theorem p6 {M:Model}{A:Around}{E:Value->Shared->Prop}{i:Nat}{x:Str}{v:V}{u:Value}{Q:Unit->Shared->Prop} (I:ab X pins σ H s) (hN:X.N.Nodup) (hi:X.N[i]?=some x) (hx:dS X.env.scope x) (r:av v u)
  (h:∀s',ab X pins (σ.set i (some v)) H s'->Q () s') (hf:X.fn x=true\/X.env.scope.names.lookup x=some .local:=by first |exact .inl rfl |exact .inr rfl |assumption):wpAny M A (storeName X.env x u) Q E s:=
 Dh I hN hi hx r (λs' I' _=>h s' I') hf
theorem ab.Dl {s':Shared}{ch:List Addr} (I:ab X pins σ H s) (ho:s'.os=s.os) (u:Un (dc X.stack) ch H H' s.heap s'.heap) (ae:aQ X.prog X.w H' s'.heap) (hg:AllBare s'.gens)
  (e7:∀b∈ch,(b∈X.ex\/X.s₀.heap.objs.size<=b)/\b≠X.env.locals/\(∀x c,X.env.cells.lookup x=some c->c≠b)/\∀p∈X.pn++pins,p.1≠b):ab X pins σ H' s':=by
 obtain⟨h',g',d',t',o'⟩:=s';have e:o'=s.os:=ho;subst e;exact I.call (g':=g') (t':=t') (d':=d') u ae hg e7
end
abbrev XK:=Value->Option Addr->Hp->Prop
abbrev St:=List (Option V)
abbrev VK:=V->Hp->Prop
abbrev TE:=St->Hp->VK->Prop
abbrev TT:=St->Hp->(Bool->Hp->Prop)->Prop
abbrev TA:=St->Hp->(List V->Hp->Prop)->Prop
structure gB where
 nx:St->Hp->Prop
 rt:VK
 Xj:St->Hp->Prop:=λ_ _=>False
 ct:St->Hp->Prop:=λ_ _=>False
abbrev TS:=gB->St->Hp->Prop
def EP (X:Cx) (pins:List (Addr×Obj)) (σ:St) (Q:VK) (u:Value) (s':Shared):Prop:=∃v H',ab X pins σ H' s'/\av v u/\Q v H'
def TP (X:Cx) (pins:List (Addr×Obj)) (σ:St) (Q:Bool->Hp->Prop) (b:Bool) (s':Shared):Prop:=∃H',ab X pins σ H' s'/\Q b H'
def Zl (X:Cx) (pins:List (Addr×Obj)) (σ:St) (Q:List V->Hp->Prop) (us:List Value) (s':Shared):Prop:=∃vs H',ab X pins σ H' s'/\aq vs us/\Q vs H'
def SP (X:Cx) (pins:List (Addr×Obj)) (D:gB) (f:Flow) (s':Shared):Prop:=
 match f with
 |.next=>∃ σ' H',ab X pins σ' H' s'/\D.nx σ' H'
 |.brk=>∃ σ' H',ab X pins σ' H' s'/\D.Xj σ' H'
 |.cont=>∃ σ' H',ab X pins σ' H' s'/\D.ct σ' H'
 |.ret u=>∃v σ' H',ab X pins σ' H' s'/\av v u/\D.rt v H'
def PE (X:Cx) (e:Expr) (t:TE):Prop:=
 ∀(pins:List (Addr×Obj)) (s:Shared) (σ:St) (H:Hp) (Q:VK),ab X pins σ H s->t σ H Q->wpAny (model X.prog X.w) X.A (eval e X.env) (EP X pins σ Q) X.xe s
def PT (X:Cx) (e:Expr) (t:TT):Prop:=
 ∀(pins:List (Addr×Obj)) (s:Shared) (σ:St) (H:Hp) (Q:Bool->Hp->Prop),ab X pins σ H s->t σ H Q->wpAny (model X.prog X.w) X.A (isTrue e X.env (eval e X.env)) (TP X pins σ Q) X.xe s
def PW (X:Cx) (e:Expr) (t:TT):Prop:=
 ∀(e9:Sem Value) (pins:List (Addr×Obj)) (s:Shared) (σ:St) (H:Hp) (Q:Bool->Hp->Prop),ab X pins σ H s->t σ H Q->wpAny (model X.prog X.w) X.A (isTrue e X.env e9) (TP X pins σ Q) X.xe s
theorem PW.pt {X:Cx}{e:Expr}{t:TT} (h:PW X e t):PT X e t:=h _
def PA (X:Cx) (es:List Expr) (t:TA):Prop:=
 ∀(pos:Pos) (pins:List (Addr×Obj)) (s:Shared) (σ:St) (H:Hp) (Q:List V->Hp->Prop),ab X pins σ H s->t σ H Q->wpAny (model X.prog X.w) X.A (spliced (backTo pos (starEach es X.env))) (Zl X pins σ Q) X.xe s
def PS (X:Cx) (st:Stmt) (t:TS):Prop:=
 ∀(pins:List (Addr×Obj)) (s:Shared) (σ:St) (H:Hp) (D:gB),ab X pins σ H s->t D σ H->wpAny (model X.prog X.w) X.A (exec st X.env) (SP X pins D) X.xe s
def bP (X:Cx) (st:List Stmt) (t:TS):Prop:=
 ∀(pins:List (Addr×Obj)) (s:Shared) (σ:St) (H:Hp) (D:gB),ab X pins σ H s->t D σ H->wpAny (model X.prog X.w) X.A (execs st X.env) (SP X pins D) X.xe s
theorem ar {α:Type} {t:Sem α}{Q Q':α->Shared->Prop}{M:Model}{A:Around}{E:Value->Shared->Prop}{s:Shared} (h:wpAny M A t Q E s) (hQ:∀a s,Q a s->Q' a s):wpAny M A t Q' E s:=wpAny_mono h hQ λ_ _ x=>x
end L2
namespace L2
open PySem PySem.Spec PyProof.Rows
section
variable {X:Cx}
def vr (i:Nat):TE:=fun σ H Q=>∃v,σ[i]?=some (some v)/\Q v H
def tC (v:V):TE:=λ_ H Q=>Q v H
theorem Dm {i:Nat}{x:Str}{pos:Pos} (hN:X.N[i]?=some x) (hv:mO X.env.scope x) (hd:(x == ("__debug__" : Str))=false:=by decide) (cY:(x == ("__classdict__" : Str))=false:=by decide):PE X (.Name x pos) (vr i):=by
 intro pins s σ H Q I h;obtain⟨v,e,h⟩:=h;obtain⟨m,hn,hl⟩:=I.bL;obtain⟨u,r,l⟩:=hl i x v hN e hv;have fin:EP X pins σ Q u s:=⟨v,H,I,r,h⟩;rcases l with ⟨hk,hm⟩ |⟨hk,c,hc,jp⟩
 ·exact wpAny_Name (wpAny_loadName_local I.ok.kind hk hn hm fin) hd
 ·rcases hk with hk |hk
  ·exact wpAny_Name (wpAny_loadName_cell I.ok.kind hk hc jp fin) hd
  ·exact wpAny_Name (wpAny_loadName_free I.ok.kind hk hc jp fin cY) hd
theorem vt {i j pos}:PE X (.Constant (.int i) j pos) (tC (.int i)):=λ_ _ _ H _ I h=>wpAny_Constant_int ⟨.int i,H,I.bx _,⟨_,rfl⟩,h⟩
theorem Dn {b j pos}:PE X (.Constant (.bool b) j pos) (tC (.bl b)):=λ_ _ _ H _ I h=>Constant_bool ⟨.bl b,H,I,rfl,h⟩
theorem Dp {j pos}:PE X (.Constant .none j pos) (tC .af):=λ_ _ _ H _ I h=>Constant_none ⟨.af,H,I,rfl,h⟩
theorem Dq {x j pos}:PE X (.Constant (.str x) j pos) (tC (.str x)):=λ_ _ _ H _ I h=>Calls.Constant_str ⟨.str x,H,I.bx _,⟨_,rfl⟩,h⟩
def Gl (X:Cx) (x:Str):Prop:=X.env.kindOf x=some .globalImplicit
theorem ky {E:Value->Shared->Prop}{pins:List (Addr×Obj)}{s:Shared} {σ:St} {H:Hp}{x:Str}{u:Value}{pos:Pos}{Q:Value->Shared->Prop} (I:ab X pins σ H s) (hg:Gl X x) (hm:X.mg x=some u) (h:Q u s)
  (hd:(x == ("__debug__" : Str))=false:=by decide):wpAny (model X.prog X.w) X.A (eval (.Name x pos) X.env) Q E s:=
 Calls.Name_function_global I.ok.kind hg (Calls.loadGlobal_global (by rw[I.ok.eZ];exact I.b8.eZ.keeps I.Xj) hm h) hd
theorem fb {E:Value->Shared->Prop}{pins:List (Addr×Obj)}{s:Shared} {σ:St} {H:Hp}{x:Str}{u:Value}{pos:Pos}{Q:Value->Shared->Prop} (I:ab X pins σ H s) (hg:Gl X x) (hm:X.mg x=none) (hv:bootBuiltins x=some u) (h:Q u s)
  (hn:x≠"__name__":=by decide) (hd:(x == ("__debug__" : Str))=false:=by decide):wpAny (model X.prog X.w) X.A (eval (.Name x pos) X.env) Q E s:=by
 obtain⟨mb,h1,h2⟩:=I.b8.jm;exact Calls.Name_function_global I.ok.kind hg (Calls.loadGlobal_builtin (by rw[I.ok.eZ];exact I.b8.eZ.keeps I.Xj) hm (by rw[I.ok.jm];exact h1.keeps I.Xj) ((h2 x hn).trans hv) h) hd
theorem vv {x:Str}{v:V}{u:Value}{pos:Pos} (hg:Gl X x) (hm:X.mg x=some u) (r:av v u) (hd:(x == ("__debug__" : Str))=false:=by decide):PE X (.Name x pos) (tC v):=
 λ_ _ _ H _ I h=>ky I hg hm ⟨v,H,I,r,h⟩ hd
theorem p7 {x:Str}{v:V}{u:Value}{pos:Pos} (hg:Gl X x) (hm:X.mg x=none) (hv:bootBuiltins x=some u) (r:av v u) (hn:x≠"__name__":=by decide) (hd:(x == ("__debug__" : Str))=false:=by decide):PE X (.Name x pos) (tC v):=
 λ_ _ _ H _ I h=>fb I hg hm hv ⟨v,H,I,r,h⟩ hn hd
variable {a b:Expr}{ta tb:TE}{pos:Pos}
variable {tA mU:TT}{rest:List Expr}
def Dr (t u:TT):TT:=fun σ H Q=>t σ H λc H1=>if c=true then u σ H1 Q else Q false H1
def Du (t u:TT):TT:=fun σ H Q=>t σ H λc H1=>if c=true then Q true H1 else u σ H1 Q
def Dv (t:TT):TT:=fun σ H Q=>t σ H λc H1=>Q (!c) H1
theorem Dw (ha:PT X a tA):PW X (.BoolOp .And [a] pos) tA:=by
 intro wh pins s σ H Q I h;refine isTrue_and (ar (ha pins s σ H Q I h) λc s1 e=>?_);cases c with
 |true=>exact isTrue_and_nil e
 |false=>exact e
theorem Dx (ha:PT X a tA):PW X (.BoolOp .Or [a] pos) tA:=by
 intro wh pins s σ H Q I h;refine isTrue_or (ar (ha pins s σ H Q I h) λc s1 e=>?_);cases c with
 |false=>exact isTrue_or_nil e
 |true=>exact e
theorem Dy (ha:PT X a tA) (hb:PW X (.BoolOp .And (b::rest) pos) mU):PW X (.BoolOp .And (a::b::rest) pos) (Dr tA mU):=by
 intro wh pins s σ H Q I h;refine isTrue_and (ar (ha pins s σ H _ I h) λc s1 ⟨H1,I1,q1⟩=>?_);cases c with
 |true=>exact hb wh pins s1 σ H1 Q I1 q1
 |false=>exact⟨H1,I1,q1⟩
theorem Dz (ha:PT X a tA) (hb:PW X (.BoolOp .Or (b::rest) pos) mU):PW X (.BoolOp .Or (a::b::rest) pos) (Du tA mU):=by
 intro wh pins s σ H Q I h;refine isTrue_or (ar (ha pins s σ H _ I h) λc s1 ⟨H1,I1,q1⟩=>?_);cases c with
 |true=>exact⟨H1,I1,q1⟩
 |false=>exact hb wh pins s1 σ H1 Q I1 q1
theorem DB (ha:PT X a tA):PT X (.UnaryOp .Not a pos) (Dv tA):=by
 intro pins s σ H Q I h;exact isTrue_not (ha pins s σ H (λc H1=>Q (!c) H1) I h)
def DC (ta tb:TE):TE:=fun σ H Q=>ta σ H λx H1=>∃c,x=.bl c/\if c=true then tb σ H1 Q else Q (.bl false) H1
def DD (ta tb:TE):TE:=fun σ H Q=>ta σ H λx H1=>∃c,x=.bl c/\if c=true then Q (.bl true) H1 else tb σ H1 Q
def DG (ta:TE):TE:=fun σ H Q=>ta σ H λx H1=>∃c,x=.bl c/\Q (.bl (!c)) H1
theorem vw {op} {t:TE} (h:PE X a t):PE X (.BoolOp op [a] pos) t:=λpins s σ H Q I hw=>BoolOp_one (h pins s σ H Q I hw)
theorem DH (ha:PE X a ta) (hb:PE X (.BoolOp .And (b::rest) pos) tb):PE X (.BoolOp .And (a::b::rest) pos) (DC ta tb):=by
 intro pins s σ H Q I h;refine BoolOp_and (ar (ha pins s σ H _ I h) λv s1 ⟨x,H1,I1,r1,q1⟩=>?_);obtain⟨c,rfl,q1⟩:=q1;cases r1;refine ab8 ?_;cases c with
 |true=>exact hb pins s1 σ H1 Q I1 q1
 |false=>exact⟨.bl false,H1,I1,rfl,q1⟩
theorem DJ (ha:PE X a ta) (hb:PE X (.BoolOp .Or (b::rest) pos) tb):PE X (.BoolOp .Or (a::b::rest) pos) (DD ta tb):=by
 intro pins s σ H Q I h;refine BoolOp_or (ar (ha pins s σ H _ I h) λv s1 ⟨x,H1,I1,r1,q1⟩=>?_);obtain⟨c,rfl,q1⟩:=q1;cases r1;refine ab8 ?_;cases c with
 |false=>exact hb pins s1 σ H1 Q I1 q1
 |true=>exact⟨.bl true,H1,I1,rfl,q1⟩
theorem DL (ha:PE X a ta):PE X (.UnaryOp .Not a pos) (DG ta):=by
 intro pins s σ H Q I h;refine UnaryOp_ (ar (ha pins s σ H _ I h) λv s1 ⟨x,H1,I1,r1,q1⟩=>?_);obtain⟨c,rfl,q1⟩:=q1;cases r1;exact not_of (ab8 ⟨.bl (!c),H1,I1,rfl,q1⟩)
def DM (t:TT) (ta tb:TE):TE:=fun σ H Q=>t σ H λc H1=>if c=true then ta σ H1 Q else tb σ H1 Q
theorem DN {c:Expr} (hc:PT X c tA) (ha:PE X a ta) (hb:PE X b tb):PE X (.IfExp c a b pos) (DM tA ta tb):=by
 intro pins s σ H Q I h;refine wpAny_IfExp (ar (hc pins s σ H _ I h) λd s1 ⟨H1,I1,q1⟩=>?_);cases d with
 |true=>exact ha pins s1 σ H1 Q I1 q1
 |false=>exact hb pins s1 σ H1 Q I1 q1
end
end L2
namespace L2
open PySem PySem.Spec PyProof.Rows
def aT (K:PySem.W.Frag) (H:Hp) (a:Addr) (xs:List V):Prop:=
 Rd H a (.lst xs) \/
  ∃(o:Obj) (its:Array Value) (n:Nat),K.lookup a=some o/\o.cls=.type "list"/\o.dict=none/\o.data=.seq its n/\its.size<=sizeLine/\aq xs its.toList
def aI (K:PySem.W.Frag) (H:Hp) (a:Addr) (xs:List V):Prop:=
 Rd H a (.tup xs) \/
  ∃(o:Obj) (its:Array Value) (n:Nat),K.lookup a=some o/\o.cls=.type "tuple"/\o.data=.seq its n/\its.size<=sizeLine/\aq xs its.toList
noncomputable def DP:Value->Option V
 |.none=>some .af
 |.bool b=>some (.bl b)
 |.int i _=>some (.int i)
 |.str x _=>some (.str x)
 |.bytes b _=>some (.dt b)
 |.float b _=>some (.hZ b)
 |.ref a=>some (.ref a)
 |.type n=>some (.ty n)
 |_=>none
theorem av.vx {x:V}{u:Value} (r:av x u):DP u=some x:=by
 cases x with
 |af=>cases r;rfl
 |bl _=>cases r;rfl
 |int _=>obtain⟨t,rfl⟩:=r;rfl
 |str _=>obtain⟨t,rfl⟩:=r;rfl
 |dt _=>obtain⟨t,rfl⟩:=r;rfl
 |hZ _=>obtain⟨t,rfl⟩:=r;rfl
 |ref _=>cases r;rfl
 |ty _=>cases r;rfl
theorem av.inj {x y:V}{u:Value} (r:av x u) (q:av y u):x=y:=abe (r.vx.symm.trans q.vx)
theorem aq.inj:∀{xs ys:List V}{us:List Value},aq xs us->aq ys us->xs=ys
 |_,_,_,.nil,.nil=>rfl
 |_,_,_,.cons r t,.cons r' t'=>by rw[r.inj r',aq.inj t t']
section
variable {X:Cx}{pins:List (Addr×Obj)} {σ:St} {H:Hp}{s:Shared}{a:Addr}{xs ys:List V}
theorem aT.of {K:PySem.W.Frag} (h:H a=some (.lst xs)):aT K H a xs:=.inl (.inl h)
theorem aI.of {K:PySem.W.Frag} (h:H a=some (.tup xs)):aI K H a xs:=.inl (.inl h)
theorem ab.list (I:ab X pins σ H s) (h:aT X.K H a xs):∃its:List Value,aq xs its/\PlainL s.heap a its.toArray/\xs.length<=sizeLine:=by
 rcases h with h |⟨o,its,n,hk,hc,hd,hs,hz,r⟩
 ·obtain⟨z,its,n,r,e⟩:=h.ok I.ae;exact⟨its,r,⟨_,n,e,rfl,rfl,rfl⟩,z⟩
 ·refine⟨its.toList,r,⟨o,n,I.bt a o hk,hc,hd,by simpa using hs⟩,?_⟩;have e:=r.length;simp only[aaT]at e;lia
theorem ab.tuple (I:ab X pins σ H s) (h:aI X.K H a xs):∃its:List Value,aq xs its/\IsTup s.heap a its.toArray/\xs.length<=sizeLine:=by
 rcases h with h |⟨o,its,n,hk,hc,hs,hz,r⟩
 ·obtain⟨z,its,r,p⟩:=h.ok I.ae;exact⟨its,r,p,z.1⟩
 ·refine⟨its.toList,r,⟨o,I.bt a o hk,hc,n,by simpa using hs⟩,?_⟩;have e:=r.length;simp only[aaT]at e;lia
theorem ab.p8 (I:ab X pins σ H s) (h:aT X.K H a xs) (h':aT X.K H a ys):xs=ys:=by
 obtain⟨its,r,⟨o,n,e,_,_,d⟩,_⟩:=I.list h;obtain⟨its',r',⟨o',n',e',_,_,d'⟩,_⟩:=I.list h';rw[e]at e';cases e';rw[d]at d';injection d' with d1 _;have:its=its':=by simpa using congrArg Array.toList d1
 subst this;exact r.inj r'
theorem ab.p9 (I:ab X pins σ H s) (h:aI X.K H a xs) (h':aI X.K H a ys):xs=ys:=by
 obtain⟨its,r,⟨o,e,_,n,d⟩,_⟩:=I.tuple h;obtain⟨its',r',⟨o',e',_,n',d'⟩,_⟩:=I.tuple h';rw[e]at e';cases e';rw[d]at d';injection d' with d1 _;have:its=its':=by simpa using congrArg Array.toList d1
 subst this;exact r.inj r'
end
noncomputable abbrev Cx.eu (X:Cx) (E:Value->Shared->Prop):Cx:={ X with xe:=E }
noncomputable abbrev Cx.dG (X:Cx):Cx:=X.eu λ_ _=>False
theorem Cx.Ok.eu {X:Cx} (ok:X.Ok) (E:Value->Shared->Prop):(X.eu E).Ok:=
 ⟨ok.b8,ok.kind,ok.eZ,ok.jm,ok.above,ok.inj,ok.has,ok.jn,ok.hd,ok.frames,ok.mP,ok.vh,ok.bs,ok.e6,ok.ku,ok.mQ,ok.dU,ok.h9⟩
theorem Cx.Ok.fU {X:Cx}{E:Value->Shared->Prop} (ok:(X.eu E).Ok):X.Ok:=
 ⟨ok.b8,ok.kind,ok.eZ,ok.jm,ok.above,ok.inj,ok.has,ok.jn,ok.hd,ok.frames,ok.mP,ok.vh,ok.bs,ok.e6,ok.ku,ok.mQ,ok.dU,ok.h9⟩
section
variable {X:Cx}{pins:List (Addr×Obj)} {σ:St} {H:Hp}{s:Shared}{E:Value->Shared->Prop}
theorem ab.eu (I:ab X pins σ H s) (E:Value->Shared->Prop):ab (X.eu E) pins σ H s:=⟨I.ok.eu E,I.os,I.bT,I.base,I.bL,I.cell,I.free,I.dV,I.cA,I.ae,I.len⟩
theorem ab.fU (I:ab (X.eu E) pins σ H s):ab X pins σ H s:=⟨I.ok.fU,I.os,I.bT,I.base,I.bL,I.cell,I.free,I.dV,I.cA,I.ae,I.len⟩
theorem SP.fU {D:gB}{f:Flow}{s':Shared} (h:SP (X.eu E) pins D f s'):SP X pins D f s':=by
 cases f with
 |next=>obtain⟨σ',H',I,q⟩:=h;exact⟨σ',H',I.fU,q⟩
 |brk=>obtain⟨σ',H',I,q⟩:=h;exact⟨σ',H',I.fU,q⟩
 |cont=>obtain⟨σ',H',I,q⟩:=h;exact⟨σ',H',I.fU,q⟩
 |ret u=>obtain⟨v,σ',H',I,r,q⟩:=h;exact⟨v,σ',H',I.fU,r,q⟩
theorem PE.dG {e:Expr}{t:TE} (h:PE X.dG e t):PE X e t:=λpins s σ H Q I hw=>
 wpAny_mono (h pins s σ H Q (I.eu _) hw) (λ_ _ ⟨v,H',I',r,q⟩=>⟨v,H',I'.fU,r,q⟩) λ_ _ z=>abY z
theorem bP.dG {st:List Stmt}{t:TS} (h:bP X.dG st t):bP X st t:=λpins s σ H D I hw=>
 wpAny_mono (h pins s σ H D (I.eu _) hw) (λ_ _ q=>q.fU) λ_ _ z=>abY z
end
section
variable {X:Cx}{st:Stmt}{rest:List Stmt}{t u:TS}{e:Expr}{te:TE}{pos:Pos}
def DQ:TS:=λD σ H=>D.nx σ H
def DR (t u:TS):TS:=λD σ H=>t { D with nx:=u D } σ H
theorem DU:bP X [] DQ:=λ_ _ σ H _ I h=>wpAny_execs_nil ⟨σ,H,I,h⟩
theorem DV (h1:PS X st t) (h2:bP X rest u):bP X (st::rest) (DR t u):=by
 intro pins s σ H D I h;refine wpAny_execs_cons (ar (h1 pins s σ H { D with nx:=u D } I h) λf s1 q=>?_);cases f with
 |next=>
  obtain⟨σ',H',I',q⟩:=q;exact h2 pins s1 σ' H' D I' q
 |ret v=>exact q
 |brk=>exact q
 |cont=>exact q
theorem vy (h1:PS X st t):bP X [st] t:=by
 intro pins s σ H D I h;refine wpAny_execs_cons (ar (h1 pins s σ H D I h) λf s1 q=>?_);cases f with
 |next=>exact wpAny_execs_nil q
 |ret v=>exact q
 |brk=>exact q
 |cont=>exact q
theorem ab.DW {pins:List (Addr×Obj)} {σ:St} {H:Hp}{s:Shared} (I:ab X pins σ H s):interactive X.env=false:=by simp [interactive,I.ok.kind]
def DX (te:TE):TS:=λD σ H=>te σ H λ_ H1=>D.nx σ H1
theorem DY (he:PE X e te) (hs:swapsWith e none pos.line X.env=pure false:=by rfl):PS X (.Expr e pos) (DX te):=by
 intro pins s σ H D I h;exact wpAny_Expr_any (ar (he pins s σ H _ I h) λv s1 ⟨x,H1,I1,r1,q1⟩=>⟨σ,H1,I1,q1⟩) I.DW hs
def DZ (te:TE):TS:=λD σ H=>te σ H D.rt
theorem D0 (he:PE X e te):PS X (.Return (some e) pos) (DZ te):=by
 intro pins s σ H D I h;exact wpAny_Return_some (ar (he pins s σ H _ I h) λv s1 ⟨x,H1,I1,r1,q1⟩=>⟨x,σ,H1,I1,r1,q1⟩)
def D1 (c:TT) (t u:TS):TS:=λD σ H=>c σ H λb H1=>if b=true then t D σ H1 else u D σ H1
theorem D3 {c:Expr}{a b:List Stmt}{tc:TT} (hc:PT X c tc) (ha:bP X a t) (hb:bP X b u):PS X (.If c a b pos) (D1 tc t u):=by
 intro pins s σ H D I h;refine wpAny_If (ar (hc pins s σ H _ I h) λd s1 ⟨H1,I1,q1⟩=>?_);cases d with
 |true=>exact ha pins s1 σ H1 D I1 q1
 |false=>exact hb pins s1 σ H1 D I1 q1
end
abbrev TG:=V->St->Hp->(St->Hp->Prop)->Prop
abbrev fc:=List V->St->Hp->(St->Hp->Prop)->Prop
def PG (X:Cx) (target:Expr) (t:TG):Prop:=
 ∀(pins:List (Addr×Obj)) (s:Shared) (σ:St) (H:Hp) (v:V) (u:Value) (Q:St->Hp->Prop),ab X pins σ H s->av v u->t v σ H Q ->
  wpAny (model X.prog X.w) X.A (assign target X.env u) (λ_ s'=>∃ σ' H',ab X pins σ' H' s'/\Q σ' H') X.xe s
def jq (X:Cx) (ts:List Expr) (t:fc):Prop:=
 ∀(pins:List (Addr×Obj)) (s:Shared) (σ:St) (H:Hp) (vs:List V) (us:List Value) (Q:St->Hp->Prop),ab X pins σ H s->aq vs us->t vs σ H Q ->
  wpAny (model X.prog X.w) X.A (assignInOrder ((assignEach ts X.env).map (·.2)) us) (λ_ s'=>∃ σ' H',ab X pins σ' H' s'/\Q σ' H') X.xe s
abbrev kA:=V->V->V->Hp->(Hp->Prop)->Prop
def gC (X:Cx) (t:kA):Prop:=
 ∀(pins:List (Addr×Obj)) (s:Shared) (σ:St) (H:Hp) (o i v:V) (ov iv u:Value) (Q:Hp->Prop),ab X pins σ H s->av o ov->av i iv->av v u->t o i v H Q ->
  wpAny (model X.prog X.w) X.A (setItem ov iv u) (λ_ s'=>∃H',ab X pins σ H' s'/\Q H') X.xe s
section
variable {X:Cx}{pos:Pos}
def kB (i:Nat):TG:=λv σ H Q=>Q (σ.set i (some v)) H
theorem vz {i:Nat}{x:Str} (hN:X.N.Nodup) (hi:X.N[i]?=some x) (hx:dS X.env.scope x) (hf:X.fn x=true\/X.env.scope.names.lookup x=some .local:=by first |exact .inl rfl |exact .inr rfl |assumption):PG X (.Name x pos) (kB i):=by
 intro pins s σ H v u Q I r h;exact wpAny_assign_Name (p6 I hN hi hx r (λs' I'=>⟨_,H,I',h⟩) hf)
def vA:fc:=λvs σ H Q=>vs=[]/\Q σ H
def vB (t:TG) (u:fc):fc:=λvs σ H Q=>∃v r,vs=v::r/\t v σ H fun σ' H'=>u r σ' H' Q
theorem D4:jq X [] vA:=by
 intro pins s σ H vs us Q I r h;obtain⟨e,h⟩:=h;subst e;cases r;exact assignInOrder_nil ⟨σ,H,I,h⟩
theorem D5 {e:Expr}{es:List Expr}{t:TG}{u:fc} (h1:PG X e t) (h2:jq X es u)
  (hs:(assignEach (e::es) X.env).map (·.2)=assign e X.env::(assignEach es X.env).map (·.2):=by rfl):jq X (e::es) (vB t u):=by
 intro pins s σ H vs us Q I r h;obtain⟨v,aah,e1,h⟩:=h;subst e1;cases r with
 |cons r rr=>
  rw[hs];refine assignInOrder_cons (ar (h1 pins s σ H _ _ _ I r h) λ_ s1 ⟨σ1,H1,I1,q1⟩=>?_);exact h2 pins s1 σ1 H1 _ _ Q I1 rr q1
def vC (K:PySem.W.Frag) (n:Nat) (t:fc):TG:=λv σ H Q=>∃a xs,v=.ref a/\aI K H a xs/\xs.length=n/\t xs σ H Q
theorem D6 {es:List Expr}{k:Nat}{t:fc}{n:Nat} (hc:X.calm=true) (h:jq X es t)
  (hn:(assignEach es X.env).length=n:=by rfl) (fV:(assignEach es X.env).findIdx? (·.1)=none:=by rfl):PG X (.Tuple es k pos) (vC X.K n t):=by
 intro pins s σ H v u Q I r hw;obtain⟨a,xs,e1,hq,hl,hw⟩:=hw;subst e1;cases r;obtain⟨its,rv,ht,hz⟩:=I.tuple hq;refine assign_Tuple_tuple (I.ok.hd hc) ht (by simp [hn,<- hl,rv.length]) fV λh' hx=>?_;have I1:ab X pins σ H { s with heap:=h' }:=I.bD (t':=s.toks) λb o e=>hx b o (aaL (aaJ e)) e;exact h pins _ σ H xs _ Q I1 (by simpa using rv) hw
def D7 (to ti:TE) (t:kA):TG:=λv σ H Q=>to σ H λo H1=>ti σ H1 λi H2=>t o i v H2 λH3=>Q σ H3
theorem D8 {o i:Expr}{to ti:TE}{t:kA} (ho:PE X o to) (hi:PE X i ti) (hs:gC X t)
  (ha:∀v,assign (.Subscript o i pos) X.env v=(do
   let ov <- holding [v] (eval o X.env)
   let iv <- holding [v,ov] (eval i X.env)
   standAt pos
   holding [v,ov,iv] (setItem ov iv v)
   release [v,ov,iv] []):=by intro _;rfl):PG X (.Subscript o i pos) (D7 to ti t):=by
 intro pins s σ H v u Q I r h;rw[ha];refine aaC (abr (ar (ho pins s σ H _ I h) λov s1 ⟨x,H1,I1,r1,q1⟩=>?_));refine aaC (abr (ar (hi pins s1 σ H1 _ I1 q1) λiv s2 ⟨y,H2,I2,r2,q2⟩=>?_));refine aaC (wpAny_standAt (aaC (abr (ar (hs pins s2 σ H2 x y v ov iv u _ I2 r1 r2 r q2) λ_ s3 ⟨H3,I3,q3⟩=>?_))));exact wpAny_release ⟨σ,H3,I3,q3⟩
def p' (te:TE) (g:TG):TS:=λD σ H=>te σ H λx H1=>g x σ H1 D.nx
theorem qc {tg e:Expr}{te:TE}{g:TG} (he:PE X e te) (hg:PG X tg g) (hs:swapsWithSole [tg] e pos.line X.env=pure false:=by rfl) (hw:swappedStores [tg] e X.env=pure none:=by rfl)
  (h1:(assignEach [tg] X.env).map (·.2)=[assign tg X.env]:=by rfl):PS X (.Assign [tg] e pos) (p' te g):=by
 intro pins s σ H D I h;refine wpAny_Assign_stores (ar (he pins s σ H _ I h) λv s1 ⟨x,H1,I1,r1,q1⟩=>?_) hs hw;rw[h1];exact ar (hg pins s1 σ H1 x v _ I1 r1 q1) λ_ s2 q=>q
theorem D9 {i:Nat}{x:Str}{e:Expr}{te:TE}{ff:Pos} (hN:X.N.Nodup) (hi:X.N[i]?=some x) (hx:dS X.env.scope x) (he:PE X e te) (hs:swapsWith e (some (.Name x ff)) pos.line X.env=pure false:=by rfl) (hf:X.fn x=true\/X.env.scope.names.lookup x=some .local:=by first | exact .inl rfl | exact .inr rfl | assumption) :
  PS X (.Assign [.Name x ff] e pos) (p' te (kB i)):=by
 intro pins s σ H D I h;refine wpAny_Assign_Name (ar (he pins s σ H _ I h) λv s1 ⟨y,H1,I1,r1,q1⟩=>?_) hs;exact p6 I1 hN hi hx r1 (λs2 I2=>⟨_,H1,I2,q1⟩) hf
end
section
variable {X:Cx}{pos:Pos}
def Ea (c:TT) (tb:TS):TS:=λD σ H=>∃W:Nat->St->Hp->Prop,(∃m,W m σ H)/\∀m σ H,W m σ H ->
 c σ H λb H1=>if b=true then ∃N:St->Hp->Prop,(∀ σ' H',N σ' H'->∃m',m'<m/\W m' σ' H')/\tb { D with nx:=N,ct:=N,Xj:=D.nx } σ H1 else D.nx σ H1
theorem Eb {c:Expr}{body:List Stmt}{tc:TT}{tb:TS} (hp:PassesOwn (model X.prog X.w) X.A X.env X.xe) (hc:PT X c tc) (hb:bP X body tb):PS X (.While c body [] pos) (Ea tc tb):=by
 intro pins s σ H D I h;obtain⟨W,⟨m0,w0⟩,cu⟩:=h;refine wpAny_While (codeAny_whileLoop (λn s'=>∃ σ' H',ab X pins σ' H' s'/\W n σ' H') ?_ m0 ⟨σ,H,I,w0⟩);rintro n s1 ⟨σ1,H1,I1,w1⟩;refine acm hp (ar (hc pins s1 σ1 H1 _ I1 (cu n σ1 H1 w1)) λb s2 ⟨H2,I2,q2⟩=>?_);cases b with
 |true=>
  obtain⟨N,hN,q2⟩:=q2;rw[if_pos rfl];refine acm hp (ar (hb pins s2 σ1 H2 _ I2 q2) λf s3 q3=>?_);cases f with
  |next=>
   obtain⟨σ3,H3,I3,n3⟩:=q3;obtain⟨m',hm,w3⟩:=hN σ3 H3 n3;exact⟨m',hm,σ3,H3,I3,w3⟩
  |cont=>
   obtain⟨σ3,H3,I3,n3⟩:=q3;obtain⟨m',hm,w3⟩:=hN σ3 H3 n3;exact⟨m',hm,σ3,H3,I3,w3⟩
  |brk=>exact q3
  |ret v=>exact q3
 |false=>
  rw[if_neg aaQ];exact wpAny_execs_nil ⟨σ1,H2,I2,q2⟩
end
structure It where
 go:Nat->Hp->Prop
 mV:Nat->Hp->V->Hp->Prop
 stop:Nat->Hp->Prop
def ew (X:Cx) (pins:List (Addr×Obj)) (H:Hp) (b:Addr):Prop:=
 H b=none/\b≠X.env.locals/\b ∉ X.fs/\(b∈X.ex\/X.s₀.heap.objs.size<=b)/\(∀x c,X.env.cells.lookup x=some c->c≠b)/\∀p∈X.pn++pins,p.1≠b
theorem ab.kC {X:Cx}{pins:List (Addr×Obj)} {σ:St} {H H':Hp}{s:Shared}{b:Addr} (I:ab X pins σ H s) (hb:s.heap.objs.size<=b) (hn:H' b=none):ew X pins H' b:=by
 refine⟨hn,abh (aaM I.lt hb),I.mR hb,.inr (aaZ I.sz hb),λx c e z=>?_,λp hp z=>?_⟩
 ·obtain⟨v,q⟩:=I.cell x c e;exact absurd (aaM q.lt (by rw[z];exact hb)) (abT _)
 ·exact absurd (aaM (aaJ (I.cA p hp).1) (by rw[z];exact hb)) (abT _)
structure gD (P:Program) (w:World) (K:PySem.W.Frag) (tg:Expr) (J:It) (fp:List Addr) (it:Addr) (tn:Nat->Heap->Prop):Prop where
 mem:it∈fp
 obj:∀i h,tn i h->∀b∈fp,∃o,h.get? b=some o/\∀v,o.data≠.cell v
 keep:∀i h h',tn i h->(∀b∈fp,∀o,h.get? b=some o->h'.get? b=some o)->tn i h'
 item:∀(X:Cx),X.prog=P->X.w=w->X.K=K->X.calm=true->∀(i:Nat) (pins:List (Addr×Obj)) (s:Shared) (σ:St) (H:Hp) (E:Value->Shared->Prop),ab X pins σ H s->(∀b∈fp,ew X pins H b)->tn i s.heap->J.go i H ->
  wpAny (model P w) X.A (pyNext (.ref it)) (λr s1=>∃u,r=some u /\
   wpAny (model P w) X.A (letOwnedTupleGo tg (.ref it) u) (λ_ s2=>∃x H',ab X pins σ H' s2/\av x u/\J.mV i H x H'/\tn (i+1) s2.heap/\∀b∈fp,H' b=none) E s1) E s
 done:∀(X:Cx),X.prog=P->X.w=w->X.K=K->X.calm=true->∀(i:Nat) (pins:List (Addr×Obj)) (s:Shared) (σ:St) (H:Hp) (E:Value->Shared->Prop),ab X pins σ H s->(∀b∈fp,ew X pins H b)->tn i s.heap->J.stop i H ->
  wpAny (model P w) X.A (pyNext (.ref it)) (λr s1=>r=none/\ab X pins σ H s1) E s
 self:∀(A:Around) (i:Nat) (s:Shared) (Q:Value->Shared->Prop) (E:Value->Shared->Prop),tn i s.heap->Q (.ref it) s->wpAny (model P w) A (pyIter (.ref it)) Q E s
abbrev TI:=St->Hp->(It->Hp->Prop)->Prop
def vD (X:Cx) (pins:List (Addr×Obj)) (σ:St) (tg:Expr) (R:It->Hp->Prop) (mW:Value) (s2:Shared):Prop:=
 ∃(it:Addr) (fp:List Addr) (tn:Nat->Heap->Prop) (J:It) (H':Hp),mW=.ref it/\ab X pins σ H' s2/\gD X.prog X.w X.K tg J fp it tn/\tn 0 s2.heap/\(∀b∈fp,ew X pins H' b)/\R J H'
def PI (X:Cx) (tg iter:Expr) (wi:TI):Prop:=
 ∀(pins:List (Addr×Obj)) (s:Shared) (σ:St) (H:Hp) (R:It->Hp->Prop),ab X pins σ H s->wi σ H R ->
  wpAny (model X.prog X.w) X.A (eval iter X.env) (λv s1=>wpAny (model X.prog X.w) X.A (pyIter v) (vD X pins σ tg R) X.xe s1) X.xe s
theorem kE {M:Model}{A:Around}{E:Value->Shared->Prop}{s:Shared}{tg:Expr}{it:Addr}{u:Value}{o:Obj}{n:String}{vs:Array Value}{Q:Unit->Shared->Prop} (ho:s.heap.get? it=some o) (hc:o.cls=.type n) (hd:o.data=.fields vs)
    (hn:["enumerate","zip","dict_itemiterator","dict_reverseitemiterator","odict_iterator","itertools.zip_longest","itertools.pairwise"].contains n=false) (hQ:Q () s):wpAny M A (letOwnedTupleGo tg (.ref it) u) Q E s:=by
  unfold letOwnedTupleGo;cases tg <;> first
    |exact aaE hQ
    | (cases u <;> first
        |exact aaE hQ
        | (refine aaC (wpAny_load ho ?_)
           rw[hc,hd];show wpAny M A (if (["enumerate","zip","dict_itemiterator","dict_reverseitemiterator","odict_iterator","itertools.zip_longest","itertools.pairwise"].contains n && vs[0]? == some (rawInt _))=true then _ else _) Q E s
           rw[if_neg (by intro h;rw[hn,Bool.false_and]at h;cases h)];exact aaE hQ))
noncomputable def qe (K:PySem.W.Frag) (a:Addr):It:=
 ⟨λi H=>∃xs x,aT K H a xs/\xs[i]?=some x,λi H x H'=>H'=H/\∀xs,aT K H a xs->xs[i]?=some x,λi H=>∃xs,aT K H a xs/\xs.length<=i⟩
noncomputable def qf (K:PySem.W.Frag) (a:Addr):It:=
 ⟨λi H=>∃xs x,aI K H a xs/\xs[i]?=some x,λi H x H'=>H'=H/\∀xs,aI K H a xs->xs[i]?=some x,λi H=>∃xs,aI K H a xs/\xs.length<=i⟩
noncomputable def mX (lo:Int) (n:Nat):It:=⟨λi _=>i<n,λi H x H'=>H'=H/\x=.int (lo+i),λi _=>n<=i⟩
theorem Ec {P:Program}{w:World}{K:PySem.W.Frag}{tg:Expr} (a it:Addr):gD P w K tg (qe K a) [it] it (λi h=>h.IsListIter it a i) where
 mem:=by simp
 obj:=λi h st b hb=>by
  have e:b=it:=by simpa using hb
  subst e;obtain⟨o,e,c,d⟩:=st;exact⟨o,e,λv z=>by rw[d]at z;cases z⟩
 keep:=λi h h' st k=>st.at λo e=>k it (by simp) o e
 item:=by
  intro X hP hw hK hc i pins s σ H E I hf st hg;subst hP hw hK;obtain⟨xs,x,hq,hx⟩:=hg;obtain⟨its,rv,p,hz⟩:=I.list hq;obtain⟨u,hu,ru⟩:=rv.get hx;obtain⟨f0,f1,f2,f3,f4,f5⟩:=hf it (by simp);refine wpAny_pyNext_list_item st p.isList (x:=u) (by simpa using hu) λh' ce sb=>?_;have I1:ab X pins σ H { s with heap:=h' }:=I.dW (t':=s.toks) (λb o hb e=>(sb.2 b hb).trans e) f0 f1 f3 f4 f5;obtain⟨o,e,c,d⟩:=id ce;exact⟨u,rfl,kE (s:={ s with heap:=h' }) e c d (by decide) ⟨x,H,I1,ru,⟨rfl,λys hy=>by rw[I.p8 hy hq];exact hx⟩,ce,λb hb=>(hf b hb).1⟩⟩
 done:=by
  intro X hP hw hK hc i pins s σ H E I hf st hg;subst hP hw hK;obtain⟨xs,hq,hx⟩:=hg;obtain⟨its,rv,p,hz⟩:=I.list hq;obtain⟨f0,f1,f2,f3,f4,f5⟩:=hf it (by simp);have hl:=rv.length;exact wpAny_pyNext_list_end (I.ok.hd hc) st p.isList (by simp;lia) λh' eb=>⟨rfl,I.dW (t':=s.toks) (λb o hb e=>eb b o hb e) f0 f1 f3 f4 f5⟩
 self:=λ_ _ _ _ _ st h=>wpAny_pyIter_listiter st h
theorem Ed {P:Program}{w:World}{K:PySem.W.Frag}{tg:Expr} (a it:Addr):gD P w K tg (qf K a) [it] it (λi h=>h.IsTupleIter it a i) where
 mem:=by simp
 obj:=λi h st b hb=>by
  have e:b=it:=by simpa using hb
  subst e;obtain⟨o,e,c,d⟩:=st;exact⟨o,e,λv z=>by rw[d]at z;cases z⟩
 keep:=λi h h' st k=>st.at λo e=>k it (by simp) o e
 item:=by
  intro X hP hw hK hc i pins s σ H E I hf st hg;subst hP hw hK;obtain⟨xs,x,hq,hx⟩:=hg;obtain⟨its,rv,p,hz⟩:=I.tuple hq;obtain⟨u,hu,ru⟩:=rv.get hx;obtain⟨f0,f1,f2,f3,f4,f5⟩:=hf it (by simp);refine wpAny_pyNext_tuple_item st (show s.heap.IsTuple a its.toArray from p) (x:=u) (by simpa using hu) λh' ce sb=>?_;have I1:ab X pins σ H { s with heap:=h' }:=I.dW (t':=s.toks) (λb o hb e=>(sb.2 b hb).trans e) f0 f1 f3 f4 f5;obtain⟨o,e,c,d⟩:=id ce;exact⟨u,rfl,kE (s:={ s with heap:=h' }) e c d (by decide) ⟨x,H,I1,ru,⟨rfl,λys hy=>by rw[I.p9 hy hq];exact hx⟩,ce,λb hb=>(hf b hb).1⟩⟩
 done:=by
  intro X hP hw hK hc i pins s σ H E I hf st hg;subst hP hw hK;obtain⟨xs,hq,hx⟩:=hg;obtain⟨its,rv,p,hz⟩:=I.tuple hq;obtain⟨f0,f1,f2,f3,f4,f5⟩:=hf it (by simp);have hl:=rv.length;exact wpAny_pyNext_tuple_end (I.ok.hd hc) st (show s.heap.IsTuple a its.toArray from p) (by simp;lia) λh' eb=>⟨rfl,I.dW (t':=s.toks) (λb o hb e=>eb b o hb e) f0 f1 f3 f4 f5⟩
 self:=λ_ _ _ _ _ st h=>wpAny_pyIter_tupleiter st h
theorem Ee {P:Program}{w:World}{K:PySem.W.Frag}{tg:Expr} (it:Addr) (lo:Int) (n:Nat):gD P w K tg (mX lo n) [it] it (λi h=>IsRangeIter h it (lo+(i:Nat) * 1) ((n:Int)-(i:Nat)) 1) where
 mem:=by simp
 obj:=λi h st b hb=>by
  have e:b=it:=by simpa using hb
  subst e;exact⟨_,st,λv z=>by
   have z':Data.fields _=Data.cell v:=z;cases z'⟩
 keep:=λi h h' st k=>k it (by simp) _ st
 item:=by
  intro X hP hw hK hc i pins s σ H E I hf st hg;subst hP hw hK;obtain⟨f0,f1,f2,f3,f4,f5⟩:=hf it (by simp);have W:=Walks.range (prog:=X.prog) (w:=X.w) (I.ok.hd hc) it lo 1 n;refine W.item i s _ _ hg st λv h' tk hv ce kk=>?_;obtain⟨t,rfl⟩:=hv;have I1:ab X pins σ H { s with heap:=h',toks:=tk }:=I.dW (λb o hb e=>kk b o (by simpa using hb) e) f0 f1 f3 f4 f5;refine⟨_,rfl,kE (s:={ s with heap:=h',toks:=tk }) (n:="range_iterator") ce rfl rfl (by decide) ⟨.int (lo+i),H,I1,⟨t,?_⟩,⟨rfl,rfl⟩,ce,λb hb=>(hf b hb).1⟩⟩;rw[Int.mul_one]
 done:=by
  intro X hP hw hK hc i pins s σ H E I hf st hg;subst hP hw hK;obtain⟨f0,f1,f2,f3,f4,f5⟩:=hf it (by simp);exact wpAny_pyNext_range_end (I.ok.hd hc) st (by have:n<=i:=hg;lia) λh' eb=>⟨rfl,I.dW (t':=s.toks) (λb o hb e=>eb b o hb e) f0 f1 f3 f4 f5⟩
 self:=λ_ _ _ _ _ st h=>wpAny_pyIter_rangeiter st h
end L2
namespace L2
open PySem PySem.Spec PyProof.Rows
section
variable {X:Cx}{tg:Expr}
theorem Ef {pins:List (Addr×Obj)} {σ:St} {H:Hp}{s:Shared}{R:It->Hp->Prop}{E:Value->Shared->Prop}{lo hi:Int}{t u v:Tok}{tk:Nat} (I:ab X pins σ H s) (h1:-(2 ^ 62)<=lo) (h2:lo<2 ^ 62) (h3:-(2 ^ 62)<=hi) (h4:hi<2 ^ 62)
  (q:R (mX lo (hi-lo).toNat) H):wpAny (model X.prog X.w) X.A (pyIter (.ref s.heap.objs.size)) (vD X pins σ tg R) E { s with heap:=s.heap.push { cls:=.type "range",data:=.fields #[.int lo t,.int hi u,.int 1 v] },toks:=tk }:=by
 refine wpAny_pyIter_range (IsRange.new ..) (small_one h1 h2 h3 h4) ?_;have I1:ab X pins σ H { s with heap:=s.heap.push { cls:=.type "range",data:=.fields #[.int lo t,.int hi u,.int 1 v] },toks:=tk }:=I.bD λb o e=>aaD _ e;refine⟨(s.heap.push { cls:=.type "range",data:=.fields #[.int lo t,.int hi u,.int 1 v] }).objs.size,[(s.heap.push { cls:=.type "range",data:=.fields #[.int lo t,.int hi u,.int 1 v] }).objs.size],_,_,H,rfl,
  I1.bD (t':=tk) λb o e=>aaD _ e,Ee _ lo (hi-lo).toNat,?_,λb hb=>?_,q⟩
 ·have e1:lo+((0:Nat):Int) * 1=lo:=by simp
  have e2:(((hi-lo).toNat:Nat):Int)-((0:Nat):Int)=Builtin.Range.rangeSize lo hi 1:=by rw[rangeSize_one];split <;> lia
  show IsRangeIter _ _ (lo+((0:Nat):Int) * 1) ((((hi-lo).toNat:Nat):Int)-((0:Nat):Int)) 1;rw[e1,e2];exact aaG _ rfl
 ·have e:b=(s.heap.push { cls:=.type "range",data:=.fields #[.int lo t,.int hi u,.int 1 v] }).objs.size:=by simpa using hb
  subst e;exact I1.kC (aaH _) (I1.ae.fresh (aaH _))
def vE (ta:TA):TI:=fun σ H R=>ta σ H λvs H1=>∃j:Int,vs=[.int j]/\-(2 ^ 62)<=j/\j<2 ^ 62/\R (mX 0 j.toNat) H1
theorem Eg {a:Expr}{ta:TA}{p pos:Pos} (hg:Gl X "range") (hm:X.mg "range"=none) (ha:PA X [a] ta) (hs:starEach [a] X.env=[(false,eval a X.env)]:=by rfl):PI X tg (.Call (.Name "range" p) [a] [] pos) (vE ta):=by
 intro pins s σ H R I h;refine Call_ (fb I hg hm boot_range (abu (ar (ha pos pins s σ H _ I h) λus s1 ⟨vs,H1,I1,r1,q1⟩=>?_) hs rfl));obtain⟨j,e,q1,q2,q⟩:=q1;subst e;cases r1 with
 |cons r rr=>
  cases rr;obtain⟨t,rfl⟩:=r;exact call_range_1 (Ef I1 (by lia) (by lia) q1 q2 (by simpa using q))
def Eh (wi:TI) (g:TG) (tb:TS):TS:=λD σ H=>wi σ H λJ H1=>∃W:Nat->Nat->St->Hp->Prop,(∃m,W 0 m σ H1)/\∀i m σ H,W i m σ H ->
 (J.stop i H/\D.nx σ H)\/(J.go i H/\∃N:St->Hp->Prop,(∀ σ' H',N σ' H'->∃m',m'<m/\W (i+1) m' σ' H')/\∀x H',J.mV i H x H'->g x σ H' fun σ2 H2=>tb { D with nx:=N,ct:=N,Xj:=D.nx } σ2 H2)
noncomputable def kF (fp:List Addr) (h:Heap):List (Addr×Obj):=fp.filterMap λb=>(h.get? b).map λo=>(b,o)
theorem mY {fp:List Addr}{h:Heap}{b:Addr}{o:Obj} (hb:b∈fp) (e:h.get? b=some o):(b,o)∈kF fp h:=List.mem_filterMap.mpr ⟨b,hb,by rw[e];rfl⟩
theorem Ei {fp:List Addr}{h:Heap}{p:Addr×Obj} (hp:p∈kF fp h):p.1∈fp/\h.get? p.1=some p.2:=by
 obtain⟨b,hb,e⟩:=List.mem_filterMap.mp hp;cases q:h.get? b with
 |none=>rw[q]at e;cases e
 |some o=>
  rw[q]at e;have e':(b,o)=p:=abe e;subst e';exact⟨hb,q⟩
theorem ab.vF {pins:List (Addr×Obj)} {σ:St} {H:Hp}{s:Shared}{fp:List Addr} (I:ab X pins σ H s) (hf:∀b∈fp,ew X pins H b) (ho:∀b∈fp,∃o,s.heap.get? b=some o/\∀v,o.data≠.cell v):ab X (pins++kF fp s.heap) σ H s:=
 I.kx λp hp=>(List.mem_append.mp hp).elim (λz=>I.cA p (aa3 _ z)) λz=>by
  obtain⟨hb,e⟩:=Ei z;obtain⟨f0,f1,f2,_⟩:=hf p.1 hb;obtain⟨o,e',d⟩:=ho p.1 hb;rw[e]at e';cases e';exact⟨e,f0,f1,f2,d⟩
theorem ab.mZ {pins pl:List (Addr×Obj)} {σ:St} {H:Hp}{s:Shared} (I:ab X (pins++pl) σ H s):ab X pins σ H s:=I.kx λp hp=>I.cA p (aa3 _ (List.mem_append_left _ hp))
theorem Ej {iter:Expr}{body:List Stmt}{wi:TI}{g:TG}{tb:TS}{pos:Pos} (hp:PassesOwn (model X.prog X.w) X.A X.env X.xe) (hc:X.calm=true) (hi:PI X tg iter wi) (hg:PG X tg g) (hb:bP X body tb)
  (hs:∀x,foldedSetIterable iter X.env x=pure x:=by intro _;rfl):PS X (.For tg iter body [] pos) (Eh wi g tb):=by
 intro pins s σ H D I h;refine wpAny_For (ar (hi pins s σ H _ I h) λv s1 h1=>ar h1 λmW s2 h2=>?_) hs;obtain⟨it,fp,tn,J,H2,e,I2,T,st2,f2,W,⟨m0,w0⟩,cu⟩:=h2;subst e
 -- vG VQ true of dE VR VS VT dE loop
 have ic:∀{H':Hp},(∀b∈fp,H' b=none)->∀b∈fp,ew X pins H' b:=λhn b hb=>⟨hn b hb,(f2 b hb).2⟩;refine codeAny_forLoop_any (λn s'=>∃i σ' H',ab X pins σ' H' s'/\tn i s'.heap/\(∀b∈fp,H' b=none)/\W i n σ' H') ?_ m0 ⟨0,σ,H2,I2,st2,λb hb=>(f2 b hb).1,w0⟩;rintro n s3 ⟨i,σ3,H3,I3,vH,vJ,w3⟩;rcases cu i n σ3 H3 w3 with ⟨stop,Zm⟩ |⟨go,N,hN,dF⟩
 ·refine acm hp (ar (T.done X rfl rfl rfl hc i pins s3 σ3 H3 X.xe I3 (ic vJ) vH stop) λr s4 ⟨hr,I4⟩=>?_);subst hr;exact wpAny_execs_nil ⟨σ3,H3,I4,Zm⟩
 ·refine acm hp (ar (T.item X rfl rfl rfl hc i pins s3 σ3 H3 X.xe I3 (ic vJ) vH go) λr s4 ⟨u,hr,h4⟩=>?_);subst hr;refine acm hp (ar h4 λ_ s5 ⟨x,H5,I5,r5,y5,ie,qg⟩=>?_);have qh:=I5.vF (ic qg) (T.obj _ _ ie);refine acm hp (ar (hg _ s5 σ3 H5 x u _ qh r5 (dF x H5 y5)) λ_ s6 ⟨σ6,H6,I6,q6⟩=>?_);refine acm hp (ar (hb _ s6 σ6 H6 _ I6 q6) λf s7 q7=>?_);have again:∀ {σ7:St} {H7:Hp},ab X (pins++kF fp s5.heap) σ7 H7 s7->N σ7 H7->∃ m,m<n/\∃ i σ' H',ab X pins σ' H' s7/\tn i s7.heap/\(∀ b∈fp,H' b=none)/\W i m σ' H':=λ{σ7 H7} I7 n7=>by
   obtain⟨m',hm,Zn⟩:=hN σ7 H7 n7;refine⟨m',hm,i+1,σ7,H7,I7.mZ,T.keep _ _ _ ie λb hb o e=>(I7.cA (b,o) (aa3 _ (aa3 _ (mY hb e)))).1,λb hb=>?_,Zn⟩;obtain⟨o,e,d⟩:=T.obj _ _ ie b hb;exact (I7.cA (b,o) (aa3 _ (aa3 _ (mY hb e)))).2.1
  cases f with
  |next=>obtain⟨σ7,H7,I7,n7⟩:=q7;exact again I7 n7
  |cont=>obtain⟨σ7,H7,I7,n7⟩:=q7;exact again I7 n7
  |brk=>obtain⟨σ7,H7,I7,q7⟩:=q7;exact⟨σ7,H7,I7.mZ,q7⟩
  |ret v=>obtain⟨Zo,σ7,H7,I7,r7,q7⟩:=q7;exact⟨Zo,σ7,H7,I7.mZ,r7,q7⟩
end
end L2
namespace L2
open PySem PySem.Spec PyProof.Rows
abbrev R2:=V->V->Hp->VK->Prop
def aA (X:Cx) (f:Value->Value->Sem Value) (r:R2):Prop:=
 ∀(pins:List (Addr×Obj)) (s:Shared) (σ:St) (H:Hp) (x y:V) (v u:Value) (Q:VK),ab X pins σ H s->av x v->av y u->r x y H Q ->
  wpAny (model X.prog X.w) X.A (f v u) (EP X pins σ Q) X.xe s
def qi (X:Cx) (f:Value->Sem Value) (r:V->Hp->VK->Prop):Prop:=
 ∀(pins:List (Addr×Obj)) (s:Shared) (σ:St) (H:Hp) (x:V) (v:Value) (Q:VK),ab X pins σ H s->av x v->r x H Q ->
  wpAny (model X.prog X.w) X.A (f v) (EP X pins σ Q) X.xe s
def bp (X:Cx) (f:Value) (r:List V->Hp->VK->Prop):Prop:=
 ∀(pins:List (Addr×Obj)) (s:Shared) (σ:St) (H:Hp) (xs:List V) (us:List Value) (Q:VK),ab X pins σ H s->aq xs us->r xs H Q ->
  wpAny (model X.prog X.w) X.A (call f us) (EP X pins σ Q) X.xe s
def Ek (X:Cx) (r:V->Hp->(Bool->Hp->Prop)->Prop):Prop:=
 ∀(pins:List (Addr×Obj)) (s:Shared) (σ:St) (H:Hp) (x:V) (v:Value) (Q:Bool->Hp->Prop),ab X pins σ H s->av x v->r x H Q ->
  wpAny (model X.prog X.w) X.A (truthy v) (TP X pins σ Q) X.xe s
def kG (r:R2) (ta tb:TE):TE:=fun σ H Q=>ta σ H λx H1=>tb σ H1 λy H2=>r x y H2 Q
def El (r:V->Hp->VK->Prop) (ta:TE):TE:=fun σ H Q=>ta σ H λx H1=>r x H1 Q
def rI (C:Int->Int->Prop) (g:Int->Int->V):R2:=λx y H Q=>∃i j,x=.int i/\y=.int j/\C i j/\Q (g i j) H
def ez (g:Int->Int->V):R2:=λx y H Q=>∃i j,x=.int i/\y=.int j/\Q (g i j) H
def YN (g:Int->V):V->Hp->VK->Prop:=λx H Q=>∃i,x=.int i/\Q (g i) H
section
variable {X:Cx}{a b c:Expr}{ta tb tc:TE}{pos:Pos}
theorem qj (ha:PE X a ta) (hb:PE X b tb) {pins:List (Addr×Obj)}{s:Shared} {σ:St} {H:Hp}{R:V->V->Hp->Prop} (I:ab X pins σ H s)
  (h:ta σ H λx H1=>tb σ H1 λy H2=>R x y H2) {Q:Value->Shared->Prop}{f:Value->Value->Sem Value}
  (hf:∀v u s2 x y H2,ab X pins σ H2 s2->av x v->av y u->R x y H2->wpAny (model X.prog X.w) X.A (f v u) Q X.xe s2) :
  wpAny (model X.prog X.w) X.A (eval a X.env) (λv s₁=>wpAny (model X.prog X.w) X.A (eval b X.env) (λu s₂=>wpAny (model X.prog X.w) X.A (f v u) Q X.xe s₂) X.xe s₁) X.xe s:=by
 refine ar (ha pins s σ H _ I h) λv s1 ⟨x,H1,I1,r1,q1⟩=>?_;refine ar (hb pins s1 σ H1 _ I1 q1) λu s2 ⟨y,H2,I2,r2,q2⟩=>?_;exact hf v u s2 x y H2 I2 r1 r2 q2
theorem Em {op:Operator}{r:R2} (ho:aA X (binaryOp op) r) (ha:PE X a ta) (hb:PE X b tb):PE X (.BinOp a op b pos) (kG r ta tb):=by
 intro pins s σ H Q I h;exact wpAny_BinOp (qj ha hb I h λv u s2 x y H2 I2 rx ry q=>ho pins s2 σ H2 x y v u Q I2 rx ry q)
theorem vK {op:UnaryOp}{r:V->Hp->VK->Prop} (ho:qi X (unaryOp op) r) (ha:PE X a ta):PE X (.UnaryOp op a pos) (El r ta):=by
 intro pins s σ H Q I h;exact UnaryOp_ (ar (ha pins s σ H _ I h) λv s1 ⟨x,H1,I1,r1,q1⟩=>ho pins s1 σ H1 x v Q I1 r1 q1)
theorem ig {f:Value->Value->Sem Value}{C:Int->Int->Prop}{g:Int->Int->Int}
  (rule:∀(i j:Int) (t u:Tok) (s:Shared) (Q:Value->Shared->Prop) (E:Value->Shared->Prop),C i j->Q (.int (g i j) s.toks) { s with toks:=s.toks+1 }->wpAny (model X.prog X.w) X.A (f (.int i t) (.int j u)) Q E s) :
  aA X f (rI C λi j=>.int (g i j)):=by
 intro pins s σ H x y v u Q I rx ry h;obtain⟨i,j,rfl,rfl,hc,q⟩:=h;obtain⟨t,rfl⟩:=rx;obtain⟨t',rfl⟩:=ry;exact rule i j t t' s _ _ hc ⟨.int (g i j),H,I.bx _,⟨_,rfl⟩,q⟩
theorem qk {f:Value->Value->Sem Value}{g:Int->Int->Int}
  (rule:∀(i j:Int) (t u:Tok) (s:Shared) (Q:Value->Shared->Prop) (E:Value->Shared->Prop),Q (.int (g i j) s.toks) { s with toks:=s.toks+1 }->wpAny (model X.prog X.w) X.A (f (.int i t) (.int j u)) Q E s) :
  aA X f (ez λi j=>.int (g i j)):=by
 intro pins s σ H x y v u Q I rx ry h;obtain⟨i,j,rfl,rfl,q⟩:=h;obtain⟨t,rfl⟩:=rx;obtain⟨t',rfl⟩:=ry;exact rule i j t t' s _ _ ⟨.int (g i j),H,I.bx _,⟨_,rfl⟩,q⟩
theorem m6 {f:Value->Value->Sem Value}{g:Int->Int->Bool}
  (rule:∀(i j:Int) (t u:Tok) (s:Shared) (Q:Value->Shared->Prop) (E:Value->Shared->Prop),Q (.bool (g i j)) s->wpAny (model X.prog X.w) X.A (f (.int i t) (.int j u)) Q E s) :
  aA X f (ez λi j=>.bl (g i j)):=by
 intro pins s σ H x y v u Q I rx ry h;obtain⟨i,j,rfl,rfl,q⟩:=h;obtain⟨t,rfl⟩:=rx;obtain⟨t',rfl⟩:=ry;exact rule i j t t' s _ _ ⟨.bl (g i j),H,I,rfl,q⟩
def m7 (i j:Int):Prop:=0<=j/\j<=1000000/\i.natAbs<2 ^ 64
def m8 (i j:Int):Prop:=(-(2 ^ 64)<i/\i<2 ^ 64)\/(-(2 ^ 64)<j/\j<2 ^ 64)
theorem m8.ok {i j:Int} (h:m8 i j):IntMulOk i j:=by
 rcases h with ⟨h1,h2⟩ |⟨h1,h2⟩
 ·exact .of_left (intBits_le_64 h1 h2)
 ·exact .of_right (intBits_le_64 h1 h2)
theorem Eo (k:Nat):(0:Int)<=2 ^ k:=by
 rw[two_pow_cast];exact Int.natCast_nonneg _
theorem Ep:aA X (binaryOp .Add) (ez λi j=>.int (i+j)):=qk λ_ _ _ _ _ _ _ q=>add_int q
theorem Er:aA X (binaryOp .Sub) (ez λi j=>.int (i-j)):=qk λ_ _ _ _ _ _ _ q=>sub_int q
theorem Es:aA X (binaryOp .Mult) (rI m8 λi j=>.int (i * j)):=ig λ_ _ _ _ _ _ _ hc q=>mul_int q hc.ok
theorem Et:aA X (binaryOp .Mod) (rI (λ_ j=>0<j) λi j=>.int (i % j)):=ig λi j _ _ _ _ _ hc q=>by
 have h1:(0:Int)<j:=hc;exact mod_int' (by lia) (by rw[Int.fmod_eq_emod_of_nonneg i (by lia)];exact q)
theorem Eu:aA X (binaryOp .Pow) (rI m7 λi j=>.int (i ^ j.toNat)):=ig λ_ _ _ _ _ _ _ hc q=>pow_int_small hc.1 hc.2.1 hc.2.2 q
theorem Ew:aA X (binaryOp .LShift) (rI m7 λi j=>.int (i * 2 ^ j.toNat)):=ig λ_ _ _ _ _ _ _ hc q=>lshift_int_small hc.1 hc.2.1 hc.2.2 q
theorem Ey:aA X (binaryOp .RShift) (rI (λ_ j=>0<=j) λi j=>.int (i / 2 ^ j.toNat)):=ig λi j _ _ _ _ _ hc q=>
 rshift_int hc (by rw[Int.fdiv_eq_ediv_of_nonneg i (Eo _)];exact q)
theorem Ez:aA X (binaryOp .BitAnd) (ez λi j=>.int (Builtin.bitAnd i j)):=qk λ_ _ _ _ _ _ _ q=>and_int q
theorem EA {f:Value->Sem Value}{g:Int->Int}
  (rule:∀(i:Int) (t:Tok) (s:Shared) (Q:Value->Shared->Prop) (E:Value->Shared->Prop),Q (.int (g i) s.toks) { s with toks:=s.toks+1 }->wpAny (model X.prog X.w) X.A (f (.int i t)) Q E s) :
  qi X f (YN λi=>.int (g i)):=by
 intro pins s σ H x v Q I rx h;obtain⟨i,rfl,q⟩:=h;obtain⟨t,rfl⟩:=rx;exact rule i t s _ _ ⟨.int (g i),H,I.bx _,⟨_,rfl⟩,q⟩
theorem vL:qi X (unaryOp .USub) (YN λi=>.int (-i)):=EA λ_ _ _ _ _ q=>neg_int q
end
noncomputable def m9:V->V->Bool
 |.af,.af=>true |.af,.int _=>true |.int _,.af=>true |.af,.bl _=>true |.bl _,.af=>true |.af,.str _=>true |.str _,.af=>true
 |.int _,.int _=>true |.bl _,.bl _=>true |.str _,.str _=>true |.dt _,.dt _=>true
 |.int _,.str _=>true |.str _,.int _=>true |.bl _,.str _=>true |.str _,.bl _=>true
 |_,_=>false
def ql:R2:=λx y H Q=>m9 x y=true/\Q (.bl (decide (x=y))) H
def qm:R2:=λx y H Q=>m9 x y=true/\Q (.bl (!decide (x=y))) H
theorem vM {i j:Int}:decide (V.int i=V.int j)=(i == j):=by
 rw[abd];simp
theorem vO {i j:Bool}:decide (V.bl i=V.bl j)=(i == j):=by
 rw[abd];simp
theorem vP {i j:Str}:decide (V.str i=V.str j)=(i == j):=by
 rw[abd];simp
theorem vQ {i j:Array UInt8}:decide (V.dt i=V.dt j)=(i.toList == j.toList):=by
 rw[abd];cases i;cases j;simp
section
variable {X:Cx}{a b c:Expr}{ta tb tc:TE}{pos:Pos}
theorem bq {pins:List (Addr×Obj)} {σ:St} {H:Hp}{s:Shared}{Q:VK}{k k':Bool} (I:ab X pins σ H s) (q:Q (.bl k) H) (e:k=k'):EP X pins σ Q (.bool k') s:=by
 subst e;exact⟨.bl k,H,I,rfl,q⟩
theorem kH:aA X (compareOp .Eq) ql:=by
 intro pins s σ H x y v u Q I rx ry h;obtain⟨hs,q⟩:=h;cases x with
 |af=>
  cases rx;cases y with
  |af=>cases ry;exact PySem.EqNone.eq_none_none (bq I q (by simp))
  |bl j=>cases ry;exact PySem.EqNone.eq_none_bool (bq I q (by simp))
  |int j=>obtain⟨t',rfl⟩:=ry;exact PySem.EqNone.eq_none_int (bq I q (by simp))
  |str j=>obtain⟨t',rfl⟩:=ry;exact PySem.EqNone.eq_none_str (bq I q (by simp))
  |_=>exact absurd (show false=true from hs) aaQ
 |bl i=>
  cases rx;cases y with
  |af=>cases ry;exact PySem.EqNone.eq_bool_none (bq I q (by simp))
  |bl j=>cases ry;exact eq_bool (bq I q vO)
  |str j=>obtain⟨t',rfl⟩:=ry;exact PySem.EqMixed.eq_bool_str (bq I q (by simp))
  |_=>exact absurd (show false=true from hs) aaQ
 |int i=>
  obtain⟨t,rfl⟩:=rx;cases y with
  |af=>cases ry;exact PySem.EqNone.eq_int_none (bq I q (by simp))
  |int j=>obtain⟨t',rfl⟩:=ry;exact eq_int (bq I q vM)
  |str j=>obtain⟨t',rfl⟩:=ry;exact PySem.EqMixed.eq_int_str (bq I q (by simp))
  |_=>exact absurd (show false=true from hs) aaQ
 |str i=>
  obtain⟨t,rfl⟩:=rx;cases y with
  |af=>cases ry;exact PySem.EqNone.eq_str_none (bq I q (by simp))
  |bl j=>cases ry;exact PySem.EqMixed.eq_str_bool (bq I q (by simp))
  |int j=>obtain⟨t',rfl⟩:=ry;exact PySem.EqMixed.eq_str_int (bq I q (by simp))
  |str j=>obtain⟨t',rfl⟩:=ry;exact eq_str (bq I q vP)
  |_=>exact absurd (show false=true from hs) aaQ
 |dt i=>
  obtain⟨t,rfl⟩:=rx;cases y with
  |dt j=>obtain⟨t',rfl⟩:=ry;exact PySem.W.eq_bytes (bq I q vQ)
  |_=>exact absurd (show false=true from hs) aaQ
 |_=>cases y <;> exact absurd (show false=true from hs) aaQ
theorem EB:aA X (compareOp .NotEq) qm:=by
 intro pins s σ H x y v u Q I rx ry h;obtain⟨hs,q⟩:=h;cases x with
 |af=>
  cases rx;cases y with
  |af=>cases ry;exact PySem.EqNone.ne_none_none (bq I q (by simp))
  |bl j=>cases ry;exact PySem.EqNone.ne_none_bool (bq I q (by simp))
  |int j=>obtain⟨t',rfl⟩:=ry;exact PySem.EqNone.ne_none_int (bq I q (by simp))
  |str j=>obtain⟨t',rfl⟩:=ry;exact PySem.EqNone.ne_none_str (bq I q (by simp))
  |_=>exact absurd (show false=true from hs) aaQ
 |bl i=>
  cases rx;cases y with
  |af=>cases ry;exact PySem.EqNone.ne_bool_none (bq I q (by simp))
  |bl j=>cases ry;exact ne_bool (bq I q (congrArg not vO))
  |str j=>obtain⟨t',rfl⟩:=ry;exact PySem.EqMixed.ne_bool_str (bq I q (by simp))
  |_=>exact absurd (show false=true from hs) aaQ
 |int i=>
  obtain⟨t,rfl⟩:=rx;cases y with
  |af=>cases ry;exact PySem.EqNone.ne_int_none (bq I q (by simp))
  |int j=>obtain⟨t',rfl⟩:=ry;exact ne_int (bq I q (congrArg not vM))
  |str j=>obtain⟨t',rfl⟩:=ry;exact PySem.EqMixed.ne_int_str (bq I q (by simp))
  |_=>exact absurd (show false=true from hs) aaQ
 |str i=>
  obtain⟨t,rfl⟩:=rx;cases y with
  |af=>cases ry;exact PySem.EqNone.ne_str_none (bq I q (by simp))
  |bl j=>cases ry;exact PySem.EqMixed.ne_str_bool (bq I q (by simp))
  |int j=>obtain⟨t',rfl⟩:=ry;exact PySem.EqMixed.ne_str_int (bq I q (by simp))
  |str j=>obtain⟨t',rfl⟩:=ry;exact ne_str (bq I q (congrArg not vP))
  |_=>exact absurd (show false=true from hs) aaQ
 |dt i=>
  obtain⟨t,rfl⟩:=rx;cases y with
  |dt j=>obtain⟨t',rfl⟩:=ry;exact PySem.W.ne_bytes (bq I q (congrArg not vQ))
  |_=>exact absurd (show false=true from hs) aaQ
 |_=>cases y <;> exact absurd (show false=true from hs) aaQ
theorem EC:aA X (compareOp .Lt) (ez λi j=>.bl (decide (i<j))):=m6 λ_ _ _ _ _ _ _ q=>lt_int q
theorem ED:aA X (compareOp .LtE) (ez λi j=>.bl (decide (i<=j))):=m6 λ_ _ _ _ _ _ _ q=>le_int q
theorem EE:aA X (compareOp .Gt) (ez λi j=>.bl (decide (j<i))):=m6 λ_ _ _ _ _ _ _ q=>gt_int q
theorem EF:aA X (compareOp .GtE) (ez λi j=>.bl (decide (j<=i))):=m6 λ_ _ _ _ _ _ _ q=>ge_int q
theorem EG:aA X (compareOp .Lt) (λx y H Q=>∃i j,x=.str i/\y=.str j/\Q (.bl (decide (i.cps.toList<j.cps.toList))) H):=by
 intro pins s σ H x y v u Q I rx ry h;obtain⟨i,j,rfl,rfl,q⟩:=h;obtain⟨t,rfl⟩:=rx;obtain⟨t',rfl⟩:=ry;exact lt_str (bq I q rfl)
theorem EH:aA X (compareOp .Is) (λx y H Q=>y=.af/\Q (.bl (decide (x=.af))) H):=by
 intro pins s σ H x y v u Q I rx ry h;obtain⟨rfl,q⟩:=h;cases ry;refine is_none_gen (bq I q ?_);cases x <;> first
  |(cases rx;rfl)
  |(obtain⟨t,rfl⟩:=rx;rfl)
theorem EI:aA X (compareOp .IsNot) (λx y H Q=>y=.af/\Q (.bl (!decide (x=.af))) H):=by
 intro pins s σ H x y v u Q I rx ry h;obtain⟨rfl,q⟩:=h;cases ry;refine isnot_none_gen (bq I q ?_);cases x <;> first
  |(cases rx;rfl)
  |(obtain⟨t,rfl⟩:=rx;rfl)
theorem aA.or {f:Value->Value->Sem Value}{r r':R2} (h:aA X f r) (h':aA X f r'):aA X f (λx y H Q=>r x y H Q\/r' x y H Q):=by
 intro pins s σ H x y v u Q I rx ry q;rcases q with q |q
 ·exact h pins s σ H x y v u Q I rx ry q
 ·exact h' pins s σ H x y v u Q I rx ry q
theorem EJ {op:CmpOp}{r:R2} (ho:aA X (compareOp op) r) (ha:PE X a ta) (hb:PE X b tb) (hm:behindInMarks op b=false):PE X (.Compare a [op] [b] pos) (kG r ta tb):=by
 intro pins s σ H Q I h;exact wpAny_Compare1 (qj ha hb I h λv u s2 x y H2 I2 rx ry q=>ho pins s2 σ H2 x y v u Q I2 rx ry q) hm
def EK (t:TE):TT:=fun σ H Q=>t σ H λx H'=>∃k,x=.bl k/\Q k H'
theorem vT {op:CmpOp}{r:R2} (ho:aA X (compareOp op) r) (ha:PE X a ta) (hb:PE X b tb) (hm:behindInMarks op b=false):PT X (.Compare a [op] [b] pos) (EK (kG r ta tb)):=by
 intro pins s σ H Q I h;refine wpAny_isTrue_Compare1 (ar (ha pins s σ H _ I h) λv s1 ⟨x,H1,I1,r1,q1⟩=>ar (hb pins s1 σ H1 _ I1 q1) λu s2 ⟨y,H2,I2,r2,q2⟩=>
  ar (ho pins s2 σ H2 x y v u _ I2 r1 r2 q2) λc s3 ⟨z,H3,I3,r3,k,e,q3⟩=>?_) hm
 subst e;cases r3;exact ab8 ⟨H3,I3,q3⟩
def qn (K:PySem.W.Frag) (x:V) (H:Hp) (k:Bool):Prop:=
 match x with
 |.af=>k=false
 |.bl b=>k=b
 |.int i=>k=(i != 0)
 |.str y=>y.length<=sizeLine/\k=((y.length:Int) != 0)
 |.dt y=>y.size<=sizeLine/\k=((y.size:Int) != 0)
 |.ref p=>(∃xs,aT K H p xs/\k=!xs.isEmpty)\/(∃xs,aI K H p xs/\k=!xs.isEmpty)\/∃kvs,H p=some (.dK kvs)/\k=!kvs.isEmpty
 |_=>False
theorem EL {κ:Type} {kvs:List (κ×V)}{vs:List (κ×Value)} (r:KV kvs vs):(!vs.isEmpty)=!kvs.isEmpty:=by
 cases r <;> rfl
theorem vU {xs:List V}{its:List Value} (r:aq xs its):(!its.toArray.isEmpty)=!xs.isEmpty:=by
 cases r <;> simp
theorem ij:(sizeLine:Nat)<2 ^ 63:=by rw[sizeLine_eq];decide
theorem EM:Ek X (λx H Q=>∃k,qn X.K x H k/\Q k H):=by
 intro pins s σ H x v Q I rx h;obtain⟨k,e,q⟩:=h;have hl:=ij;have hs:sizeLine=16777216:=sizeLine_eq;cases x with
 |af=>
  cases rx;have e':k=false:=e;subst e';exact truthy_none ⟨H,I,q⟩
 |bl b=>
  cases rx;have e':k=b:=e;subst e';exact ab8 ⟨H,I,q⟩
 |int i=>
  obtain⟨t,rfl⟩:=rx;have e':k=(i != 0):=e;subst e';exact PySem.P.truthy_int ⟨H,I,q⟩
 |str y=>
  obtain⟨t,rfl⟩:=rx;obtain⟨hy,e'⟩:y.length<=sizeLine/\k=((y.length:Int) != 0):=e;subst e';exact PySem.P.truthy_str (by lia) ⟨H,I.bx _,q⟩
 |dt y=>
  obtain⟨t,rfl⟩:=rx;obtain⟨hy,e'⟩:y.size<=sizeLine/\k=((y.size:Int) != 0):=e;subst e';exact PySem.W.truthy_bytes (by lia) ⟨H,I.bx _,q⟩
 |ref p=>
  cases rx;have e':(∃xs,aT X.K H p xs/\k=!xs.isEmpty)\/(∃xs,aI X.K H p xs/\k=!xs.isEmpty)\/∃kvs,H p=some (.dK kvs)/\k=!kvs.isEmpty:=e;rcases e' with ⟨xs,hx,e'⟩ |⟨xs,hx,e'⟩ |⟨kvs,hx,e'⟩
  ·subst e';obtain⟨its,r,pl,hz⟩:=I.list hx;have hlen:=r.length;exact wpAny_truthy_list pl.isList (by simp only[aaF];lia) ⟨H,I.bx _,by rw[vU r];exact q⟩
  ·subst e';obtain⟨its,r,pl,hz⟩:=I.tuple hx;have hlen:=r.length;exact truthy_tuple pl (by simp only[aaF];lia) ⟨H,I.bx _,by rw[vU r];exact q⟩
  ·subst e';obtain⟨hz,hS,vs,r,m⟩:kvs.length<=sizeLine/\(p == sysModules)=false/\∃vs,KV kvs vs/\s.heap.DictOf (b6 X.prog X.w) p vs:=I.ae p _ hx;have hlen:kvs.length=vs.length:=Paired.length r;exact wpAny_truthy_dict hS m (by lia) ⟨H,I.bx _,by rw[EL r];exact q⟩
 |_=>exact (show False from e).elim
theorem EN (ha:PE X a ta) (he:∀ e9,isTrue a X.env e9=(do let v <- e9;standAt a.pos;holding [v] (truthy v))) :
  PT X a (fun σ H Q=>ta σ H λx H'=>∃k,qn X.K x H' k/\Q k H'):=by
 intro pins s σ H Q I h;exact isTrue_plain (ar (ha pins s σ H _ I h) λv s1 ⟨x,H1,I1,r1,q1⟩=>EM pins s1 σ H1 x v Q I1 r1 q1) (he _)
theorem EO:aA X (binaryOp .Add) (λx y H Q=>∃i j,x=.str i/\y=.str j/\i.length+j.length<=sizeLine/\Q (.str (i++j)) H):=by
 intro pins s σ H x y v u Q I rx ry h;obtain⟨i,j,rfl,rfl,hz,q⟩:=h;obtain⟨t,rfl⟩:=rx;obtain⟨t',rfl⟩:=ry;exact add_str (λt' tk=>⟨.str (i++j),H,I.bx _,⟨_,rfl⟩,q⟩) hz
theorem ik {x:V}{us:List Value} (r:aq [x] us):∃u,us=[u]/\av x u:=by
 cases r with
 |cons r1 r2=>cases r2;exact⟨_,rfl,r1⟩
theorem ER {x y:V}{us:List Value} (r:aq [x,y] us):∃u w',us=[u,w']/\av x u/\av y w':=by
 cases r with
 |cons r1 r2=>
  cases r2 with
  |cons r3 r4=>cases r4;exact⟨_,_,rfl,r1,r3⟩
theorem ES (hc:X.calm=true):bp X (.builtin "max") (λxs H Q=>∃i j,xs=[.int i,.int j]/\Q (.int (if j > i then j else i)) H):=by
 intro pins s σ H xs us Q I r h;obtain⟨i,j,rfl,q⟩:=h;obtain⟨u,w',rfl,⟨t,rfl⟩,⟨t',rfl⟩⟩:=ER r;refine max_two_ints (I.ok.hd hc) λh' tk k=>⟨_,H,I.bD k,?_,q⟩;by_cases hj:j > i
 ·rw[if_pos hj,if_pos hj];exact⟨_,rfl⟩
 ·rw[if_neg hj,if_neg hj];exact⟨_,rfl⟩
theorem ET:bp X (.type "int") (λxs H Q=>(∃i,xs=[.int i]/\Q (.int i) H)\/∃k,xs=[.bl k]/\Q (.int (if k then 1 else 0)) H):=by
 intro pins s σ H xs us Q I r h;rcases h with ⟨i,rfl,q⟩ |⟨k,rfl,q⟩
 ·obtain⟨u,rfl,t,rfl⟩:=ik r;exact call_int_int ⟨.int i,H,I,⟨_,rfl⟩,q⟩
 ·obtain⟨u,rfl,r1⟩:=ik r;cases r1;exact call_int_bool ⟨.int (if k then 1 else 0),H,I.bx _,⟨_,rfl⟩,q⟩
end
end L2
namespace L2
open PySem PySem.Spec PyProof.Rows
structure il (h:Heap) (x dx C:Addr) (mA:Str->Option Value):Prop where
 obj:h.get? x=some (PySem.W.instObj C dx)
 ns:h.Ns1 dx mA
 ne:dx≠x
theorem EU {h:Heap}{dx:Addr}{mA:Str->Option Value} (n:h.Ns1 dx mA):∃od,h.get? dx=some od/\∀name,PySem.W.lookIn name od=some (mA name):=by
 obtain⟨o,es,ep,ho,hd,hk,_,hm⟩:=n;refine⟨o,ho,λname=>?_⟩;have e:=hm name;unfold nsFind findBy at e;rw[<- Array.find?_toList]at e;unfold PySem.W.lookIn;rw[hd];dsimp only;split
 ·rename_i y q;rw[q]at e;exact congrArg some e
 ·rename_i q;rw[q]at e;have a:es.toList.any (·.refKey)=false:=by
   rw[List.any_eq_false];intro y hy;obtain⟨z,t,nc⟩:=hk y (Array.mem_toList_iff.mp hy);simp [DictEntry.refKey,nc]
  have XS:¬es.toList.any (·.refKey)=true:=by rw[a];exact aaQ
  rw[if_neg XS];exact congrArg some e
theorem il.ng {h:Heap}{x dx C:Addr}{mA:Str->Option Value} (I:il h x dx C mA):∃od,PySem.W.InstAt h x (PySem.W.instObj C dx) C (some od)/\∀name,PySem.W.lookIn name od=some (mA name):=
 let ⟨od,ho,hl⟩:=EU I.ns
 ⟨od,⟨I.obj,rfl,rfl,ho⟩,hl⟩
section
variable {prog:Program}{w:World}{A:Around}{E:Value->Shared->Prop}{s:Shared}{K:PySem.W.Frag}{x dx C f:Addr}{mA:Str->Option Value}{name:Str}{v:Value}
theorem EV {Ev:Bool}{Q:Value->Shared->Prop} (X:K.In s.heap) (I:il s.heap x dx C mA) (hg:PySem.W.plainGet K C name=true) (hh:PySem.W.hasDictIn K C=true)
  (ha:PySem.W.findIn K (.ref C) name=some none) (hv:mA name=some v) (EQ:PySem.W.handedIn v=true) (h:Q v { s with toks:=s.toks+1 }) :
  wpAny (model prog w) A (getAttr (.ref x) name Ev) Q E s:=by
 obtain⟨od,J,hl⟩:=I.ng;exact PySem.W.get_value X J (PySem.W.plainGet_of hg).1 (PySem.W.findObj_own hh ha rfl (by rw[hl,hv])) EQ h
theorem EW {pl:Sem Bool}{Q:Value×List Value->Shared->Prop} (X:K.In s.heap) (I:il s.heap x dx C mA) (hg:PySem.W.plainGet K C name=true)
  (hf:PySem.W.findIn K (.ref C) name=some (some (.ref f))) (ht:PySem.W.isFn K (.ref f)=true) (hv:mA name=none) (h:Q (.ref f,[.ref x]) s) :
  wpAny (model prog w) A (getMethod (.ref x) name pl) Q E s:=by
 obtain⟨od,J,hl⟩:=I.ng;exact PySem.W.method_fn X J (PySem.W.plainGet_of hg).1 (PySem.W.plainGet_of hg).2 hf (beq_iff_eq.mp ht) (by show (PySem.W.lookIn name od).map (·.isSome)=some false;rw[hl,hv];rfl) h
theorem EX {ns:List Str}{Q:Unit->Shared->Prop} (X:K.In s.heap) (I:il s.heap x dx C mA)
  (hs:PySem.W.findIn K (.ref C) "__setattr__"=some (some (.builtin "object.__setattr__"))) (hp:PySem.W.plainOver K C=true) (ht:PySem.W.takerIn K C name=some none) (hh:PySem.W.hasDictIn K C=true)
  (hw:PySem.Within mA ns) (hsz:ns.length<=sizeLine)
  (h:∀h',il h' x dx C (λy=>if y=name then some v else mA y)->ab2 dx s.heap h'->Q () { s with heap:=h',toks:=s.toks+2 }) :
  wpAny (model prog w) A (setAttr (.ref x) name v) Q E s:=by
 obtain⟨od,J,hl⟩:=I.ng;refine PySem.W.set_plain X J hs (PySem.W.osa_open (s:={ s with toks:=s.toks+1 }) (r:=none) X J hp ht λb=>?_);obtain⟨cd,hc,kt⟩:=PySem.W.any_some hh;have hx:s.heap.get? x=some ⟨.ref C,some dx,.plain,#[]⟩:=I.obj;refine aaC (aaE (aaC (aaC (wpAny_loadPart hx (aaC (PySem.W.Looks.here (s:={ s with toks:=s.toks+1 }) (PySem.W.looks_clsIn X hc) ?_))))));rw[kt];refine aaE (a:=some dx) (aaC (aaE (aaC ?_)));refine wpAny_nsSet1 (s:={ s with toks:=s.toks+1 }) I.ns λh' ni hs2=>?_;obtain⟨aai,VU,VW,EY,a8,EZ⟩:=ni.count (PySem.Within.cons name v hw);refine aaC (wpAny_lookBehind EY (by rw[a8];exact pastItsLine_dict (aaZ EZ (by rw[aaS];lia))) ?_);exact aaE (h _ ⟨(hs2.2 _ (abx I.ne)).trans I.obj,ni,I.ne⟩ hs2)
theorem E2 {R:Result->Shared->Prop}{vs:List Value}{kw:List (Str×Value)} (X:K.In s.heap) (hm:PySem.W.makesIn K C=true)
  (hi:PySem.W.findIn K (.ref C) "__init__"=some (some (.ref f))) (hf:PySem.W.typeIn K (.ref f)=some (.type "function"))
  (h:codeAny (model prog w) (A.under (.builtin "type.__call__" ⟨.ref C::vs,kw⟩)) (.call (.ref f) ⟨.ref (s.heap.objs.size+1)::vs,kw⟩) (PySem.W.InitBack (s.heap.objs.size+1) R)
   { s with heap:=(s.heap.push PySem.W.emptyDict).push (PySem.W.instObj C s.heap.objs.size) }) :
  codeAny (model prog w) A (.call (.ref C) ⟨vs,kw⟩) R s:=by
 obtain⟨hh,g,d,t,os⟩:=s;exact PySem.W.make_core (PySem.W.makes_of X hm) (PySem.W.looks_findIn X hi) (λself=>PySem.W.bind_fn X self hf) (.inl rfl) h
end
noncomputable def cB (f:Str) (v:V):List (Str×V)->List (Str×V)
 |[]=>[(f,v)]
 |(g,x)::r=>if g=f then (g,v)::r else (g,x)::cB f v r
theorem vV (f g:Str) (v:V):∀fs:List (Str×V),(cB f v fs).lookup g=if g=f then some v else fs.lookup g
 |[]=>by
  show abG g [(f,v)]=_;by_cases h:g=f
  ·have hb:(g == f)=true:=beq_iff_eq.mpr h;simp only[abG,hb,if_pos h]
  ·have hb:(g == f)=false:=beq_eq_false_iff_ne.mpr h;simp only[abG,hb,if_neg h]
 |(k,x)::r=>by
  have ih:=vV f g v r;rw[show cB f v ((k,x)::r)=(if k=f then (k,v)::r else (k,x)::cB f v r) from rfl]
  by_cases hk:k=f
  ·rw[if_pos hk];by_cases h:g=k
   ·have hb:(g == k)=true:=beq_iff_eq.mpr h;simp only[abG,hb,if_pos (h.trans hk)]
   ·have hb:(g == k)=false:=beq_eq_false_iff_ne.mpr h;simp only[abG,hb,if_neg (λe:g=f=>h (e.trans hk.symm))]
  ·rw[if_neg hk];by_cases h:g=k
   ·have hb:(g == k)=true:=beq_iff_eq.mpr h;simp only[abG,hb,if_neg (λe:g=f=>hk (h.symm.trans e))]
   ·have hb:(g == k)=false:=beq_eq_false_iff_ne.mpr h;simp only[abG,hb];exact ih
theorem qo (f:Str) (v:V):∀fs:List (Str×V),f∈(cB f v fs).map (·.1)/\∀g,g∈fs.map (·.1)->g∈(cB f v fs).map (·.1)
 |[]=>⟨by simp [cB],λg h=>by simp at h⟩
 |(k,x)::r=>by
  obtain⟨i1,i2⟩:=qo f v r;rw[show cB f v ((k,x)::r)=(if k=f then (k,v)::r else (k,x)::cB f v r) from rfl]
  by_cases hk:k=f
  ·rw[if_pos hk];subst hk;exact⟨by simp,λg h=>by simpa using h⟩
  ·rw[if_neg hk];refine⟨?_,λg h=>?_⟩
   ·rw[aaR];exact aaK _ i1
   ·rw[aaR]at h ⊢;rcases List.mem_cons.mp h with e |e
    ·exact List.mem_cons.mpr (.inl e)
    ·exact aaK _ (i2 g e)
theorem vW (f:Str) (v:V):∀fs:List (Str×V),(cB f v fs).length<=fs.length+1
 |[]=>by simp [cB]
 |(k,x)::r=>by
  have ih:=vW f v r;rw[show cB f v ((k,x)::r)=(if k=f then (k,v)::r else (k,x)::cB f v r) from rfl]
  by_cases hk:k=f
  ·rw[if_pos hk,aaS,aaS];lia
  ·rw[if_neg hk,aaS,aaS];lia
theorem cH.qp {v:V}{o:Option Value} (r:cH (some v) o):∃u,o=some u/\av v u:=by
 cases o with
 |none=>exact (show False from r).elim
 |some u=>exact⟨u,rfl,r⟩
theorem cH.kI {o:Option Value} (r:cH none o):o=none:=by
 cases o with
 |none=>rfl
 |some u=>exact (show False from r).elim
theorem E3 {v:V}{u:Value} (r:av v u):PySem.W.handedIn u=true:=by
 cases v with
 |af=>cases (show u=abB from r);rfl
 |bl b=>cases (show u=Value.bool b from r);rfl
 |int i=>obtain⟨t,e⟩:=(show ∃t,u=Value.int i t from r);cases e;rfl
 |str x=>obtain⟨t,e⟩:=(show ∃t,u=Value.str x t from r);cases e;rfl
 |dt b=>obtain⟨t,e⟩:=(show ∃t,u=Value.bytes b t from r);cases e;rfl
 |hZ b=>obtain⟨t,e⟩:=(show ∃t,u=Value.float b t from r);cases e;rfl
 |ref a=>cases (show u=aaX a from r);rfl
 |ty n=>cases (show u=acg n from r);rfl
section
variable {P:Program}{w:World}{H H':Hp}{h h':Heap}{a C dx:Addr}{fs fs':List (Str×V)}
theorem nj (ae:aQ P w H h) (e:H a=some (.ins C dx fs)):∃mA,il h a dx C mA/\(∀f,cH (fs.lookup f) (mA f))/\PySem.Within mA (fs.map (·.1))/\fs.length<=1000/\H dx=some (.own a):=by
 obtain⟨d,z,ne,ob,mA,n,r,q⟩:=(show bk P w H h a (.ins C dx fs) from ae a _ e);exact⟨mA,⟨ob,n,ne⟩,r,q,z,d⟩
end
structure cI (K:PySem.W.Frag) (C:Addr):Prop where
 Zp:PySem.W.plainGet K C Str.empty=true
 hd:PySem.W.hasDictIn K C=true
 po:PySem.W.plainOver K C=true
 sa:PySem.W.findIn K (.ref C) "__setattr__"=some (some (.builtin "object.__setattr__"))
theorem cI.get {K:PySem.W.Frag}{C:Addr} (c:cI K C) (f:Str):PySem.W.plainGet K C f=true:=c.Zp
def dX (K:PySem.W.Frag) (C:Addr) (f:Str):Prop:=PySem.W.findIn K (.ref C) f=some none
theorem dX.E4 {K:PySem.W.Frag}{C:Addr}{f:Str} (n:dX K C f):PySem.W.takerIn K C f=some none:=by
 unfold PySem.W.takerIn;rw[show PySem.W.findIn K (.ref C) f=some none from n];rfl
structure ip (K:PySem.W.Frag) (C:Addr) (m:Str) (f:Addr):Prop where
 aw:PySem.W.findIn K (.ref C) m=some (some (.ref f))
 fn:PySem.W.isFn K (.ref f)=true
 kp:PySem.W.keepIn K (.ref f)=true
section
variable {X:Cx}{pins:List (Addr×Obj)} {σ:St} {H:Hp}{s:Shared}{a C dx:Addr}{fs:List (Str×V)}{f:Str}{v:V}{A:Around}{E:Value->Shared->Prop}
theorem E5 {b:Bool}{Q:Value->Shared->Prop} (I:ab X pins σ H s) (e:H a=some (.ins C dx fs)) (c:cI X.K C) (n:dX X.K C f) (l:fs.lookup f=some v)
  (h:∀u s',ab X pins σ H s'->av v u->Q u s'):wpAny (model X.prog X.w) A (getAttr (.ref a) f b) Q E s:=by
 obtain⟨mA,O,r,_,_,_⟩:=nj I.ae e;obtain⟨u,hu,ru⟩:=cH.qp (v:=v) (o:=mA f) (by rw[<- l];exact r f);exact EV I.bt O (c.get f) c.hd n hu (E3 ru) (h u _ (I.bx _) ru)
theorem vX {m:Str}{g:Addr}{pl:Sem Bool}{Q:Value×List Value->Shared->Prop} (I:ab X pins σ H s) (e:H a=some (.ins C dx fs)) (c:cI X.K C) (k:ip X.K C m g) (l:fs.lookup m=none)
  (h:Q (.ref g,[.ref a]) s):wpAny (model X.prog X.w) A (getMethod (.ref a) m pl) Q E s:=by
 obtain⟨mA,O,r,_,_,_⟩:=nj I.ae e;have hn:mA m=none:=cH.kI (by rw[<- l];exact r m);exact EW I.bt O (c.get m) k.aw k.fn hn h
theorem E6 {y:V}{u:Value}{Q:Unit->Shared->Prop} (I:ab X pins σ H s) (e:H a=some (.ins C dx fs)) (c:cI X.K C) (n:dX X.K C f) (hl:fs.length<1000) (ry:av y u)
  (h:∀s',ab X pins σ (ag H a (.ins C dx (cB f y fs))) s'->Q () s'):wpAny (model X.prog X.w) A (setAttr (.ref a) f u) Q E s:=by
 obtain⟨mA,O,r,wi,_,ho⟩:=nj I.ae e;have hz:(fs.map (·.1)).length<=sizeLine:=by rw[aaN,sizeLine_eq];lia
 refine EX I.bt O c.sa c.po n.E4 c.hd wi hz λh' O' sb=>h _ ?_;have hd:∃o,h'.get? dx=some o:=let ⟨o,_,_,e',_⟩:=O'.ns;⟨o,e'⟩
 refine I.fQ (x:=a) (e:=dx) (by rw[e];exact aaV) (.inr ho) (λb q hb z=>(sb.2 b hb).trans z) hd ?_;refine⟨by rw[aD O.ne];exact ho,?_,O.ne,O'.obj,_,O'.ns,λg=>?_,λg hg=>?_⟩
 ·have:=vW f y fs;lia
 ·show cH ((cB f y fs).lookup g) (if g=f then some u else mA g)
  rw[vV];by_cases q:g=f
  ·rw[if_pos q,if_pos q];exact ry
  ·rw[if_neg q,if_neg q];exact r g
 ·by_cases q:g=f
  ·rw[q];exact (qo f y fs).1
  ·refine (qo f y fs).2 g (wi g λz=>hg ?_);show (if g=f then some u else mA g)=none
   rw[if_neg q];exact z
theorem ab.made (I:ab X pins σ H s):ab X pins σ (ag (ag H s.heap.objs.size (.own (s.heap.objs.size+1))) (s.heap.objs.size+1) (.ins C s.heap.objs.size []))
  { s with heap:=(s.heap.push PySem.W.emptyDict).push (PySem.W.instObj C s.heap.objs.size) }:=by
 have e1:(s.heap.push PySem.W.emptyDict).get? s.heap.objs.size=some PySem.W.emptyDict:=aaG s.heap rfl;have e2:((s.heap.push PySem.W.emptyDict).push (PySem.W.instObj C s.heap.objs.size)).get? (s.heap.objs.size+1)=some (PySem.W.instObj C s.heap.objs.size):=by
  have:=aaG (s.heap.push PySem.W.emptyDict) (o:=PySem.W.instObj C s.heap.objs.size) rfl
  rwa [aba]at this
 have e3:(s.heap.push PySem.W.emptyDict).Ns s.heap.objs.size (λ_=>none):=⟨PySem.W.emptyDict,#[],_,e1,rfl,(λe he=>absurd he (by simp)),λ_=>rfl⟩;have I1:=I.laid (a:=s.heap.objs.size) (o:=.own (s.heap.objs.size+1)) (h':=s.heap.push PySem.W.emptyDict) (t':=s.toks) (λb u q=>aaD _ q) (aaH _) ⟨_,e1⟩;refine I1.laid (a:=s.heap.objs.size+1) (o:=.ins C s.heap.objs.size []) (t':=s.toks) (λb u q=>aaD _ q) (Nat.le_of_eq (aba _ _)) ?_;have ne:s.heap.objs.size≠s.heap.objs.size+1:=aaL (ab0 _);refine⟨by rw[aD ne,b7],abA _,ne,e2,λ_=>none,(Heap.Ns1.of_empty e3).at λo q=>aaD _ q,λ_=>aaV,λy hy=>absurd rfl hy⟩
theorem E7 {prog:Program}{w:World}{env:Env}{e:Expr}{f:Str}{pos:Pos}{s:Shared}{Q:Value->Shared->Prop} (hb:attributeBase e f env (eval e env)=eval e env)
  (h:wpAny (model prog w) A (eval e env) (λo s₁=>wpAny (model prog w) A (getAttr o f true) Q E s₁) E s):wpAny (model prog w) A (eval (.Attribute e f pos) env) Q E s:=
 Attribute_any_ h (by rw[arm_eval_Attribute,hb])
end
def E8 (K:PySem.W.Frag) (ta:TE) (f:Str):TE:=fun σ H Q=>ta σ H λx H1=>∃a C dx fs v,x=.ref a/\H1 a=some (.ins C dx fs)/\cI K C/\dX K C f/\fs.lookup f=some v/\Q v H1
def E9 (K:PySem.W.Frag) (ta tv:TE) (f:Str):TS:=λD σ H=>tv σ H λy H1=>ta σ H1 λx H2=>∃a C dx fs,x=.ref a/\H2 a=some (.ins C dx fs)/\cI K C/\dX K C f/\fs.length<1000 /\
 D.nx σ (ag H2 a (.ins C dx (cB f y fs)))
section
variable {X:Cx}{o e value:Expr}{f:Str}{pos ff Fa:Pos}{ta tv:TE}
theorem Fb (he:PE X e ta) (hb:attributeBase e f X.env (eval e X.env)=eval e X.env):PE X (.Attribute e f pos) (E8 X.K ta f):=by
 intro pins s σ H Q I h;refine E7 hb (ar (he pins s σ H _ I h) λu s1 ⟨x,H1,I1,rx,a,C,dx,fs,v,ex,ea,c,n,l,q⟩=>?_);subst ex;obtain rfl:u=aaX a:=rx;exact E5 I1 ea c n l λu' s2 I2 ru=>⟨v,H1,I2,ru,q⟩
theorem Fc (ha:PE X o ta) (hv:PE X value tv) (hs:swapsWith value (some (.Attribute o f ff)) pos.line X.env=pure false):PS X (.Assign [.Attribute o f ff] value pos) (E9 X.K ta tv f):=by
 intro pins s σ H D I h;refine plainObj_wpAny_Assign_Attribute (ar (hv pins s σ H _ I h) λu s1 ⟨y,H1,I1,ry,q⟩=>ar (ha pins s1 σ H1 _ I1 q) λov s2 ⟨x,H2,I2,rx,a,C,dx,fs,ex,ea,c,n,l,q2⟩=>?_) hs;subst ex;obtain rfl:ov=aaX a:=rx;exact E6 I2 ea c n l ry λs3 I3=>⟨σ,_,I3,q2⟩
end
section
variable {X:Cx}{pins:List (Addr×Obj)} {σ:St} {H:Hp}{s:Shared}{A:Around}{E:Value->Shared->Prop}{Q:Value->Shared->Prop}{c:Value}{b:Bool}
inductive du (K:PySem.W.Frag) (H:Hp):V->Value->Prop where
 |af:du K H .af (.type "NoneType")
 |bl (x:Bool):du K H (.bl x) (.type "bool")
 |int (i:Int):du K H (.int i) (.type "int")
 |str (x:Str):du K H (.str x) (.type "str")
 |hZ (x:UInt64):du K H (.hZ x) (.type "float")
 |lst {a:Addr}{xs:List V} (e:H a=some (.lst xs)):du K H (.ref a) (.type "list")
 |cX {a:Addr}{o:Obj}{xs:List V} (e:H a=some (.cX o (.lst xs))):du K H (.ref a) (.type "list")
 |tup {a:Addr}{xs:List V} (e:H a=some (.tup xs)):du K H (.ref a) (.type "tuple")
 |dK {a:Addr}{kvs:List (Key×V)} (e:H a=some (.dK kvs)):du K H (.ref a) (.type "dict")
 |dT {a:Addr}{kvs:List (List Key×V)} (e:H a=some (.dT kvs)):du K H (.ref a) (.type "dict")
 | ins {a C dx:Addr}{fs:List (Str×V)} (e:H a=some (.ins C dx fs)) (cl:cI K C) (ha:PySem.W.findIn K (.ref C) "__class__"=some (some (.builtin "object.__class__")))
   (hn:PySem.W.specialIn K (.builtin "object.__class__") "__get__"=some (some (.builtin "getset_descriptor.__get__"))) (vY:PySem.W.takesIn K (.builtin "object.__class__")=some true)
   (hm:PySem.W.mroIn K C (.type "object")=some true):du K H (.ref a) (.ref C)
theorem Fd {x:V}{u t:Value} (I:ab X pins σ H s) (rx:av x u) (ty:du X.K H x t) (e:PySem.W.kitOne X.K t c=some b) (h:∀ tk,Q (.bool b) { s with toks:=tk }) :
  wpAny (model X.prog X.w) A (call (.builtin "isinstance") [u,c]) Q E s:=by
 cases ty with
 |af=>cases (show u=abB from rx);exact PySem.W.kia_one PySem.W.kitx_none I.bt aaV e (λz=>nomatch z) h
 |bl y=>cases (show u=Value.bool y from rx);exact PySem.W.kia_one PySem.W.kitx_bool I.bt aaV e (λz=>nomatch z) h
 |int i=>obtain⟨t,q⟩:=(show ∃t,u=Value.int i t from rx);cases q;exact PySem.W.kia_one PySem.W.kitx_int I.bt aaV e (λz=>nomatch z) h
 |str y=>obtain⟨t,q⟩:=(show ∃t,u=Value.str y t from rx);cases q;exact PySem.W.kia_one PySem.W.kitx_str I.bt aaV e (λz=>nomatch z) h
 |hZ y=>obtain⟨t,q⟩:=(show ∃t,u=Value.float y t from rx);cases q;exact PySem.W.kia_one PySem.W.kitx_float I.bt aaV e (λz=>nomatch z) h
 |@lst a xs ea=>
  cases (show u=aaX a from rx);obtain⟨_,_,n,_,h1⟩:=(show bk X.prog X.w H s.heap a (.lst xs) from I.ae a _ ea);exact PySem.W.kia_one PySem.W.kitx_list I.bt ⟨_,h1,rfl⟩ e (λz=>nomatch z) h
 |@cX a ob xs ea=>
  cases (show u=aaX a from rx);obtain⟨_,_,_,n,_,h1⟩:=(show bk X.prog X.w H s.heap a (.cX ob (.lst xs)) from I.ae a _ ea);exact PySem.W.kia_one PySem.W.kitx_list I.bt ⟨_,h1,rfl⟩ e (λz=>nomatch z) h
 |@tup a xs ea=>
  cases (show u=aaX a from rx);obtain⟨_,_,_,p⟩:=(show bk X.prog X.w H s.heap a (.tup xs) from I.ae a _ ea);obtain⟨o,h1,h2,_⟩:=p;exact PySem.W.kia_one PySem.W.kitx_tuple I.bt ⟨o,h1,h2⟩ e (λz=>nomatch z) h
 |@dK a kvs ea=>
  cases (show u=aaX a from rx);obtain⟨_,_,vs,_,p⟩:=(show bk X.prog X.w H s.heap a (.dK kvs) from I.ae a _ ea);obtain⟨o,es,ep,h1,h2,_⟩:=p;exact PySem.W.kia_one PySem.W.kitx_dict I.bt ⟨o,h1,h2.1⟩ e (λz=>nomatch z) h
 |@dT a kvs ea=>
  cases (show u=aaX a from rx);obtain⟨_,_,xs,_,o,es,ep,h1,h2,_⟩:=(show bk X.prog X.w H s.heap a (.dT kvs) from I.ae a _ ea);exact PySem.W.kia_one PySem.W.kitx_dict I.bt ⟨o,h1,h2.1⟩ e (λz=>nomatch z) h
 |@ins a C dx fs ea cl ha hn vY hm=>
  cases (show u=aaX a from rx);obtain⟨mA,O,_⟩:=nj I.ae ea;obtain⟨od,J,_⟩:=O.ng;exact PySem.W.kia_one (PySem.W.kitx_own (cl.get _) cl.hd ha hn vY hm) I.bt J e (λz=>nomatch z) h
end
end L2
namespace L2
open PySem PySem.Spec PyProof.Rows
structure bf (k:Nat) (A:Around):Prop where
 hd:A.handled=none
 XT:A.depth+3 * k+5<recursionLimit
 un:A.units+16 * k+200<cLine
theorem bf.mono {j k:Nat}{A:Around} (r:bf k A) (h:j<=k):bf j A:=⟨r.hd,by have:=r.XT;lia,by have:=r.un;lia⟩
theorem bf.deeper {k:Nat}{A:Around} (r:bf (k+1) A) (env:Env):bf k (A.deeper env):=
 ⟨r.hd,by have:=r.XT;show A.depth+1+3 * k+5<_;lia,by have:=r.un;show A.units+3+16 * k+200<_;lia⟩
theorem Fe {A:Around}{C:Addr}{us:List Value}{kw:List (Str×Value)}:(A.under (.builtin "type.__call__" ⟨.ref C::us,kw⟩)).depth=A.depth+1:=by
 first |rfl |simp [Around.under,Code.weight,Code.isCreation,Code.isGuard,Code.isCaller,Code.frames,Code.isFrame,VX]
theorem Ff {A:Around}{C:Addr}{us:List Value}{kw:List (Str×Value)}:(A.under (.builtin "type.__call__" ⟨.ref C::us,kw⟩)).units=A.units+1:=by
 first |rfl |simp [Around.under,Code.cUnits,Code.frames,Code.isFrame]
theorem bf.qr {k:Nat}{A:Around} (r:bf (k+1) A) (C:Addr) (us:List Value) (kw:List (Str×Value)):bf k (A.under (.builtin "type.__call__" ⟨.ref C::us,kw⟩)):=
 ⟨r.hd,by have:=r.XT;rw[Fe];lia,by have:=r.un;rw[Ff];lia⟩
theorem bf.depth {k:Nat}{A:Around} (r:bf k A):A.depth<recursionLimit:=by have:=r.XT;lia
def kJ:TA:=λ_ H Q=>Q [] H
def qt (ta:TE) (tr:TA):TA:=fun σ H Q=>ta σ H λx H1=>tr σ H1 λxs H2=>Q (x::xs) H2
section
variable {X:Cx}{e:Expr}{es:List Expr}{te:TE}{t:TA}{pos:Pos}
theorem iq:PA X [] kJ:=λ_ _ _ _ H Q I h=>Calls.spliced_nil ⟨[],H,I,.nil,h⟩
theorem Fg (ha:PE X e te) (hr:PA X es t) (hs:starEach (e::es) X.env=(false,eval e X.env)::starEach es X.env:=by rfl):PA X (e::es) (qt te t):=by
 intro pos pins s σ H Q I h;rw[hs];show wpAny _ _ (spliced ((false,eval e X.env)::backTo pos (starEach es X.env))) _ _ s;refine Calls.spliced_cons (ar (ha pins s σ H _ I h) λu s1 ⟨x,H1,I1,r1,q1⟩=>?_);exact ar (hr pos pins s1 σ H1 _ I1 q1) λus s2 ⟨xs,H2,I2,r2,q2⟩=>⟨x::xs,H2,I2,.cons r1 r2,q2⟩
def Fh (t:TA):TE:=fun σ H Q=>t σ H λxs H1=>xs.length<=sizeLine/\∀p,H1 p=none->Q (.ref p) (ag H1 p (.tup xs))
def Fi (t:TA):TE:=fun σ H Q=>t σ H λxs H1=>xs.length<=sizeLine/\∀p,H1 p=none->Q (.ref p) (ag H1 p (.lst xs))
theorem vZ {x1} (h:PA X es t):PE X (.Tuple es x1 pos) (Fh t):=by
 intro pins s σ H Q I hq;refine wpAny_Tuple_spliced (ar (h pos pins s σ H _ I hq) λus s1 ⟨xs,H1,I1,r,z,q⟩=>⟨by rw[<- r.length];exact z,?_⟩);have hf:H1 s1.heap.objs.size=none:=I1.ae.fresh (aaH _);refine⟨.ref s1.heap.objs.size,ag H1 s1.heap.objs.size (.tup xs),I1.laid (t':=s1.toks) (λb u e=>aaD _ e) (aaH _) ?_,rfl,q _ hf⟩;exact⟨kq z,us,r,⟨_,aaG _ rfl,rfl,_,rfl⟩⟩
theorem Fj (h:PA X es t):PE X (.List es pos) (Fi t):=by
 intro pins s σ H Q I hq;refine wpAny_List_spliced (ar (h pos pins s σ H _ I hq) λus s1 ⟨xs,H1,I1,r,z,q⟩=>⟨by rw[<- r.length];exact z,?_⟩);have hf:H1 s1.heap.objs.size=none:=I1.ae.fresh (aaH _);refine⟨.ref s1.heap.objs.size,ag H1 s1.heap.objs.size (.lst xs),I1.laid (t':=s1.toks) (λb u e=>aaD _ e) (aaH _) ?_,rfl,q _ hf⟩;exact⟨z,us,0,r,aaG _ rfl⟩
end
abbrev Sp:=List V->Hp->VK->XK->Prop
abbrev cJ:=List Env->Hp->Shared->XK->Value->Shared->Prop
structure ir (P:Program) (w:World) (K:PySem.W.Frag) (mg:Str->Option Value) (base:Heap) (A:Around) (outer:List Env) (s:Shared) (H:Hp):Prop where
 frames:A.frames=some outer
 b8:Mod K mg base
 bs:∀b o,base.get? b=some o->s.heap.get? b=some o/\H b=none
 e6:base.objs.size<=s.heap.objs.size
 dU:s.heap.FunFrames base outer
 h9:∀b∈dc outer,H b=none
 ae:aQ P w H s.heap
 bT:AllBare s.gens
def CE (outer:List Env) (P:Program) (w:World) (H:Hp) (s:Shared) (Q:VK) (u:Value) (s':Shared):Prop:=
 ∃v H',s'.os=s.os/\AllBare s'.gens/\Un (dc outer) [] H H' s.heap s'.heap/\aQ P w H' s'.heap/\av v u/\Q v H'
def Zq (CX:cJ) (outer:List Env) (P:Program) (w:World) (H:Hp) (s:Shared) (Q:VK) (E:XK) (r:Result) (s':Shared):Prop:=
 match r with
 |.ok (.ret u)=>CE outer P w H s Q u s'
 |.ok _=>False
 |.error e=>CX outer H s E e s'
structure a5 (P:Program) (w:World) (K:PySem.W.Frag) (mg:Str->Option Value) (base:Heap) (CX:cJ) (k:Nat) (f:Addr) (fd:FuncData) (ps:List Str) (sp:Sp):Prop where
 len:∀vs H Q E,sp vs H Q E->vs.length=ps.length
 kK:∀(A:Around) (outer:List Env) (s:Shared) (H:Hp) (args:Args) (us:List Value) (vs:List V) (Q:VK) (E:XK),bf k A->ir P w K mg base A outer s H->BindsTo s fd args (ps.zip us)->aq vs us->sp vs H Q E ->
  codeAny (model P w) A (.call (.ref f) args) (Zq CX outer P w H s Q E) s
theorem a5.mono {P:Program}{w:World}{K:PySem.W.Frag}{mg:Str->Option Value}{base:Heap}{CX:cJ}{j k:Nat}{f:Addr}{fd:FuncData}{ps:List Str}{sp:Sp} (F:a5 P w K mg base CX j f fd ps sp) (h:j<=k) :
  a5 P w K mg base CX k f fd ps sp:=⟨F.len,λA outer s H args us vs Q E hr=>F.kK A outer s H args us vs Q E (hr.mono h)⟩
theorem a5.imp {P:Program}{w:World}{K:PySem.W.Frag}{mg:Str->Option Value}{base:Heap}{CX:cJ}{k:Nat}{f:Addr}{fd:FuncData}{ps:List Str}{sp kL:Sp} (F:a5 P w K mg base CX k f fd ps sp)
  (h:∀vs H Q E,kL vs H Q E->sp vs H Q E):a5 P w K mg base CX k f fd ps kL:=
 ⟨λvs H Q E q=>F.len vs H Q E (h _ _ _ _ q),λA outer s H args us vs Q E hr he hb hv hs=>F.kK A outer s H args us vs Q E hr he hb hv (h _ _ _ _ hs)⟩
theorem ir.qr {P:Program}{w:World}{K:PySem.W.Frag}{mg:Str->Option Value}{base:Heap}{A:Around}{outer:List Env}{s:Shared}{H:Hp} (e:ir P w K mg base A outer s H) (C:Addr) (us:List Value) (kw:List (Str×Value)) :
  ir P w K mg base (A.under (.builtin "type.__call__" ⟨.ref C::us,kw⟩)) outer s H:=⟨by first |exact e.frames |(simpa [Around.under,Code.envs,Code.isFrame,VY] using e.frames),e.b8,e.bs,e.e6,e.dU,e.h9,e.ae,e.bT⟩
section
variable {X:Cx}{pins:List (Addr×Obj)} {σ:St} {H:Hp}{s s':Shared}
theorem ab.wb (I:ab X pins σ H s):ir X.prog X.w X.K X.mg X.base X.A X.stack s H:=
 ⟨I.ok.frames,I.ok.b8,I.bs,aaZ I.ok.e6 I.sz,I.stack,I.vi,I.ae,I.bT⟩
theorem ab.after {Q:VK}{u:Value} (I:ab X pins σ H s) (h:CE X.stack X.prog X.w H s Q u s'):EP X pins σ Q u s':=by
 obtain⟨v,H',os,bT,un,ae,r,q⟩:=h;obtain⟨hh,g,d,t,kM⟩:=s';obtain rfl:kM=s.os:=os;exact⟨v,H',I.call (h':=hh) (g':=g) (d':=d) (t':=t) (ch:=[]) un ae bT (λb z=>absurd z (by simp)),r,q⟩
end
def qu (sp:Sp) (bI:List V) (E:XK) (t:TA):TE:=fun σ H Q=>t σ H λvs H1=>sp (vs++bI) H1 Q E
def we (C:Addr) (m:Str) (sp:Sp) (bI:List V) (E:XK) (ta:TE) (t:TA):TE:=fun σ H Q=>ta σ H λx H1=>∃a dx fs,x=.ref a/\H1 a=some (.ins C dx fs)/\fs.lookup m=none /\
 t σ H1 λvs H2=>sp (x::(vs++bI)) H2 Q E
def wg (C:Addr) (sp:Sp) (bI:List V) (E:XK) (t:TA):TE:=fun σ H Q=>t σ H λvs H1=>∀x dx,H1 x=none->H1 dx=none->dx≠x ->
 sp (.ref x::(vs++bI)) (ag (ag H1 dx (.own x)) x (.ins C dx [])) (λv H2=>v=.af/\Q (.ref x) H2) E
def b0 (K:PySem.W.Frag) (fd:FuncData) (ps:List Str) (ds:List Value):Prop:=
 ∀(s:Shared) (us:List Value),K.In s.heap->(us++ds).length=ps.length->BindsTo s fd ⟨us,[]⟩ (ps.zip (us++ds))
theorem b0.all {K:PySem.W.Frag}{fd:FuncData}{ps:List Str} (h:∀us:List Value,us.length=ps.length->bindArgs fd ⟨us,[]⟩=pure (ps.zip us)):b0 K fd ps []:=λs us _ hl=>by
 rw[aa4]at hl ⊢;exact .of_eq (h us hl)
def eA (CX:cJ) (X:Cx) (E:XK):Prop:=∀(pins:List (Addr×Obj)) (σ:St) (H:Hp) (s:Shared) (e:Value) (s':Shared),ab X pins σ H s->CX X.stack H s E e s'->X.xe e s'
section
variable {X:Cx}{CX:cJ}{k:Nat}{f C:Addr}{fd:FuncData}{ps:List Str}{sp:Sp}{bI:List V}{ds:List Value}{E:XK}{x m:Str}{p pos b3:Pos}{e o:Expr}{es:List Expr}{ta:TE}{t:TA}
theorem iw {pins:List (Addr×Obj)} {σ:St} {H:Hp}{s:Shared}{Q:VK}{us:List Value}{vs:List V} (F:a5 X.prog X.w X.K X.mg X.base CX k f fd ps sp) (hr:bf k X.A) (hb:b0 X.K fd ps ds) (hd:aq bI ds) (hx:eA CX X E)
  (I:ab X pins σ H s) (r:aq vs us) (h:sp (vs++bI) H Q E):wpAny (model X.prog X.w) X.A (call (.ref f) us) (EP X pins σ Q) X.xe s:=by
 have r2:aq (vs++bI) (us++ds):=r.append hd;have hl:(us++ds).length=ps.length:=by rw[<- r2.length];exact F.len _ _ _ _ h
 refine wpAny_call (codeAny_mono (F.kK X.A X.stack s H ⟨us,[]⟩ (us++ds) (vs++bI) Q E hr I.wb (hb s us I.bt hl) r2 h) λr s' hq=>?_);cases r with
 |error e=>exact hx pins σ H s e s' I hq
 |ok fl=>
  cases fl with
  |ret u=>exact I.after hq
  |next=>exact abY hq
  |brk=>exact abY hq
  |cont=>exact abY hq
theorem Fl (F:a5 X.prog X.w X.K X.mg X.base CX k f fd ps sp) (hr:bf k X.A) (hg:Gl X x) (hm:X.mg x=some (.ref f)) (hk:PySem.W.keepIn X.K (.ref f)=true) (hb:b0 X.K fd ps ds) (hd:aq bI ds) (hx:eA CX X E)
  (ha:PA X (e::es) t) (b9:(x == ("__debug__" : Str))=false:=by decide) (he:starEach (e::es) X.env=(false,eval e X.env)::starEach es X.env:=by rfl) (dv:(backTo pos (starEach es X.env)).any (·.1)=false:=by rfl) :
  PE X (.Call (.Name x p) (e::es) [] pos) (qu sp bI E t):=by
 intro pins s σ H Q I h;refine abF (ky I hg hm ?_ b9);refine PySem.W.callWith_K (h₀:=X.base) I.ok.b8.h8 hk (ar (ha pos pins s σ H _ I h) λus s1 ⟨vs,H1,I1,r,q⟩=>⟨I1.bt,?_⟩) he dv;exact iw F hr hb hd hx I1 r q
theorem Fm (F:a5 X.prog X.w X.K X.mg X.base CX k f fd ps sp) (hr:bf k X.A) (hg:Gl X x) (hm:X.mg x=some (.ref f)) (hk:PySem.W.keepIn X.K (.ref f)=true) (hb:b0 X.K fd ps ds) (hd:aq bI ds) (hx:eA CX X E)
  (b9:(x == ("__debug__" : Str))=false:=by decide):PE X (.Call (.Name x p) [] [] pos) (qu sp bI E kJ):=by
 intro pins s σ H Q I h;refine abF (ky I hg hm ?_ b9);exact PySem.W.callWith_K0 I.bt hk (iw (us:=[]) F hr hb hd hx I .nil h)
theorem Fo {pl:Sem Bool} (he:PE X o ta) (c:cI X.K C) (hm:ip X.K C m f) (F:a5 X.prog X.w X.K X.mg X.base CX k f fd ps sp) (hr:bf k X.A) (hb:b0 X.K fd ps ds) (hd:aq bI ds) (hx:eA CX X E) (ha:PA X (e::es) t)
  (fV:starEach (e::es) X.env=(false,eval e X.env)::starEach es X.env:=by rfl) (dv:(backTo pos (starEach es X.env)).any (·.1)=false:=by rfl)
  (ht:eval (.Call (.Attribute o m b3) (e::es) [] pos) X.env=(do
   let ov <- eval o X.env
   standAt b3.atName
   let (f,first) <- holding [ov] (getMethod ov m pl)
   callWith pos f first (backTo pos (starEach (e::es) X.env)) (backToKw pos (keywordEach [] X.env))):=by rfl) :
  PE X (.Call (.Attribute o m b3) (e::es) [] pos) (we C m sp bI E ta t):=by
 intro pins s σ H Q I h;refine PySem.W.methodCall_KW (pl:=pl) (ar (he pins s σ H _ I h) λu s1 ⟨x,H1,I1,rx,a,dx,fs,ex,ea,l,q⟩=>?_) ht;subst ex;obtain rfl:u=aaX a:=rx;refine vX I1 ea c hm l ?_;refine PySem.W.callWith_K (first:=[.ref a]) (h₀:=X.base) I.ok.b8.h8 hm.kp (ar (ha pos pins s1 σ H1 _ I1 q) λus s2 ⟨vs,H2,I2,r,q2⟩=>⟨I2.bt,?_⟩) fV dv
 exact iw (us:=.ref a::us) (vs:=.ref a::vs) F hr hb hd hx I2 (.cons rfl r) q2
theorem Fp {pl:Sem Bool} (he:PE X o ta) (c:cI X.K C) (hm:ip X.K C m f) (F:a5 X.prog X.w X.K X.mg X.base CX k f fd ps sp) (hr:bf k X.A) (hb:b0 X.K fd ps ds) (hd:aq bI ds) (hx:eA CX X E)
  (ht:eval (.Call (.Attribute o m b3) [] [] pos) X.env=(do
   let ov <- eval o X.env
   standAt b3.atName
   let (f,first) <- holding [ov] (getMethod ov m pl)
   callWith pos f first (backTo pos (starEach [] X.env)) (backToKw pos (keywordEach [] X.env))):=by rfl) :
  PE X (.Call (.Attribute o m b3) [] [] pos) (we C m sp bI E ta kJ):=by
 intro pins s σ H Q I h;refine PySem.W.methodCall_KW (pl:=pl) (ar (he pins s σ H _ I h) λu s1 ⟨x,H1,I1,rx,a,dx,fs,ex,ea,l,q⟩=>?_) ht;subst ex;obtain rfl:u=aaX a:=rx;refine vX I1 ea c hm l ?_;exact PySem.W.callWith_K0 (first:=[.ref a]) I1.bt hm.kp (iw (us:=[.ref a]) (vs:=[.ref a]) F hr hb hd hx I1 (.cons rfl .nil) q)
structure Mk (K:PySem.W.Frag) (C f:Addr):Prop where
 Fq:PySem.W.makesIn K C=true
 init:PySem.W.findIn K (.ref C) "__init__"=some (some (.ref f))
 fn:PySem.W.isFn K (.ref f)=true
 kp:PySem.W.keepIn K (.ref C)=true
theorem wj {pins:List (Addr×Obj)} {σ:St} {H:Hp}{s:Shared}{Q:VK}{us:List Value}{vs:List V} (M:Mk X.K C f) (F:a5 X.prog X.w X.K X.mg X.base CX k f fd ps sp) (hr:bf (k+1) X.A) (hb:b0 X.K fd ps ds) (hd:aq bI ds)
  (hx:eA CX X E) (I:ab X pins σ H s) (r:aq vs us)
  (h:∀x dx,H x=none->H dx=none->dx≠x->sp (.ref x::(vs++bI)) (ag (ag H dx (.own x)) x (.ins C dx [])) (λv H2=>v=.af/\Q (.ref x) H2) E) :
  wpAny (model X.prog X.w) X.A (call (.ref C) us) (EP X pins σ Q) X.xe s:=by
 have hq:=h (s.heap.objs.size+1) s.heap.objs.size (I.ae.fresh (Nat.le_succ _)) (I.ae.fresh (aaH _)) (aaL (ab0 _));have I2:=ab.made (C:=C) I;have r2:aq (V.ref (s.heap.objs.size+1)::(vs++bI)) (aaX (s.heap.objs.size+1)::(us++ds)):=.cons rfl (r.append hd);have hl:(aaX (s.heap.objs.size+1)::us++ds).length=ps.length:=by
  have e:=r2.length;rw[F.len _ _ _ _ hq]at e;exact e.symm
 refine wpAny_call (E2 (f:=f) I.bt M.Fq M.init (beq_iff_eq.mp M.fn) (codeAny_mono (F.kK _ X.stack _ _ ⟨aaX (s.heap.objs.size+1)::us,[]⟩ (aaX (s.heap.objs.size+1)::(us++ds)) _ _ E (hr.qr C us [])
  (I2.wb.qr C us []) (hb _ (aaX (s.heap.objs.size+1)::us) I2.bt hl) r2 hq) λr s' im=>?_))
 cases r with
 |error e=>exact hx pins σ _ _ e s' I2 im
 |ok fl=>
  cases fl with
  |ret u=>
   obtain⟨v,H',I3,rv,Xz,q3⟩:=I2.after im;subst Xz;exact⟨rv,⟨V.ref (s.heap.objs.size+1),H',I3,rfl,q3⟩⟩
  |next=>exact abY im
  |brk=>exact abY im
  |cont=>exact abY im
theorem Fs (M:Mk X.K C f) (F:a5 X.prog X.w X.K X.mg X.base CX k f fd ps sp) (hr:bf (k+1) X.A) (hg:Gl X x) (hm:X.mg x=some (.ref C)) (hb:b0 X.K fd ps ds) (hd:aq bI ds) (hx:eA CX X E)
  (ha:PA X (e::es) t) (b9:(x == ("__debug__" : Str))=false:=by decide) (he:starEach (e::es) X.env=(false,eval e X.env)::starEach es X.env:=by rfl) (dv:(backTo pos (starEach es X.env)).any (·.1)=false:=by rfl) :
  PE X (.Call (.Name x p) (e::es) [] pos) (wg C sp bI E t):=by
 intro pins s σ H Q I h;refine abF (ky I hg hm ?_ b9);refine PySem.W.callWith_K (h₀:=X.base) I.ok.b8.h8 M.kp (ar (ha pos pins s σ H _ I h) λus s1 ⟨vs,H1,I1,r,q⟩=>⟨I1.bt,?_⟩) he dv;exact wj M F hr hb hd hx I1 r q
theorem Ft (M:Mk X.K C f) (F:a5 X.prog X.w X.K X.mg X.base CX k f fd ps sp) (hr:bf (k+1) X.A) (hg:Gl X x) (hm:X.mg x=some (.ref C)) (hb:b0 X.K fd ps ds) (hd:aq bI ds) (hx:eA CX X E)
  (b9:(x == ("__debug__" : Str))=false:=by decide):PE X (.Call (.Name x p) [] [] pos) (wg C sp bI E kJ):=by
 intro pins s σ H Q I h;refine abF (ky I hg hm ?_ b9);exact PySem.W.callWith_K0 I.bt M.kp (wj (us:=[]) M F hr hb hd hx I .nil h)
end
section
variable {X:Cx}{CX:cJ}{k:Nat}{f C:Addr}{fd:FuncData}{ps ks:List Str}{sp:Sp}{E:XK}{x m:Str}{p pos b3 VZ:Pos}{e o:Expr}{es:List Expr}{V0:List Keyword}{te ta:TE}{t tk:TA}{nm:Option Str}
variable {g:List Value->List Value->List Value}{aaj:List V->List V->List V}
end
structure aK (N P:List Str) (sc:Scope):Prop where
 kind:sc.kind=.function
 YO:sc.isCoroutine=false
 nq:sc.isGenerator=false
 nd:N.Nodup
 pre:N.take P.length=P
 qv:∀x∈P,sc.names.lookup x=some .local\/sc.names.lookup x=some .cell
 Fu:∀y∈sc.names,y.2≠.free
theorem wq {kindOf:Str->Option NameKind}{x:Str}:∀{iz:List (Str×Value)}{m:Str->Option Value},(∀v,(x,v) ∉ iz)->bindL kindOf iz m x=m x
 |[],_,_=>rfl
 |(n,v)::r,m,h=>by
  unfold bindL;rw[wq λw hw=>h w (aaK _ hw)];split
  ·have:x≠n:=(by rintro rfl;exact h v aaO);simp [this]
  ·rfl
theorem wt {kindOf:Str->Option NameKind}{x:Str}:∀{iz:List (Str×Value)}{m:Str->Option Value},(∀v,(x,v) ∉ iz)->bindC kindOf iz m x=m x
 |[],_,_=>rfl
 |(n,v)::r,m,h=>by
  unfold bindC;rw[wt λw hw=>h w (aaK _ hw)];split
  ·rfl
  ·have:x≠n:=(by rintro rfl;exact h v aaO);simp [this]
theorem wu {kindOf:Str->Option NameKind}{x:Str}{v:Value}:∀ {P:List Str}{vs:List Value}{i:Nat}{m:Str->Option Value},P.Nodup->P[i]?=some x->vs[i]?=some v->kindOf x=some .local ->
  bindL kindOf (P.zip vs) m x=some v
 |[],_,_,_,_,h,_,_=>by simp at h
 |_::_,[],_,_,_,_,h,_=>by simp at h
 |p::P,w::vs,0,m,nd,h1,h2,hk=>by
  simp at h1 h2;subst h1;subst h2;show bindL kindOf ((p,w)::P.zip vs) m p=_;unfold bindL;rw[wq λv hv=>(List.nodup_cons.mp nd).1 (List.of_mem_zip hv).1,if_pos hk];simp
 |p::P,w::vs,i+1,m,nd,h1,h2,hk=>by
  show bindL kindOf ((p,w)::P.zip vs) m x=_;unfold bindL;exact wu (i:=i) (List.nodup_cons.mp nd).2 (by simpa using h1) (by simpa using h2) hk
theorem wx {kindOf:Str->Option NameKind}{x:Str}{v:Value}:∀ {P:List Str}{vs:List Value}{i:Nat}{m:Str->Option Value},P.Nodup->P[i]?=some x->vs[i]?=some v->kindOf x≠some .local ->
  bindC kindOf (P.zip vs) m x=some v
 |[],_,_,_,_,h,_,_=>by simp at h
 |_::_,[],_,_,_,_,h,_=>by simp at h
 |p::P,w::vs,0,m,nd,h1,h2,hk=>by
  simp at h1 h2;subst h1;subst h2;show bindC kindOf ((p,w)::P.zip vs) m p=_;unfold bindC;rw[wt λv hv=>(List.nodup_cons.mp nd).1 (List.of_mem_zip hv).1,if_neg hk];simp
 |p::P,w::vs,i+1,m,nd,h1,h2,hk=>by
  show bindC kindOf ((p,w)::P.zip vs) m x=_;unfold bindC;exact wx (i:=i) (List.nodup_cons.mp nd).2 (by simpa using h1) (by simpa using h2) hk
noncomputable def start (N:List Str) (vs:List V):St:=vs.map some++aa5 (N.length-vs.length) none
noncomputable def dY (CX:cJ) (P:Program) (w:World) (K:PySem.W.Frag) (mg:Str->Option Value) (base:Heap) (N:List Str) (qual:Str) (scope:Scope) (f:Addr) (cd:Value) (A:Around) (outer:List Env) (s:Shared) (H:Hp) (E:XK):Cx where
 prog:=P
 w:=w
 K:=K
 mg:=mg
 base:=base
 A:=A.deeper (envOfC qual scope s.heap.objs.size f cd)
 N:=N
 s₀:=s
 H₀:=H
 env:=envOfC qual scope s.heap.objs.size f cd
 outer:=outer
 stack:=envOfC qual scope s.heap.objs.size f cd::outer
 ex:=[]
 calm:=true
 fn:=λ_=>true
 pn:=[]
 xe:=λe s'=>wpAny (model P w) (A.deeper (envOfC qual scope s.heap.objs.size f cd)) (leaving (envOfC qual scope s.heap.objs.size f cd) e) (λ_ s''=>CX outer H s E e s'') (λe' s''=>CX outer H s E e' s'') s'
theorem wy {sc:Scope}{n:Nat}{x:Str} (h:sc.names.lookup x=some .cell):∃c,(cellsFrom n sc.names []).lookup x=some c:=by
 have q:=PySem.W.cellsFrom_some sc.names n [] (.inl h);exact Option.isSome_iff_exists.mp q
theorem wz {CX:cJ}{P:Program}{w:World}{K:PySem.W.Frag}{mg:Str->Option Value}{base:Heap}{N ps:List Str}{qual:Str}{scope:Scope}{f:Addr}{cd:Value}{A:Around}{outer:List Env}{s s1:Shared}{H:Hp}{E:XK}{us:List Value}{vs:List V}
  (S:aK N ps scope) (hd:A.handled=none) (e0:ir P w K mg base A outer s H) (hl:vs.length=ps.length) (r:aq vs us)
  (x:InCallC s s.heap.objs.size (bindL (envOfC qual scope s.heap.objs.size f cd).kindOf (ps.zip us) λ_=>none) (cellsFrom (s.heap.objs.size+1) scope.names []) (bindC (envOfC qual scope s.heap.objs.size f cd).kindOf (ps.zip us) λ_=>none) s1) :
  ab (dY CX P w K mg base N qual scope f cd A outer s H E) [] (start N vs) H s1:=by
 have dv:ps.length<=N.length:=by have:=congrArg List.length S.pre;rw[List.length_take]at this;lia
 obtain⟨h1,tk,rfl,hk⟩:=x.done;have kN:∀b:Addr,b ∉ (dY CX P w K mg base N qual scope f cd A outer s H E).ex:=λb z=>absurd (show b∈([]:List Addr) from z) (by simp);refine⟨⟨e0.b8,S.kind,rfl,rfl,aaH _,λy z c h1 h2=>?_,λy hy=>?_,λy c _ h=>?_,λ_=>hd,Around.frames_deeper e0.frames,.inr ⟨rfl,rfl⟩,λb z=>absurd z (kN b),e0.bs,e0.e6,λb _ _=>kN b,λb z=>absurd z (kN b),e0.dU,e0.h9⟩,
  rfl,e0.bT,Un.bD hk,⟨_,x.toInCall.ns,λi y v h1 h2 h3=>?_⟩,λy c h=>⟨_,x.cell y c h⟩,e0.ae.fresh (aaH _),λy c h=>?_,λp hp=>absurd (show p∈([]:List (Addr×Obj)) from hp) (by simp),e0.ae.bD hk,?_⟩
 ·exact name_of_addr x.apart (PySem.mem_of_lookup h1) (PySem.mem_of_lookup h2)
 ·have hy:scope.names.lookup y=some .cell\/scope.names.lookup y=some .free:=hy;rcases hy with hy |hy
  ·exact wy hy
  ·exact absurd rfl (S.Fu _ (PySem.mem_of_lookup hy))
 ·exact Nat.le_of_lt (x.above y c (PySem.mem_of_lookup h))
 ·have hi:i<vs.length:=by
   unfold start at h2;by_cases hi:i<vs.length
   ·exact hi
   ·rw[abc (by simpa using hi)]at h2;rw[ab7]at h2;split at h2 <;> cases h2
  have ha:vs[i]?=some v:=by
   unfold start at h2;rw[abt (by simpa using hi),aaU]at h2;cases e:vs[i]? with
   |none=>rw[e]at h2;cases h2
   |some a=>rw[e]at h2;cases h2;rfl
  obtain⟨u,hu,rv⟩:=r.get ha;have hp:ps[i]?=some y:=by
   rw[<- S.pre,List.getElem?_take_of_lt (by lia)];exact h1
  have wn:ps.Nodup:=by rw[<- S.pre];exact S.nd.sublist (List.take_sublist _ _)
  refine⟨u,rv,?_⟩;rcases S.qv y (abE hp) with k |k
  ·exact .inl ⟨k,wu wn hp hu k⟩
  ·obtain⟨c,e⟩:=wy (n:=s.heap.objs.size+1) k;refine .inr ⟨.inl k,c,e,?_⟩;have q:=x.cell y c e;rw[wx wn hp hu (by show scope.names.lookup y≠_;rw[k];decide)]at q;exact q
 ·exact e0.ae.fresh (Nat.le_of_lt (x.above y c (PySem.mem_of_lookup h)))
 ·unfold start;show _=N.length;rw[abk,aaN,ab1];lia
theorem wA {CX:cJ}{P:Program}{w:World}{K:PySem.W.Frag}{mg:Str->Option Value}{base:Heap}{k:Nat}{f:Addr}{name qual:Str}{params:Arguments}{body:List Stmt}{scope:Scope}{XF kV a3 pm aW ct oc:Value}{an od:Option Addr}
  {cZ:Array (Option Value)}{N ps:List Str}{sp:Sp} (lk:K.lookup f=some ⟨oc,od,.func (PySem.W.fnOf name qual params body scope XF kV a3 pm an aW ct),cZ⟩) (cY:PySem.W.codeIn K aW qual=true) (S:aK N ps scope)
  (len:∀vs H Q E,sp vs H Q E->vs.length=ps.length)
  (qw:∀(A:Around) (outer:List Env) (s:Shared) (H:Hp) (vs:List V) (Q:VK) (E:XK),bf k (A.deeper (envOfC qual scope s.heap.objs.size f aW))->sp vs H Q E ->
   ∃t,bP (dY CX P w K mg base N qual scope f aW A outer s H E) body t/\t { nx:=λ_ H'=>Q .af H',rt:=Q } (start N vs) H) :
  a5 P w K mg base CX (k+1) f (PySem.W.fnOf name qual params body scope XF kV a3 pm an aW ct) ps sp:=by
 refine⟨len,λA outer s H args us vs Q E hr e0 hb r gE=>?_⟩;have hl:=len _ _ _ _ gE;have KX:K.In s.heap:=e0.b8.h8.keeps λb o e=>(e0.bs b o e).1;have kO:s.heap.NoLimit:=e0.b8.nolimit.keeps λb o e=>(e0.bs b o e).1;have Fk:∀y∈ps.zip us,scope.names.lookup y.1=some .local\/(scope.names.lookup y.1=some .cell/\((cellsFrom (s.heap.objs.size+1) scope.names []).lookup y.1).isSome=true):=λ⟨n,v⟩ hy=>by
  rcases S.qv n (List.of_mem_zip hy).1 with q |q
  ·exact .inl q
  ·exact .inr ⟨q,PySem.W.cellsFrom_some _ _ _ (.inl q)⟩
 refine codeAny_call_function hr.depth (KX _ _ lk) rfl S.YO S.nq rfl (PySem.W.codeRec_of KX cY) (hb _ _ _ _ ?_);refine wpAny_newFunctionEnv_cells S.kind Fk λenv he s1 x=>?_;subst he;refine⟨kO.keeps x.toInCall.keep,codeAny_func ?_⟩;obtain⟨t,ht,hq⟩:=qw A outer s H vs Q E (hr.deeper _) gE;have I:ab (dY CX P w K mg base N qual scope f aW A outer s H E) [] (start N vs) H s1:=wz S hr.hd e0 hl r x;refine wpAny_mono (ht [] s1 (start N vs) H _ I hq) (λfl s' hs=>?_) λe s' hs=>hs;have fin:∀{σ':St} {H':Hp}{v:V}{u:Value},ab (dY CX P w K mg base N qual scope f aW A outer s H E) [] σ' H' s'->av v u->Q v H'->CE outer P w H s Q u s':=
  λ{σ' H' v u} J rv q=>⟨v,H',J.os,J.bT,J.base,J.ae,rv,q⟩
 cases fl with
 |ret u=>
  obtain⟨v,σ',H',J,rv,q⟩:=hs;exact fin J rv q
 |next=>
  obtain⟨σ',H',J,q⟩:=hs;exact fin (v:=V.af) (u:=abB) J rfl q
 |brk=>
  obtain⟨_,_,_,q⟩:=hs;exact abY q
 |cont=>
  obtain⟨_,_,_,q⟩:=hs;exact abY q
end L2
namespace L2
open PySem PySem.Spec PyProof.Rows
section
variable {X:Cx}{x:Str}{p pos:Pos}{e:Expr}{es:List Expr}{t:TA}{id T:String}{r:List V->Hp->VK->Prop}
def kP (r:List V->Hp->VK->Prop) (t:TA):TE:=fun σ H Q=>t σ H λvs H1=>r vs H1 Q
theorem Fv (hc:bp X (.builtin id) r) (hg:Gl X x) (hm:X.mg x=none) (hv:bootBuiltins x=some (.builtin id)) (ha:PA X (e::es) t) (hn:x≠"__name__":=by decide) (b9:(x == ("__debug__" : Str))=false:=by decide)
  (he:starEach (e::es) X.env=(false,eval e X.env)::starEach es X.env:=by rfl) (dv:(backTo pos (starEach es X.env)).any (·.1)=false:=by rfl):PE X (.Call (.Name x p) (e::es) [] pos) (kP r t):=by
 intro pins s σ H Q I h;refine abF (fb I hg hm hv ?_ hn b9);exact PyProof.Rows.callWith_builtin1 (ar (ha pos pins s σ H _ I h) λus s1 ⟨vs,H1,I1,r1,q1⟩=>hc pins s1 σ H1 vs us Q I1 r1 q1) he dv
theorem Fw (hc:bp X (.type T) r) (hg:Gl X x) (hm:X.mg x=none) (hv:bootBuiltins x=some (.type T)) (ha:PA X (e::es) t) (hn:x≠"__name__":=by decide) (b9:(x == ("__debug__" : Str))=false:=by decide)
  (he:starEach (e::es) X.env=(false,eval e X.env)::starEach es X.env:=by rfl) (dv:(backTo pos (starEach es X.env)).any (·.1)=false:=by rfl):PE X (.Call (.Name x p) (e::es) [] pos) (kP r t):=by
 intro pins s σ H Q I h;refine abF (fb I hg hm hv ?_ hn b9);exact abu (ar (ha pos pins s σ H _ I h) λus s1 ⟨vs,H1,I1,r1,q1⟩=>hc pins s1 σ H1 vs us Q I1 r1 q1) he dv
end
end L2
namespace L2
open PySem PySem.Spec PyProof.Rows
section
variable {κ:Type} [DecidableEq κ]
noncomputable def cw (kvs:List (κ×V)) (k:κ):Option V:=(kvs.find? λkv=>decide (kv.1=k)).map (·.2)
noncomputable def cx (kvs:List (κ×V)) (k:κ) (v:V):List (κ×V):=
 if (kvs.any λkv=>decide (kv.1=k))=true then kvs.map (λkv=>if kv.1=k then (kv.1,v) else kv) else kvs++[(k,v)]
theorem kQ {p:κ×V}{r:List (κ×V)}{k:κ} (e:p.1=k):cw (p::r) k=some p.2:=by simp [cw,aby,e]
theorem kR {p:κ×V}{r:List (κ×V)}{k:κ} (e:¬p.1=k):cw (p::r) k=cw r k:=by simp [cw,aby,e]
theorem wB (k:κ):∀kvs:List (κ×V),(kvs.any λkv=>decide (kv.1=k))=(cw kvs k).isSome
 |[]=>rfl
 |p::r=>by
  rw[abR];by_cases e:p.1=k
  ·simp only[kQ e,decide_eq_true e,Bool.true_or,Option.isSome_some]
  ·rw[kR e,decide_eq_false e,Bool.false_or];exact wB k r
theorem nr (kvs:List (κ×V)) (k:κ) (v:V):(cx kvs k v).length<=kvs.length+1:=by
 unfold cx;split
 ·rw[aaN];lia
 ·rw[abk,aaS,abV];lia
theorem cH.kS {o:Option V}{u:Option Value} (r:cH o u):o.isSome=u.isSome:=by
 cases o with
 |none=>cases u with
  |none=>rfl
  |some _=>exact (show False from r).elim
 |some _=>cases u with
  |none=>exact (show False from r).elim
  |some _=>rfl
theorem cH.getD {o:Option V}{u:Option Value}{d:V}{d':Value} (r:cH o u) (rd:av d d'):av (o.getD d) (u.getD d'):=by
 cases o with
 |none=>cases u with
  |none=>exact rd
  |some _=>exact (show False from r).elim
 |some _=>cases u with
  |none=>exact (show False from r).elim
  |some _=>exact r
theorem KV.val {kvs:List (κ×V)}{vs:List (κ×Value)} (r:KV kvs vs) (k:κ):cH (cw kvs k) (valueAt vs k):=by
 unfold KV at r
 induction r with
 |nil=>exact aaV
 |@cons p q ps qs h t ih=>
  obtain⟨h1,h2⟩:=h;by_cases e:p.1=k
  ·have e':q.1=k:=h1.symm.trans e;have b:valueAt (q::qs) k=some q.2:=(by simp [valueAt,aby,e']);rw[kQ e,b];exact h2
  ·have e':¬q.1=k:=λz=>e (h1.trans z);have b:valueAt (q::qs) k=valueAt qs k:=(by simp [valueAt,aby,e']);rw[kR e,b];exact ih
theorem KV.any {kvs:List (κ×V)}{vs:List (κ×Value)} (r:KV kvs vs) (k:κ):(kvs.any λkv=>decide (kv.1=k))=vs.any λkv=>decide (kv.1=k):=by
 unfold KV at r
 induction r with
 |nil=>rfl
 |cons h t ih=>rw[abR,abR,ih,h.1]
theorem KV.qx {kvs:List (κ×V)}{vs:List (κ×Value)} (r:KV kvs vs) (k:κ) {y:V}{u:Value} (ry:av y u) :
  KV (kvs.map λkv=>if kv.1=k then (kv.1,y) else kv) (vs.map λkv=>if kv.1=k then (kv.1,u) else kv):=by
 unfold KV at r ⊢
 induction r with
 |nil=>exact .nil
 |@cons p q ps qs h t ih=>
  rw[aaR,aaR];refine .cons ?_ ih;obtain⟨h1,h2⟩:=h;by_cases e:p.1=k
  ·rw[if_pos e,if_pos (h1.symm.trans e)];exact⟨h1,ry⟩
  ·rw[if_neg e,if_neg (λz=>e (h1.trans z))];exact⟨h1,h2⟩
theorem KV.put {kvs:List (κ×V)}{vs:List (κ×Value)} (r:KV kvs vs) (k:κ) {y:V}{u:Value} (ry:av y u):KV (cx kvs k y) (stored vs k u):=by
 unfold cx stored;rw[r.any k];by_cases e:(vs.any λkv=>decide (kv.1=k))=true
 ·rw[if_pos e,if_pos e];exact r.qx k ry
 ·rw[if_neg e,if_neg e];exact Paired.snoc r ⟨rfl,ry⟩
theorem KV.length {kvs:List (κ×V)}{vs:List (κ×Value)} (r:KV kvs vs):kvs.length=vs.length:=Paired.length r
end
theorem gF {P:Program}{w:World}{k:Key}{u:Value} (r:av (kV k) u):(b6 P w).is k u=true:=by
 cases k with
 |inl i=>obtain⟨t,e⟩:=(show ∃t,u=Value.int i t from r);subst e;exact C3 P w i t
 |inr x=>obtain⟨t,e⟩:=(show ∃t,u=Value.str x t from r);subst e;exact C4 P w x t
theorem wC {P:Program}{w:World}:∀{ks:List Key}{us:List Value},aq (ks.map kV) us->ItemsAre (b6 P w) ks us
 |[],_,r=>by rw[List.map_nil]at r;cases r;exact .nil
 |k::ks,_,r=>by
  rw[aaR]at r;cases r with
  |cons h t=>exact .cons (gF h) (wC t)
abbrev KT (H:Hp):List (List Key×V)->List (List Key×Addr×Value)->Prop:=Paired λp q=>p.1=q.1/\H q.2.1=some (.tup (p.1.map kV))/\av p.2 q.2.2
theorem KT.val {H:Hp}{kvs:List (List Key×V)}{xs:List (List Key×Addr×Value)} (r:KT H kvs xs) (k:List Key):cH (cw kvs k) ((atKey xs k).map (·.2)):=by
 induction r with
 |nil=>exact aaV
 |@cons p q ps qs h t ih=>
  obtain⟨h1,_,h2⟩:=h;by_cases e:p.1=k
  ·have e':q.1=k:=h1.symm.trans e;have b:atKey (q::qs) k=some q.2:=(by simp [atKey,aby,e']);rw[kQ e,b];exact h2
  ·have e':¬q.1=k:=λz=>e (h1.trans z);have b:atKey (q::qs) k=atKey qs k:=(by simp [atKey,aby,e']);rw[kR e,b];exact ih
theorem KT.qx {H:Hp}{kvs:List (List Key×V)}{xs:List (List Key×Addr×Value)} (r:KT H kvs xs) (k:List Key) {y:V}{u:Value} (ry:av y u) :
  KT H (kvs.map λkv=>if kv.1=k then (kv.1,y) else kv) (xs.map (putAt k u)):=by
 induction r with
 |nil=>exact .nil
 |@cons p q ps qs h t ih=>
  rw[aaR,aaR];refine .cons ?_ ih;obtain⟨h1,h2,h3⟩:=h;unfold putAt;by_cases e:p.1=k
  ·rw[if_pos e,if_pos (h1.symm.trans e)];exact⟨h1,h2,ry⟩
  ·rw[if_neg e,if_neg (λz=>e (h1.trans z))];exact⟨h1,h2,h3⟩
theorem KT.put {H:Hp}{kvs:List (List Key×V)}{xs:List (List Key×Addr×Value)} (r:KT H kvs xs) (k:List Key) {b:Addr}{y:V}{u:Value} (hb:H b=some (.tup (k.map kV))) (ry:av y u) :
  KT H (cx kvs k y) (storedH xs k b u):=by
 have e:(kvs.any λkv=>decide (kv.1=k))=(atKey xs k).isSome:=by
  rw[wB,(r.val k).kS,Option.isSome_map]
 unfold cx storedH;rw[e];by_cases q:(atKey xs k).isSome=true
 ·rw[if_pos q,if_pos q];exact r.qx k ry
 ·rw[if_neg q,if_neg q];exact Paired.snoc r ⟨rfl,hb,ry⟩
theorem KT.keeps {H H':Hp}{kvs:List (List Key×V)}{xs:List (List Key×Addr×Value)} (r:KT H kvs xs) (ht:∀b ys,H b=some (.tup ys)->H' b=some (.tup ys)):KT H' kvs xs:=
 Paired.mM r λ_ _ z=>⟨z.1,ht _ _ z.2.1,z.2.2⟩
section
variable {P:Program}{w:World}{H:Hp}{h:Heap}{a:Addr}
theorem wD {u:HO} (ok:aQ P w H h) (e:Rd H a u):bk P w H h a u:=e.ok ok
theorem dw {kvs:List (Key×V)} (ok:aQ P w H h) (e:Rd H a (.dK kvs)):kvs.length<=sizeLine/\(a == sysModules)=false/\∃vs,KV kvs vs/\h.DictOf (b6 P w) a vs:=
 show bk P w H h a (.dK kvs) from wD ok e
theorem nt {kvs:List (Key×V)} (ok:aQ P w H h) (e:H a=some (.dK kvs)):kvs.length<=sizeLine/\(a == sysModules)=false/\∃vs,KV kvs vs/\h.DictOf (b6 P w) a vs:=dw ok (.inl e)
theorem jr {ks:List Key} (ok:aQ P w H h) (e:H a=some (.tup (ks.map kV))):(tupleKind (b6 P w)).is h ks a:=by
 obtain⟨_,its,r,o,h1,h2,n,h3⟩:=(show bk P w H h a (.tup (ks.map kV)) from ok a _ e);exact⟨o,its.toArray,n,h1,h2,h3,by simpa using wC r⟩
theorem iA {kvs:List (List Key×V)} (ok:aQ P w H h) (e:Rd H a (.dT kvs)):kvs.length<=sizeLine/\(a == sysModules)=false /\
  ∃xs,KT H kvs xs/\h.DictOfH (tupleKind (b6 P w)) a xs:=by
 obtain⟨z,y,xs,r,o,es,ep,h1,h2,h3,h4,h5⟩:=(show bk P w H h a (.dT kvs) from wD ok e);refine⟨z,y,xs,r,o,es,ep,h1,h2,h3,h4,λx hx=>?_,h5⟩;have all:∀{l:List (List Key×V)}{m:List (List Key×Addr×Value)},KT H l m->∀x∈m,(tupleKind (b6 P w)).is h x.1 x.2.1:=by
  intro l m q
  induction q with
  |nil=>intro x hx;exact nomatch hx
  |@cons p q ps qs hq t ih=>
   intro x hx;rcases List.mem_cons.mp hx with e |hx
   ·subst e;exact jr ok (by rw[<- hq.1];exact hq.2.1)
   ·exact ih x hx
 exact all r x hx
theorem iB {kvs:List (List Key×V)} (ok:aQ P w H h) (e:H a=some (.dT kvs)):kvs.length<=sizeLine/\(a == sysModules)=false /\
  ∃xs,KT H kvs xs/\h.DictOfH (tupleKind (b6 P w)) a xs:=iA ok (.inl e)
end
def fg (H:Hp) (a:Addr) (y:V) (r:Option V):Prop:=
 (∃kvs k,Rd H a (.dK kvs)/\y=kV k/\r=cw kvs k)\/∃kvs k b,Rd H a (.dT kvs)/\y=.ref b/\H b=some (.tup (k.map kV))/\r=cw kvs k
def wF (H:Hp) (a:Addr) (y v:V) (H':Hp):Prop:=
 (∃kvs k,H a=some (.dK kvs)/\y=kV k/\kvs.length<sizeLine/\H'=ag H a (.dK (cx kvs k v))) \/
 ∃kvs k b,H a=some (.dT kvs)/\y=.ref b/\H b=some (.tup (k.map kV))/\kvs.length<sizeLine/\H'=ag H a (.dT (cx kvs k v))
section
variable {X:Cx}{pins:List (Addr×Obj)} {σ:St} {H:Hp}{s:Shared}{a:Addr}{y v:V}{u r:Value}{o:Option V}{A:Around}{E:Value->Shared->Prop}
theorem ab.gG (I:ab X pins σ H s):sysModules<s.heap.objs.size:=by
 have h:mainGlobals<s.heap.objs.size:=(I.b8.eZ.keeps I.Xj).lt;exact abi (by decide) h
theorem Fx {Q:Value->Shared->Prop} (hu:A.units+1<cLine) (I:ab X pins σ H s) (g:fg H a y (some v)) (ry:av y u) (h:∀ w' s',ab X pins σ H s'->av v w'->Q w' s') :
  wpAny (model X.prog X.w) A (getItem (.ref a) u) Q E s:=by
 rcases g with ⟨kvs,k,e,ey,l⟩ |⟨kvs,k,b,e,ey,eb,l⟩
 ·subst ey;obtain⟨z,hd,vs,rel,dd⟩:=dw I.ae e;obtain⟨w',hw,co⟩:=cH.qp (v:=v) (o:=valueAt vs k) (by rw[l];exact rel.val k);exact wpAny_getItem_of (gF ry) dd.mapOf hw (h w' _ (I.bx _) co)
 ·subst ey;cases (show u=aaX b from ry);obtain⟨z,hd,xs,rel,dd⟩:=iA I.ae e;obtain⟨w',hw,co⟩:=cH.qp (v:=v) (o:=(atKey xs k).map (·.2)) (by rw[l];exact rel.val k);obtain⟨p,hp,bU⟩:=Option.map_eq_some_iff.mp hw;refine wpAny_getItem_heap (tupleKind_room_in1 hu) (jr I.ae eb) dd hp ?_;rw[bU];exact h w' _ (I.bx _) co
theorem Fy {Q:Value->Shared->Prop} (hu:A.units+1<cLine) (I:ab X pins σ H s) (g:fg H a y o) (ry:av y u) (h:∀ s',ab X pins σ H s'->Q (.bool o.isSome) s') :
  wpAny (model X.prog X.w) A (compareOp .In u (.ref a)) Q E s:=by
 rcases g with ⟨kvs,k,e,ey,l⟩ |⟨kvs,k,b,e,ey,eb,l⟩
 ·subst ey;obtain⟨z,hd,vs,rel,dd⟩:=dw I.ae e;refine wpAny_in_of (gF ry) hd dd.mapOf ?_;rw[<- (rel.val k).kS,<- l];exact h _ (I.bx _)
 ·subst ey;cases (show u=aaX b from ry);obtain⟨z,hd,xs,rel,dd⟩:=iA I.ae e;refine wpAny_in_heap (tupleKind_room_in1 hu) (jr I.ae eb) hd dd ?_;have q:=(rel.val k).kS;rw[Option.isSome_map]at q;rw[<- q,<- l];exact h _ (I.bx _)
theorem Fz {Q:Value->Shared->Prop} (hu:A.units+1<cLine) (I:ab X pins σ H s) (g:fg H a y o) (ry:av y u) (h:∀ s',ab X pins σ H s'->Q (.bool (!o.isSome)) s') :
  wpAny (model X.prog X.w) A (compareOp .NotIn u (.ref a)) Q E s:=by
 rcases g with ⟨kvs,k,e,ey,l⟩ |⟨kvs,k,b,e,ey,eb,l⟩
 ·subst ey;obtain⟨z,hd,vs,rel,dd⟩:=dw I.ae e;refine wpAny_notIn_of (gF ry) hd dd.mapOf ?_;rw[<- (rel.val k).kS,<- l];exact h _ (I.bx _)
 ·subst ey;cases (show u=aaX b from ry);obtain⟨z,hd,xs,rel,dd⟩:=iA I.ae e;refine wpAny_notIn_heap (tupleKind_room_in1 hu) (jr I.ae eb) hd dd ?_;have q:=(rel.val k).kS;rw[Option.isSome_map]at q;rw[<- q,<- l];exact h _ (I.bx _)
theorem qy {h':Heap}{t':Nat}{ob:HO} (I:ab X pins σ H s) (mu:kr (H a)) (hs:ab2 a s.heap h') (he:∃ q,h'.get? a=some q) (new:bk X.prog X.w (ag H a ob) h' a ob) :
  ab X pins σ (ag H a ob) { s with heap:=h',toks:=t' }:=
 I.fQ (x:=a) (e:=a) mu (.inl rfl) (λb q hb z=>(hs.2 b hb).trans z) he new
theorem wG {P:Program}{w:World}{H':Hp}{h':Heap}{kvs:List (Key×V)}{vs:List (Key×Value)} (z:kvs.length<=sizeLine) (hd:(a == sysModules)=false) (rel:KV kvs vs) (dd:h'.DictOf (b6 P w) a vs) :
  bk P w H' h' a (.dK kvs):=⟨z,hd,vs,rel,dd⟩
theorem FA {H':Hp}{Q:Unit->Shared->Prop} (hu:A.units+1<cLine) (I:ab X pins σ H s) (g:wF H a y v H') (ry:av y u) (rv:av v r) (h:∀ s',ab X pins σ H' s'->Q () s') :
  wpAny (model X.prog X.w) A (setItem (.ref a) u r) Q E s:=by
 rcases g with ⟨kvs,k,e,ey,l,Yh⟩ |⟨kvs,k,b,e,ey,eb,l,Yh⟩
 ·subst ey Yh;obtain⟨z,hd,vs,rel,dd⟩:=nt I.ae e;have hz:vs.length<=sizeLine:=by rw[<- rel.length];exact z
  have hl:(cx kvs k v).length<=sizeLine:=by have:=nr kvs k v;lia
  refine wpAny_setItem_pairs (hsz:=hz) (gF ry) dd λh' io hs=>h _ ?_;have he:∃q,h'.get? a=some q:=let ⟨q,_,_,hq,_⟩:=io;⟨q,hq⟩
  exact qy I (by rw[e];exact aaV) hs he (wG hl hd (rel.put k rv) io)
 ·subst ey Yh;cases (show u=aaX b from ry);obtain⟨z,hd,xs,rel,dd⟩:=iB I.ae e;have hz:xs.length<=sizeLine:=by rw[<- Paired.length rel];exact z
  have hl:(cx kvs k v).length<=sizeLine:=by have:=nr kvs k v;lia
  refine wpAny_setItem_heap (hsz:=hz) (tupleKind_room_in1 hu) (jr I.ae eb) dd λh' io hs=>h _ ?_;obtain⟨q,es,ep,hq,h2,h3,h4,_,h5⟩:=io;refine qy I (by rw[e];exact aaV) hs ⟨q,hq⟩ ⟨hl,hd,_,(rel.put k eb rv).keeps λc ys XU=>?_,q,es,ep,hq,h2,h3,h4,h5⟩;rw[aD (C5 XU e (λz=>nomatch z))];exact XU
end
section
variable {X:Cx}{pins:List (Addr×Obj)} {σ:St} {H:Hp}{s:Shared}{a:Addr}{kvs:List (Key×V)}{k:Key}{u:Value}{A:Around}{E:Value->Shared->Prop}
theorem FC {Q:Value->Shared->Prop} (I:ab X pins σ H s) (e:Rd H a (.dK kvs)) (h:∀t s',ab X pins σ H s'->Q (.int kvs.length t) s'):wpAny (model X.prog X.w) A (call (.builtin "len") [.ref a]) Q E s:=by
 obtain⟨z,hd,vs,rel,dd⟩:=dw I.ae e;refine call_len_dict hd dd (by rw[<- rel.length];rw[sizeLine_eq]at z;lia) ?_;rw[<- rel.length];exact h _ _ (I.bx _)
end
theorem FD {X:Cx}{pins:List (Addr×Obj)} {σ:St} {H:Hp}{s:Shared}{a:Addr}{y:V}{o:Option V} (I:ab X pins σ H s) (g:fg H a y o):s.TypeIs (.ref a) "dict":=by
 rcases g with ⟨kvs,k,e,_,_⟩ |⟨kvs,k,b,e,_,_,_⟩
 ·obtain⟨_,_,vs,_,dd⟩:=dw I.ae e;exact dd.typeIs
 ·obtain⟨_,_,xs,_,dd⟩:=iA I.ae e;exact dd.typeIs
section
variable {X:Cx}{o i e value:Expr}{pos ff Fa:Pos}{td ty tv:TE}
end
theorem wH {P:Program}{w:World}{H:Hp} (h:Heap) (hb:sysModules<h.objs.size):bk P w H (h.push { cls:=.type "dict",data:=.dict #[] }) h.objs.size (.dK []):=
 ⟨abA _,beq_eq_false_iff_ne.mpr (abx (aaL hb)),[],.nil,Heap.DictOf.new h⟩
def FE:TE:=λ_ H Q=>∀p,H p=none->Q (.ref p) (ag H p (.dK []))
section
variable {X:Cx}{pos:Pos}
theorem FF:PE X (.Dict [] [] pos) FE:=λpins s σ H Q I h=>
 wpAny_Dict_empty ⟨.ref s.heap.objs.size,_,I.laid (a:=s.heap.objs.size) (o:=.dK []) (t':=s.toks) (λ_ _ q=>aaD _ q) (aaH _) (wH s.heap I.gG),rfl,h _ (I.ae.fresh (aaH _))⟩
end
def nu:List (TE×TE)->St->Hp->(List (V×V)->Hp->Prop)->Prop
 |[],_,H,Q=>Q [] H
 |(tk,tv)::r,σ,H,Q=>tk σ H λx H1=>tv σ H1 λy H2=>nu r σ H2 λps H3=>Q ((x,y)::ps) H3
abbrev VV:List (V×V)->List (Value×Value)->Prop:=Paired λp q=>av p.1 q.1/\av p.2 q.2
def js (X:Cx) (pos:Pos) (c5:List (Option Expr)) (fW:List Expr) (fX:List (TE×TE)):Prop:=
 ∀(pins:List (Addr×Obj)) (s:Shared) (σ:St) (H:Hp) (Q:List (V×V)->Hp->Prop),ab X pins σ H s->nu fX σ H Q ->
  wpAny (model X.prog X.w) X.A (evalPairs (pairTrees c5 fW X.env pos)) (λvs s'=>∃ps H',ab X pins σ H' s'/\VV ps vs/\Q ps H') X.xe s
theorem FG {X:Cx}{pos:Pos}:js X pos [] [] []:=λpins s σ H Q I h=>pairTrees_nil_walk ⟨[],H,I,.nil,h⟩
theorem FH {X:Cx}{pos:Pos}{k v:Expr}{ks:List (Option Expr)}{vs:List Expr}{tk tv:TE}{fX:List (TE×TE)} (hk:PE X k tk) (hv:PE X v tv) (hr:js X pos ks vs fX) :
  js X pos (some k::ks) (v::vs) ((tk,tv)::fX):=λpins s σ H Q I h=>
 pairTrees_cons_walk (ar (hk pins s σ H _ I h) λu s1 ⟨x,H1,I1,rx,q1⟩=>ar (hv pins s1 σ H1 _ I1 q1) λw2 s2 ⟨y,H2,I2,ry,q2⟩=>
  ar (hr pins s2 σ H2 _ I2 q2) λws s3 ⟨ps,H3,I3,rel,q3⟩=>⟨(x,y)::ps,H3,I3,.cons ⟨rx,ry⟩ rel,q3⟩)
noncomputable def kU (kvs more:List (Key×V)):List (Key×V):=more.foldl (λam kv=>cx am kv.1 kv.2) kvs
theorem KV.FI:∀{more:List (Key×V)}{rs:List (Key×Value)}{kvs:List (Key×V)}{vs:List (Key×Value)},KV more rs->KV kvs vs->KV (kU kvs more) (merged vs rs):=by
 intro more rs kvs vs r;unfold KV at r
 induction r generalizing kvs vs with
 |nil=>intro q;exact q
 |@cons p q ps qs h t ih=>
  intro r0;have e:KV (cx kvs p.1 p.2) (stored vs q.1 q.2):=by
   have:=r0.put p.1 h.2;rw[<- h.1];exact this
  exact ih e
theorem wI:∀(more kvs:List (Key×V)),(kU kvs more).length<=kvs.length+more.length
 |[],kvs=>by show kvs.length<=kvs.length+0;lia
 |p::r,kvs=>by
  have h1:=wI r (cx kvs p.1 p.2);have h2:=nr kvs p.1 p.2;show (kU (cx kvs p.1 p.2) r).length<=_;rw[aaS];lia
theorem wJ {P:Program}{w:World}:∀{kvs:List (Key×V)}{ws:List (Value×Value)},VV (kvs.map λkv=>(kV kv.1,kv.2)) ws->∃rs,Carries (b6 P w) ws rs/\KV kvs rs
 |[],_,r=>by rw[List.map_nil]at r;cases r;exact⟨[],aaV,.nil⟩
 |p::kvs,_,r=>by
  rw[aaR]at r;cases r with
  |@cons a b as bs h t=>
   obtain⟨rs,c,q⟩:=wJ (P:=P) (w:=w) t;obtain⟨b1,b2⟩:=b;exact⟨(p.1,b2)::rs,⟨gF h.1,rfl,c⟩,.cons ⟨rfl,h.2⟩ q⟩
def FJ (fX:List (TE×TE)):TE:=fun σ H Q=>∀p,H p=none->nu fX σ (ag H p (.dK [])) λps H2=>H2 p=some (.dK [])/\∃kvs:List (Key×V),ps=kvs.map (λkv=>(kV kv.1,kv.2))/\kvs.length<=15/\Q (.ref p) (ag H2 p (.dK (kU [] kvs)))
theorem FK {X:Cx}{pos:Pos}{c5:List (Option Expr)}{fW:List Expr}{fX:List (TE×TE)} (h:js X pos c5 fW fX) (iC:c5.all (·.isSome)=true) (hl:c5.length=fW.length) (h0:c5≠[])
  (qz:c5.length<=15):PE X (.Dict c5 fW pos) (FJ fX):=by
 intro pins s σ H Q I q;have hn:=I.ae.fresh (aaH s.heap.objs.size);have I1:=I.laid (a:=s.heap.objs.size) (o:=.dK []) (h':=s.heap.push { cls:=.type "dict",data:=.dict #[] }) (t':=s.toks) (λ_ _ q=>aaD _ q) (aaH _) (wH s.heap I.gG);refine wpAny_Dict_walk (knd:=b6 X.prog X.w) iC hl h0 qz (ar (h pins _ σ _ _ I1 (q _ hn)) λws s2 ⟨ps,H2,I2,rel,e,kvs,ep,lk,q2⟩=>?_);subst ep;obtain⟨rs,c,rk⟩:=wJ (P:=X.prog) (w:=X.w) rel;obtain⟨z,hd,V1,r0,dd⟩:=nt I2.ae e;cases r0;refine⟨rs,c,dd,λh' io hs=>⟨.ref s.heap.objs.size,_,?_,rfl,q2⟩⟩;have hz:(kU [] kvs).length<=sizeLine:=by
  have h1:=wI kvs [];rw[abV]at h1;rw[sizeLine_eq];lia
 have he:∃q,h'.get? s.heap.objs.size=some q:=let ⟨q,_,_,hq,_⟩:=io;⟨q,hq⟩
 exact qy I2 (by rw[e];exact aaV) hs he (wG hz hd (rk.FI .nil) io)
structure M1 (X:Cx) (o:Expr) (m:Str) (b3:Pos) (e:Expr) (cpos:Pos):Prop where
 base:attributeBase o m X.env (eval o X.env)=eval o X.env
 FL:((backTo cpos (starEach [e] X.env)).all (λx=>!x.1) && (backToKw cpos (keywordEach [] X.env)).all (λx=>x.1.isSome)
  && decide (([e]:List Expr).length+([]:List Keyword).length+(if ([]:List Keyword).isEmpty then 0 else 1)<30))=true
 line:(b3.endLine == cpos.line)=true
 FN:backTo cpos (starEach [e] X.env)=[(false,eval e X.env)]
def wK (H:Hp) (a:Addr):Prop:=(∃kvs,Rd H a (.dK kvs))\/∃kvs,Rd H a (.dT kvs)
theorem FP {X:Cx}{pins:List (Addr×Obj)} {σ:St} {H:Hp}{s:Shared}{a:Addr} (I:ab X pins σ H s) (d:wK H a) :
  s.TypeIs (.ref a) "dict"/\(∀b,aaX a=.ref b->∃ob,s.heap.get? b=some ob/\ob.dict=none)/\(a == sysModules)=false:=by
 rcases d with ⟨kvs,e⟩ |⟨kvs,e⟩
 ·obtain⟨_,hd,vs,_,dd⟩:=dw I.ae e;refine⟨dd.typeIs,λb q=>?_,hd⟩;cases q;obtain⟨ob,_,_,h1,h2,_⟩:=dd;exact⟨ob,h1,h2.2.1⟩
 ·obtain⟨_,hd,xs,_,dd⟩:=iA I.ae e;refine⟨dd.typeIs,λb q=>?_,hd⟩;cases q;obtain⟨ob,_,_,h1,h2,_⟩:=dd;exact⟨ob,h1,h2.2.1⟩
section
variable {X:Cx}{pins:List (Addr×Obj)} {σ:St} {H:Hp}{s:Shared}{a:Addr}{y d:V}{u r:Value}{o:Option V}{A:Around}{E:Value->Shared->Prop}
theorem FQ {Q:Value->Shared->Prop} (hu:A.units+1<cLine) (I:ab X pins σ H s) (g:fg H a y o) (ry:av y u) (h:∀ w' s',ab X pins σ H s'->av (o.getD .af) w'->Q w' s') :
  wpAny (model X.prog X.w) A (call (.builtin "dict.get") [.ref a,u]) Q E s:=by
 rcases g with ⟨kvs,k,e,ey,l⟩ |⟨kvs,k,b,e,ey,eb,l⟩
 ·subst ey;obtain⟨z,hd,vs,rel,dd⟩:=dw I.ae e;refine call_meetsIn PySem.F.slot_dict_get dd.typeIs PySem.F.entry_dict_get (PySem.F.args_dict_get_2 _ _) (meets_dict_get (b6 X.prog X.w) a (gF ry) hd) ⟨_,dd.mapOf,h _ _ (I.bx _) ?_⟩;rw[l];exact (rel.val k).getD rfl
 ·subst ey;cases (show u=aaX b from ry);obtain⟨z,hd,xs,rel,dd⟩:=iA I.ae e;refine call_meetsIn PySem.F.slot_dict_get dd.typeIs PySem.F.entry_dict_get (PySem.F.args_dict_get_2 _ _) (meetsH_dict_get (tupleKind (b6 X.prog X.w)) a b hd) ⟨tupleKind_room_in1 hu,k,xs,jr I.ae eb,dd,h _ _ (I.bx _) ?_⟩;rw[l];exact (rel.val k).getD rfl
end
def FR (td ty:TE):TE:=fun σ H Q=>td σ H λx H1=>∃a,x=.ref a/\wK H1 a/\ty σ H1 λy H2=>∃o,fg H2 a y o/\Q (o.getD .af) H2
section
variable {X:Cx}{o e f:Expr}{b3 cpos:Pos}{td ty YQ:TE}
theorem FT (hu:X.A.units+1<cLine) (ho:PE X o td) (he:PE X e ty) (m:M1 X o "get" b3 e cpos):PE X (.Call (.Attribute o "get" b3) [e] [] cpos) (FR td ty):=by
 intro pins s σ H Q I h;refine wpAny_Call_method m.base m.FL m.line PySem.F.plainAttrs_dict PySem.F.slot_dict_get PySem.F.type_dict_get (ar (ho pins s σ H _ I h) λu s1 ⟨x,H1,I1,rx,a,ex,d,q1⟩=>?_);subst ex;obtain rfl:u=aaX a:=rx;obtain⟨t1,t2,_⟩:=FP I1 d;refine⟨t1,t2,?_⟩;rw[m.FN];refine Calls.callWith_builtin rfl (Calls.evalArgs_plain (Calls.spliced_cons (ar (he pins s1 σ H1 _ I1 q1) λiv s2 ⟨y,H2,I2,ry,ov,g,q2⟩=>Calls.spliced_nil ?_)));exact FQ hu I2 g ry λw' s3 I3 co=>⟨_,H2,I3,co,q2⟩
end
section
variable {X:Cx}{pins:List (Addr×Obj)} {σ:St} {H:Hp}{s:Shared}{a:Addr}{kvs:List (Key×V)}{A:Around}{E:Value->Shared->Prop}
end
section
variable {X:Cx}{pins:List (Addr×Obj)} {σ:St} {H:Hp}{s:Shared}{a:Addr}{y:V}{u:Value}{A:Around}{E:Value->Shared->Prop}
end
end L2
namespace HT
open PySem PyProof.Rows
section
open PySem.SeqAt
open PySem.AutoSeq1 (wpAny_loadPart')
open PySem.MeetsSeq PySem.MeetsSeq2 PySem.MeetsSeq3
end
section
variable {prog:Program}{w:World}{A:Around}{E:Value->Shared->Prop}{s:Shared}
theorem FU {t b:Addr}{vs ws:List Value}{Q:Value->Shared->Prop} (ht:IsTup s.heap t vs.toArray) (hb:IsTup s.heap b ws.toArray) (hv:vs≠[])
  (h1:ws=[]->Q (.ref t) s) (h2:ws≠[]->Q (.ref s.heap.objs.size) { s with heap:=s.heap.push { cls:=.type "tuple",data:=.seq (vs++ws).toArray } })
  (hsz:vs.length+ws.length<=sizeLine):wpAny (model prog w) A (binaryOp .Add (.ref t) (.ref b)) Q E s:=by
 obtain⟨⟨cls,dd,data,sl⟩,ho,hc,n,hd⟩:=id ht;obtain⟨⟨wv,iD,ww,kW⟩,dZ,fY,n2,gH⟩:=id hb;simp only at hc hd fY gH;subst hc hd fY gH;have e:vs.toArray++ws.toArray=(vs++ws).toArray:=by simp
 by_cases hw:ws=[]
 ·exact concat_meets ⟨_,ho,rfl⟩ ⟨_,dZ,rfl⟩ noFill_tuple_add seq_tuple_add PySem.F.slot_tuple_add PySem.F.entry_tuple_add (PySem.F.args_tuple_add_2 _ _)
   (tuple_addW1 t b vs.toArray ws.toArray n n2 dd iD sl kW (by simpa using hv) (by simp [hw])) ⟨ho,dZ,h1 hw⟩
 ·refine concat_meets ⟨_,ho,rfl⟩ ⟨_,dZ,rfl⟩ noFill_tuple_add seq_tuple_add PySem.F.slot_tuple_add PySem.F.entry_tuple_add (PySem.F.args_tuple_add_2 _ _)
   (tuple_addW2 t b vs.toArray ws.toArray n n2 dd iD sl kW (by simpa using hv) (by simpa using hw) (by rw[aaF,aaF];exact hsz)) ⟨ho,dZ,?_⟩
  rw[e];exact h2 hw
noncomputable def ax (n d:Nat):Option Int->Nat
 |none=>d
 |some v=>if v<0 then (v+(n:Int)).toNat else min v.toNat n
theorem FV (n d:Nat) (hd:d<=n) (o:Option Int):ax n d o<=n:=by
 cases o with
 |none=>exact hd
 |some v=>
  show (if v<0 then (v+(n:Int)).toNat else min v.toNat n)<=n
  by_cases hv:v<0
  ·rw[if_pos hv];lia
  ·rw[if_neg hv];exact Nat.min_le_right _ _
theorem wL (v:Int) (n d:Nat):(if v<0 then max (v+(n:Int)) 0 else min v (n:Int))=((ax n d (some v):Nat):Int):=by
 show (if v<0 then max (v+(n:Int)) 0 else min v (n:Int))=(((if v<0 then (v+(n:Int)).toNat else min v.toNat n):Nat):Int)
 by_cases hv:v<0
 ·simp only[if_pos hv];lia
 ·simp only[if_neg hv];lia
theorem FW (lo hi:Option Int) (n:Nat):Builtin.Slice.sliceAdjust lo hi 1 (n:Int)=(((ax n 0 lo:Nat):Int),((ax n n hi:Nat):Int)):=by
 have h1:¬((1:Int)<0):=by lia
 unfold Builtin.Slice.sliceAdjust;simp only[h1,if_false];refine Prod.ext ?_ ?_
 ·cases lo with
  |none=>rfl
  |some v=>exact wL v n 0
 ·cases hi with
  |none=>rfl
  |some v=>exact wL v n n
theorem FX (i j:Nat):abC (i:Int) (j:Int) 1=j-i:=by
 unfold abC;have h1:(1:Int) > 0:=by lia
 simp only[h1,if_true,Int.ediv_one];split <;> lia
theorem wM {v:Value}{o:Option Int}{Q:Option Int->Shared->Prop} (p:IsPart v o) (h:Q o s):wpAny (model prog w) A (Builtin.Slice.slicePartIndex v) Q E s:=by
 cases p with
 |none=>exact slicePart_none h
 |int i t=>exact slicePart_int h
theorem wN {sl:Addr}{vl vu:Value}{lo hi:Option Int}{n:Nat}{Q:Int×Int×Nat->Shared->Prop} (hs:s.heap.IsSliceOf sl vl vu .none) (pl:IsPart vl lo) (pu:IsPart vu hi)
  (h:Q (((ax n 0 lo:Nat):Int),1,ax n n hi-ax n 0 lo) s):wpAny (model prog w) A (ab' (.ref sl) (pure (n:Int))) Q E s:=by
 obtain⟨os,cO,eg,dz⟩:=id hs;unfold ab' Builtin.Slice.sliceFields;refine aaC (aaC (abn cO dz (x:=vl) rfl (aaC (abn cO dz (x:=vu) rfl (aaC (abn cO dz (x:=.none) rfl (aaE ?_)))))));refine aaC (slicePart_none ?_);show wpAny _ _ (if ((1:Int) == 0)=true then _ else _) _ _ s
 rw[if_neg (by decide)];refine aaC (wM pl (aaC (wM pu (aaC (aaE ?_)))));show wpAny _ _ (match Builtin.Slice.sliceAdjust lo hi 1 (n:Int) with |(lo,hi)=>pure (lo,(1:Int),abC lo hi 1)) _ _ s
 rw[FW lo hi n];show wpAny _ _ (pure (((ax n 0 lo:Nat):Int),(1:Int),abC ((ax n 0 lo:Nat):Int) ((ax n n hi:Nat):Int) 1)) _ _ s;rw[FX];exact aaE h
theorem FY (xs:Array Value) (i k:Nat):((ab6 k).filterMap λ(m:Nat)=>xs[((i:Int)+(m:Int) * 1).toNat]?).toArray=((xs.toList.drop i).take k).toArray:=by
 have e:(λ(m:Nat)=>xs[((i:Int)+(m:Int) * 1).toNat]?)=λm=>xs[i+m]?:=by
  funext m;have:((i:Int)+(m:Int) * 1).toNat=i+m:=by lia
  rw[this]
 rw[e];have:=pick_run xs i k;rw[List.filterMap_map]at this;have e2:((λx=>xs[x]?) ∘ λx=>i+x)=λm=>xs[i+m]?:=rfl;rw[e2]at this;rw[this]
theorem FZ {t sl:Addr}{items:Array Value}{vl vu:Value}{lo hi:Option Int}{Q:Value->Shared->Prop} (ht:IsTup s.heap t items) (hs:s.heap.IsSliceOf sl vl vu .none) (pl:IsPart vl lo) (pu:IsPart vu hi)
  (hw:¬(ax items.size 0 lo=0/\ax items.size items.size hi=items.size))
  (h:Q (.ref s.heap.objs.size) { s with heap:=s.heap.push { cls:=.type "tuple",data:=.seq ((items.toList.drop (ax items.size 0 lo)).take (ax items.size items.size hi-ax items.size 0 lo)).toArray } })
  (hsz:items.size<=sizeLine):wpAny (model prog w) A (getItem (.ref t) (.ref sl)) Q E s:=by
 have fZ:sizeOk (.seq ((items.toList.drop (ax items.size 0 lo)).take (ax items.size items.size hi-ax items.size 0 lo)).toArray):=by
  show ((items.toList.drop (ax items.size 0 lo)).take (ax items.size items.size hi-ax items.size 0 lo)).toArray.size<=sizeLine;rw[aaF,List.length_take,List.length_drop,aaT];lia
 have hj:ax items.size items.size hi<=items.size:=FV _ _ (aaH _) hi;obtain⟨os,cO,eg,dz⟩:=id hs;have kX:s.TypeIs (.ref sl) "slice":=⟨os,cO,eg⟩;unfold getItem
 try with_reducible refine abr ?_
 first |refine aaC (aaE ?_) |skip
 refine aaC (wpAny_sequenceKey ht.typeIs (by decide) ?_);refine aaC (aa8 (name:=abz "__getitem__") ht.typeIs abw
  (abg abw ht.typeIs entry_tuple_getitem ?_ (args_tuple_getitem _ _)))
 show wpAny _ _ (Builtin.Tuple.tupleItemsOf (.ref t) >>= _) _ _ s;refine aaC (tupleItemsOf_ ht ?_);refine aaC (wpAny_typeOf kX ?_);rw[if_pos (by decide)];refine aaC (wN hs pl pu ?_);have FM:¬((((ax items.size 0 lo:Nat):Int) == 0 && (1:Int) == 1 && (ax items.size items.size hi-ax items.size 0 lo) == items.size)=true):=by
  intro q;rw[aaW,aaW]at q;have q1:((ax items.size 0 lo:Nat):Int)=0:=eq_of_beq q.1.1;have q2:ax items.size items.size hi-ax items.size 0 lo=items.size:=eq_of_beq q.2;exact hw ⟨by lia,by lia⟩
 show wpAny _ _ (if (((ax items.size 0 lo:Nat):Int) == 0 && (1:Int) == 1 && (ax items.size items.size hi-ax items.size 0 lo) == items.size)=true then _ else _) _ _ s
 rw[if_neg FM,FY]
 first
  |exact aaC (m:=abq _) (aa6 (aaE ⟨_,rfl,aaE h⟩) fZ)
  |exact aaC (m:=abq _) (aa6 (aaC (aaE (aaE ⟨_,rfl,aaE h⟩))) fZ)
  |exact aaC (aaC (m:=abq _) (aa6 (aaE (aaE ⟨_,rfl,aaE h⟩)) fZ))
  |exact aaC (aaC (m:=abq _) (aa6 (aaE ⟨_,rfl,aaE h⟩) fZ))
end
end HT
namespace L2
open PySem PySem.Spec PyProof.Rows
abbrev TO:=St->Hp->(Option Int->Hp->Prop)->Prop
def PO (X:Cx) (e:Option Expr) (t:TO):Prop:=
 ∀(pins:List (Addr×Obj)) (s:Shared) (σ:St) (H:Hp) (Q:Option Int->Hp->Prop),ab X pins σ H s->t σ H Q ->
  wpAny (model X.prog X.w) X.A (evalPart e X.env) (λu s'=>∃o H',ab X pins σ H' s'/\IsPart u o/\Q o H') X.xe s
def F1:TO:=λ_ H Q=>Q none H
def F2 (t:TE):TO:=fun σ H Q=>t σ H λx H1=>∃i,x=.int i/\Q (some i) H1
theorem F3 {ns:List Int}:∀{us:List Value},aq (ns.map V.int) us->IntsAre us ns:=by
 induction ns with
 |nil=>intro us r;rw[List.map_nil]at r;cases r;exact .nil
 |cons n ns ih=>
  intro us r;rw[aaR]at r;cases r with
  |cons r1 r2=>
   obtain⟨t,e⟩:=r1;subst e;exact .cons n t (ih r2)
section
variable {X:Cx}{e:Expr}{te:TE}{lo hi:Option Expr}{tl th:TO}{pos p2:Pos}
theorem F4:PO X none F1:=by
 intro pins s σ H Q I h;rw[evalPart_none];exact aaE ⟨none,H,I,.none,h⟩
theorem F5 (h:PE X e te):PO X (some e) (F2 te):=by
 intro pins s σ H Q I hw;rw[evalPart_some];refine ar (h pins s σ H _ I hw) λu s1 ⟨x,H1,I1,r1,q1⟩=>?_;obtain⟨i,rfl,q⟩:=q1;obtain⟨t,rfl⟩:=r1;exact⟨some i,H1,I1,.int i t,q⟩
def fh (X:Cx) (r:V->Option Int->Option Int->Hp->VK->Prop):Prop:=
 ∀(pins:List (Addr×Obj)) (s:Shared) (σ:St) (H:Hp) (x:V) (v vl vu:Value) (lo hi:Option Int) (sl:Addr) (Q:VK),ab X pins σ H s->av x v->s.heap.IsSliceOf sl vl vu .none->IsPart vl lo->IsPart vu hi->r x lo hi H Q ->
  ∃T id,typeLookup (.type T) "__getitem__"=pure (some (.builtin id))/\s.TypeIs v T/\wpAny (model X.prog X.w) X.A (getItem v (.ref sl)) (EP X pins σ Q) X.xe s
theorem fh.or {r r':V->Option Int->Option Int->Hp->VK->Prop} (h:fh X r) (h':fh X r'):fh X (λx lo hi H Q=>r x lo hi H Q\/r' x lo hi H Q):=by
 intro pins s σ H x v vl vu lo hi sl Q I rx hs pl pu q;rcases q with q |q
 ·exact h pins s σ H x v vl vu lo hi sl Q I rx hs pl pu q
 ·exact h' pins s σ H x v vl vu lo hi sl Q I rx hs pl pu q
def F6 (r:V->Option Int->Option Int->Hp->VK->Prop) (te:TE) (tl th:TO):TE:=fun σ H Q=>te σ H λx H1=>tl σ H1 λl H2=>th σ H2 λu H3=>r x l u H3 Q
theorem F7 {r:V->Option Int->Option Int->Hp->VK->Prop} (hr:fh X r) (he:PE X e te) (hl:PO X lo tl) (hu:PO X hi th):PE X (.Subscript e (.Slice lo hi none p2) pos) (F6 r te tl th):=by
 intro pins s σ H Q I h;refine Subscript_ (ar (he pins s σ H _ I h) λv s1 ⟨x,H1,I1,r1,q1⟩=>?_);refine wpAny_Slice (ar (hl pins s1 σ H1 _ I1 q1) λvl s2 ⟨l,H2,I2,pl,q2⟩=>ar (hu pins s2 σ H2 _ I2 q2) λvu s3 ⟨u,H3,I3,pu,q3⟩=>?_);rw[evalPart_none];refine aaE ?_;have I4:ab X pins σ H3 { s3 with heap:=s3.heap.push { cls:=.type "slice",data:=.fields #[vl,vu,.none] } }:=I3.bD (t':=s3.toks) λb ob q=>aaD _ q;obtain⟨T,id,hT,ht,hg⟩:=hr pins { s3 with heap:=s3.heap.push { cls:=.type "slice",data:=.fields #[vl,vu,.none] } } σ H3 x v vl vu l u s3.heap.objs.size Q I4 r1 (Heap.IsSliceOf.new ..) pl pu q3;show wpAny (model X.prog X.w) X.A (subscriptTail e (.Slice lo hi none p2) v (.ref s3.heap.objs.size)) (EP X pins σ Q) X.xe { s3 with heap:=s3.heap.push { cls:=.type "slice",data:=.fields #[vl,vu,.none] } };exact tail_any (ops:=[.ref s3.heap.objs.size,v]) ht hT hg (by with_unfolding_all rfl)
noncomputable def gI (xs:List V) (lo hi:Option Int):List V:=(xs.drop (HT.ax xs.length 0 lo)).take (HT.ax xs.length xs.length hi-HT.ax xs.length 0 lo)
theorem wQ (xs:List V) (lo hi:Option Int):(gI xs lo hi).length<=xs.length:=by
 unfold gI;rw[List.length_take,List.length_drop];lia
def qA (K:PySem.W.Frag):V->Option Int->Option Int->Hp->VK->Prop:=λx lo hi H Q=>∃a xs,x=.ref a/\aI K H a xs /\
 ¬(HT.ax xs.length 0 lo=0/\HT.ax xs.length xs.length hi=xs.length)/\∀p,H p=none->Q (.ref p) (ag H p (.tup (gI xs lo hi)))
theorem F8:fh X (qA X.K):=by
 intro pins s σ H x v vl vu lo hi sl Q I rx hs pl pu h;obtain⟨a,xs,rfl,hx,hw,q⟩:=h;cases rx;obtain⟨its,r,ht,hz⟩:=I.tuple hx;have hlen:its.toArray.size=xs.length:=by rw[aaF];exact r.length.symm
 refine⟨"tuple",_,PyProof.Rows.slot_tuple_getitem.lookup,ht.typeIs,?_⟩;refine HT.FZ ht hs pl pu (by rw[hlen];exact hw) ?_ (by rw[hlen];exact hz);rw[hlen];refine⟨.ref s.heap.objs.size,_,I.laid (t':=s.toks) (o:=.tup (gI xs lo hi)) (λb ob q=>aaD _ q) (aaH _) ?_,rfl,q _ (I.ae.fresh (aaH _))⟩;exact⟨kq (aaZ (wQ xs lo hi) hz),_,(r.drop (HT.ax xs.length 0 lo)).take (HT.ax xs.length xs.length hi-HT.ax xs.length 0 lo),IsTup.new _ _⟩
def F9 (K:PySem.W.Frag):R2:=λx y H Q=>∃a b xs ys,x=.ref a/\y=.ref b/\aI K H a xs/\aI K H b ys/\xs≠[]/\xs.length+ys.length<=sizeLine /\
 (ys=[]->Q (.ref a) H)/\(ys≠[]->∀p,H p=none->Q (.ref p) (ag H p (.tup (xs++ys))))
theorem aq.qB {xs:List V}{us:List Value} (r:aq xs us):us=[] ↔ xs=[]:=by
 cases r with
 |nil=>simp
 |cons _ _=>simp
theorem F':aA X (binaryOp .Add) (F9 X.K):=by
 intro pins s σ H x y v u Q I rx ry h;obtain⟨a,b,xs,ys,rfl,rfl,ha,hb,hx,hz,q1,q2⟩:=h;cases rx;cases ry;obtain⟨its,r1,p1,_⟩:=I.tuple ha;obtain⟨aU,r2,p2,_⟩:=I.tuple hb;refine HT.FU p1 p2 (λz=>hx (r1.qB.mp z)) (λz=>⟨.ref a,H,I,rfl,q1 (r2.qB.mp z)⟩) (λz=>?_) (by rw[<- r1.length,<- r2.length];exact hz);refine⟨.ref s.heap.objs.size,_,I.laid (t':=s.toks) (o:=.tup (xs++ys)) (λb ob q=>aaD _ q) (aaH _) ?_,rfl,q2 (λw=>z (r2.qB.mpr w)) _ (I.ae.fresh (aaH _))⟩;exact⟨kq (by rw[abk];exact hz),_,r1.append r2,IsTup.new _ _⟩
end
end L2
namespace L2
open PySem PySem.Spec PyProof.Rows
noncomputable def eB (n:Nat) (i:Int):Option Nat:=if 0<=i then (if i<n then some i.toNat else none) else if -(n:Int)<=i then some (i+n).toNat else none
noncomputable def cg {α:Type} (xs:List α) (i:Int):Option α:=(eB xs.length i).bind λj=>xs[j]?
theorem wR {n:Nat}{i:Int}{j:Nat} (h:eB n i=some j):seqIndex? i n=some j/\j<n/\-(n:Int)<=i/\i<n:=by
 unfold eB at h;by_cases h0:0<=i
 ·rw[if_pos h0]at h;by_cases h1:i<n
  ·rw[if_pos h1]at h;have e:i.toNat=j:=abe h;exact⟨by rw[seqIndex_of h0 h1,e],by lia,by lia,h1⟩
  ·rw[if_neg h1]at h;cases h
 ·rw[if_neg h0]at h;by_cases h1:-(n:Int)<=i
  ·rw[if_pos h1]at h;have e:(i+n).toNat=j:=abe h;exact⟨by rw[seqIndex_neg (by lia) h1,e],by lia,h1,by lia⟩
  ·rw[if_neg h1]at h;cases h
theorem qC {α:Type} {xs:List α}{i:Int}{v:α} (h:cg xs i=some v):∃j,seqIndex? i xs.length=some j/\xs[j]?=some v/\j<xs.length/\-(xs.length:Int)<=i/\i<xs.length:=by
 unfold cg at h;cases e:eB xs.length i with
 |none=>rw[e]at h;cases h
 |some j=>
  rw[e]at h;obtain⟨h1,h2,h3,h4⟩:=wR e;exact⟨j,h1,h,h2,h3,h4⟩
def nv (b:Expr):Prop:=∀o i,subscripted b false o i=operate [o,i] (getItem o i)
def dA (X:Cx) (r:R2):Prop:=
 ∀(value slice:Expr) (pins:List (Addr×Obj)) (s:Shared) (σ:St) (H:Hp) (x y:V) (v u:Value) (Q:VK),ab X pins σ H s->av x v->av y u->r x y H Q ->
  subscripted slice false v u=operate [v,u] (getItem v u)->wpAny (model X.prog X.w) X.A (subscriptTail value slice v u) (EP X pins σ Q) X.xe s
def eC (X:Cx) (id:String) (r:V->List V->Hp->VK->Prop):Prop:=
 ∀(pins:List (Addr×Obj)) (s:Shared) (σ:St) (H:Hp) (x:V) (xs:List V) (v:Value) (us:List Value) (Q:VK),ab X pins σ H s->av x v->aq xs us->r x xs H Q ->
  wpAny (model X.prog X.w) X.A (call (.builtin id) (v::us)) (EP X pins σ Q) X.xe s
section
variable {X:Cx}{a b:Expr}{ta tb:TE}{pos:Pos}
theorem dA.or {r r':R2} (h:dA X r) (h':dA X r'):dA X (λx y H Q=>r x y H Q\/r' x y H Q):=by
 intro value slice pins s σ H x y v u Q I rx ry q hs;rcases q with q |q
 ·exact h value slice pins s σ H x y v u Q I rx ry q hs
 ·exact h' value slice pins s σ H x y v u Q I rx ry q hs
theorem wU {r:R2} (hr:dA X r) (ha:PE X a ta) (hb:PE X b tb) (hs:nv b):PE X (.Subscript a b pos) (kG r ta tb):=by
 intro pins s σ H Q I h;exact Subscript_ (qj ha hb I h λv u s2 x y H2 I2 rx ry q=>hr a b pins s2 σ H2 x y v u Q I2 rx ry q (hs _ _))
def wV (K:PySem.W.Frag):R2:=λx y H Q=>∃p xs i v,x=.ref p/\y=.int i/\aT K H p xs/\cg xs i=some v/\Q v H
def wW (K:PySem.W.Frag):R2:=λx y H Q=>∃p xs i v,x=.ref p/\y=.int i/\aI K H p xs/\cg xs i=some v/\Q v H
def wX:R2:=λx y H Q=>∃z i c,x=.str z/\y=.int i/\z.length<=sizeLine/\cg z.cps.toList i=some c/\Q (.str ⟨#[c]⟩) H
theorem Ga:dA X (wV X.K):=by
 intro value slice pins s σ H x y v u Q I rx ry h hs;obtain⟨p,xs,i,z,rfl,rfl,hq,he,q⟩:=h;cases rx;obtain⟨t,rfl⟩:=ry;obtain⟨its,r,pl,hz⟩:=I.list hq;obtain⟨j,h1,h2,h3,h4,h5⟩:=qC he;obtain⟨w,XW,co⟩:=r.get h2;have hl:=r.length;have hn:=ij;have fin:EP X pins σ Q w s:=⟨z,H,I,co,q⟩;by_cases h0:0<=i
 ·have hj:i.toNat=j:=by
   rw[seqIndex_of h0 h5]at h1;exact abe h1
  exact item_listR pl.isList h0 (by lia) (by rw[hj];simpa using XW) fin hs
 ·have hj:(i+(its.toArray.size:Int)).toNat=j:=by
   rw[seqIndex_neg (by lia) h4]at h1;rw[aaF,<- hl];exact abe h1
  exact subscriptTail_builtinR (x:=w) pl.isList.typeIs slot_list_getitem.lookup
   (wpAny_getItem_list_neg (Q:=λr s'=>r=w/\EP X pins σ Q r s') pl.isList (by lia) (by rw[aaF] <;> lia) (by lia) (by rw[hj];simpa using XW) ⟨rfl,fin⟩) hs
theorem Gb:dA X (wW X.K):=by
 intro value slice pins s σ H x y v u Q I rx ry h hs;obtain⟨p,xs,i,z,rfl,rfl,hq,he,q⟩:=h;cases rx;obtain⟨t,rfl⟩:=ry;obtain⟨its,r,pl,hz⟩:=I.tuple hq;obtain⟨j,h1,h2,h3,h4,h5⟩:=qC he;obtain⟨w,XW,co⟩:=r.get h2;have hl:=r.length;have hn:=ij;have fin:EP X pins σ Q w s:=⟨z,H,I,co,q⟩;exact subscriptTail_builtinR (x:=w) pl.typeIs slot_tuple_getitem.lookup
  (getItem_tuple (j:=j) (Q:=λr s'=>r=w/\EP X pins σ Q r s') pl (by lia) (by lia) (by rw[aaF,<- hl];exact h1) (by simpa using XW) ⟨rfl,fin⟩) hs
theorem Gd:dA X wX:=by
 intro value slice pins s σ H x y v u Q I rx ry h hs;obtain⟨z,i,c,rfl,rfl,hz,he,q⟩:=h;obtain⟨t,rfl⟩:=rx;obtain⟨t',rfl⟩:=ry;obtain⟨j,h1,h2,h3,h4,h5⟩:=qC he;have hl:z.cps.toList.length=z.length:=by simp [Str.length]
 rw[hl]at h1 h4 h5;have hn:=ij;exact tail_any (typeIs_str s z t) slot_str_getitem.lookup (getItem_str (c:=c) (by
  have e1:decide (i < -(2 ^ 63:Int))=false:=decide_eq_false (by lia);have e2:decide (i ≥ 2 ^ 63)=false:=decide_eq_false (by lia);rw[e1,e2,Bool.or_false]) (by rw[h1];simpa using h2) ⟨.str ⟨#[c]⟩,H,I.bx _,⟨_,rfl⟩,q⟩) hs
theorem Ge (its:List Value) (n j:Nat) (u:Value):abl (·.setIfInBounds j u) { cls:=.type "list",data:=.seq its.toArray n }={ cls:=.type "list",data:=.seq (its.set j u).toArray n }:=by
 simp [abl]
theorem ab.lst {pins:List (Addr×Obj)} {σ:St} {H:Hp}{s:Shared}{p:Addr}{xs:List V} (I:ab X pins σ H s) (h:H p=some (.lst xs)) :
  ∃(its:List Value) (n:Nat),aq xs its/\s.heap.get? p=some { cls:=.type "list",data:=.seq its.toArray n }/\xs.length<=sizeLine:=by
 obtain⟨z,its,n,r,e⟩:=I.ae p _ h;exact⟨its,n,r,e,z⟩
theorem ab.Gf {pins:List (Addr×Obj)} {σ:St} {H:Hp}{s:Shared}{p:Addr}{xs ys:List V}{its its':List Value}{n n':Nat}{f:Obj->Obj} (I:ab X pins σ H s) (h:H p=some (.lst xs))
  (ho:s.heap.get? p=some { cls:=.type "list",data:=.seq its.toArray n }) (hf:f { cls:=.type "list",data:=.seq its.toArray n }={ cls:=.type "list",data:=.seq its'.toArray n' }) (r:aq ys its') (hz:ys.length<=sizeLine) (t:Nat) :
  ab X pins σ (ag H p (.lst ys)) { s with heap:=s.heap.update p f,toks:=t }:=by
 have e:(s.heap.update p f).get? p=some { cls:=.type "list",data:=.seq its'.toArray n' }:=by
  rw[aa7 f ho (by rw[hf] <;> rfl),hf]
 refine I.fQ (x:=p) (e:=p) (by rw[h];trivial) (.inl rfl) (λb u hb q=>(aca _ _ (abx hb)).trans q) ⟨_,e⟩ ?_;exact⟨hz,its',n',r,e⟩
def qE:V->V->V->Hp->(Hp->Prop)->Prop:=λo i v H Q=>∃p xs k j,o=.ref p/\i=.int k/\H p=some (.lst xs)/\eB xs.length k=some j/\Q (ag H p (.lst (xs.set j v)))
theorem Gg:gC X qE:=by
 intro pins s σ H o i v ov iv u Q I ro ri rv h;obtain⟨p,xs,k,j,rfl,rfl,hp,hj,q⟩:=h;cases ro;obtain⟨t,rfl⟩:=ri;obtain⟨its,n,r,ho,hz⟩:=I.lst hp;obtain⟨h1,h2,h3,h4⟩:=wR hj;have hl:=r.length;have hn:=ij;have I':ab X pins σ (ag H p (.lst (xs.set j v))) { s with heap:=s.heap.update p (abl (·.setIfInBounds j u)) }:=
  I.Gf hp ho (Ge its n j u) (r.set rv j) (by rw[List.length_set];exact hz) s.toks
 by_cases h0:0<=k
 ·have hk:k.toNat=j:=by
   rw[seqIndex_of h0 h4]at h1;exact abe h1
  exact PySem.W.ki_setAt ho h0 (by lia) (by rw[aaF,<- hl];exact h4) (by rw[hk];exact⟨_,I',q⟩)
 ·have hk:(k+(its.toArray.size:Int)).toNat=j:=by
   rw[seqIndex_neg (by lia) h3]at h1;rw[aaF,<- hl];exact abe h1
  exact PySem.W.ki_setBack ho (by lia) (by rw[aaF,<- hl];exact h3) (by lia) (by rw[hk];exact⟨_,I',q⟩)
theorem Gh (lo hi:Option Int) (n:Nat):(sliceBounds lo hi none n).1=((HT.ax n 0 lo:Nat):Int)/\(sliceBounds lo hi none n).2.1=((HT.ax n n hi:Nat):Int)/\(sliceBounds lo hi none n).2.2=1:=by
 refine⟨?_,?_,rfl⟩
 ·cases lo with
  |none=>simp [sliceBounds,HT.ax]
  |some i=>
   simp only[sliceBounds,HT.ax,Option.getD_none,show (1:Int) > 0 by decide,if_true];by_cases h:i<0
   ·simp only[h,if_true] <;> lia
   ·simp only[h,if_false] <;> lia
 ·cases hi with
  |none=>simp [sliceBounds,HT.ax]
  |some i=>
   simp only[sliceBounds,HT.ax,Option.getD_none,show (1:Int) > 0 by decide,if_true];by_cases h:i<0
   ·simp only[h,if_true] <;> lia
   ·simp only[h,if_false] <;> lia
theorem Gi (its:List Value) (lo hi:Option Int):slicePick its.toArray lo hi none=((its.drop (HT.ax its.length 0 lo)).take (HT.ax its.length its.length hi-HT.ax its.length 0 lo)).toArray:=by
 obtain⟨h1,h2,h3⟩:=Gh lo hi its.toArray.size;unfold slicePick;rw[h1,h2,h3];simp only[sliceRange_one,pick_run,aaF] <;> rfl
def qF (K:PySem.W.Frag):V->Option Int->Option Int->Hp->VK->Prop:=λx lo hi H Q=>∃a xs,x=.ref a/\aT K H a xs/\∀p,H p=none->Q (.ref p) (ag H p (.lst (gI xs lo hi)))
theorem Gj:fh X (qF X.K):=by
 intro pins s σ H x v vl vu lo hi sl Q I rx hs pl pu h;obtain⟨a,xs,rfl,hx,q⟩:=h;cases rx;obtain⟨its,r,ht,hz⟩:=I.list hx;have hlen:=r.length;refine⟨"list",_,slot_list_getitem.lookup,ht.isList.typeIs,?_⟩;refine wpAny_getItem_list_slice ht.isList hs pl pu .none (by simp) ?_ (by rw[aaF] <;> lia);rw[Gi,<- hlen];refine⟨.ref s.heap.objs.size,_,I.laid (t':=s.toks) (o:=.lst (gI xs lo hi)) (λb ob q=>aaD _ q) (aaH _) ?_,rfl,q _ (I.ae.fresh (aaH _))⟩;exact⟨aaZ (wQ xs lo hi) hz,_,0,(r.drop (HT.ax xs.length 0 lo)).take (HT.ax xs.length xs.length hi-HT.ax xs.length 0 lo),aaG _ rfl⟩
noncomputable def fj:V->Bool
 |.af=>true
 |.bl _=>true
 |.int _=>true
 |.str _=>true
 |_=>false
noncomputable def f6:V->V->Bool
 |.af,.af=>true
 |.bl a,.bl b=>a == b
 |.bl a,.int b=>(if a then 1 else 0) == b
 |.int a,.bl b=>a == (if b then 1 else 0)
 |.int a,.int b=>a == b
 |.str a,.str b=>a == b
 |_,_=>false
theorem Gk {A:Around}{s:Shared}{y x:V}{u v:Value} (ry:av y u) (rx:av x v) (Zr:fj y=true) (fx:fj x=true):SeqAt.EqAt A s u v (f6 y x):=by
 cases y with
 |af=>
  cases ry;cases x with
  |af=>cases rx;exact SeqAt.EqAt.same _
  |bl b=>cases rx;exact SeqAt.EqAt.none_bool b
  |int b=>obtain⟨t,rfl⟩:=rx;exact SeqAt.EqAt.none_int b t
  |str b=>obtain⟨t,rfl⟩:=rx;exact SeqAt.EqAt.none_str b t
  |_=>exact absurd (show false=true from fx) aaQ
 |bl a=>
  cases ry;cases x with
  |af=>cases rx;exact SeqAt.EqAt.bool_none a
  |bl b=>cases rx;exact SeqAt.EqAt.bool_bool a b
  |int b=>obtain⟨t,rfl⟩:=rx;exact SeqAt.EqAt.bool_int a b t
  |str b=>obtain⟨t,rfl⟩:=rx;exact SeqAt.EqAt.bool_str a b t
  |_=>exact absurd (show false=true from fx) aaQ
 |int a=>
  obtain⟨t',rfl⟩:=ry;cases x with
  |af=>cases rx;exact SeqAt.EqAt.int_none a t'
  |bl b=>cases rx;exact SeqAt.EqAt.int_bool a t' b
  |int b=>obtain⟨t,rfl⟩:=rx;exact SeqAt.EqAt.int_int a t' b t
  |str b=>obtain⟨t,rfl⟩:=rx;exact SeqAt.EqAt.int_str a t' b t
  |_=>exact absurd (show false=true from fx) aaQ
 |str a=>
  obtain⟨t',rfl⟩:=ry;cases x with
  |af=>cases rx;exact SeqAt.EqAt.str_none a t'
  |bl b=>cases rx;exact SeqAt.EqAt.str_bool a t' b
  |int b=>obtain⟨t,rfl⟩:=rx;exact SeqAt.EqAt.str_int a t' b t
  |str b=>obtain⟨t,rfl⟩:=rx;exact SeqAt.EqAt.str_str a t' b t
  |_=>exact absurd (show false=true from fx) aaQ
 |_=>exact absurd (show false=true from Zr) aaQ
noncomputable def de (x:V) (u:Value):Bool:=match u with
 |.none=>f6 .af x
 |.bool b=>f6 (.bl b) x
 |.int i _=>f6 (.int i) x
 |.str z _=>f6 (.str z) x
 |_=>false
theorem wY {x y:V}{u:Value} (r:av y u) (f:fj y=true):de x u=f6 y x:=by
 cases y with
 |af=>cases r;rfl
 |bl b=>cases r;rfl
 |int i=>obtain⟨t,rfl⟩:=r;rfl
 |str z=>obtain⟨t,rfl⟩:=r;rfl
 |_=>exact absurd (show false=true from f) aaQ
theorem kY {x:V}:∀{xs:List V}{us:List Value},aq xs us->xs.all fj=true->us.any (de x)=xs.any λy=>f6 y x
 |_,_,.nil,_=>rfl
 |y::xs,u::us,.cons r t,f=>by
  rw[List.all_cons,aaW]at f;rw[abR,abR,wY r f.1,kY t f.2]
theorem kZ {A:Around}{s:Shared}{x:V}{v:Value} (rx:av x v) (fx:fj x=true):∀{xs:List V}{us:List Value},aq xs us->xs.all fj=true->∀u∈us,SeqAt.EqAt A s u v (de x u)
 |_,_,.nil,_=>λu hu=>by cases hu
 |y::xs,u::us,.cons r t,f=>λu' hu=>by
  rw[List.all_cons,aaW]at f;rcases List.mem_cons.mp hu with rfl |hu
  ·rw[wY r f.1];exact Gk r rx f.1 fx
  ·exact kZ rx fx t f.2 u' hu
noncomputable def ny (x:V) (xs:List V):Bool:=xs.any λy=>f6 y x
def qG (K:PySem.W.Frag) (neg:Bool):R2:=λx y H Q=>∃p xs,y=.ref p/\(aT K H p xs\/aI K H p xs)/\fj x=true/\xs.all fj=true/\Q (.bl (if neg then !ny x xs else ny x xs)) H
theorem Gm:aA X (compareOp .In) (qG X.K false):=by
 intro pins s σ H x y v u Q I rx ry h;obtain⟨p,xs,rfl,hq,fx,fs,q⟩:=h;cases ry;rcases hq with hq |hq
 ·obtain⟨its,r,pl,hz⟩:=I.list hq;refine SeqAt.in_listAt (de x) pl.isList (λw hw=>kZ rx fx r fs w (by simpa using hw)) ⟨.bl _,H,I,rfl,?_⟩;rw[show its.toArray.any (de x)=its.any (de x) by simp,kY r fs];exact q
 ·obtain⟨its,r,pl,hz⟩:=I.tuple hq;refine SeqAt.in_tupleAt (de x) pl (λw hw=>kZ rx fx r fs w (by simpa using hw)) ⟨.bl _,H,I,rfl,?_⟩;rw[show its.toArray.any (de x)=its.any (de x) by simp,kY r fs];exact q
theorem Gn:aA X (compareOp .NotIn) (qG X.K true):=by
 intro pins s σ H x y v u Q I rx ry h;obtain⟨p,xs,rfl,hq,fx,fs,q⟩:=h;cases ry;rcases hq with hq |hq
 ·obtain⟨its,r,pl,hz⟩:=I.list hq;refine SeqAt.notIn_listAt (de x) pl.isList (λw hw=>kZ rx fx r fs w (by simpa using hw)) ⟨.bl _,H,I,rfl,?_⟩;rw[show its.toArray.any (de x)=its.any (de x) by simp,kY r fs];exact q
 ·obtain⟨its,r,pl,hz⟩:=I.tuple hq;refine SeqAt.notIn_tupleAt (de x) pl (λw hw=>kZ rx fx r fs w (by simpa using hw)) ⟨.bl _,H,I,rfl,?_⟩;rw[show its.toArray.any (de x)=its.any (de x) by simp,kY r fs];exact q
theorem Gp:bp X (.builtin "len") (λxs H Q=>∃p ys,xs=[.ref p]/\(aT X.K H p ys\/aI X.K H p ys)/\Q (.int ys.length) H):=by
 intro pins s σ H xs us Q I r h;obtain⟨p,ys,rfl,hq,q⟩:=h;obtain⟨u,rfl,rx⟩:=ik r;cases rx;have hn:=ij;rcases hq with hq |hq
 ·obtain⟨its,r',pl,hz⟩:=I.list hq;have hlen:=r'.length;exact Calls.call_len_list pl.isList (by simp only[aaF] <;> lia) ⟨.int ys.length,H,I.bx _,⟨s.toks+1,by rw[aaF,hlen]⟩,q⟩
 ·obtain⟨its,r',pl,hz⟩:=I.tuple hq;have hlen:=r'.length;exact len_tuple pl (by simp only[aaF] <;> lia) ⟨.int ys.length,H,I.bx _,⟨s.toks+1,by rw[aaF,hlen]⟩,q⟩
theorem Gq:bp X (.builtin "len") (λxs H Q=>∃z,xs=[.str z]/\z.length<=sizeLine/\Q (.int z.length) H):=by
 intro pins s σ H xs us Q I r h;obtain⟨z,rfl,hz,q⟩:=h;obtain⟨u,rfl,t,rfl⟩:=ik r;have hn:=ij;exact len_str (by lia) ⟨.int z.length,H,I.bx _,⟨_,rfl⟩,q⟩
theorem bp.or {f:Value}{r r':List V->Hp->VK->Prop} (h:bp X f r) (h':bp X f r'):bp X f (λxs H Q=>r xs H Q\/r' xs H Q):=by
 intro pins s σ H xs us Q I rs q;rcases q with q |q
 ·exact h pins s σ H xs us Q I rs q
 ·exact h' pins s σ H xs us Q I rs q
theorem Gr:bp X (.type "list") (λxs H Q=>∃p ys,xs=[.ref p]/\(aT X.K H p ys\/aI X.K H p ys)/\∀l,H l=none->Q (.ref l) (ag H l (.lst ys))):=by
 intro pins s σ H xs us Q I r h;obtain⟨p,ys,rfl,hq,q⟩:=h;obtain⟨u,rfl,rx⟩:=ik r;cases rx;have fin:∀ (its:List Value),aq ys its->ys.length<=sizeLine->∀ (h':Heap) (c':Nat),(∀ b o',s.heap.get? b=some o'->h'.get? b=some o') ->
   h'.get? s.heap.objs.size=some { cls:=.type "list",dict:=none,data:=.seq its.toArray c',slots:=#[] }->EP X pins σ Q (.ref s.heap.objs.size) { s with heap:=h' }:=λits r' hz h' c' kp e=>
  ⟨.ref s.heap.objs.size,_,I.laid (t':=s.toks) kp (aaH _) (show bk X.prog X.w _ h' _ (.lst ys) from ⟨hz,its,c',r',e⟩),rfl,q _ (I.ae.fresh (aaH _))⟩
 rcases hq with hq |hq
 ·obtain⟨its,r',pl,hz⟩:=I.list hq;have hlen:=r'.length;obtain⟨o,ho,hc,n,hd⟩:=pl.isList;exact call_list_seq p (.inl rfl) ho hc hd (λh' c' kp e=>fin its r' hz h' c' kp e) (by simp only[aaF] <;> lia)
 ·obtain⟨its,r',pl,hz⟩:=I.tuple hq;have hlen:=r'.length;obtain⟨o,ho,hc,n,hd⟩:=pl;exact call_list_seq p (.inr rfl) ho hc hd (λh' c' kp e=>fin its r' hz h' c' kp e) (by simp only[aaF] <;> lia)
theorem Gs:bp X (.type "tuple") (λxs H Q=>∃p ys,xs=[.ref p]/\((aT X.K H p ys/\∀l,H l=none->Q (.ref l) (ag H l (.tup ys)))\/(aI X.K H p ys/\Q (.ref p) H))):=by
 intro pins s σ H xs us Q I r h;obtain⟨p,ys,rfl,h⟩:=h;obtain⟨u,rfl,rx⟩:=ik r;cases rx;rcases h with ⟨hq,q⟩ |⟨hq,q⟩
 ·obtain⟨its,r',pl,hz⟩:=I.list hq;have hlen:=r'.length;refine call_tuple_list pl.isList (λh' kp=>?_) (by simp only[aaF] <;> lia);have I1:ab X pins σ H { s with heap:=h' }:=I.bD (t':=s.toks) kp;have I2:ab X pins σ (ag H h'.objs.size (.tup ys)) { s with heap:=h'.push { cls:=.type "tuple",data:=.seq its.toArray } }:=
   I1.laid (t':=s.toks) (λb o e=>aaD _ e) (aaH _) (show bk X.prog X.w _ _ _ (.tup ys) from ⟨kq hz,its,r',IsTup.new _ _⟩)
  exact⟨.ref h'.objs.size,_,I2,rfl,q _ (I1.ae.fresh (aaH _))⟩
 ·obtain⟨its,r',pl,hz⟩:=I.tuple hq;exact call_tuple_same pl ⟨.ref p,H,I,rfl,q⟩
def qH (K:PySem.W.Frag) (T:String) (x:V) (H:Hp):Prop:=match x with
 |.str _=>T="str"
 |.int _=>T="int"
 | .ref p=>(T="list"/\∃ xs,aT K H p xs)\/(T="tuple"/\∃ o,K.lookup p=some o/\o.cls=.type "tuple"/\o.dict=none) \/
   (T="dict"/\((∃kvs,H p=some (.dK kvs))\/∃kvs,H p=some (.dT kvs)))\/(T="set"/\∃S n,H p=some (.set S n))
 |_=>False
theorem wZ {pins:List (Addr×Obj)} {σ:St} {H:Hp}{s:Shared}{T:String}{x:V}{v:Value} (I:ab X pins σ H s) (r:av x v) (ty:qH X.K T x H) :
  s.TypeIs v T/\∀a,v=.ref a->∃ob,s.heap.get? a=some ob/\ob.dict=none:=by
 cases x with
 |str z=>
  obtain⟨t,rfl⟩:=r;cases (show T="str" from ty);exact⟨typeIs_str s z t,λ_ e=>nomatch e⟩
 |int i=>
  obtain⟨t,rfl⟩:=r;cases (show T="int" from ty);exact⟨typeIs_int s i t,λ_ e=>nomatch e⟩
 |ref p=>
  cases r;rcases ty with ⟨rfl,xs,hq⟩ |⟨rfl,o,hk,hc,hd⟩ |⟨rfl,hk⟩ |⟨rfl,S,n,hk⟩
  ·obtain⟨its,_,pl,_⟩:=I.list hq;refine⟨pl.isList.typeIs,λa e=>?_⟩;cases e;obtain⟨o,n,e,c,hd,_⟩:=pl;exact⟨o,e,hd⟩
  ·refine⟨⟨o,I.bt p o hk,hc⟩,λa e=>?_⟩;cases e;exact⟨o,I.bt _ o hk,hd⟩
  ·have z:∃ o,s.heap.get? p=some o/\o.ExactDict:=by
    rcases hk with ⟨kvs,hk⟩ |⟨kvs,hk⟩
    ·obtain⟨_,_,_,_,o,_,_,e,ex,_⟩:=I.ae p _ hk;exact⟨o,e,ex⟩
    ·obtain⟨_,_,_,_,o,_,_,e,ex,_⟩:=I.ae p _ hk;exact⟨o,e,ex⟩
   obtain⟨o,e,ex⟩:=z;refine⟨⟨o,e,ex.1⟩,λa e2=>?_⟩;cases e2;exact⟨o,e,ex.2.1⟩
  ·obtain⟨o,_,_,_,e,ex,_⟩:=I.ae p _ hk;refine⟨⟨o,e,ex.1⟩,λa e2=>?_⟩;cases e2;exact⟨o,e,ex.2.1⟩
 |_=>exact abY ty
def w4 (K:PySem.W.Frag) (T:String) (r:V->List V->Hp->VK->Prop) (to:TE):TE:=fun σ H Q=>to σ H λx H1=>qH K T x H1/\r x [] H1 Q
def qI (K:PySem.W.Frag) (T:String) (r:V->List V->Hp->VK->Prop) (to:TE) (t:TA):TE:=fun σ H Q=>to σ H λx H1=>qH K T x H1/\t σ H1 λxs H2=>r x xs H2 Q
variable {o e:Expr}{es:List Expr}{to:TE}{t:TA}{name:Str}{b3 cpos:Pos}{T id:String}{r:V->List V->Hp->VK->Prop}
theorem Gu (pa:PlainAttrs T) (slot:Slot T name id) (gJ:typeOf (.builtin id)=pure (.type "method_descriptor")) (hm:eC X id r) (ho:PE X o to)
  (k4:attributeBase o name X.env (eval o X.env)=eval o X.env:=by rfl) (b':(b3.endLine == cpos.line)=true:=by rfl):PE X (.Call (.Attribute o name b3) [] [] cpos) (w4 X.K T r to):=by
 intro pins s σ H Q I h;refine wpAny_Call_method0_late k4 b' (ar (ho pins s σ H _ I h) λv s1 ⟨x,H1,I1,r1,ty,q1⟩=>?_);obtain⟨h1,h2⟩:=wZ I1 r1 ty;exact⟨T,id,pa,slot,gJ,h1,h2,Calls.callWith_builtin rfl (PySem.evalArgs_none (hm pins s1 σ H1 x [] v [] Q I1 r1 .nil q1))⟩
theorem Gv (pa:PlainAttrs T) (slot:Slot T name id) (gJ:typeOf (.builtin id)=pure (.type "method_descriptor")) (hm:eC X id r) (ho:PE X o to) (ha:PA X (e::es) t)
  (k4:attributeBase o name X.env (eval o X.env)=eval o X.env:=by rfl)
  (FS:((backTo cpos (starEach (e::es) X.env)).all (λx=>!x.1) && (backToKw cpos (keywordEach [] X.env)).all (λx=>x.1.isSome)
   && decide ((e::es).length+([]:List Keyword).length+(if ([]:List Keyword).isEmpty then 0 else 1)<30))=true:=by rfl)
  (b':(b3.endLine == cpos.line)=true:=by rfl) (hs:starEach (e::es) X.env=(false,eval e X.env)::starEach es X.env:=by rfl) (Gc:(backTo cpos (starEach es X.env)).any (·.1)=false:=by rfl) :
  PE X (.Call (.Attribute o name b3) (e::es) [] cpos) (qI X.K T r to t):=by
 intro pins s σ H Q I h;refine wpAny_Call_method_late k4 FS b' rfl (ar (ho pins s σ H _ I h) λv s1 ⟨x,H1,I1,r1,ty,q1⟩=>?_);obtain⟨h1,h2⟩:=wZ I1 r1 ty;refine⟨T,id,pa,slot,gJ,h1,h2,?_⟩;have hA:=ha cpos pins s1 σ H1 _ I1 q1;rw[hs]at hA ⊢;refine Calls.callWith_builtin (by show (false ||(backTo cpos (starEach es X.env)).any (·.1))=false;rw[Gc] <;> rfl) (Calls.evalArgs_plain ?_);exact ar hA λus s2 ⟨vs,H2,I2,r2,q2⟩=>hm pins s2 σ H2 x vs v us Q I2 r1 r2 q2
/- xs.append(e),list.index aak a V2 tuple .. iE eC Go of 06m -/
end
end L2
namespace L2
open PySem PySem.Spec PyProof.Rows
def k5 (X:Cx) (id:String) (r:V->List V->Hp->VK->Prop):Prop:=
 ∀(pins:List (Addr×Obj)) (s:Shared) (σ:St) (H:Hp) (x:V) (xs:List V) (v:Value) (us:List Value) (Q:VK),ab X pins σ H s->av x v->aq xs us->r x xs H Q ->
  wpAny (model X.prog X.w) X.A (call (.builtin id) (v::us)) (EP X pins σ Q) X.xe s
theorem aq.one {x:V}{us:List Value} (h:aq [x] us):∃u,us=[u]/\av x u:=by
 cases h with
 |cons r t=>cases t;exact⟨_,rfl,r⟩
theorem aq.gK {x y:V}{us:List Value} (h:aq [x,y] us):∃u v,us=[u,v]/\av x u/\av y v:=by
 cases h with
 |cons r t=>
  obtain⟨v,rfl,q⟩:=aq.one t;exact⟨_,_,rfl,r,q⟩
theorem aq.zero:∀{us:List Value},aq [] us->us=[]
 |_,.nil=>rfl
theorem aq.dropLast {xs:List V}{us:List Value} (h:aq xs us):aq xs.dropLast us.dropLast:=by
 induction h with
 |nil=>exact .nil
 |cons r t ih=>
  cases t with
  |nil=>exact .nil
  |cons q t'=>exact .cons r ih
theorem aq.reverse {xs:List V}{us:List Value} (h:aq xs us):aq xs.reverse us.reverse:=by
 induction h with
 |nil=>exact .nil
 |cons r t ih=>rw[ab5,ab5];exact aq.append ih (.cons r .nil)
theorem aq.rep {xs:List V}{us:List Value} (h:aq xs us):∀k:Nat,aq (aa5 k xs).flatten (aa5 k us).flatten
 | 0=>.nil
 |k+1=>by
  rw[abU,abU,aci,aci];exact aq.append h (aq.rep h k)
theorem Gw {α:Type} (l:List α):l.eraseIdx (l.length-1)=l.dropLast:=by
 induction l with
 |nil=>rfl
 |cons a r ih=>
  cases r with
  |nil=>rfl
  |cons b r=>
   have e:(a::b::r).length-1=((b::r).length-1)+1:=by
    have h1:(a::b::r).length=r.length+2:=rfl;have h2:(b::r).length=r.length+1:=rfl;lia
   rw[e,List.eraseIdx_cons_succ,ih]
   all_goals rfl
theorem w5 (its:List Value):∀ (k:Nat) (am:List Value),
  List.foldl (λx1 x2=>x1++x2) am.toArray (aa5 k its.toArray)=(am++(aa5 k its).flatten).toArray
 | 0,am=>by simp
 |k+1,am=>by
  have e:am.toArray++its.toArray=(am++its).toArray:=by simp
  have e2:(am++its)++(aa5 k its).flatten=am++(aa5 (k+1) its).flatten:=by
   rw[abU,aci,abD]
  rw[<- e2,<- w5 its k (am++its),<- e,abU,List.foldl_cons]
section
variable {X:Cx}{pins:List (Addr×Obj)} {σ:St} {H:Hp}{s:Shared}{l b:Addr}{xs ys zs:List V}
theorem ab.nz {its its':List Value}{n:Nat}{f:Array Value->Array Value}{t':Nat} (I:ab X pins σ H s) (hH:H l=some (.lst xs))
  (e:s.heap.get? l=some { cls:=.type "list",data:=.seq its.toArray n }) (hf:f its.toArray=its'.toArray) (hv:aq ys its') (hz:ys.length<=sizeLine) :
  ab X pins σ (ag H l (.lst ys)) { s with heap:=s.heap.update l (abl f),toks:=t' }:=by
 have q:=PySem.IsL.update e f;rw[hf]at q;refine I.fQ (x:=l) (e:=l) (by rw[hH];exact trivial) (.inl rfl) (λZs u hb hu=>(aca s.heap (abl f) (abx hb)).trans hu) ⟨_,q⟩ ?_;exact⟨hz,its',_,hv,q⟩
theorem ab.qJ {its:List Value}{t':Nat} (I:ab X pins σ H s) (hv:aq ys its) (hz:ys.length<=sizeLine) :
  ab X pins σ (ag H s.heap.objs.size (.lst ys)) { s with heap:=s.heap.push { cls:=.type "list",data:=.seq its.toArray },toks:=t' }:=
 I.laid (λ_ _ q=>aaD _ q) (aaH _) ⟨hz,its,0,hv,aaG _ rfl⟩
theorem ab.fresh (I:ab X pins σ H s):H s.heap.objs.size=none:=I.ae.fresh (aaH _)
theorem ab.f7 (I:ab X pins σ H s) (hH:H l=some (.lst xs)):xs.length<=sizeLine/\∃(its:List Value) (n:Nat),aq xs its/\xs.length=its.length/\s.heap.get? l=some { cls:=.type "list",data:=.seq its.toArray n }:=by
 obtain⟨z,its,n,r,e⟩:=I.ae l _ hH;exact⟨z,its,n,r,r.length,e⟩
theorem qK {n:Nat} (h:n<=sizeLine):abN n=false:=by
 unfold abN;exact decide_eq_false (by lia)
end
section
variable {X:Cx}
def Gx:V->List V->Hp->VK->Prop:=λx vs H Q=>∃l xs y,x=.ref l/\vs=[y]/\H l=some (.lst xs)/\xs.length<sizeLine/\Q .af (ag H l (.lst (xs++[y])))
theorem Gy:k5 X "list.append" Gx:=by
 intro pins s σ H x vs v us Q I rx rv h;obtain⟨l,xs,y,rfl,rfl,hH,hz,q⟩:=h;cases rx;obtain⟨u,rfl,ru⟩:=rv.one;obtain⟨z,its,n,r,hl,e⟩:=I.f7 hH;refine acq F.slot_list_append ⟨_,e,rfl⟩ F.entry_list_append (F.args_list_append_2 _ _) (PySem.list_append l its.toArray n u (by rw[aaF];lia)) ⟨e,?_⟩;refine⟨.af,_,I.nz (its':=its++[u]) hH e (by simp) (r.append (.cons ru .nil)) ?_,rfl,q⟩;rw[abk,List.length_singleton];lia
def w6:V->List V->Hp->VK->Prop:=λx vs H Q=>∃l b xs zs,x=.ref l/\vs=[.ref b]/\H l=some (.lst xs)/\H b=some (.lst zs)/\xs.length+zs.length<=sizeLine/\Q .af (ag H l (.lst (xs++zs)))
theorem Gz:k5 X "list.extend" w6:=by
 intro pins s σ H x vs v us Q I rx rv h;obtain⟨l,b,xs,zs,rfl,rfl,hH,XG,hz,q⟩:=h;cases rx;obtain⟨u,rfl,ru⟩:=rv.one;cases ru;obtain⟨z,its,n,r,hl,e⟩:=I.f7 hH;obtain⟨z2,aU,n2,r2,hl2,e2⟩:=I.f7 XG;have hsz:its.toArray.size+aU.toArray.size<=sizeLine:=by rw[aaF,aaF];lia
 have k6:¬(!its.toArray.isEmpty && abN (its.toArray.size+aU.toArray.size))=true:=by
  rw[qK hsz,Bool.and_false];exact aaQ
 refine acq F.slot_list_extend ⟨_,e,rfl⟩ F.entry_list_extend (F.args_list_extend_2 _ _)
  (AutoSeq1.list_extend_list_list_0 l its.toArray n b aU.toArray n2 k6 (by rw[aaF];lia) (by lia)) ⟨e,e2,?_⟩
 refine⟨.af,_,I.nz (its':=its++aU) hH e (by simp) (r.append r2) ?_,rfl,q⟩;rw[abk];lia
def GA:V->List V->Hp->VK->Prop:=λx vs H Q=>∃l xs y,x=.ref l/\vs=[]/\H l=some (.lst xs)/\xs[xs.length-1]?=some y/\Q y (ag H l (.lst xs.dropLast))
theorem GB:k5 X "list.pop" GA:=by
 intro pins s σ H x vs v us Q I rx rv h;obtain⟨l,xs,y,rfl,rfl,hH,hy,q⟩:=h;cases rx;have iF:=rv.zero;subst iF;obtain⟨z,its,n,r,hl,e⟩:=I.f7 hH;obtain⟨u,hu,ru⟩:=r.get hy;have GC:its.toArray[its.toArray.size-1]?=some u:=by
  show its.toArray[its.length-1]?=some u;rw[<- abP,<- hl];exact hu
 refine acq F.slot_list_pop ⟨_,e,rfl⟩ F.entry_list_pop (F.args_list_pop_1 _) (MeetsSeq.list_pop_last l its.toArray n u GC (by rw[aaF];lia)) ⟨e,?_⟩;refine⟨y,_,I.nz (its':=its.dropLast) hH e ?_ r.dropLast ?_,ru,q⟩
 ·show its.toArray.eraseIdxIfInBounds (its.toArray.size-1)=its.dropLast.toArray;rw[aaF,List.eraseIdxIfInBounds_toArray,Gw]
 ·rw[List.length_dropLast];lia
def w7:R2:=λx y H Q=>∃l b xs zs,x=.ref l/\y=.ref b/\H l=some (.lst xs)/\H b=some (.lst zs)/\xs.length+zs.length<=sizeLine/\∀p,H p=none->Q (.ref p) (ag H p (.lst (xs++zs)))
theorem GD:aA X (binaryOp .Add) w7:=by
 intro pins s σ H x y v u Q I rx ry h;obtain⟨l,b,xs,zs,rfl,rfl,hH,XG,hz,q⟩:=h;cases rx;cases ry;obtain⟨z,its,n,r,hl,e⟩:=I.f7 hH;obtain⟨z2,aU,n2,r2,hl2,e2⟩:=I.f7 XG;refine PySem.P.add_list e e2 ?_ (by rw[aaF,aaF];lia);have ea:its.toArray++aU.toArray=(its++aU).toArray:=by simp
 rw[ea];exact⟨.ref _,_,I.qJ (t':=s.toks) (r.append r2) (by rw[abk];lia),rfl,q _ I.fresh⟩
def GF:R2:=λx y H Q=>∃l k xs,x=.ref l/\y=.int k/\H l=some (.lst xs)/\-(2 ^ 63)<=k/\k<2 ^ 63/\xs.length * k.toNat<=sizeLine /\
 ∀p,H p=none->Q (.ref p) (ag H p (.lst (aa5 k.toNat xs).flatten))
theorem GG {α:Type} (xs:List α) (k:Nat):(aa5 k xs).flatten.length=k * xs.length:=by
 induction k with
 |zero=>simp
 |succ k ih=>rw[abU,aci,abk,ih,Nat.succ_mul,Nat.add_comm]
theorem GH:aA X (binaryOp .Mult) GF:=by
 intro pins s σ H x y v u Q I rx ry h;obtain⟨l,k,xs,rfl,rfl,hH,h1,h2,hz,q⟩:=h;cases rx;obtain⟨t,rfl⟩:=ry;obtain⟨z,its,n,r,hl,e⟩:=I.f7 hH;have hlen:its.toArray.size * k.toNat<=sizeLine:=by rw[aaF,<- hl];exact hz
 have GI:¬its.toArray.size * k.toNat > (2 ^ 63-1) / 8:=by
  have:(sizeLine:Nat)<=(2 ^ 63-1) / 8:=by decide
  lia
 have GJ:¬(!Builtin.List.listFitsIndex k)=true:=by
  rw[fitsIndex_both h1 h2];exact aaQ
 have k6:¬abN (its.toArray.size * k.toNat)=true:=by
  rw[qK hlen];exact aaQ
 have GK:List.foldl (λx1 x2=>x1++x2) #[] (aa5 (if its.toArray.isEmpty=true then 0 else k.toNat) its.toArray)=(aa5 k.toNat its).flatten.toArray:=by
  have f0:∀m:Nat,List.foldl (λx1 x2=>x1++x2) #[] (aa5 m its.toArray)=(aa5 m its).flatten.toArray:=λm=>by
   have:=w5 its m [];rw[List.nil_append]at this;exact this
  rw[f0];cases its with
  |nil=>simp
  |cons a r'=>rw[if_neg (by simp)]
 refine wpAny_binaryOp_repeat_ref (T:="list") (U:="int") (by decide) ⟨_,e,rfl⟩ (λs'=>typeIs_int s' k t) noFill_list_mul F.fills_int_mul F.slot_int_rmul repeat_list F.slot_int_index.lookup
  (acq F.slot_int_rmul (typeIs_int s k t) F.entry_int_rmul (F.args_int_rmul_2 _ _) (int___rmul___int_list k t l its.toArray n)
   ⟨e,rfl,⟨_,e,rfl⟩,acq F.slot_list_mul ⟨_,e,rfl⟩ F.entry_list_mul (F.args_list_mul_2 _ _) (AutoListH.list___mul___list_int_3 l its.toArray n k t GJ GI k6) ⟨e,?_⟩⟩)
 rw[GK];exact⟨.ref _,_,I.qJ (t':=s.toks) (r.rep k.toNat) (by rw[GG,Nat.mul_comm];exact hz),rfl,q _ I.fresh⟩
end
section
variable {prog:Program}{w:World}{A:Around}{E:Value->Shared->Prop}{s:Shared}
set_option maxRecDepth 100000 in
end
section
variable {X:Cx}
end
end L2
namespace Att
open PySem PySem.W PySem.Calls PyProof.Rows
theorem GL {P:Params}{h:Heap}:∀(ns:List Int) (vs:List Value),WellAll P h vs (ns.map WData.int)->IntsAre vs ns:=by
 intro ns
 induction ns with
 |nil=>
  intro vs w;rw[List.map_nil]at w;cases w;exact .nil
 |cons n ns ih=>
  intro vs w;rw[aaR]at w;cases w with
  |cons a b=>
   cases a;exact .cons _ _ (ih _ b)
theorem GN {l:OpenLaw}{n:Nat} (hn:l.most=some n) {P:Params}{h:Heap}{args:List WData}{f9:List Value}
  (nn:l.row.toRowW.claim.pre args=true) (qL:WellAll P h f9 args) :
  ∃a vs ns,f9=[aaX a]/\args=[WData.list (ns.map WData.int)]/\h.get? a=some { cls:=.type "list",data:=.seq vs.toArray }/\IntsAre vs ns/\ns.length<=n:=by
 have GO:WShape.hasAll [] args [.list .int]=true:=(pre_splitW nn).1;have hc:l.pre.holds [] { args:=args }=true:=(pre_splitW nn).2;obtain⟨d,r,rfl,h1,h2⟩:=hasAllW_cons GO;obtain rfl:=hasAllW_nil h2;obtain⟨xs,rfl,h3⟩:=hasW_list h1;obtain⟨ns,rfl⟩:=items_int h3;have hlen:ns.length<=n:=by
  unfold OpenLaw.pre at hc;have h4:(WTm.not (.lt (.lit (.int (n:Int))) (.len (.arg 0)))).holds [] { args:=[.list (ns.map .int)] }=true:=by
   have h4:=(holds_andW hc).1;rw[hn]at h4;exact h4
  have h5:=condW_of h4 (w_not (w_lt w_lit (w_len_list (w_arg rfl))));rw[aaN]at h5;refine Nat.le_of_not_lt λq=>?_;have q':(n:Int)<((ns.length:Nat):Int):=by lia
  first
   |(rw[decide_eq_true q']at h5;exact absurd h5 (by decide))
   |(simp at h5;lia)
 cases qL with
 |cons w1 w2=>
  cases w2;cases w1 with
  |list ho iC=>exact⟨_,_,ns,rfl,rfl,ho,GL ns _ iC,hlen⟩
theorem GP (l:OpenLaw) (args:List WData):l.row.toRowW.claim.post args (.bool true) args=true:=
 postW_of (r:=l.row.toRowW) (X:=(true == true))
  (show WShape.has [] (.bool true) .bool=true by first |rfl |decide |simp [WShape.has,WShape.arms,WShape.armsAll])
  (show (WTm.eq .res (.lit (.bool true))).value [] { args:=args,res:=some (.bool true),after:=args }=some (.bool (true == true)) from w_eq_bool (w_res rfl) w_lit) rfl
theorem GQ {l:OpenLaw}{n:Nat}{q:Program}{loose:List Str}{XP:(Str->Option Value)->Heap->Prop}{YP:World->Heap->Prop}{d:DefRec}
  (hn:l.most=some n) (gL:d.params.defaults=[])
  (call:∀(w:World) (s₀ s₁:Shared) (mg mb:Str->Option Value) (fa:Addr) (o:Obj) (pm cd a3:Value) (a:Addr) (vs:List Value) (ns:List Int),
   Ground q loose [] XP w s₀ mg mb s₁.heap->YP w s₁.heap ->
   s₁.heap.get? fa=some o->o.data=.func (docDef d.name d.params d.body d.scope pm cd a3)->s₁.heap.CodeRec cd d.name->mg d.name=some (.ref fa) ->
   s₁.heap.get? a=some { cls:=.type "list",data:=.seq vs.toArray }->IntsAre vs ns->ns.length<=n->s₁.gens=#[] ->
   codeAny (model l.prog w) callerA (.call (.ref fa) ⟨[.ref a],[]⟩) (λr s'=>r=.ok (.ret (.bool true))/\OldK s₁.heap s'.heap/\s'.os=s₁.os/\AllBare s'.gens) s₁) :
  WalkO q loose XP YP l.row.toRowW d [] (λf vs=>PySem.call f vs):=by
 intro w s₀ s₁ mg mb G Y fa o pm cd a3 XF kV ho hd cY hD hmg hg args f9 as nn V3 V4 qL V5;obtain rfl:XF=.none:=Dflts.none hD gL;obtain rfl:kV=.none:=Dflts.noKw hD;obtain⟨a,vs,ns,rfl,rfl,qM,qN,hlen⟩:=GN hn nn qL;refine enter_call (codeAny_mono (call w s₀ s₁ mg mb fa o pm cd a3 a vs ns G Y ho (fd_plain hd) cY hmg qM qN hlen hg) λr s' hq=>?_);obtain⟨rfl,h2,h3,h4⟩:=hq;exact⟨.inl ⟨.bool true,.bool true,[],rfl,λ_=>rfl,.bool true,GP l _,λ_=>⟨List.Pairwise.nil,λ_ hm=>(nomatch hm)⟩⟩,h2,h3,h4⟩
section
variable {prog:Program}{w:World}{A:Around}{E:Value->Shared->Prop}{s:Shared}{K:Frag}
end
end Att
namespace L2
open PySem PySem.Spec PyProof.Rows
theorem w8:∀{vs:List Value}{ns:List Int},IntsAre vs ns->aq (ns.map V.int) vs
 |_,_,.nil=>.nil
 |_,_,.cons n t h=>.cons ⟨t,rfl⟩ (w8 h)
end L2
namespace L2
open PySem PySem.Spec PyProof.Rows
end L2
/- V6 V7 V8 (V9;V',My.* iE Wa):
   My.Wb: a structure of dE GR GS CU Wc names (We,Wf);My.Txt K t: a structure (Prop) of dE Wg w9 K;
   My.GU:{K} {Wh GR ..} (e1:nsIn K mainGlobals "law"=some (some (.ref f))) (e2:K.lookup f=some ⟨oc,od,.func (fnOf "law" "law" params body scope XF kV a3 pm an aW ct),sl⟩) (e3:codeIn K aW "law"=true) ..:∃t,My.Txt K t
set_option maxRecDepth 100000 in
set_option maxHeartbeats 0 in
theorem PySem.Challenge.Wi : PySem.Challenge.GV.Holds := by
 w_on;o_law;k_head;(case hw=>w_witness2)
 k_fill
 refine L2.Wj (l:=PySem.Challenge.GV) (n:=63) (k:=40) (x:="script") (CX:=λw=>..) (sp:=λ_=>My.Wl) rfl (by decide) rfl ⟨rfl,by decide,by decide⟩ (λw h Y=>PySem.W.kIn_of Y) ?F ?S ?C
 case F=>
  intro w mg fa h KX G hmg;have T:∃t,My.Txt (L2.GW KX) t:=by
   dsimp only[L2.GW]                          -- K Wm Wn as «<heap Wp> w.params» for k_is;refine' My.GU ?e1 ?e2 ?e3 ..
   (case e1=>PySem.W.k_is)                    -- in dE wE: a name->its GX->its Wq->its Wr
   (case e2=>PySem.W.k_is)
   ..
  obtain⟨t,T⟩:=T;have e0:=hmg.symm.trans (PySem.W.mg_of KX G T.Ws);cases e0                                       -- fa is dE Wt own GX;exact⟨_,λs u=>.of_eq rfl,λbase kb nb=>My.GY T kb nb⟩     -- if «.of_eq rfl» Wu Wv Ww: refine' ⟨_,?b,λbase kb nb=>My.GY T kb nb⟩;exact λs u=>.of_eq rfl
 case S=>exact λw H a ns hl YR hS=>..
 case C=>exact ..
(dE tactic k_is has no namespace: fQ k_is) -/
namespace L2
open PySem PySem.Spec PyProof.Rows
def bC (s:Stmt) (j:Nat):Stmt:=match s with
 |.ClassDef _ _ _ body _ _ _ _ _ _ _=>body.getD j (.Pass ⟨0,0,0,0⟩)
 |_=>.Pass ⟨0,0,0,0⟩
noncomputable def gM (s:Stmt):Arguments:=match s with
 |.FunctionDef _ a _ _ _ _ _ _ _ _=>a
 |_=>{ posonlyargs:=[],args:=[],vararg:=none,kwonlyargs:=[],kw_defaults:=[],kwarg:=none,defaults:=[] }
noncomputable def aH (s:Stmt):List Stmt:=match s with
 |.FunctionDef _ _ b _ _ _ _ _ _ _=>b
 |_=>[]
noncomputable def aj (s:Stmt):Scope:=match s with
 |.FunctionDef _ _ _ _ _ _ sc _ _ _=>sc
 |_=>{ kind:=.function,names:=[],isGenerator:=false,isCoroutine:=false }
abbrev a7:cJ:=λ_ _ _ _ _ _=>False
abbrev E0:XK:=λ_ _ _=>False
theorem iG {X:Cx}:eA a7 X E0:=λ_ _ _ _ _ _ _ h=>h.elim
structure dg (K:PySem.W.Frag) (x qual:Str) (st:Stmt) (f:Addr) (fd:FuncData):Prop where
 ex:∃(oc:Value) (od:Option Addr) (kV a3 pm:Value) (an:Option Addr) (aW ct:Value) (cZ:Array (Option Value)),
  fd=PySem.W.fnOf x qual (gM st) (aH st) (aj st) .none kV a3 pm an aW ct/\K.lookup f=some ⟨oc,od,.func fd,cZ⟩/\PySem.W.codeIn K aW qual=true
 kp:PySem.W.keepIn K (.ref f)=true
section
variable {P:Program}{w:World}{K:PySem.W.Frag}{mg:Str->Option Value}{base:Heap}
theorem dg.ok {x qual:Str}{st:Stmt}{f:Addr}{fd:FuncData}{N ps:List Str}{k:Nat}{sp:Sp} (F:dg K x qual st f fd) (S:aK N ps (aj st)) (len:∀ vs H Q E,sp vs H Q E->vs.length=ps.length)
  (qw:∀(aW:Value) (A:Around) (outer:List Env) (s:Shared) (H:Hp) (vs:List V) (Q:VK) (E:XK),bf k (A.deeper (envOfC qual (aj st) s.heap.objs.size f aW))->sp vs H Q E ->
   ∃t,bP (dY a7 P w K mg base N qual (aj st) f aW A outer s H E).dG (aH st) t/\t { nx:=λ_ H'=>Q .af H',rt:=Q } (start N vs) H):a5 P w K mg base a7 (k+1) f fd ps sp:=by
 obtain⟨oc,od,kV,a3,pm,an,aW,ct,cZ,rfl,lk,cY⟩:=F.ex;refine wA lk cY S len λA outer s H vs Q E hr gE=>?_;obtain⟨t,h,q⟩:=qw aW A outer s H vs Q E hr gE;exact⟨t,h.dG,q⟩
theorem dg.iz {x qual:Str}{st:Stmt}{f:Addr}{fd:FuncData}{ps:List Str} (F:dg K x qual st f fd)
  (h:∀(kV a3 pm:Value) (an:Option Addr) (aW ct:Value) (us:List Value),us.length=ps.length->bindArgs (PySem.W.fnOf x qual (gM st) (aH st) (aj st) .none kV a3 pm an aW ct) ⟨us,[]⟩=pure (ps.zip us)):b0 K fd ps []:=by
 obtain⟨oc,od,kV,a3,pm,an,aW,ct,cZ,rfl,lk,cY⟩:=F.ex;exact .all (h kV a3 pm an aW ct)
theorem qO {x qual:Str}{st:Stmt}{f:Addr}{oc:Value}{od an:Option Addr}{cZ:Array (Option Value)}{kV a3 pm aW ct:Value} (l:K.lookup f=some ⟨oc,od,.func (PySem.W.fnOf x qual (gM st) (aH st) (aj st) .none kV a3 pm an aW ct),cZ⟩)
  (c:PySem.W.codeIn K aW qual=true) (k:PySem.W.keepIn K (.ref f)=true):dg K x qual st f (PySem.W.fnOf x qual (gM st) (aH st) (aj st) .none kV a3 pm an aW ct):=⟨⟨oc,od,kV,a3,pm,an,aW,ct,cZ,rfl,l,c⟩,k⟩
end
section
variable {X:Cx}
end
theorem aO {A B:Prop} (h:B):if false=true then A else B:=by
 rw[if_neg aaQ];exact h
theorem cy {A B:Prop} (h:A):if true=true then A else B:=by
 rw[if_pos rfl];exact h
theorem a9 {c A B:Prop} [Decidable c] (h1:c->A) (h2:¬c->B):if c then A else B:=by
 by_cases h:c
 ·rw[if_pos h];exact h1 h
 ·rw[if_neg h];exact h2 h
end L2
namespace L2
open PySem PySem.Spec PyProof.Rows
section
variable {X:Cx}
theorem GZ:bp X (.builtin "len") (λxs H Q=>∃a kvs,xs=[V.ref a]/\H a=some (.dK kvs)/\Q (.int kvs.length) H):=by
 intro pins s σ H xs us Q I r h;obtain⟨a,kvs,rfl,ha,q⟩:=h;obtain⟨u,rfl,ru⟩:=ik r;cases ru;exact FC I (.inl ha) λt s' I'=>⟨.int kvs.length,H,I',⟨t,rfl⟩,q⟩
end
end L2
namespace L2
open PySem PySem.Spec PyProof.Rows
section
variable {κ:Type} [DecidableEq κ]
end
end L2
end
section
namespace L2
open PySem
section
variable {prog:Program}{w:World}{A:Around}{E:Value->Shared->Prop}{s:Shared}
end
end L2
end
section
namespace Kn
open PySem
inductive Val where
 |num (i:Int)
 |word (s:Str)
 |row (ps:List (Str×Val))
 |aB (ps:List (Val×Int))
inductive KE where
 |i (n:Int)
 |s (x:Str)
noncomputable instance:DecidableEq Val:=λa b=>acv (a=b)
noncomputable instance:DecidableEq KE:=λa b=>acv (a=b)
end Kn
end
section
namespace L2
open PySem PySem.Spec PyProof.Rows
inductive Dt where
 |int (i:Int)
 |str (x:Str)
 |tup (ds:List Dt)
noncomputable instance:DecidableEq Dt:=λa b=>acv (a=b)
mutual
noncomputable def Dt.bE:Dt->Nat
 |.int _=>0
 |.str _=>0
 |.tup ds=>aV ds+1
noncomputable def aV:List Dt->Nat
 |[]=>0
 |d::ds=>max d.bE (aV ds)
end
theorem qP:∀{ds:List Dt}{d:Dt},d∈ds->d.bE<=aV ds
 |d::ds,e,h=>by
  rw[aV];rcases List.mem_cons.mp h with rfl |h
  ·exact Nat.le_max_left _ _
  ·exact aaZ (qP h) (Nat.le_max_right _ _)
mutual
def aF (H:Hp):Dt->V->Prop
 |.int i,v=>v=.int i
 |.str x,v=>v=.str x
 |.tup ds,v=>∃a xs,v=.ref a/\H a=some (.tup xs)/\aX H ds xs
def aX (H:Hp):List Dt->List V->Prop
 |[],xs=>xs=[]
 |d::ds,xs=>∃y ys,xs=y::ys/\aF H d y/\aX H ds ys
end
def ay (H H':Hp):Prop:=∀b xs,H b=some (.tup xs)->H' b=some (.tup xs)
theorem ay.refl (H:Hp):ay H H:=λ_ _ h=>h
theorem ay.trans {H H1 H2:Hp} (a:ay H H1) (b:ay H1 H2):ay H H2:=λc xs h=>b c xs (a c xs h)
theorem ay.new {H:Hp}{p:Addr} (h:H p=none) (o:HO):ay H (ag H p o):=λb xs e=>by rw[aD (bB e h)];exact e
mutual
theorem aF.inj {H:Hp}:∀{d e:Dt}{v:V},aF H d v->aF H e v->d=e
 |.int i,e,v,h,h'=>by
  rw[aF]at h;subst h;cases e with
  |int j=>rw[aF]at h';cases h';rfl
  |str y=>rw[aF]at h';cases h'
  |tup es=>rw[aF]at h';obtain⟨_,_,z,_⟩:=h';cases z
 |.str i,e,v,h,h'=>by
  rw[aF]at h;subst h;cases e with
  |int j=>rw[aF]at h';cases h'
  |str y=>rw[aF]at h';cases h';rfl
  |tup es=>rw[aF]at h';obtain⟨_,_,z,_⟩:=h';cases z
 |.tup ds,e,v,h,h'=>by
  rw[aF]at h;obtain⟨a,xs,rfl,h1,h2⟩:=h;cases e with
  |int j=>rw[aF]at h';cases h'
  |str y=>rw[aF]at h';cases h'
  |tup es=>
   rw[aF]at h';obtain⟨b,ys,z,g1,g2⟩:=h';cases z;rw[h1]at g1;cases g1;rw[aX.inj h2 g2]
theorem aX.inj {H:Hp}:∀{ds es:List Dt}{xs:List V},aX H ds xs->aX H es xs->ds=es
 |[],es,xs,h,h'=>by
  rw[aX]at h;subst h;cases es with
  |nil=>rfl
  |cons e es=>rw[aX]at h';obtain⟨_,_,z,_⟩:=h';cases z
 |d::ds,es,xs,h,h'=>by
  rw[aX]at h;obtain⟨y,ys,rfl,h1,h2⟩:=h;cases es with
  |nil=>rw[aX]at h';cases h'
  |cons e es=>
   rw[aX]at h';obtain⟨y',Wx,z,g1,g2⟩:=h';cases z;rw[aF.inj h1 g1,aX.inj h2 g2]
end
theorem aX.length {H:Hp}:∀{ds:List Dt}{xs:List V},aX H ds xs->xs.length=ds.length
 |[],xs,h=>by rw[aX]at h;subst h;rfl
 |d::ds,xs,h=>by
  rw[aX]at h;obtain⟨y,ys,rfl,h1,h2⟩:=h;simp [aX.length h2]
theorem aX.get {H:Hp}:∀{ds:List Dt}{xs:List V}{i:Nat}{d:Dt},aX H ds xs->ds[i]?=some d->∃y,xs[i]?=some y/\aF H d y
 |[],xs,i,d,h,e=>by simp at e
 |c::ds,xs,0,d,h,e=>by
  rw[aX]at h;obtain⟨y,ys,rfl,h1,h2⟩:=h;simp at e;subst e;exact⟨y,rfl,h1⟩
 |c::ds,xs,i+1,d,h,e=>by
  rw[aX]at h;obtain⟨y,ys,rfl,h1,h2⟩:=h;obtain⟨z,q,r⟩:=aX.get (i:=i) h2 (by simpa using e);exact⟨z,by simpa using q,r⟩
section
variable {P:Program}{w:World}{H:Hp}
theorem k7 (ds es:List Dt):((ab6 (min ds.length es.length)).all (λj=>decide (ds[j]?=es[j]?)) && ds.length == es.length)=decide (ds=es):=by
 rw[abd];simp only[aaW,List.all_eq_true,List.mem_range,decide_eq_true_eq,beq_iff_eq];constructor
 ·rintro⟨h1,h2⟩;refine List.ext_getElem? λi=>?_;by_cases hi:i<min ds.length es.length
  ·exact h1 i hi
  ·rw[abp (by lia),abp (by lia)]
 ·rintro rfl;exact⟨λ_ _=>rfl,rfl⟩
theorem qQ:∀(n:Nat) (A:Around) (s:Shared) (d e:Dt) (v u:V) (x y:Value),aQ P w H s.heap->d.bE<=n->A.units+n<cLine->aF H d v->aF H e u->av v x->av u y->SeqAt.EqAt A s x y (decide (d=e)):=by
 intro n
 induction n with
 |zero=>
  intro A s d e v u x y ok hd hu iv iu rv ru;cases d with
  |int i=>
   rw[aF]at iv;subst iv;obtain⟨t,rfl⟩:=rv;cases e with
   |int j=>
    rw[aF]at iu;subst iu;obtain⟨t',rfl⟩:=ru;have z:decide (Dt.int i=Dt.int j)=(i == j):=(by rw[abd];simp);rw[z];exact SeqAt.EqAt.int_int i t j t'
   |str z=>
    rw[aF]at iu;subst iu;obtain⟨t',rfl⟩:=ru;rw[decide_eq_false (by intro q;cases q)];exact SeqAt.EqAt.int_str i t z t'
   |tup es=>
    rw[aF]at iu;obtain⟨a,xs,rfl,h1,h2⟩:=iu;cases ru;obtain⟨hz,its,r,p⟩:=ok a _ h1;rw[decide_eq_false (by intro q;cases q)];exact SeqAt.EqAt.int_tuple i t p (by lia)
  |str i=>
   rw[aF]at iv;subst iv;obtain⟨t,rfl⟩:=rv;cases e with
   |int j=>
    rw[aF]at iu;subst iu;obtain⟨t',rfl⟩:=ru;rw[decide_eq_false (by intro q;cases q)];exact SeqAt.EqAt.str_int i t j t'
   |str z=>
    rw[aF]at iu;subst iu;obtain⟨t',rfl⟩:=ru;have q:decide (Dt.str i=Dt.str z)=(i == z):=(by rw[abd];simp);rw[q];exact SeqAt.EqAt.str_str i t z t'
   |tup es=>
    rw[aF]at iu;obtain⟨a,xs,rfl,h1,h2⟩:=iu;cases ru;obtain⟨hz,its,r,p⟩:=ok a _ h1;rw[decide_eq_false (by intro q;cases q)];exact SeqAt.EqAt.str_tuple i t p (by lia)
  |tup ds=>rw[Dt.bE]at hd;lia
 |succ n ih=>
  intro A s d e v u x y ok hd hu iv iu rv ru;cases d with
  |int i=>exact ih A s _ e v u x y ok (by rw[Dt.bE];lia) (by lia) iv iu rv ru
  |str i=>exact ih A s _ e v u x y ok (by rw[Dt.bE];lia) (by lia) iv iu rv ru
  |tup ds=>
   rw[aF]at iv;obtain⟨a,xs,rfl,h1,h2⟩:=iv;cases rv;obtain⟨hz,its,r,p⟩:=ok a _ h1;cases e with
   |int j=>
    rw[aF]at iu;subst iu;obtain⟨t',rfl⟩:=ru;rw[decide_eq_false (by intro q;cases q)];exact SeqAt.EqAt.tuple_int j t' p (by lia)
   |str z=>
    rw[aF]at iu;subst iu;obtain⟨t',rfl⟩:=ru;rw[decide_eq_false (by intro q;cases q)];exact SeqAt.EqAt.tuple_str z t' p (by lia)
   |tup es=>
    have Wy:=iu;rw[aF]at iu;obtain⟨b,ys,rfl,g1,g2⟩:=iu;cases ru;obtain⟨wP,aU,r2,p2⟩:=ok b _ g1;by_cases gN:a=b
    ·subst gN;rw[h1]at g1;cases g1;rw[aX.inj h2 g2,decide_eq_true rfl];exact SeqAt.EqAt.same _
    ·have l1:its.toArray.size=ds.length:=(by rw[aaF,<- r.length,h2.length]);have l2:aU.toArray.size=es.length:=(by rw[aaF,<- r2.length,g2.length]);have q:=SeqAt.RcAt.tuples (s:=s) (A:=A) (e:=λj=>decide (ds[j]?=es[j]?)) p p2 (by lia) λj qR iH=>by
      have k1:j<ds.length:=(by rw[<- l1];exact qR);have k2:j<es.length:=(by rw[<- l2];exact iH);obtain⟨y1,e1,i1⟩:=h2.get (i:=j) (aaI k1);obtain⟨y2,e2,i2⟩:=g2.get (i:=j) (aaI k2);obtain⟨u1,f1,q1⟩:=r.get e1;obtain⟨u2,f2,q2⟩:=r2.get e2;have w1:its.toArray[j]=u1:=by
       have:=(List.getElem?_eq_some_iff.mp f1).2;simpa using this
      have w2:aU.toArray[j]=u2:=by
       have:=(List.getElem?_eq_some_iff.mp f2).2;simpa using this
      rw[w1,w2,aaI k1,aaI k2];have z:decide (some ds[j]=some es[j])=decide (ds[j]=es[j]):=(by rw[abd];simp);rw[z];have G0:ds[j].bE<=n:=by
       have:=qP (acr k1);rw[Dt.bE]at hd;lia
      exact ih A.in1 s _ _ y1 y2 u1 u2 ok G0 (by show A.units+1+n<cLine;lia) i1 i2 q1 q2
     rw[l1,l2,k7]at q;have z:decide (Dt.tup ds=Dt.tup es)=decide (ds=es):=(by rw[abd];simp);rw[z];exact SeqAt.EqAt.of_refs gN q
end
section
variable {X:Cx}
noncomputable def bF:Nat:=100
def qS:R2:=λx y H Q=>∃d e,aF H d x/\aF H e y/\d.bE<=bF/\Q (.bl (decide (d=e))) H
theorem k8 {P:Program}{w:World}{H:Hp}{s:Shared}{A:Around}{ds es:List Dt}{xs ys:List V}{its aU:List Value}{n:Nat} (ok:aQ P w H s.heap) (hd:aV ds<=n) (hu:A.units+n<cLine) (h2:aX H ds xs) (g2:aX H es ys) (r:aq xs its) (r2:aq ys aU) :
  ∀j (h1:j<its.toArray.size) (h2:j<aU.toArray.size),SeqAt.EqAt A s its.toArray[j] aU.toArray[j] (decide (ds[j]?=es[j]?)):=λj qR iH=>by
 have l1:its.toArray.size=ds.length:=by rw[aaF,<- r.length,h2.length]
 have l2:aU.toArray.size=es.length:=by rw[aaF,<- r2.length,g2.length]
 have k1:j<ds.length:=by rw[<- l1];exact qR
 have k2:j<es.length:=by rw[<- l2];exact iH
 obtain⟨y1,e1,i1⟩:=h2.get (i:=j) (aaI k1);obtain⟨y2,e2,i2⟩:=g2.get (i:=j) (aaI k2);obtain⟨u1,f1,q1⟩:=r.get e1;obtain⟨u2,f2,q2⟩:=r2.get e2;have w1:its.toArray[j]=u1:=by
  have:=(List.getElem?_eq_some_iff.mp f1).2;simpa using this
 have w2:aU.toArray[j]=u2:=by
  have:=(List.getElem?_eq_some_iff.mp f2).2;simpa using this
 rw[w1,w2,aaI k1,aaI k2];have z:decide (some ds[j]=some es[j])=decide (ds[j]=es[j]):=by rw[abd];simp
 rw[z];exact qQ n A s _ _ y1 y2 u1 u2 ok (aaZ (qP (acr k1)) hd) hu i1 i2 q1 q2
theorem G3 (hu:X.A.units+110<cLine):aA X (compareOp .Eq) qS:=by
 intro pins s σ H x y v u Q I rx ry h;obtain⟨d,e,ix,iy,hd,q⟩:=h;cases d with
 |int i=>
  rw[aF]at ix;subst ix;cases e with
  |int j=>
   rw[aF]at iy;subst iy;refine kH pins s σ H _ _ v u Q I rx ry ⟨rfl,?_⟩;have z:decide (V.int i=V.int j)=decide (Dt.int i=Dt.int j):=(by rw[abd];simp);rw[z];exact q
  |str j=>
   rw[aF]at iy;subst iy;refine kH pins s σ H _ _ v u Q I rx ry ⟨rfl,?_⟩;have z:decide (V.int i=V.str j)=decide (Dt.int i=Dt.str j):=(by rw[abd];simp);rw[z];exact q
  |tup es=>
   rw[aF]at iy;obtain⟨a,xs,rfl,h1,h2⟩:=iy;cases ry;obtain⟨t,rfl⟩:=rx;obtain⟨hz,its,r,p⟩:=I.ae a _ h1;rw[decide_eq_false (by intro q;cases q)]at q;exact SeqAt.RcAt.int_tuple i t p (by lia) _ _ _ _ ⟨.bl false,H,I,rfl,q⟩
 |str i=>
  rw[aF]at ix;subst ix;cases e with
  |int j=>
   rw[aF]at iy;subst iy;refine kH pins s σ H _ _ v u Q I rx ry ⟨rfl,?_⟩;have z:decide (V.str i=V.int j)=decide (Dt.str i=Dt.int j):=(by rw[abd];simp);rw[z];exact q
  |str j=>
   rw[aF]at iy;subst iy;refine kH pins s σ H _ _ v u Q I rx ry ⟨rfl,?_⟩;have z:decide (V.str i=V.str j)=decide (Dt.str i=Dt.str j):=(by rw[abd];simp);rw[z];exact q
  |tup es=>
   rw[aF]at iy;obtain⟨a,xs,rfl,h1,h2⟩:=iy;cases ry;obtain⟨t,rfl⟩:=rx;obtain⟨hz,its,r,p⟩:=I.ae a _ h1;rw[decide_eq_false (by intro q;cases q)]at q;exact SeqAt.RcAt.str_tuple i t p (by lia) _ _ _ _ ⟨.bl false,H,I,rfl,q⟩
 |tup ds=>
  rw[aF]at ix;obtain⟨a,xs,rfl,h1,h2⟩:=ix;cases rx;obtain⟨hz,its,r,p⟩:=I.ae a _ h1;cases e with
  |int j=>
   rw[aF]at iy;subst iy;obtain⟨t,rfl⟩:=ry;rw[decide_eq_false (by intro q;cases q)]at q;exact SeqAt.RcAt.tuple_int j t p (by lia) _ _ _ _ ⟨.bl false,H,I,rfl,q⟩
  |str j=>
   rw[aF]at iy;subst iy;obtain⟨t,rfl⟩:=ry;rw[decide_eq_false (by intro q;cases q)]at q;exact SeqAt.RcAt.tuple_str j t p (by lia) _ _ _ _ ⟨.bl false,H,I,rfl,q⟩
  |tup es=>
   rw[aF]at iy;obtain⟨b,ys,rfl,g1,g2⟩:=iy;cases ry;obtain⟨wP,aU,r2,p2⟩:=I.ae b _ g1;have l1:its.toArray.size=ds.length:=(by rw[aaF,<- r.length,h2.length]);have l2:aU.toArray.size=es.length:=(by rw[aaF,<- r2.length,g2.length]);rw[Dt.bE]at hd;have z:decide (Dt.tup ds=Dt.tup es)=decide (ds=es):=(by rw[abd];simp);rw[z]at q;refine SeqAt.RcAt.tuples (s:=s) (A:=X.A) (e:=λj=>decide (ds[j]?=es[j]?)) p p2 (by lia) (k8 (n:=bF) (A:=X.A.in1) I.ae (by lia) (by show X.A.units+1+bF<cLine;unfold bF;lia) h2 g2 r r2) _ _ _ _ ?_;rw[l1,l2,k7];exact⟨.bl _,H,I,rfl,q⟩
theorem G4 (hu:X.A.units+110<cLine):aA X (compareOp .NotEq) (λx y H Q=>∃ds es,aF H (.tup ds) x/\aF H (.tup es) y/\aV ds<=bF/\Q (.bl (!decide (ds=es))) H):=by
 intro pins s σ H x y v u Q I rx ry h;obtain⟨ds,es,ix,iy,hd,q⟩:=h;rw[aF]at ix iy;obtain⟨a,xs,rfl,h1,h2⟩:=ix;obtain⟨b,ys,rfl,g1,g2⟩:=iy;cases rx;cases ry;obtain⟨hz,its,r,p⟩:=I.ae a _ h1;obtain⟨wP,aU,r2,p2⟩:=I.ae b _ g1;have l1:its.toArray.size=ds.length:=by rw[aaF,<- r.length,h2.length]
 have l2:aU.toArray.size=es.length:=by rw[aaF,<- r2.length,g2.length]
 refine SeqAt.RcNeAt.tuples (s:=s) (A:=X.A) (e:=λj=>decide (ds[j]?=es[j]?)) p p2 (by lia) (k8 (n:=bF) (A:=X.A.in1) I.ae (by lia) (by show X.A.units+1+bF<cLine;unfold bF;lia) h2 g2 r r2) _ _ _ _ ?_;rw[l1,l2,k7];exact⟨.bl _,H,I,rfl,q⟩
noncomputable def fk (H:Hp) (d:Dt) (u:Value):Bool:=@decide (∃v,av v u/\aF H d v) (acv _)
theorem G5 {v v':V}{u:Value} (h:av v u) (h':av v' u):v=v':=by
 cases v <;> cases v' <;> simp only[av]at h h' <;> first
  |rfl
  |(obtain⟨t,rfl⟩:=h;obtain⟨t',h'⟩:=h';injection h' with h' _;subst h';rfl)
  |(obtain⟨t,rfl⟩:=h;obtain⟨t',h'⟩:=h';cases h';done)
  |(subst h;cases h';rfl)
  |(subst h;obtain⟨t',h'⟩:=h';cases h')
  |(obtain⟨t,rfl⟩:=h;cases h')
theorem G6 {H:Hp}{d e:Dt}{v:V}{u:Value} (r:av v u) (i:aF H e v):fk H d u=decide (e=d):=by
 unfold fk;rw[abd];simp only[decide_eq_true_eq];constructor
 ·rintro⟨v',r',i'⟩;rw[G5 r' r]at i';exact i.inj i'
 ·rintro rfl;exact⟨v,r,i⟩
theorem qT {P:Program}{w:World}{H:Hp}{s:Shared}{A:Around}{d:Dt}{x:V}{v:Value}{n:Nat} (ok:aQ P w H s.heap) (hu:A.units+n<cLine) (rx:av x v) (ix:aF H d x) :
  ∀{ds:List Dt}{xs:List V}{us:List Value},aV ds<=n->aX H ds xs->aq xs us->(∀u∈us,SeqAt.EqAt A s u v (fk H d u))/\us.map (fk H d)=ds.map λe=>decide (e=d)
 |[],xs,us,hd,hi,r=>by
  rw[aX]at hi;subst hi;cases r;exact⟨λu hu=>(nomatch hu),rfl⟩
 |e::ds,xs,us,hd,hi,r=>by
  rw[aX]at hi;obtain⟨y,ys,rfl,h1,h2⟩:=hi;cases r with
  |cons r1 r2=>
   rw[aV]at hd;obtain⟨m1,m2⟩:=qT ok hu rx ix (by lia) h2 r2;have e1:=G6 (d:=d) r1 h1;refine⟨λu qU=>?_,by rw[aaR,aaR,e1,m2]⟩;rcases List.mem_cons.mp qU with rfl |qU
   ·rw[e1];exact qQ n A s e d y x _ v ok (by lia) hu h1 ix r1 rx
   ·exact m1 u qU
theorem xa {α:Type} {us:List α}{f:α->Bool}{ds:List Dt}{d:Dt} (h:us.map f=ds.map λe=>decide (e=d)):us.any f=decide (d∈ds):=by
 have e1:us.any f=(us.map f).any id:=by simp
 have e2:(ds.map λe=>decide (e=d)).any id=decide (d∈ds):=by
  rw[abd];simp
 rw[e1,h,e2]
def qV (K:PySem.W.Frag) (neg:Bool):R2:=λx y H Q=>∃p xs d ds,y=.ref p/\aT K H p xs/\aF H d x/\aX H ds xs/\aV ds<=bF/\Q (.bl (if neg then !decide (d∈ds) else decide (d∈ds))) H
theorem G7 (hu:X.A.units+110<cLine):aA X (compareOp .NotIn) (qV X.K true):=by
 intro pins s σ H x y v u Q I rx ry h;obtain⟨p,xs,d,ds,rfl,hq,ix,is,hd,q⟩:=h;cases ry;obtain⟨its,r,pl,hz⟩:=I.list hq;obtain⟨m1,m2⟩:=qT (A:=X.A.in1) I.ae (by show X.A.units+1+bF<cLine;unfold bF;lia) rx ix hd is r;refine SeqAt.notIn_listAt (fk H d) pl.isList (λw hw=>m1 w (by simpa using hw)) ⟨.bl _,H,I,rfl,?_⟩;rw[show its.toArray.any (fk H d)=its.any (fk H d) by simp,xa m2];exact q
theorem G8 (hu:X.A.units+110<cLine):aA X (compareOp .In) (qV X.K false):=by
 intro pins s σ H x y v u Q I rx ry h;obtain⟨p,xs,d,ds,rfl,hq,ix,is,hd,q⟩:=h;cases ry;obtain⟨its,r,pl,hz⟩:=I.list hq;obtain⟨m1,m2⟩:=qT (A:=X.A.in1) I.ae (by show X.A.units+1+bF<cLine;unfold bF;lia) rx ix hd is r;refine SeqAt.in_listAt (fk H d) pl.isList (λw hw=>m1 w (by simpa using hw)) ⟨.bl _,H,I,rfl,?_⟩;rw[show its.toArray.any (fk H d)=its.any (fk H d) by simp,xa m2];exact q
end
end L2
end
section
namespace L2
open PySem PySem.Spec PyProof.Rows
open Kn (KE)
section
open PySem.SeqAt
open PySem.AutoSeq1 (wpAny_loadPart')
open PySem.MeetsSeq PySem.MeetsSeq2 PySem.MeetsSeq3
end
section
variable {X:Cx}
theorem nA:∀{us:List Value}{ys:List Str},StrsAre us ys->aq (ys.map V.str) us
 |_,_,.nil=>.nil
 |_,_,.cons x t r=>.cons ⟨t,rfl⟩ (nA r)
def xb (K:PySem.W.Frag):R2:=λx y H Q=>∃a b xs ys,x=.ref a/\y=.ref b/\H a=some (.tup xs)/\H b=some (.tup ys)/\xs.length+ys.length<=sizeLine /\
 ∀p H',(∀c o,H c=some o->H' c=some o)->H' p=some (.tup (xs++ys))->Q (.ref p) H'
theorem G9:aA X (binaryOp .Add) (xb X.K):=by
 intro pins s σ H x y v u Q I rx ry h;obtain⟨a,b,xs,ys,rfl,rfl,wS,k9,hz,q⟩:=h;have ha:aI X.K H a xs:=aI.of wS;have hb:aI X.K H b ys:=aI.of k9;by_cases hx:xs=[]
 ·subst hx;cases rx;cases ry;obtain⟨its,r1,p1,_⟩:=I.tuple ha;obtain⟨aU,r2,p2,_⟩:=I.tuple hb;cases r1;obtain⟨⟨cls,dd,data,sl⟩,ho,hc,n,hd⟩:=id p1;obtain⟨⟨wv,iD,ww,kW⟩,dZ,fY,n2,gH⟩:=id p2;simp only at hc hd fY gH;subst hc hd fY gH;exact concat_meets ⟨_,ho,rfl⟩ ⟨_,dZ,rfl⟩ noFill_tuple_add seq_tuple_add PySem.F.slot_tuple_add PySem.F.entry_tuple_add (PySem.F.args_tuple_add_2 _ _)
   (tuple_addW0 a b _ aU.toArray n n2 dd iD sl kW (by simp)) ⟨ho,dZ,⟨.ref b,H,I,rfl,q b H (λ_ _ z=>z) k9⟩⟩
 ·exact F' pins s σ H _ _ v u Q I rx ry ⟨a,b,xs,ys,rfl,rfl,ha,hb,hx,hz,λe=>q a H (λ_ _ z=>z) (by subst e;rw[aa4];exact wS),λe p hp=>q p _ (λc o z=>by rw[aD (bB z hp)];exact z) b7⟩
end
end L2
end
section
namespace L2
open PySem PySem.Spec PyProof.Rows
open PySem.W (kdu_collect kdl_dict)
theorem xc:∀{kvs:List (Key×V)}{vs:List (Key×Value)}{i:Nat}{p:Key×V},KV kvs vs->kvs[i]?=some p->∃q,vs[i]?=some q/\p.1=q.1
 |_,_,_,_,.nil,e=>by simp at e
 |_,_,0,_,.cons r _,e=>by simp at e;subst e;exact⟨_,rfl,r.1⟩
 |_,_,i+1,p,.cons _ t,e=>by
  obtain⟨q,h1,h2⟩:=xc (i:=i) (p:=p) t (by simpa using e);exact⟨q,by simpa using h1,h2⟩
section
variable {X:Cx}
def Ha:List V->Hp->VK->Prop:=λxs H Q=>∃a kvs,xs=[.ref a]/\H a=some (.dK kvs)/\(∀kv∈kvs,∃s,kv.1=abL s)/\kvs.length<64 /\
 ∀(p:Addr) (ys:List Str),H p=none->(ys.map (abL:Str->Key)).Perm (kvs.map (·.1))->sortedS ys=true->Q (.ref p) (ag H p (.lst (ys.map V.str)))
theorem xf (hc:X.calm=true):bp X (.builtin "sorted") Ha:=by
 intro pins s σ H xs us Q I r h;obtain⟨a,kvs,rfl,ha,hk,wT,q⟩:=h;obtain⟨u,rfl,ru⟩:=r.one;cases ru;have hh:=I.ok.hd hc;obtain⟨z,hd,vs,rel,dd⟩:=nt I.ae ha;obtain⟨ep,Hb⟩:=dd.dictAt;have hlen:kvs.length=vs.length:=rel.length;refine Calls.call_function_entry kind_sorted plain_sorted entry_sorted (args_sorted1 _) ?_;unfold Builtin.«sorted»;refine aaC (m:=checkCount "sorted" 1 1 _) (aaE ?_);refine aaC (kdu_collect (A:=X.A.in1) (kdl_dict (knd:=b6 X.prog X.w) (kvs:=vs) (ep:=ep) hd) hh Hb (by rw[<- hlen];exact z) λh' tk am keep items=>?_);have hl:am.toList.length=vs.length:=by rw[aaT];exact items.1
 refine aaC (wpAny_newList ?_ (by rw[hl,<- hlen];exact z))
 -- dE c5 as Wz
 have Hc:∃ss:List Str,StrsAre am.toList ss/\ss.map (abL:Str->Key)=kvs.map (·.1):=by
  have key:∀(n:Nat),n<=vs.length->∃ss:List Str,StrsAre (am.toList.drop (vs.length-n)) ss/\ss.map (abL:Str->Key)=(kvs.map (·.1)).drop (vs.length-n):=by
   intro n
   induction n with
   |zero=>intro _;exact⟨[],by rw[List.drop_of_length_le (by lia)];exact .nil,by rw[List.drop_of_length_le (by rw[aaN];lia)];rfl⟩
   |succ n ih=>
    intro hn;obtain⟨ss,h1,h2⟩:=ih (by lia);have e:vs.length-n=(vs.length-(n+1))+1:=(by lia);have hj:vs.length-(n+1)<am.toList.length:=(by lia);have iH:vs.length-(n+1)<kvs.length:=(by lia);obtain⟨k,x,hx,He⟩:=items.2 (vs.length-(n+1)) (am.toList[vs.length-(n+1)]) (by rw[<- abP,aaI hj]);have Xn:kvs[vs.length-(n+1)].1=k:=by
     obtain⟨b,hb,hr⟩:=xc rel (aaI iH);rw[hx]at hb;cases hb;exact hr
    obtain⟨sx,hs⟩:=hk _ (acr iH);rw[Xn]at hs;subst hs;obtain⟨t,YS⟩:∃t,am.toList[vs.length-(n+1)]=Value.str sx t:=by
     rcases eY (show hY (abL sx) _=true from He) with ⟨i,t,e1,_⟩ |⟨y,t,e1,e2⟩
     ·cases e1
     ·cases e1;exact⟨t,e2⟩
    refine⟨sx::ss,?_,?_⟩
    ·rw[aco hj,YS,<- e];exact .cons sx t h1
    ·rw[aaR,h2,aco (i:=vs.length-(n+1)) (by rw[aaN];exact iH),List.getElem_map,Xn,e]
  obtain⟨ss,h1,h2⟩:=key vs.length (aaH _);rw[Nat.sub_self,List.drop_zero]at h1;rw[Nat.sub_self,List.drop_zero]at h2;exact⟨ss,h1,h2⟩
 obtain⟨ss,hS,xg⟩:=Hc;have fT:(h'.push { cls:=.type "list",data:=.seq am.toList.toArray }).get? h'.objs.size=some (seqObj "list" am.toList.toArray 0):=aaG _ rfl;refine aaC (abr (abg slot_list_sort ⟨_,fT,rfl⟩ entry_list_sort (list_sort_treeK strKind_oneLt fT hS.keysOf (λv₁ v₂ rest e=>keyKind_strs (by rw[<- e];exact hS)) (by rw[hl,<- hlen];exact wT) λce a1 a2=>⟨_,rfl,?_⟩) (args_list_sort _)));obtain⟨ys,b1,b2,Xk⟩:=sorted_out_str hS a1 a2;refine aaE ⟨_,rfl,?_⟩;have I1:ab X pins σ H { s with heap:=h',toks:=tk }:=I.bD keep;obtain⟨e,qW⟩:=sortedHeap_at (out:=(arrOf ce).map (·.2)) fT;have hz:(ys.map V.str).length<=sizeLine:=by
  rw[aaN,b2.length_eq,<- aaN (f:=(abL:Str->Key)),xg,aaN];exact z
 refine⟨.ref h'.objs.size,ag H h'.objs.size (.lst (ys.map V.str)),?_,rfl,q _ ys (I1.ae.fresh (aaH _)) ?_ Xk⟩
 ·refine I1.laid (t':=tk) (λb o hb=>?_) (aaH _) ⟨hz,_,e,nA b1,?_⟩
  ·have bV:b<h'.objs.size:=aaJ hb;rw[sortedHeap_old (aaL bV) (by rw[aba];exact aa' bV)];exact aaD _ hb
  ·rw[qW]
 ·rw[<- xg];exact b2.map _
end
section
variable {X:Cx}
theorem Hf:aA X (binaryOp .Add) (λx y H Q=>ez (λi j=>.int (i+j)) x y H Q\/((∃i j,x=.str i/\y=.str j/\i.length+j.length<=sizeLine/\Q (.str (i++j)) H)\/(w7 x y H Q\/xb X.K x y H Q))):=Ep.or (EO.or (GD.or G9))
theorem Hg (hu:X.A.units+110<cLine):aA X (compareOp .Eq) (λx y H Q=>ql x y H Q\/qS x y H Q):=kH.or (G3 hu)
def qX:R2:=λx y H Q=>∃a b xs,x=.ref a/\y=.ref b/\H a=some (.lst xs)/\H b=some (.lst [])/\Q (.bl (decide (xs≠[]))) H
theorem Hh (hu:X.A.units<cLine):aA X (compareOp .NotEq) qX:=by
 intro pins s σ H x y v u Q I rx ry h;obtain⟨a,b,xs,rfl,rfl,ha,hb,q⟩:=h;cases rx;cases ry;obtain⟨its,r,p,_⟩:=I.list (aT.of ha);obtain⟨aU,r2,p2,_⟩:=I.list (aT.of hb);cases r2;by_cases hx:xs=[]
 ·subst hx;cases r;refine SeqAt.RcNeAt.lists (A:=X.A) (e:=λ_=>true) p.isList p2.isList rfl hu (λj h1=>by simp at h1) _ _ _ _ ⟨.bl false,H,I,rfl,?_⟩;simpa using q
 ·refine SeqAt.RcNeAt.lists_lengths (A:=X.A) p.isList p2.isList ?_ hu _ _ _ _ ⟨.bl true,H,I,rfl,?_⟩
  ·have:=r.length;have h0:its≠[]:=λz=>hx (by subst z;cases xs with |nil=>rfl |cons _ _=>simp at this);cases its with
   |nil=>exact absurd rfl h0
   |cons _ _=>simp
  ·rw[decide_eq_true hx]at q;exact q
theorem Hi (hu:X.A.units+110<cLine):aA X (compareOp .NotEq) (λx y H Q=>qm x y H Q\/((∃ds es,aF H (.tup ds) x/\aF H (.tup es) y/\aV ds<=bF/\Q (.bl (!decide (ds=es))) H)\/qX x y H Q)):=EB.or ((G4 hu).or (Hh (by lia)))
theorem Hj:bp X (.builtin "len") (λxs H Q=>(∃p ys,xs=[.ref p]/\(aT X.K H p ys\/aI X.K H p ys)/\Q (.int ys.length) H)\/∃z,xs=[.str z]/\z.length<=sizeLine/\Q (.int z.length) H):=Gp.or Gq
def xh:R2:=λx y H Q=>∃a v,x=.ref a/\fg H a y (some v)/\Q v H
theorem Hl (hu:X.A.units+1<cLine):dA X xh:=by
 intro value slice pins s σ H x y v u Q I rx ry h hs;obtain⟨a,w,rfl,g,q⟩:=h;cases rx;exact tail_any (ops:=[.ref a,u]) (FD I g) PySem.F.slot_dict_getitem.lookup (Fx hu I g ry λw' s3 I3 co=>⟨w,H,I3,co,q⟩) hs
theorem Hm (hu:X.A.units+1<cLine):dA X (λx y H Q=>wV X.K x y H Q\/(wW X.K x y H Q\/(wX x y H Q\/xh x y H Q))):=Ga.or (Gb.or (Gd.or (Hl hu)))
def qY:kA:=λo i v H Q=>∃a H',o=.ref a/\wF H a i v H'/\Q H'
theorem Ho (hu:X.A.units+1<cLine):gC X qY:=by
 intro pins s σ H o i v ov iv u Q I ro ri rv h;obtain⟨a,H',rfl,g,q⟩:=h;cases ro;exact FA hu I g ri rv λs4 I4=>⟨H',I4,q⟩
theorem gC.or {r r':kA} (h:gC X r) (h':gC X r'):gC X (λo i v H Q=>r o i v H Q\/r' o i v H Q):=by
 intro pins s σ H o i v ov iv u Q I ro ri rv q;rcases q with q |q
 ·exact h pins s σ H o i v ov iv u Q I ro ri rv q
 ·exact h' pins s σ H o i v ov iv u Q I ro ri rv q
theorem Hr (hu:X.A.units+1<cLine):gC X (λo i v H Q=>qE o i v H Q\/qY o i v H Q):=Gg.or (Ho hu)
end
end L2
end
section
namespace L2
open PySem PySem.Spec PyProof.Rows
structure ZC where
 cl:List (Str×Addr)
 C:Addr
 fp:List Addr
 s:Shared
 H:Hp
noncomputable def cn (X:Cx) (scope:Scope) (N':List Str) (z:ZC):Cx where
 prog:=X.prog
 w:=X.w
 K:=X.K
 mg:=X.mg
 base:=X.base
 A:=X.A
 N:=N'
 s₀:=z.s
 H₀:=z.H
 env:=compEnvC scope z.cl z.C X.env
 outer:=X.stack
 stack:=X.stack
 ex:=z.fp
 fn:=λ_=>false
 calm:=X.calm
 pn:=[]
 xe:=λ_ _=>False
theorem qZ {env:Env}:∀ (names:List (Str×NameKind)) (am:List (Str×Addr)),(∀ y∈names,y.2=.free->∃ c,env.cells.lookup y.1=some c) ->
  (∀x c,am.lookup x=some c->env.cells.lookup x=some c) ->
  ∃cl,(forIn names am (λy cs=>if (y.2 == abX)=true then (cellOf env y.1 >>= λc=>pure (acu ((y.1,c)::cs))) else pure (acu cs)):Sem (List (Str×Addr)))=pure cl /\
   (∀x c,cl.lookup x=some c->env.cells.lookup x=some c)/\(∀y∈names,y.2=.free->∃c,cl.lookup y.1=some c)/\∀x c,am.lookup x=some c->∃c',cl.lookup x=some c'
 |[],am,_,ha=>⟨am,rfl,ha,λy hy=>(nomatch hy),λx c h=>⟨c,h⟩⟩
 |(n,k)::r,am,h,ha=>by
  by_cases hk:k=.free
  ·subst hk;obtain⟨c,hc⟩:=h (n,.free) aaO rfl;have Ht:∀ x c',((n,c)::am).lookup x=some c'->env.cells.lookup x=some c':=λx c' q=>by
    rw[abb]at q;cases e:x == n with
    |true=>
     rw[e]at q;cases q;rw[eq_of_beq e];exact hc
    |false=>
     rw[e]at q;exact ha x c' q
   obtain⟨cl,e1,e2,e3,e4⟩:=qZ r ((n,c)::am) (λy hy=>h y (aaK _ hy)) Ht;refine⟨cl,?_,e2,λy hy hf=>?_,λx c' q=>?_⟩
   ·rw[List.forIn_cons];have XU:cellOf env n=pure c:=(by unfold cellOf;rw[hc]);simp only[beq_self_eq_true,if_true,XU,pure_bind];exact e1
   ·rcases List.mem_cons.mp hy with rfl |hy
    ·exact e4 n c (by simp)
    ·exact e3 y hy hf
   ·cases e:x == n with
    |true=>exact e4 x c (by rw[abb,e])
    |false=>exact e4 x c' (by rw[abb,e];exact q)
  ·obtain⟨cl,e1,e2,e3,e4⟩:=qZ r am (λy hy=>h y (aaK _ hy)) ha;refine⟨cl,?_,e2,λy hy hf=>?_,e4⟩
   ·rw[List.forIn_cons];have hb:(k == abX)=false:=(by simpa using hk);simp only[hb,Bool.false_eq_true,if_false,pure_bind];exact e1
   ·rcases List.mem_cons.mp hy with rfl |hy
    ·exact absurd hf hk
    ·exact e3 y hy hf
theorem xi {scope:Scope}{env:Env} (h:∀ y∈scope.names,y.2=.free->∃ c,env.cells.lookup y.1=some c) :
  ∃cl,closureFor scope env=pure cl/\(∀x c,cl.lookup x=some c->env.cells.lookup x=some c)/\∀y∈scope.names,y.2=.free->∃c,cl.lookup y.1=some c:=by
 obtain⟨cl,e1,e2,e3,_⟩:=qZ (env:=env) scope.names [] h (λx c q=>by simp at q);refine⟨cl,?_,e2,e3⟩;unfold closureFor
 first
  |exact e1
  |(simp only[bind_pure_comp,map_pure,bind_pure]at e1 ⊢;exact e1)
  |(rw[show (forIn scope.names [] _:Sem (List (Str×Addr)))=pure cl from e1];rfl)
theorem xj {env:Env}:∀ {names:List (Str×NameKind)}{x:Str},names.lookup x=some .free ->
  let l:=(names.map λ(n,k)=>if (k == abX && env.scope.kind == .function && env.kindOf n == some .cell) then (n,NameKind.cell) else (n,k)).lookup x
  l=some .cell\/l=some .free
 |[],_,h=>by simp at h
 |(n,k)::r,x,h=>by
  have ih:=@xj env r x;simp only at ih ⊢;rw[aaR];cases hx:x == n with
  |true=>
   rw[abb,hx]at h;cases h;by_cases hc:(abX == abX && env.scope.kind == .function && env.kindOf n == some .cell)=true
   ·left;simp only[hc,if_true,abb,hx]
   ·right;simp only[if_neg hc,abb,hx]
  |false=>
   rw[abb,hx]at h;by_cases hc:(k == abX && env.scope.kind == .function && env.kindOf n == some .cell)=true
   ·simp only[if_pos hc,abb,hx];exact ih h
   ·simp only[if_neg hc,abb,hx];exact ih h
theorem q0 {env:Env}:∀ {names:List (Str×NameKind)}{x:Str}{k':NameKind},(∀ y∈names,y.2≠.cell)->(k'=.cell\/k'=.free) ->
  (names.map λ(n,k)=>if (k == abX && env.scope.kind == .function && env.kindOf n == some .cell) then (n,NameKind.cell) else (n,k)).lookup x=some k'->(x,abX)∈names
 |[],_,_,_,_,h=>by simp at h
 |(n,k)::r,x,k',hn,hk,h=>by
  rw[aaR]at h;cases hx:x == n with
  |true=>
   have e:x=n:=eq_of_beq hx;subst e;by_cases hc:(k == abX && env.scope.kind == .function && env.kindOf x == some .cell)=true
   ·have hf:k=.free:=by
     simp only[aaW,beq_iff_eq]at hc;exact hc.1.1
    subst hf;exact aaO
   ·simp only[if_neg hc,abb,hx]at h;have e2:k=k':=abe h;subst e2;rcases hk with rfl |rfl
    ·exact absurd rfl (hn _ aaO)
    ·exact aaO
  |false=>
   have ih:=@q0 env r x k' (λy hy=>hn y (aaK _ hy)) hk;by_cases hc:(k == abX && env.scope.kind == .function && env.kindOf n == some .cell)=true
   ·simp only[if_pos hc,abb,hx]at h;exact aaK _ (ih h)
   ·simp only[if_neg hc,abb,hx]at h;exact aaK _ (ih h)
theorem Hu {prog:Program}{w:World}{A:Around}{s:Shared}{cP tg iter:Expr}{ifs:List Expr}{scope:Scope}{pos:Pos}{it am:Value}{env:Env}{P:Shared->Prop}{R:Result->Shared->Prop}
  (hR:∀s',P s'->R (.ok .next) s') (J:Nat->Shared->Prop)
  (cu:∀n s,J n s->wpAny (model prog w) A (pyNext it) (λr s1=>match r with
   |none=>P s1
   | some v=>wpAny (model prog w) A (letOwnedTupleGo tg it v) (λ_ s2=>wpAny (model prog w) A (assign tg env v) (λ_ s3=>
     wpAny (model prog w) A (forIn ifs true λc r=>if r=true then do let ok <- isTrue c env (eval c env);pure (acu ok) else pure (acu r)) (λok s4=>
      if ok=true then wpAny (model prog w) A (eval cP env) (λx s5=>
       wpAny (model prog w) A (call (.builtin "list.append") [am,x]) (λ_ s6=>∃m,m<n/\J m s6) (λ_ _=>False) s5) (λ_ _=>False) s4
      else ∃m,m<n/\J m s4) (λ_ _=>False) s3) (λ_ _=>False) s2) (λ_ _=>False) s1) (λ_ _=>False) s)
  (n:Nat) (h:J n s):codeAny (model prog w) A (.compLoop (.ListComp cP [⟨tg,iter,ifs,0⟩] scope pos) 0 it am env) R s:=by
 refine codeAny_loop rfl J (λn s hJ=>?_) n h;show wpAny _ A ((compTurn (.ListComp cP [⟨tg,iter,ifs,0⟩] scope pos) 0 it am env).onRaise (λx=>do noteFrame x env;theTreesLotGoes x)) _ _ s
 refine wpAny_noted (wpAny_mono (E:=λ_ _=>False) ?_ (λ_ _ q=>q) λ_ _ q=>q.elim);rw[compTurn_list];refine aaC (wpAny_standAt (aaC (ar (cu n s hJ) λr s1 h1=>?_)));cases r with
 |none=>exact aaE (hR _ h1)
 |some v=>
  refine aaC (ar h1 λ_ s2 h2=>aaC (ar h2 λ_ s3 h3=>aaC (ar h3 λok s4 h4=>?_)));cases ok with
  |false=>exact aaE ⟨rfl,h4⟩
  |true=>exact aaC (aaC (ar h4 λx s5 h5=>aaC (ar h5 λ_ s6 h6=>aaE (aaE ⟨rfl,h6⟩))))
def fm (X:Cx) (ifs:List Expr) (t:TT):Prop:=
 ∀(pins:List (Addr×Obj)) (s:Shared) (σ:St) (H:Hp) (Q:Bool->Hp->Prop),ab X pins σ H s->t σ H Q ->
  wpAny (model X.prog X.w) X.A (forIn ifs true λc r=>if r=true then do let ok <- isTrue c X.env (eval c X.env);pure (acu ok) else pure (acu r)) (TP X pins σ Q) X.xe s
def Hv:TT:=λ_ H Q=>Q true H
theorem Hw {X:Cx}:fm X [] Hv:=λpins s σ H Q I h=>wpAny_tests_nil ⟨H,I,h⟩
theorem Hx {X:Cx}{c:Expr}{t:TT} (h:PT X c t):fm X [c] t:=λpins s σ H Q I q=>wpAny_tests_one (h pins s σ H Q I q)
noncomputable def d0 (k:Nat) (fr:List (Str×Nat)) (σ:St):St:=aa5 k none++fr.map λp=>(σ[p.2]?).join
def lg (k:Nat) (g:TG):Prop:=∀x σ H Q,g x σ H Q->g x σ H fun σ2 H2=>Q σ2 H2/\σ2.length=σ.length/\σ2.drop k=σ.drop k
theorem Hy {i k:Nat} (h:i<k):lg k (kB i):=λx σ H Q q=>⟨q,by simp,by rw[List.drop_set_of_lt h]⟩
def nB (J:It) (k:Nat) (fr:List (Str×Nat)) (g:ZC->TG) (tc:ZC->TT) (te:ZC->TE) (σ:St) (W:Nat->Nat->List V->Hp->Prop) (fin:List V->Hp->Prop):Prop:=
 ∀i m ys H,W i m ys H->ys.length<sizeLine/\((J.stop i H/\fin ys H)\/(J.go i H/\∀(z:ZC) x H1,J.mV i H x H1->g z x (d0 k fr σ) H1 fun σ2 H2=>tc z σ2 H2 λb H3=>
  if b=true then te z σ2 H3 λy H4=>∃m',m'<m/\W (i+1) m' (ys++[y]) H4 else ∃m',m'<m/\W (i+1) m' ys H3))
def Hz (wi:TI) (k:Nat) (fr:List (Str×Nat)) (g:ZC->TG) (tc:ZC->TT) (te:ZC->TE):TE:=fun σ H Q=>wi σ H λJ H1=>
 ∃W:Nat->Nat->List V->Hp->Prop,(∃m,W 0 m [] H1)/\nB J k fr g tc te σ W λys H2=>∀p,H2 p=none->Q (.ref p) (ag H2 p (.lst ys))
section
variable {X:Cx}{tg cP iter:Expr}{ifs:List Expr}{scope:Scope}{pos:Pos}{k:Nat}{Nt:List Str}{fr:List (Str×Nat)}{g:ZC->TG}{tc:ZC->TT}{te:ZC->TE}
structure fo (X:Cx) (scope:Scope) (Nt:List Str) (fr:List (Str×Nat)):Prop where
 kind:scope.kind=.function
 cell:∀y∈scope.names,y.2≠.cell
 names:∀y∈scope.names,y.2=.local->scope.names.lookup y.1=some .local
 free:∀y∈scope.names,y.2=.free->X.env.kindOf y.1=some .cell
 fr:∀p∈fr,X.N[p.2]?=some p.1/\scope.names.lookup p.1=some .free
theorem HA {pins:List (Addr×Obj)} {σ:St} {H:Hp}{s2:Shared}{cl:List (Str×Addr)}{fp:List Addr}{h1:Heap}{t1:Nat}{C D:Addr}{m:Str->Option Value} (L:fo X scope Nt fr) (I:ab X pins σ H s2)
  (cb:∀x c,cl.lookup x=some c->X.env.cells.lookup x=some c) (lh:∀y∈scope.names,y.2=.free->∃c,cl.lookup y.1=some c) (hf:∀b∈fp,ew X pins H b) (bV:∀b∈fp,b<s2.heap.objs.size)
  (hC:s2.heap.objs.size<=C) (hD:s2.heap.objs.size<=D) (HB:D≠C) (bv:∀b o,s2.heap.get? b=some o->h1.get? b=some o) (hn:h1.Ns C m) (ho:h1.get? D=some { cls:=.type "list",data:=.seq #[] 0 }) :
  ab (cn X scope (Nt++fr.map (·.1)) ⟨cl,C,fp,s2,H⟩) [(D,{ cls:=.type "list",data:=.seq #[] 0 })] (d0 Nt.length fr σ) H { s2 with heap:=h1,toks:=t1 }:=by
 have HC:∀b∈dc X.stack,b<s2.heap.objs.size:=λb hb=>by
  rcases List.mem_cons.mp (I.jo b hb) with e |e
  ·rw[e];exact I.lt
  ·exact Nat.lt_of_not_le λz=>I.mR z e
 have WA:∀x c,cl.lookup x=some c->c<s2.heap.objs.size:=λx c e=>by
  obtain⟨v,q⟩:=I.cell x c (cb x c e);exact q.lt
 refine⟨⟨I.b8,L.kind,I.ok.eZ,I.ok.jm,hC,λx y c e1 e2=>I.ok.inj x y c (cb _ _ e1) (cb _ _ e2),λx hx=>?_,λx c HD _=>(nomatch HD),I.ok.hd,I.ok.frames,.inl rfl,λb hb=>⟨aaL (aaM (bV b hb) hC),λx c e=>(hf b hb).2.2.2.2.1 x c (cb x c e)⟩,
   I.bs,aaZ I.ok.e6 I.sz,λb o e hb=>?_,λb hb z=>?_,I.stack,I.vi⟩,
  rfl,I.bT,Un.bD bv,⟨m,hn,λi x v nw h2 h3=>?_⟩,λx c e=>?_,I.ae.fresh hC,λx c e=>I.dV x c (cb x c e),λp hp=>?_,I.ae.bD bv,?_⟩
 ·have cr:((relabel scope X.env).names.lookup x=some .cell\/(relabel scope X.env).names.lookup x=some .free):=hx;rcases cr with q |q
  ·exact lh _ (q0 L.cell (.inl rfl) q) rfl
  ·exact lh _ (q0 L.cell (.inr rfl) q) rfl
 ·rcases (hf b hb).2.2.2.1 with q |q
  ·exact I.ok.ku b o e q
  ·exact absurd (aaM (aaJ e) (aaZ I.ok.e6 q)) (abT _)
 ·rcases List.mem_cons.mp (I.jo b z) with e |e
  ·exact (hf b hb).2.1 e
  ·exact (hf b hb).2.2.1 e
 ·have q8:(Nt++fr.map (·.1))[i]?=some x:=nw;have hi:¬i<Nt.length:=λhi=>by
   unfold d0 at h2;rw[abt (by simpa using hi),ab7]at h2;split at h2 <;> cases h2
  unfold d0 at h2;rw[abc (by simpa using hi),ab1,aaU]at h2;rw[abc (by lia),aaU]at q8;cases e:fr[i-Nt.length]? with
  |none=>rw[e]at h2;cases h2
  |some p=>
   rw[e]at h2 q8;have ex:p.1=x:=abe q8;have Xz:(σ[p.2]?).join=some v:=abe h2;obtain⟨hN,hfr⟩:=L.fr p (abE e);have es:σ[p.2]?=some (some v):=by
    cases q:σ[p.2]? with
    |none=>rw[q]at Xz;cases Xz
    |some o=>rw[q]at Xz;exact congrArg some Xz
   have hkc:=L.free (p.1,.free) (PySem.mem_of_lookup hfr) rfl;obtain⟨aal,WB,HE⟩:=I.bL;obtain⟨u,ru,lk⟩:=HE p.2 p.1 v hN es (.inr (.inl hkc));refine⟨u,ru,?_⟩;rcases lk with ⟨kk,_⟩ |⟨_,c,hc,jp⟩
   ·rw[hkc]at kk;cases kk
   ·obtain⟨c',cN⟩:=lh _ (PySem.mem_of_lookup hfr) rfl;have hcc:=cb _ _ cN;rw[hc]at hcc;cases hcc;subst ex;refine .inr ⟨?_,c,cN,?_⟩
    ·exact xj hfr
    ·obtain⟨o,q1,q2⟩:=jp;exact⟨o,bv _ _ q1,q2⟩
 ·obtain⟨v,q⟩:=I.cell x c (cb x c e);obtain⟨o,q1,q2⟩:=q;exact⟨v,o,bv _ _ q1,q2⟩
 ·have bg:p∈([(D,({ cls:=.type "list",data:=.seq #[] 0 }:Obj))]:List (Addr×Obj)):=hp;rw[List.mem_singleton]at bg;subst bg;exact⟨ho,I.ae.fresh hD,HB,λz=>absurd (aaM (HC _ z) hD) (abT _),λv z=>by cases z⟩
 ·unfold d0;show _=(Nt++fr.map (·.1)).length;simp
structure q9 (X:Cx) (fp:List Addr) (H1:Hp) (s2:Shared) (fin:List V->Hp->Prop) (D C:Addr) (s':Shared) (ys:List V) (its:List Value) (n:Nat) (H':Hp) (m':Str->Option Value):Prop where
 ns:s'.heap.Ns C m'
 XH:H' C=none
 fd:H' D=none
 gc:s2.heap.objs.size<=C
 gd:s2.heap.objs.size<=D
 cd:D≠C
 un:Un (dc X.stack) fp H1 H' s2.heap s'.heap
 ok:aQ X.prog X.w H' s'.heap
 os:s'.os=s2.os
 bT:AllBare s'.gens
 obj:s'.heap.get? D=some { cls:=.type "list",data:=.seq its.toArray n }
 f9:aq ys its
 size:ys.length<=sizeLine
 fin:fin ys H'
theorem xk {pins:List (Addr×Obj)} {σ:St} {fp:List Addr}{H1 H':Hp}{s2 s':Shared}{fin:List V->Hp->Prop}{D C:Addr}{ys:List V}{its:List Value}{n:Nat}{m':Str->Option Value}{h':Heap}
  (I:ab X pins σ H1 s2) (hf:∀b∈fp,ew X pins H1 b) (e:q9 X fp H1 s2 fin D C s' ys its n H' m') (sb:ab2 C s'.heap h'):ab X pins σ (ag H' D (.lst ys)) { s' with heap:=h' }:=by
 have bv:∀b o,s2.heap.get? b=some o->b≠C/\b≠D:=λb o q=>⟨aaL (aaM (aaJ q) e.gc),aaL (aaM (aaJ q) e.gd)⟩;have jt:∀b,b≠C->h'.get? b=s'.heap.get? b:=λb hb=>sb.2 b hb;refine I.Dl (s':={ s' with heap:=h' }) (ch:=fp) e.os ?_ ?_ e.bT λb hb=>⟨(hf b hb).2.2.2.1,(hf b hb).2.1,(hf b hb).2.2.2.2.1,(hf b hb).2.2.2.2.2⟩
 ·have u:=e.un;refine⟨λb o q n hb hx=>?_,λb o q n hb hx=>?_,λb o q n hx=>?_,λb o q hx=>?_,λb xs q=>?_,λb o v q=>?_,λb ps q=>?_,λb xs o q z=>(jt b (bv b o z).1).trans (u.et b xs o q z)⟩
  ·exact (jt b (bv b o q).1).trans (u.keep b o q n hb hx)
  ·obtain⟨sl,z⟩:=u.slot b o q n hb hx;exact⟨sl,(jt b (bv b o q).1).trans z⟩
  ·rw[aD (bv b o q).2];exact u.free b o q n hx
  ·obtain⟨o',z⟩:=u.there b o q hx;exact⟨o',(jt b (bv b o q).1).trans z⟩
  ·have z:=u.tups b xs q;rw[aD (bB z e.fd)];exact z
  ·have z:=u.eo b o v q;rw[aD (bB z e.fd)];exact z
  ·obtain⟨more,z⟩:=u.er b ps q;refine⟨more,?_⟩;rw[aD (bB z e.fd)];exact z
 ·intro b o q;by_cases hb:b=D
  ·subst hb;rw[b7]at q;cases q;exact⟨e.size,its,n,e.f9,(jt _ e.cd).trans e.obj⟩
  ·rw[aD hb]at q;refine (e.ok b o q).el (λc v hc z=>?_) (λc z=>?_) λc xs z=>?_
   ·have HF:c≠C:=by
     rcases hc with rfl |hc
     ·exact bB q e.XH
     ·exact bB hc e.XH
    exact (jt c HF).trans z
   ·rw[aD (bB z e.fd)];exact z
   ·rw[aD (bB z e.fd)];exact z
theorem xl {pins:List (Addr×Obj)} {σ:St} {H1:Hp}{s2:Shared}{cl:List (Str×Addr)}{fp:List Addr}{it:Addr}{tn:Nat->Heap->Prop}{J:It}{W:Nat->Nat->List V->Hp->Prop}{fin:List V->Hp->Prop}{E:Value->Shared->Prop}{RR:Value->Addr->Result->Shared->Prop}{m0:Nat}
  (L:fo X scope Nt fr) (f8:X.calm=true) (I:ab X pins σ H1 s2) (cb:∀x c,cl.lookup x=some c->X.env.cells.lookup x=some c) (lh:∀y∈scope.names,y.2=.free->∃c,cl.lookup y.1=some c)
  (T:gD X.prog X.w X.K tg J fp it tn) (xm:tn 0 s2.heap) (hf:∀b∈fp,ew X pins H1 b)
  (hg:∀z,PG (cn X scope (Nt++fr.map (·.1)) z) tg (g z)) (d3:∀z,lg Nt.length (g z)) (hc:∀z,fm (cn X scope (Nt++fr.map (·.1)) z) ifs (tc z)) (he:∀z,PE (cn X scope (Nt++fr.map (·.1)) z) cP (te z))
  (w0:W 0 m0 [] H1) (dF:nB J Nt.length fr g tc te σ W fin)
  (HG:∀D C s' ys its n H' m',q9 X fp H1 s2 fin D C s' ys its n H' m'->RR (.ref D) C (.ok .next) s') :
  wpAny (model X.prog X.w) X.A (newList []) (λam s3=>wpAny (model X.prog X.w) X.A (newFunctionEnv scope X.env.globals cl [] X.env.qual none .none (some X.env)) (λxn s4=>
   codeAny (model X.prog X.w) X.A (.compStart (.ListComp cP [⟨tg,iter,ifs,0⟩] scope pos) 0 (.ref it) am { xn with scope:=relabel scope X.env }) (RR am xn.locals) s4) E s3) E s2:=by
 refine aa6 (wpAny_newFunctionEnv L.cell (by intro y hy;simp at hy) (λh1 ju nC=>?_) L.kind);dsimp only at ju nC ⊢;generalize rc:s2.heap.push { cls:=.type "list",dict:=none,data:=.seq ([]:List Value).toArray }=G at ju nC ⊢;have hC:G.objs.size=s2.heap.objs.size+1:=by rw[<- rc,aba]
 have bV:∀b∈fp,b<s2.heap.objs.size:=λb hb=>by
  obtain⟨o,q,_⟩:=T.obj 0 _ xm b hb;exact aaJ q
 have bv:∀b o,s2.heap.get? b=some o->h1.get? b=some o:=λb o q=>
  nC.extBut b o (by rw[hC];exact aaL (aa' (aaJ q))) (aaD _ (rc ▸ aaD _ q))
 have nD:s2.heap.objs.size≠G.objs.size:=by rw[hC];exact aaL (ab0 _)
 have jv:h1.get? s2.heap.objs.size=some { cls:=.type "list",data:=.seq #[] 0 }:=nC.extBut _ _ nD (aaD _ (rc ▸ aaG _ rfl));have re:s2.heap.objs.size<=G.objs.size:=by rw[hC];exact Nat.le_succ _
 have I0:=HA (t1:=s2.toks+([]:List (Str×Value)).length) (C:=G.objs.size) (D:=s2.heap.objs.size) L I cb lh hf bV re (aaH _) nD bv ju jv;have nE:tn 0 h1:=T.keep 0 _ _ xm λb _ o q=>bv b o q;generalize hX:cn X scope (Nt++fr.map (·.1)) ⟨cl,G.objs.size,fp,s2,H1⟩=X' at I0;have cY:∀x c,cl.lookup x=some c->c<s2.heap.objs.size:=λx c e=>by
  obtain⟨v,q⟩:=I.cell x c (cb x c e);exact q.lt
 have hfr:∀b∈fp,b ∉ dc X.stack:=λb hb z=>by
  rcases List.mem_cons.mp (I.jo b z) with e |e
  ·exact (hf b hb).2.1 e
  ·exact (hf b hb).2.2.1 e
 have ic:∀{H':Hp}{ob:Obj},(∀b∈fp,H' b=none)->∀b∈fp,ew X' [(s2.heap.objs.size,ob)] H' b:=λ{H' ob} hn b hb=>by
  subst hX;refine⟨hn b hb,aaL (aaM (bV b hb) re),hfr b hb,.inl hb,λx c e=>(hf b hb).2.2.2.2.1 x c (cb x c e),λp hp=>?_⟩;have bg:p∈([(s2.heap.objs.size,ob)]:List (Addr×Obj)):=hp;rw[List.mem_singleton]at bg;subst bg;exact abh (bV b hb)
 have XA:X'.prog=X.prog:=by subst hX;rfl
 have XB:X'.w=X.w:=by subst hX;rfl
 have YT:X'.K=X.K:=by subst hX;rfl
 have YU:X'.calm=true:=by subst hX;exact f8
 have HH:PG X' tg (g ⟨cl,G.objs.size,fp,s2,H1⟩):=by subst hX;exact hg _
 have cN:fm X' ifs (tc ⟨cl,G.objs.size,fp,s2,H1⟩):=by subst hX;exact hc _
 have iI:PE X' cP (te ⟨cl,G.objs.size,fp,s2,H1⟩):=by subst hX;exact he _
 -- vG is WC of dE list GS WD
 have grow:∀ {pl:List (Addr×Obj)} {σ':St} {H':Hp}{s':Shared}{ob lj:Obj}{h':Heap},ab X' pl σ' H' s'->H' s2.heap.objs.size=none->(d0 Nt.length fr σ).length=σ'.length->σ'.drop Nt.length=(d0 Nt.length fr σ).drop Nt.length ->
   ab2 s2.heap.objs.size s'.heap h'->h'.get? s2.heap.objs.size=some lj->(∀v,lj.data≠.cell v)->ab X' [(s2.heap.objs.size,lj)] (d0 Nt.length fr σ) H' { s' with heap:=h' }:=λ{pl σ' H' s' ob lj h'} I' hn hl hd sb fS hv=>by
  have I1:ab X' [] σ' H' s':=I'.kx λp hp=>(nomatch hp);have g1:s2.heap.objs.size≠X'.env.locals:=by subst hX;exact nD
  have g2:X'.s₀.heap.objs.size<=s2.heap.objs.size:=by subst hX;exact aaH _
  have g3:∀x c,X'.env.cells.lookup x=some c->c≠s2.heap.objs.size:=by subst hX;exact λx c e=>aaL (cY x c e)
  have g4:∀p∈X'.pn++([]:List (Addr×Obj)),p.1≠s2.heap.objs.size:=by subst hX;exact λp hp=>(nomatch (show p∈([]:List (Addr×Obj)) from hp))
  have g5:s2.heap.objs.size ∉ X'.fs:=by
   subst hX;intro z;rcases List.mem_cons.mp (I.jo _ z) with e |e
   ·exact absurd (e ▸ I.lt) (abT _)
   ·exact I.mR (aaH _) e
  have I2:ab X' [] σ' H' { s' with heap:=h' }:=I1.dW (t':=s'.toks) (it:=s2.heap.objs.size) (λb o hb q=>(sb.2 b hb).trans q) hn g1 (.inr g2) g3 g4;have I3:ab X' [(s2.heap.objs.size,lj)] σ' H' { s' with heap:=h' }:=I2.kx λp hp=>by
   rw[List.mem_singleton]at hp;subst hp;exact⟨fS,hn,g1,g5,hv⟩
  refine I3.Dg hl λi v q=>?_;have hi:¬i<Nt.length:=λhi=>by
   unfold d0 at q;rw[abt (by simpa using hi),ab7]at q;split at q <;> cases q
  have z:∀l:St,l[i]?=(l.drop Nt.length)[i-Nt.length]?:=λl=>by
   rw[List.getElem?_drop]
   congr 1
   lia
  rw[z,hd,<- z];exact q
 have loop:∀ s3:Shared,s3={ s2 with heap:=h1,toks:=s2.toks+([]:List (Str×Value)).length } ->
   codeAny (model X.prog X.w) X.A (.compLoop (.ListComp cP [⟨tg,iter,ifs,0⟩] scope pos) 0 (.ref it) (.ref s2.heap.objs.size) (compEnvC scope cl G.objs.size X.env)) (RR (.ref s2.heap.objs.size) G.objs.size) s3:=by
  rintro s3 rfl;refine Hu (P:=λs'=>∃ys its n H' m',q9 X fp H1 s2 fin s2.heap.objs.size G.objs.size s' ys its n H' m') (λs' ⟨ys,its,n,H',m',q⟩=>HG _ _ s' ys its n H' m' q)
   (λn s'=>∃i ys its c H',ab X' [(s2.heap.objs.size,{ cls:=.type "list",data:=.seq (its:List Value).toArray c })] (d0 Nt.length fr σ) H' s'/\aq ys its/\tn i s'.heap/\(∀b∈fp,H' b=none)/\W i n ys H')
   ?_ m0 ⟨0,[],[],0,H1,I0,.nil,nE,λb hb=>(hf b hb).1,w0⟩
  rintro n s' ⟨i,ys,its,c,H',I',rv,st,xo,w⟩;obtain⟨hz,HI⟩:=dF i n ys H' w;have Yi:∀{pl:List (Addr×Obj)} {σ':St} {rf:Hp}{s'':Shared}{ob:Obj},ab X' ((s2.heap.objs.size,ob)::pl) σ' rf s''->s''.heap.get? s2.heap.objs.size=some ob/\rf s2.heap.objs.size=none:=λ{pl σ' rf s'' ob} HJ=>by
   have q:=HJ.cA (s2.heap.objs.size,ob) (aa3 _ aaO);exact⟨q.1,q.2.1⟩
  rcases HI with ⟨stop,fn⟩ |⟨go,HK⟩
  ·have A1:=T.done X' XA XB YT YU i _ s' _ H' (λ_ _=>False) I' (ic xo) st stop;have hA:X'.A=X.A:=(by subst hX;rfl);rw[hA]at A1;refine ar A1 λr s1 ⟨hr,I1⟩=>?_;subst hr;obtain⟨q1,q2⟩:=Yi I1;have hL:X'.env.locals=G.objs.size:=(by subst hX;rfl);obtain⟨m',ga,_⟩:=I1.bL;have un:Un (dc X.stack) fp H1 H' s2.heap s1.heap:=(by subst hX;exact I1.base);have os:s1.os=s2.os:=(by subst hX;exact I1.os);exact⟨ys,its,c,H',m',⟨hL ▸ ga,hL ▸ I1.free,q2,re,aaH _,nD,un,XA ▸ XB ▸ I1.ae,os,I1.bT,q1,rv,Nat.le_of_lt hz,fn⟩⟩
  ·have hA:X'.A=X.A:=(by subst hX;rfl);have XI:X'.env=compEnvC scope cl G.objs.size X.env:=(by subst hX;rfl);have rh:X'.xe=λ_ _=>False:=(by subst hX;rfl);have A1:=T.item X' XA XB YT YU i _ s' _ H' (λ_ _=>False) I' (ic xo) st go;rw[hA]at A1;refine ar A1 λr s1 ⟨u,hr,h4⟩=>?_;subst hr;refine ar h4 λ_ s5 ⟨x,H5,I5,r5,y5,ie,qg⟩=>?_;have qh:=I5.vF (ic qg) (T.obj _ _ ie);have q5:=d3 _ x _ H5 _ (HK ⟨cl,G.objs.size,fp,s2,H1⟩ x H5 y5);have A2:=HH _ s5 _ H5 x u _ qh r5 q5;rw[XA,XB,hA,XI,rh]at A2;refine ar A2 λ_ s6 ⟨σ6,H6,I6,q6,YV,XX⟩=>?_;have A3:=cN _ s6 σ6 H6 _ I6 q6;rw[XA,XB,hA,XI,rh]at A3;refine ar A3 λok s7 ⟨H7,I7,q7⟩=>?_;have xp:∀ {σ8:St} {H8:Hp}{s8 s9:Shared},ab X' ([(s2.heap.objs.size,{ cls:=.type "list",data:=.seq its.toArray c })]++kF fp s5.heap) σ8 H8 s8->(∀ b,b≠s2.heap.objs.size->s9.heap.get? b=s8.heap.get? b)->tn (i+1) s9.heap/\∀ b∈fp,H8 b=none:=λ{σ8 H8 s8 s9} I8 Yj=>by
    refine⟨T.keep _ _ _ ie λb hb o q=>?_,λb hb=>?_⟩
    ·rw[Yj b (aaL (bV b hb))];exact (I8.cA (b,o) (aa3 _ (aa3 _ (mY hb q)))).1
    ·obtain⟨o,q,_⟩:=T.obj _ _ ie b hb;exact (I8.cA (b,o) (aa3 _ (aa3 _ (mY hb q)))).2.1
   cases ok with
   |false=>
    rw[if_neg aaQ]at q7 ⊢;obtain⟨m',ga,w'⟩:=q7;obtain⟨e1,e2⟩:=Yi I7;obtain⟨b1,b2⟩:=xp (s9:=s7) I7 λ_ _=>rfl;refine⟨m',ga,i+1,ys,its,c,H7,?_,rv,b1,b2,w'⟩;exact grow (ob:={ cls:=.type "list",data:=.seq its.toArray c }) (h':=s7.heap) I7 e2 YV.symm XX (.refl ..) e1 (λv z=>by cases z)
   |true=>
    rw[if_pos rfl]at q7 ⊢;have A4:=iI _ s7 σ6 H7 _ I7 q7;rw[XA,XB,hA,XI,rh]at A4;refine ar A4 λv s8 ⟨y,H8,I8,Zt,m',ga,w'⟩=>?_;obtain⟨e1,e2⟩:=Yi I8;refine append_at (hsz:=by rw[aaF,<- rv.length];exact Nat.le_of_lt hz) e1 λYj sb YW=>?_;obtain⟨b1,b2⟩:=xp (s9:={ s8 with heap:=Yj }) I8 λb hb=>sb.2 b hb;have ea:its.toArray.push v=(its++[v]).toArray:=(by simp);rw[ea]at YW;refine⟨m',ga,i+1,ys++[y],its++[v],c+1,H8,?_,rv.append (.cons Zt .nil),b1,b2,w'⟩;exact grow (ob:={ cls:=.type "list",data:=.seq its.toArray c }) I8 e2 YV.symm XX sb YW (λv z=>by cases z)
 exact codeAny_compStart_list (loop _ rfl) (T.self X.A 0 _ _ _ nE (loop _ rfl))
theorem HL {wi:TI} (L:fo X scope Nt fr) (f8:X.calm=true) (hi:PI X tg iter wi) (hg:∀ z,PG (cn X scope (Nt++fr.map (·.1)) z) tg (g z)) (d3:∀ z,lg Nt.length (g z))
  (hc:∀z,fm (cn X scope (Nt++fr.map (·.1)) z) ifs (tc z)) (he:∀z,PE (cn X scope (Nt++fr.map (·.1)) z) cP (te z)) (hs:∀x,foldedSetIterable iter X.env x=pure x:=by intro _;rfl) :
  PE X (.ListComp cP [⟨tg,iter,ifs,0⟩] scope pos) (Hz wi Nt.length fr g tc te):=by
 intro pins s σ H Q I h;obtain⟨cl,e1,e2,e3⟩:=xi (scope:=scope) (env:=X.env) λy hy hf=>I.ok.has _ (.inl (L.free y hy hf));rw[eval_ListComp];refine wpAny_comprehension_free (use:=none) rfl hs e1 L.kind L.names (ar (hi pins s σ H _ I h) λv s1 h1=>ar h1 λmW s2 h2=>?_);obtain⟨it,fp,tn,J,H2,e,I2,T,st2,f2,W,⟨m0,w0⟩,dF⟩:=h2;subst e;refine xl (RR:=λam C r s'=>compPost (model X.prog X.w) X.A X.xe none (EP X pins σ Q) am C r s') L f8 I2 e2 e3 T st2 f2 hg d3 hc he w0 dF λD C s' ys its n H' m' q=>?_;exact⟨m',q.ns,λh' sb=>⟨.ref D,_,xk I2 f2 q sb,rfl,q.fin D q.fd⟩⟩
def HM (wi:TI) (k:Nat) (fr:List (Str×Nat)) (g:ZC->TG) (tc:ZC->TT) (te:ZC->TE) (j:Nat):TS:=λDs σ H=>wi σ H λJ H1=>
 ∃W:Nat->Nat->List V->Hp->Prop,(∃m,W 0 m [] H1)/\nB J k fr g tc te σ W λys H2=>∀p,H2 p=none->Ds.nx (σ.set j (some (.ref p))) (ag H2 p (.lst ys))
theorem HN {wi:TI}{y:Str}{j:Nat}{py gb:Pos} (L:fo X scope Nt fr) (f8:X.calm=true) (hN:X.N.Nodup) (hj:X.N[j]?=some y) (hy:dS X.env.scope y) (hi:PI X tg iter wi) (hg:∀ z,PG (cn X scope (Nt++fr.map (·.1)) z) tg (g z)) (d3:∀ z,lg Nt.length (g z))
  (hc:∀z,fm (cn X scope (Nt++fr.map (·.1)) z) ifs (tc z)) (he:∀z,PE (cn X scope (Nt++fr.map (·.1)) z) cP (te z)) (hs:∀x,foldedSetIterable iter X.env x=pure x:=by intro _;rfl)
  (lm:swapsWith (.ListComp cP [⟨tg,iter,ifs,0⟩] scope pos) (some (.Name y py)) gb.line X.env=pure true:=by rfl)
  (lp:X.fn y=true\/X.env.scope.names.lookup y=some .local:=by first |exact .inl rfl |exact .inr rfl |assumption) :
  PS X (.Assign [.Name y py] (.ListComp cP [⟨tg,iter,ifs,0⟩] scope pos) gb) (HM wi Nt.length fr g tc te j):=by
 intro pins s σ H Ds I h;obtain⟨cl,e1,e2,e3⟩:=xi (scope:=scope) (env:=X.env) λy hy hf=>I.ok.has _ (.inl (L.free y hy hf));rw[exec_Assign_Name_used _ _ _ _ lm];refine aaC (wpAny_standAt (aaC ?_));show wpAny _ X.A (do let _ <- comprehension (.ListComp cP [⟨tg,iter,ifs,0⟩] scope pos) scope X.env _ (newList []) false (eval iter X.env) (some (assign (.Name y py) X.env))) _ _ s
 refine aaC (ar (wpAny_comprehension_free (use:=some (assign (.Name y py) X.env)) (Q:=λ_ s'=>SP X pins Ds .next s') rfl hs e1 L.kind L.names
  (ar (hi pins s σ H _ I h) λv s1 h1=>ar h1 λmW s2 h2=>?_)) λ_ s' hq=>aaE (aaE hq))
 obtain⟨it,fp,tn,J,H2,e,I2,T,st2,f2,W,⟨m0,w0⟩,dF⟩:=h2;subst e;refine xl (RR:=λam C r s'=>compPost (model X.prog X.w) X.A X.xe (some (assign (.Name y py) X.env)) (λ_ s'=>SP X pins Ds .next s') am C r s') L f8 I2 e2 e3 T st2 f2 hg d3 hc he w0 dF λD C s' ys its n H' m' q=>?_;have I3:ab X pins σ (ag H' D (.lst ys)) s':=xk (h':=s'.heap) I2 f2 q (.refl ..);obtain⟨Yk,es,ep,HP,xq,HQ,HR⟩:=id q.ns;have xr:ag H' D (.lst ys) C=none:=by rw[aD (abx q.cd)];exact q.XH
 have YX:C≠X.env.locals:=abh (aaM I2.lt q.gc);have Zu:C ∉ X.fs:=I2.mR q.gc;have Zv:X.s₀.heap.objs.size<=C:=aaZ I2.sz q.gc;have Zw:∀x c,X.env.cells.lookup x=some c->c≠C:=λx c e=>by
  obtain⟨v,z⟩:=I2.cell x c e;exact aaL (aaM z.lt q.gc)
 have Zx:∀p∈X.pn++pins,p.1≠C:=λp hp=>aaL (aaM (aaJ (I2.cA p hp).1) q.gc);have I4:ab X (pins++[(C,Yk)]) σ (ag H' D (.lst ys)) s':=I3.kx λp hp=>by
  rcases List.mem_append.mp hp with z |z
  ·exact I3.cA p (aa3 _ z)
  ·rw[List.mem_singleton]at z;subst z;exact⟨HP,xr,YX,Zu,λv z=>by rw[xq]at z;cases z⟩
 show wpAny _ _ (assign (.Name y py) X.env (.ref D)) _ _ s';refine wpAny_assign_Name (p6 I4 hN hj hy (show av (.ref D) (.ref D) from rfl) (λs'' I5=>?_) lp);have z:=I5.cA (C,Yk) (aa3 _ (aa3 _ (List.mem_singleton.mpr rfl)));refine⟨m',⟨Yk,es,ep,z.1,xq,HQ,HR⟩,λh'' sb=>⟨σ.set j (some (.ref D)),_,?_,q.fin D q.fd⟩⟩;have I6:ab X pins (σ.set j (some (.ref D))) (ag H' D (.lst ys)) s'':=I5.mZ;exact I6.dW (t':=s''.toks) (it:=C) (λb o hb e=>(sb.2 b hb).trans e) xr YX (.inr Zv) Zw Zx
end
section
variable {prog:Program}{w:World}{A:Around}{E:Value->Shared->Prop}{s:Shared}
theorem lq {J t:Addr}{i:Nat}{its:Array Value}{x:Value}{Q:Value->Shared->Prop} (hJ:s.heap.IsTupleIter J t i) (ht:s.heap.IsTuple t its) (hx:its[i]?=some x)
  (q:∀h',h'.IsTupleIter J t (i+1)->ab2 J s.heap h'->Q x { s with heap:=h' }):wpAny (model prog w) A (aa9 (.ref J)) Q E s:=by
 obtain⟨ob,h1,h2,h3⟩:=id hJ;obtain⟨Zy,g1,_,Yl,g2⟩:=ht;unfold aa9;refine aaC (aa8 (name:=abz "__next__") hJ.typeIs acp (abg acp hJ.typeIs F.entry_tuple_iterator_next ?_ (F.args_tuple_iterator_next_1 _)));show wpAny _ _ (field (.ref J) 0 >>= _) _ _ s;refine aaC (abn h1 h3 (x:=.ref t) rfl ?_);show wpAny _ _ (if (aaX t == abB)=true then _ else _) _ _ s
 rw[if_neg (show ¬((aaX t == abB)=true) from λz=>aaQ z)];show wpAny _ _ (field (.ref J) 1 >>= _) _ _ s;refine aaC (abn h1 h3 (x:=.int i 0) rfl ?_);show wpAny _ _ (seqItems? (.ref t) >>= _) _ _ s;refine aaC (abW g1 g2 ?_);simp only[ack,hx];refine aaC (wpAny_setField h1 h3 (by simp) (aaE ⟨x,rfl,aaE (q _ ?a (abj ..))⟩));exact⟨_,aa7 _ h1 (Obj.isFreed_of_fields (Obj.data_mapFields h3 _)),Eq.trans (Obj.cls_mapFields ..) h2,by rw[Obj.data_mapFields h3] <;> simp [rawInt]⟩
theorem lr {J t:Addr}{i:Nat}{its:Array Value}{Q:Value->Shared->Prop} (hh:A.handled=none) (hJ:s.heap.IsTupleIter J t i) (ht:s.heap.IsTuple t its) (hx:its[i]?=none)
  (q:∀h' e,Heap.ExtBut J s.heap h'->(∃o,h'.get? e=some o/\o.cls=.type "StopIteration")->E (.ref e) { s with heap:=h' }):wpAny (model prog w) A (aa9 (.ref J)) Q E s:=by
 obtain⟨ob,h1,h2,h3⟩:=id hJ;obtain⟨Zy,g1,_,Yl,g2⟩:=ht;unfold aa9;refine aaC (aa8 (name:=abz "__next__") hJ.typeIs acp (abg acp hJ.typeIs F.entry_tuple_iterator_next ?_ (F.args_tuple_iterator_next_1 _)));show wpAny _ _ (field (.ref J) 0 >>= _) _ _ s;refine aaC (abn h1 h3 (x:=.ref t) rfl ?_);show wpAny _ _ (if (aaX t == abB)=true then _ else _) _ _ s
 rw[if_neg (show ¬((aaX t == abB)=true) from λz=>aaQ z)];show wpAny _ _ (field (.ref J) 1 >>= _) _ _ s;refine aaC (abn h1 h3 (x:=.int i 0) rfl ?_);show wpAny _ _ (seqItems? (.ref t) >>= _) _ _ s;refine aaC (abW g1 g2 ?_);simp only[ack,hx];refine aaC (wpAny_rule (aaC (wpAny_setField h1 h3 (by simp) ?_)));show wpAny _ _ (newExc (.type "StopIteration") [] >>= _) _ _ _;refine aaC ?_;simp only[newExc,newTuple];refine aaC (aa6 ?_ (by size_fits));refine aaC (m:=firstArgMember _ _) (wpAny_of_eq (a:=abB) (by first |rfl |(simp only[firstArgMember] <;> rfl)) ?_)
 refine aa6 ?_ (by size_fits);simp only[raiseNew];refine aaC (wpAny_handled ?_)
 first |rw[show A.in1.handled=none from hh] |rw[hh]
 refine aaC (aaE (wpAny_throw (q _ _ ?_ ⟨_,aaG _ rfl,rfl⟩)));exact ((abj ..).extBut.push _).push _
def d4 (q:Bool) (h:Heap) (a:Addr) (xs:Array Value):Prop:=match q with
 |true=>h.IsTuple a xs
 |false=>h.IsList a xs
noncomputable abbrev lu (q:Bool):String:=match q with
 |true=>"tuple_iterator"
 |false=>"list_iterator"
def gO (q:Bool) (h:Heap) (J t:Addr) (i:Nat):Prop:=∃o,h.get? J=some o/\o.cls=.type (lu q)/\o.data=.fields #[.ref t,.int i 0]
def gP (q:Bool) (K:PySem.W.Frag) (H:Hp) (a:Addr) (xs:List V):Prop:=match q with
 |true=>aI K H a xs
 |false=>aT K H a xs
theorem gO.extBut {q:Bool}{h h':Heap}{J t c:Addr}{i:Nat} (x:gO q h J t i) (e:Heap.ExtBut c h h') (n:J≠c):gO q h' J t i:=
 let ⟨o,a,b⟩:=x;⟨o,e _ _ n a,b⟩
theorem d4.extBut {q:Bool}{h h':Heap}{t c:Addr}{xs:Array Value} (x:d4 q h t xs) (e:Heap.ExtBut c h h') (n:t≠c):d4 q h' t xs:=by
 cases q
 ·exact Heap.IsList.extBut x e n
 ·exact Heap.IsTuple.extBut x e n
theorem HS {q:Bool}{J t:Addr}{i:Nat}{its:Array Value}{x:Value}{Q:Value->Shared->Prop} (hJ:gO q s.heap J t i) (ht:d4 q s.heap t its) (hx:its[i]?=some x)
  (h:∀h',gO q h' J t (i+1)->ab2 J s.heap h'->Q x { s with heap:=h' }):wpAny (model prog w) A (aa9 (.ref J)) Q E s:=by
 cases q
 ·exact wpAny_nextOf_list_item hJ ht hx h
 ·exact lq hJ ht hx h
theorem HU {q:Bool}{J t:Addr}{i:Nat}{its:Array Value}{Q:Value->Shared->Prop} (hh:A.handled=none) (hJ:gO q s.heap J t i) (ht:d4 q s.heap t its) (hx:its[i]?=none)
  (h:∀h' e,Heap.ExtBut J s.heap h'->(∃o,h'.get? e=some o/\o.cls=.type "StopIteration")->E (.ref e) { s with heap:=h' }):wpAny (model prog w) A (aa9 (.ref J)) Q E s:=by
 cases q
 ·exact wpAny_nextOf_list_end hh hJ ht hx h
 ·exact lr hh hJ ht hx h
theorem d4.lt {q:Bool}{h:Heap}{t:Addr}{xs:Array Value} (x:d4 q h t xs):t<h.objs.size:=by
 cases q <;> (obtain⟨_,e,_⟩:=x;exact aaJ e)
theorem ab.sq {X:Cx}{pins:List (Addr×Obj)} {σ:St} {H:Hp}{q:Bool}{a:Addr}{xs:List V} (I:ab X pins σ H s) (h:gP q X.K H a xs):∃its,aq xs its/\d4 q s.heap a its.toArray:=by
 cases q
 ·obtain⟨its,r,p,_⟩:=I.list h;exact⟨its,r,p.isList⟩
 ·obtain⟨its,r,p,_⟩:=I.tuple h;exact⟨its,r,p⟩
theorem ab.HV {X:Cx}{pins:List (Addr×Obj)} {σ:St} {H:Hp}{q:Bool}{a:Addr}{xs ys:List V} (I:ab X pins σ H s) (h:gP q X.K H a xs) (h':gP q X.K H a ys):xs=ys:=by
 cases q
 ·exact I.p8 h h'
 ·exact I.p9 h h'
structure lx (q:Bool) (h:Heap) (z TI TO i1 i2 t1 t2:Addr) (k:Nat) (f:Value):Prop where
 z:IsZip h z TI TO f
 ti:IsPair h TI (.ref i1) (.ref i2)
 to:∃a b,IsPair h TO a b
 Ym:h.IsTupleIter i1 t1 k
 YY:gO q h i2 t2 k
structure rj (z TI TO i1 i2 t1 t2:Addr):Prop where
 a1:TI≠z
 a2:TO≠z
 Xh:i1≠z
 Xi:i2≠z
 Xu:TI≠TO
 Yn:TI≠i1
 XY:TI≠i2
 XZ:TO≠i1
 X0:TO≠i2
 b1:i1≠i2
 c1:t1≠z/\t1≠TO/\t1≠i1/\t1≠i2
 c2:t2≠z/\t2≠TO/\t2≠i1/\t2≠i2
theorem HW {q:Bool}{z TI TO i1 i2 t1 t2:Addr}{k:Nat}{xs ys:Array Value}{x y:Value}{Q:Option Value->Shared->Prop} (D:rj z TI TO i1 i2 t1 t2) (Z:lx q s.heap z TI TO i1 i2 t1 t2 k .none)
  (nF:s.heap.IsTuple t1 xs) (rl:d4 q s.heap t2 ys) (hx:xs[k]?=some x) (hy:ys[k]?=some y)
  (hQ:∀h',lx q h' z TI TO i1 i2 t1 t2 (k+1) (rawInt s.heap.objs.size)->IsPair h' s.heap.objs.size x y->h'.objs.size=s.heap.objs.size+1 ->
   (∀c o,c≠z->c≠TO->c≠i1->c≠i2->s.heap.get? c=some o->h'.get? c=some o)->Q (some (.ref s.heap.objs.size)) { s with heap:=h' }) :
  wpAny (model prog w) A (pyNext (.ref z)) Q E s:=by
 have hT:s.TypeIs (.ref z) "zip":=⟨_,Z.z,rfl⟩;obtain⟨u0,v0,rn⟩:=Z.to;unfold pyNext;refine aaC (wpAny_attempt (aa8 (name:=abz "__next__") hT F.slot_zip_next (abg F.slot_zip_next hT F.entry_zip_next ?_ (F.args_zip_next_1 _))));show wpAny _ _ (field (.ref z) 2 >>= _) _ _ _;refine aaC (abn Z.z rfl (x:=.bool false) rfl ?_);show wpAny _ _ (field (.ref z) 3 >>= _) _ _ _;refine aaC (abn Z.z rfl (x:=.ref TI) rfl ?_);refine aaC (abW Z.ti rfl ?_);show wpAny _ _ (abO (.ref z) >>= _) _ _ _;refine aaC ?_;unfold abO;refine aaC (abn Z.z rfl (x:=.none) rfl (aaE ?_));simp only[if_true];refine aaC (wpAny_rule (aaC (abn Z.z rfl (x:=.ref TO) rfl ?_)));refine aaC (ach Z.z (by simp) λg1 z1 s1=>?_);have z1:IsZip g1 z TI TO .ellipsis:=z1;refine aaC ?_;simp only[List.zipIdx_cons,List.zipIdx_nil,List.forIn_cons,List.forIn_nil];refine aaC (aaC (wpAny_onRaise ?_));show wpAny _ _ (aa9 (.ref i1) >>= _) _ _ _;refine aaC (lq (Z.Ym.extBut s1.extBut D.Xh) (nF.extBut s1.extBut D.c1.1) hx λg2 xt s2=>aaE ?_);have o2:IsPair g2 TO u0 v0:=s2.extBut _ _ D.XZ (s1.extBut _ _ D.a2 rn);refine aaC (abW o2 rfl ?_);refine aaC (wpAny_updateSeq_pair o2 λg3 o3 s3=>?_);have o3:IsPair g3 TO x v0:=o3;refine aaC (wpAny_letGo (aaE ?_));refine aaC (aaC (wpAny_onRaise ?_));show wpAny _ _ (aa9 (.ref i2) >>= _) _ _ _;refine aaC (HS (((Z.YY.extBut s1.extBut D.Xi).extBut s2.extBut D.b1.symm).extBut s3.extBut D.X0.symm) (((rl.extBut s1.extBut D.c2.1).extBut s2.extBut D.c2.2.2.1).extBut s3.extBut D.c2.2.1) hy λg4 HZ s4=>aaE ?_);have o4:IsPair g4 TO x v0:=s4.extBut _ _ D.X0 o3;refine aaC (abW o4 rfl ?_);refine aaC (wpAny_updateSeq_pair o4 λg5 o5 s5=>?_);have o5:IsPair g5 TO x y:=o5;refine aaC (wpAny_letGo (aaE (aaE ?_)));refine aaC (abW o5 rfl ?_);refine aaC (wpAny_newTuple ?_);have sz:g5.objs.size=s.heap.objs.size:=by rw[s5.1,s4.1,s3.1,s2.1,s1.1]
 have z5:IsZip g5 z TI TO .ellipsis:=s5.extBut _ _ D.a2.symm (s4.extBut _ _ D.Xi.symm (s3.extBut _ _ D.a2.symm (s2.extBut _ _ D.Xh.symm z1)));have X7:∀c o,c≠z->c≠TO->c≠i1->c≠i2->s.heap.get? c=some o->g5.get? c=some o:=λc o e1 e2 e3 e4 q=>s5.extBut _ _ e2 (s4.extBut _ _ e4 (s3.extBut _ _ e2 (s2.extBut _ _ e3 (s1.extBut _ _ e1 q))));have H9:g5.IsTupleIter i1 t1 (k+1):=((xt.extBut s3.extBut D.XZ.symm).extBut s4.extBut D.b1).extBut s5.extBut D.XZ.symm;have Ia:gO q g5 i2 t2 (k+1):=HZ.extBut s5.extBut D.X0.symm;have xu:z<g5.objs.size:=aaJ z5;show wpAny _ _ (Builtin.SmallTypes.ownedTupleHandOut (.ref z) (.ref g5.objs.size) >>= _) _ _ _;refine aaC ?_;unfold Builtin.SmallTypes.ownedTupleHandOut;have z6:IsZip (g5.push { cls:=.type "tuple",data:=.seq #[x,y] }) z TI TO .ellipsis:=aaD _ z5;refine aaC (ach z6 (by simp) λZz z7 s7=>?_);have z7:IsZip Zz z TI TO (rawInt g5.objs.size):=z7;refine ach z7 (by simp) λXJ z8 s8=>?_;have z8:IsZip XJ z TI TO (rawInt g5.objs.size):=z8;have up:∀c o,c≠z->g5.get? c=some o->XJ.get? c=some o:=λc o e q=>s8.extBut _ _ e (s7.extBut _ _ e (aaD _ q));have T8:IsPair XJ g5.objs.size x y:=s8.extBut _ _ (abh xu) (s7.extBut _ _ (abh xu) (aaG _ rfl));have YZ:XJ.objs.size=g5.objs.size+1:=by rw[s8.1,s7.1,aba]
 rw[sz]at z8 T8 YZ;refine aaE ⟨_,rfl,aaE ?_⟩;show Q (some (.ref g5.objs.size)) _;rw[sz];refine hQ XJ ⟨z8,up _ _ D.a1 (X7 _ _ D.a1 D.Xu D.Yn D.XY Z.ti),⟨_,_,up _ _ D.a2 o5⟩,?_,?_⟩ T8 YZ λc o e1 e2 e3 e4 q=>up c o e1 (X7 c o e1 e2 e3 e4 q)
 ·obtain⟨ob,q1,q2⟩:=H9;exact⟨ob,up _ _ D.Xh q1,q2⟩
 ·obtain⟨ob,q1,q2⟩:=Ia;exact⟨ob,up _ _ D.Xi q1,q2⟩
theorem Ib {q:Bool}{z TI TO i1 i2 t1 t2:Addr}{k:Nat}{xs ys:Array Value}{Q:Option Value->Shared->Prop} (hh:A.handled=none) (D:rj z TI TO i1 i2 t1 t2) (Z:lx q s.heap z TI TO i1 i2 t1 t2 k .none)
  (nF:s.heap.IsTuple t1 xs) (rl:d4 q s.heap t2 ys) (Ic:xs[k]?=none\/ys[k]?=none)
  (hQ:∀h',(∀c o,c≠z->c≠TO->c≠i1->c≠i2->s.heap.get? c=some o->h'.get? c=some o)->Q none { s with heap:=h' }) :
  wpAny (model prog w) A (pyNext (.ref z)) Q E s:=by
 have hT:s.TypeIs (.ref z) "zip":=⟨_,Z.z,rfl⟩;obtain⟨u0,v0,rn⟩:=Z.to;unfold pyNext;refine aaC (wpAny_attempt (aa8 (name:=abz "__next__") hT F.slot_zip_next (abg F.slot_zip_next hT F.entry_zip_next ?_ (F.args_zip_next_1 _))));show wpAny _ _ (field (.ref z) 2 >>= _) _ _ _;refine aaC (abn Z.z rfl (x:=.bool false) rfl ?_);show wpAny _ _ (field (.ref z) 3 >>= _) _ _ _;refine aaC (abn Z.z rfl (x:=.ref TI) rfl ?_);refine aaC (abW Z.ti rfl ?_);show wpAny _ _ (abO (.ref z) >>= _) _ _ _;refine aaC ?_;unfold abO;refine aaC (abn Z.z rfl (x:=.none) rfl (aaE ?_));simp only[if_true];refine aaC (wpAny_rule (aaC (abn Z.z rfl (x:=.ref TO) rfl ?_)));refine aaC (ach Z.z (by simp) λg1 z1 s1=>?_);have z1:IsZip g1 z TI TO .ellipsis:=z1;refine aaC ?_;simp only[List.zipIdx_cons,List.zipIdx_nil,List.forIn_cons,List.forIn_nil];refine aaC (aaC (wpAny_onRaise ?_));show wpAny _ _ (aa9 (.ref i1) >>= _) _ _ _;cases hx:xs[k]? with
 |none=>
  refine aaC (lr hh (Z.Ym.extBut s1.extBut D.Xh) (nF.extBut s1.extBut D.c1.1) hx λg2 e s2 he=>?_);obtain⟨Yo,q1,q2⟩:=he;have z2:IsZip g2 z TI TO .ellipsis:=s2 _ _ D.Xh.symm z1;have ne:e≠z:=λx=>by subst x;rw[z2]at q1;cases q1;simp at q2
  exact ach z2 (by simp) λg3 _ s3=>aaC (acd (T:="StopIteration") (b:=true) ⟨Yo,s3.extBut _ _ ne q1,q2⟩ isSubtype_stop (aaE (hQ _ λc o c1 _ c3 _ x=>s3.extBut _ _ c1 (s2 _ _ c3 (s1.extBut _ _ c1 x)))))
 |some x=>
  have hy:ys[k]?=none:=by
   rcases Ic with q |q
   ·rw[hx]at q;cases q
   ·exact q
  refine aaC (lq (Z.Ym.extBut s1.extBut D.Xh) (nF.extBut s1.extBut D.c1.1) hx λg2 xt s2=>aaE ?_);have o2:IsPair g2 TO u0 v0:=s2.extBut _ _ D.XZ (s1.extBut _ _ D.a2 rn);refine aaC (abW o2 rfl ?_);refine aaC (wpAny_updateSeq_pair o2 λg3 o3 s3=>?_);refine aaC (wpAny_letGo (aaE ?_));refine aaC (aaC (wpAny_onRaise ?_));show wpAny _ _ (aa9 (.ref i2) >>= _) _ _ _;refine aaC (HU hh (((Z.YY.extBut s1.extBut D.Xi).extBut s2.extBut D.b1.symm).extBut s3.extBut D.X0.symm) (((rl.extBut s1.extBut D.c2.1).extBut s2.extBut D.c2.2.2.1).extBut s3.extBut D.c2.2.1) hy λg4 e s4 he=>?_);obtain⟨Yo,q1,q2⟩:=he;have z4:IsZip g4 z TI TO .ellipsis:=s4 _ _ D.Xi.symm (s3.extBut _ _ D.a2.symm (s2.extBut _ _ D.Xh.symm z1));have ne:e≠z:=λx=>by subst x;rw[z4]at q1;cases q1;simp at q2
  exact ach z4 (by simp) λg5 _ s5=>aaC (acd (T:="StopIteration") (b:=true) ⟨Yo,s5.extBut _ _ ne q1,q2⟩ isSubtype_stop (aaE (hQ _ λc o c1 c2 c3 c4 x=>s5.extBut _ _ c1 (s4 _ _ c4 (s3.extBut _ _ c2 (s2.extBut _ _ c3 (s1.extBut _ _ c1 x)))))))
noncomputable abbrev nG (h:Heap) (a:Addr):Heap:=h.push { cls:=.type "tuple_iterator",data:=.fields #[.ref a,.int 0 0] }
noncomputable abbrev nH (q:Bool) (h:Heap) (a b:Addr):Heap:=(nG h a).push { cls:=.type (lu q),data:=.fields #[.ref b,.int 0 0] }
noncomputable abbrev nI (q:Bool) (h:Heap) (a b:Addr):Heap:=(nH q h a b).push { cls:=.type "tuple",data:=.seq #[.ref h.objs.size,.ref (nG h a).objs.size] }
noncomputable abbrev nJ (q:Bool) (h:Heap) (a b:Addr):Heap:=(nI q h a b).push { cls:=.type "tuple",data:=.seq #[.none,.none] }
noncomputable abbrev iJ (q:Bool) (h:Heap) (a b:Addr):Heap:=(nJ q h a b).push { cls:=.type "zip",data:=.fields #[.none,.bool false,.bool false,.ref (nH q h a b).objs.size,.ref (nI q h a b).objs.size] }
end
theorem Ie (q:Bool) (a b:Addr) (xs ys:Array Value) :
  Meets (Builtin.«zip.__new__» ⟨[.type "zip",.ref a,.ref b],[]⟩) (λ_ R s=>s.heap.IsTuple a xs/\d4 q s.heap b ys/\R (.ok (.ret (.ref (nJ q s.heap a b).objs.size))) { s with heap:=iJ q s.heap a b }):=
 .of_wp λprog w A R s h=>by
  obtain⟨hp,g,d,tk,os⟩:=s;obtain⟨q1,q2,h⟩:=h;have sub:=sub_zip;have e1:Heap.IsTuple (Shared.heap ⟨hp,g,d,tk,os⟩) a xs:=q1;cases q
  ·have e2:Heap.IsList (Shared.heap ⟨hp.push { cls:=.type "tuple_iterator",data:=.fields #[.ref a,.int 0 0] },g,d,tk,os⟩) b ys:=Heap.IsList.push q2 _
   wp_walk using abQ e1,wpAny_pyIter_list e2
   exact⟨_,rfl,h⟩
  ·have e2:Heap.IsTuple (Shared.heap ⟨hp.push { cls:=.type "tuple_iterator",data:=.fields #[.ref a,.int 0 0] },g,d,tk,os⟩) b ys:=Heap.IsTuple.push q2 _
   wp_walk using abQ e1,abQ e2
   exact⟨_,rfl,h⟩
section
variable {prog:Program}{w:World}{A:Around}{E:Value->Shared->Prop}{s:Shared}
theorem Ig {q:Bool}{a b:Addr}{xs ys:Array Value}{Q:Value->Shared->Prop} (h1:s.heap.IsTuple a xs) (h2:d4 q s.heap b ys)
  (h:∀h',lx q h' (s.heap.objs.size+4) (s.heap.objs.size+2) (s.heap.objs.size+3) s.heap.objs.size (s.heap.objs.size+1) a b 0 .none->h'.objs.size=s.heap.objs.size+5 ->
   (∀c o,s.heap.get? c=some o->h'.get? c=some o)->Q (.ref (s.heap.objs.size+4)) { s with heap:=h' }):wpAny (model prog w) A (call (.type "zip") [.ref a,.ref b]) Q E s:=by
 refine callType_new F.called_zip (by decide) (F.typeCall_zip_2 _ _) (F.newCall_zip_2 _ _) (λobj=>F.args_object_init_3 obj _ _) F.entry_zip_new (Ie q a b xs ys) ⟨h1,h2,?_⟩;have n1:(nG s.heap a).objs.size=s.heap.objs.size+1:=aba ..;have n2:(nH q s.heap a b).objs.size=s.heap.objs.size+2:=by rw[aba,n1]
 have n3:(nI q s.heap a b).objs.size=s.heap.objs.size+3:=by rw[aba,n2]
 have n4:(nJ q s.heap a b).objs.size=s.heap.objs.size+4:=by rw[aba,n3]
 have n5:(iJ q s.heap a b).objs.size=s.heap.objs.size+5:=by rw[aba,n4]
 have p5:(iJ q s.heap a b).get? (nJ q s.heap a b).objs.size=some _:=aaG _ rfl;have p4:(iJ q s.heap a b).get? (nI q s.heap a b).objs.size=some _:=aaD _ (aaG _ rfl);have p3:(iJ q s.heap a b).get? (nH q s.heap a b).objs.size=some _:=aaD _ (aaD _ (aaG _ rfl));have p2:(iJ q s.heap a b).get? (nG s.heap a).objs.size=some _:=aaD _ (aaD _ (aaD _ (aaG _ rfl)));have p1:(iJ q s.heap a b).get? s.heap.objs.size=some _:=aaD _ (aaD _ (aaD _ (aaD _ (aaG _ rfl))));show _/\_;rw[n2,n3,n4]at p5;rw[n1,n2]at p3;rw[n3]at p4;rw[n1]at p2;rw[n4];exact⟨⟨_,p5,rfl⟩,h _ ⟨p5,p3,⟨_,_,p4⟩,⟨_,p1,rfl,rfl⟩,⟨_,p2,rfl,rfl⟩⟩ n5 λc o x=>
  aaD _ (aaD _ (aaD _ (aaD _ (aaD _ x))))⟩
end
noncomputable def rp (q:Bool) (K:PySem.W.Frag) (a b:Addr):It:=
  ⟨λi H=>∃xs ys x y,aI K H a xs/\gP q K H b ys/\xs[i]?=some x/\ys[i]?=some y,
   λi H v H'=>∃p,v=.ref p/\H p=none/\∃x y,(∀xs,aI K H a xs->xs[i]?=some x)/\(∀ys,gP q K H b ys->ys[i]?=some y)/\H'=ag H p (.tup [x,y]),
   λi H=>∃xs ys,aI K H a xs/\gP q K H b ys/\(xs.length<=i\/ys.length<=i)⟩
theorem Ih {q:Bool}{P:Program}{w:World}{K:PySem.W.Frag}{gQ:List Expr}{kk:Nat}{tp:Pos}{z TI TO i1 i2 a b:Addr} (D:rj z TI TO i1 i2 a b) :
  gD P w K (.Tuple gQ kk tp) (rp q K a b) [z,TI,TO,i1,i2] z (λi h=>lx q h z TI TO i1 i2 a b i .none) where
 mem:=by simp
 obj:=λi h st c hc=>by
  obtain⟨q1,q2,⟨u,v,q3⟩,⟨o4,q4,_,Y0⟩,⟨o5,q5,_,Xv⟩⟩:=st;simp only[aa0,aa2,or_false]at hc;rcases hc with rfl |rfl |rfl |rfl |rfl
  ·exact⟨_,q1,λv z=>by cases z⟩
  ·exact⟨_,q2,λv z=>by cases z⟩
  ·exact⟨_,q3,λv z=>by cases z⟩
  ·exact⟨_,q4,λv z=>by rw[Y0]at z;cases z⟩
  ·exact⟨_,q5,λv z=>by rw[Xv]at z;cases z⟩
 keep:=λi h h' st k=>by
  obtain⟨q1,q2,⟨u,v,q3⟩,⟨o4,q4,r4⟩,⟨o5,q5,r5⟩⟩:=st;exact⟨k z (by simp) _ q1,k TI (by simp) _ q2,⟨u,v,k TO (by simp) _ q3⟩,⟨o4,k i1 (by simp) _ q4,r4⟩,⟨o5,k i2 (by simp) _ q5,r5⟩⟩
 item:=by
  intro X hP hw hK hc i pins s σ H E I hf st hg;subst hP hw hK;obtain⟨xs,ys,x,y,jw,nK,hx,hy⟩:=hg;obtain⟨its,r1,p1,_⟩:=I.tuple jw;obtain⟨aU,r2,p2⟩:=I.sq nK;obtain⟨u,hu,ru⟩:=r1.get hx;obtain⟨v,hv,rv⟩:=r2.get hy;refine HW D st p1 p2 (x:=u) (y:=v) (by simpa using hu) (by simpa using hv) λh' Z' T' n' keep=>⟨_,rfl,?_⟩;refine wpAny_letOwnedTupleGo_zip Z'.z λh'' Ii sb=>?_;have Ij:z<s.heap.objs.size:=aaJ st.z;have hT:h''.get? s.heap.objs.size=some { cls:=.type "tuple",data:=.seq #[u,v] }:=sb.extBut _ _ (abh Ij) T';have k2:∀c o,c ∉ [z,TO,i1,i2]->s.heap.get? c=some o->h''.get? c=some o:=λc o hc q=>by
   simp only[aa0,aa2,or_false,not_or]at hc;exact sb.extBut _ _ hc.1 (keep c o hc.1 hc.2.1 hc.2.2.1 hc.2.2.2 q)
  have fresh:H s.heap.objs.size=none:=I.ae.fresh (aaH _);have sub:∀c∈[z,TO,i1,i2],c∈[z,TI,TO,i1,i2]:=λc hc=>by
   simp only[aa0,aa2,or_false]at hc ⊢;rcases hc with h |h |h |h <;> simp [h]
  have gR:∀c∈[z,TO,i1,i2],H c=none:=λc hc=>(hf c (sub c hc)).1;have lv:∀c o,H c=some o->c≠s.heap.objs.size:=λc o q=>bB q fresh;have new:bk X.prog X.w (ag H s.heap.objs.size (.tup [x,y])) h'' s.heap.objs.size (.tup [x,y]):=
   ⟨mL (by show 2<=sizeLine;decide) hT rfl,[u,v],.cons ru (.cons rv .nil),⟨_,hT,rfl,0,rfl⟩⟩
  have ok:aQ X.prog X.w (ag H s.heap.objs.size (.tup [x,y])) h'':=λc o q=>by
   by_cases hc:c=s.heap.objs.size
   ·subst hc;rw[b7]at q;cases q;exact new
   ·rw[aD hc]at q;refine (I.ae c o q).el (λd v hd e=>k2 d v (λm=>?_) e) (λd e=>?_) λd zs e=>?_
    ·rcases hd with rfl |hd
     ·rw[gR _ m]at q;cases q
     ·rw[gR _ m]at hd;cases hd
    ·rw[aD (lv _ _ e)];exact e
    ·rw[aD (lv _ _ e)];exact e
  obtain⟨m,hm,_⟩:=id I.bL;have hL:∀c∈[z,TO,i1,i2],c≠X.env.locals:=λc hc=>(hf c (sub c hc)).2.1;have I':ab X pins σ (ag H s.heap.objs.size (.tup [x,y])) { s with heap:=h'' }:=by
   refine I.dF (g':=s.gens) (t':=s.toks) (d':=s.drawn) (ch:=[z,TO,i1,i2]) (λc hc=>⟨(hf c (sub c hc)).2.2.2.1,(hf c (sub c hc)).2.1,(hf c (sub c hc)).2.2.2.2.1,(hf c (sub c hc)).2.2.2.2.2⟩)
    (λc o _ _ hc q _=>k2 c o hc q) (λc o _ _ hc q _=>⟨o.slots,k2 c o hc q⟩) (λc o hc q n=>?_) (λc o hc q=>⟨o,k2 c o hc q⟩) (λc zs q=>?_) (λc o v q=>?_) (λc ps q=>⟨#[],?_⟩) (λc zs o q e=>k2 c o (λhc=>by rw[(hf c (sub c hc)).1]at q;cases q) e) (λm' ga=>?_) ok I.bT
   ·rw[aD (aaL (aaJ q))];exact n
   ·rw[aD (lv _ _ q)];exact q
   ·rw[aD (lv _ _ q)];exact q
   ·rw[aD (lv _ _ q)];simpa using q
   ·obtain⟨o,es,ep,e,rr⟩:=ga;exact⟨o,es,ep,k2 _ _ (λhc=>hL _ hc rfl) e,rr⟩
  refine⟨.ref s.heap.objs.size,_,I',rfl,⟨_,rfl,fresh,x,y,λzs hz=>by rw[I.p9 hz jw];exact hx,λzs hz=>by rw[I.HV hz nK];exact hy,rfl⟩,?_,λc hc=>?_⟩
  ·obtain⟨_,q2,⟨e1,e2,q3⟩,⟨o4,q4,r4⟩,⟨o5,q5,r5⟩⟩:=Z';exact⟨Ii,sb.extBut _ _ D.a1 q2,⟨e1,e2,sb.extBut _ _ D.a2 q3⟩,⟨o4,sb.extBut _ _ D.Xh q4,r4⟩,⟨o5,sb.extBut _ _ D.Xi q5,r5⟩⟩
  ·have bV:c<s.heap.objs.size:=by
    obtain⟨q1,q2,⟨e1,e2,q3⟩,⟨o4,q4,r4⟩,⟨o5,q5,r5⟩⟩:=st;simp only[aa0,aa2,or_false]at hc;rcases hc with rfl |rfl |rfl |rfl |rfl
    ·exact aaJ q1
    ·exact aaJ q2
    ·exact aaJ q3
    ·exact aaJ q4
    ·exact aaJ q5
   rw[aD (aaL bV)];exact (hf c hc).1
 done:=by
  intro X hP hw hK hc i pins s σ H E I hf st hg;subst hP hw hK;obtain⟨xs,ys,jw,nK,hl⟩:=hg;obtain⟨its,r1,p1,_⟩:=I.tuple jw;obtain⟨aU,r2,p2⟩:=I.sq nK;have l1:=r1.length;have l2:=r2.length;have sub:∀c∈[z,TO,i1,i2],c∈[z,TI,TO,i1,i2]:=λc hc=>by
   simp only[aa0,aa2,or_false]at hc ⊢;rcases hc with h |h |h |h <;> simp [h]
  refine Ib (I.ok.hd hc) D st p1 p2 (hl.elim (λq=>.inl (by simp;lia)) λq=>.inr (by simp;lia)) λh' keep=>⟨rfl,?_⟩;have k2:∀c o,c ∉ [z,TO,i1,i2]->s.heap.get? c=some o->h'.get? c=some o:=λc o hc q=>by
   simp only[aa0,aa2,or_false,not_or]at hc;exact keep c o hc.1 hc.2.1 hc.2.2.1 hc.2.2.2 q
  have gR:∀ c∈[z,TO,i1,i2],H c=none:=λc hc=>(hf c (sub c hc)).1;have ok:aQ X.prog X.w H h':=λc o q=>(I.ae c o q).el (λd v hd e=>k2 d v (λm=>by
    rcases hd with rfl |hd
    ·rw[gR _ m]at q;cases q
    ·rw[gR _ m]at hd;cases hd) e) (λ_ e=>e) λ_ _ e=>e
  refine I.dF (g':=s.gens) (t':=s.toks) (d':=s.drawn) (ch:=[z,TO,i1,i2]) (λc hc=>⟨(hf c (sub c hc)).2.2.2.1,(hf c (sub c hc)).2.1,(hf c (sub c hc)).2.2.2.2.1,(hf c (sub c hc)).2.2.2.2.2⟩)
    (λc o _ _ hc q _=>k2 c o hc q) (λc o _ _ hc q _=>⟨o.slots,k2 c o hc q⟩) (λc o hc q n=>n) (λc o hc q=>⟨o,k2 c o hc q⟩) (λc zs q=>q) (λc o v q=>q) (λc ps q=>⟨#[],by simpa using q⟩) (λc zs o q e=>k2 c o (λhc=>by rw[(hf c (sub c hc)).1]at q;cases q) e) (λm' ga=>?_) ok I.bT
  obtain⟨o,es,ep,e,rr⟩:=ga;exact⟨o,es,ep,k2 _ _ (λhc=>(hf _ (sub _ hc)).2.1 rfl) e,rr⟩
 self:=λ_ _ _ _ _ st h=>wpAny_pyIter_zip st.z h
section
variable {X:Cx}
def xv (q:Bool) (K:PySem.W.Frag) (ta:TA):TI:=fun σ H R=>ta σ H λvs H1=>∃a b xs ys,vs=[.ref a,.ref b]/\aI K H1 a xs/\gP q K H1 b ys/\R (rp q K a b) H1
theorem Ik {q:Bool}{a b:Expr}{ta:TA}{gQ:List Expr}{kk:Nat}{tp p pos:Pos} (hg:Gl X "zip") (hm:X.mg "zip"=none) (ha:PA X [a,b] ta) (hs:starEach [a,b] X.env=[(false,eval a X.env),(false,eval b X.env)]:=by rfl) (hs2:starEach [b] X.env=[(false,eval b X.env)]:=by rfl) :
  PI X (.Tuple gQ kk tp) (.Call (.Name "zip" p) [a,b] [] pos) (xv q X.K ta):=by
 intro pins s σ H R I h;refine Call_ (fb I hg hm boot_zip (abu (ar (ha pos pins s σ H _ I h) λus s1 ⟨vs,H1,I1,r1,q1⟩=>?_) (by rw[hs,hs2]) (by rw[hs2];rfl)));obtain⟨x,y,xs,ys,e,hx,hy,q⟩:=q1;subst e;cases r1 with
 |cons r rr=>
  cases rr with
  |cons r' rr=>
   cases rr;cases r;cases r';obtain⟨its,v1,p1,_⟩:=I1.tuple hx;obtain⟨aU,v2,p2⟩:=I1.sq hy;have l1:x<s1.heap.objs.size:=(by obtain⟨_,e,_⟩:=p1;exact aaJ e);have l2:y<s1.heap.objs.size:=p2.lt;have f:∀c:Addr,c<s1.heap.objs.size->∀k:Nat,c≠s1.heap.objs.size+k:=λc hc k=>aaL (aaM hc (acw _ _));refine Ig p1 p2 λh' Z n5 keep=>wpAny_pyIter_zip Z.z ?_;have I2:ab X pins σ H1 { s1 with heap:=h' }:=I1.bD (t':=s1.toks) keep;refine⟨_,[s1.heap.objs.size+4,s1.heap.objs.size+2,s1.heap.objs.size+3,s1.heap.objs.size,s1.heap.objs.size+1],_,_,H1,rfl,I2,Ih ⟨?_,?_,?_,?_,?_,?_,?_,?_,?_,?_,⟨f _ l1 4,f _ l1 3,aaL l1,f _ l1 1⟩,⟨f _ l2 4,f _ l2 3,aaL l2,f _ l2 1⟩⟩,Z,λc hc=>?_,q⟩
   any_goals (show (_:Nat)≠_;lia)
   have cN:s1.heap.objs.size<=c:=by
    simp only[aa0,aa2,or_false]at hc;rcases hc with rfl |rfl |rfl |rfl |rfl
    ·exact acw _ _
    ·exact acw _ _
    ·exact acw _ _
    ·exact aaH _
    ·exact acw _ _
   exact I1.kC cN (I1.ae.fresh cN)
end
section
variable {prog:Program}{w:World}{A:Around}{E:Value->Shared->Prop}{s:Shared}
theorem Il {t sl:Addr}{items:Array Value}{vl vu:Value}{lo hi:Option Int}{Q:Value->Shared->Prop} (ht:IsTup s.heap t items) (hs:s.heap.IsSliceOf sl vl vu .none) (pl:IsPart vl lo) (pu:IsPart vu hi)
  (hw:HT.ax items.size 0 lo=0/\HT.ax items.size items.size hi=items.size) (h:Q (.ref t) s):wpAny (model prog w) A (getItem (.ref t) (.ref sl)) Q E s:=by
 obtain⟨os,cO,eg,dz⟩:=id hs;have kX:s.TypeIs (.ref sl) "slice":=⟨os,cO,eg⟩;unfold getItem
 try with_reducible refine abr ?_
 first |refine aaC (aaE ?_) |skip
 refine aaC (wpAny_sequenceKey ht.typeIs (by decide) ?_);refine aaC (aa8 (name:=abz "__getitem__") ht.typeIs abw
  (abg abw ht.typeIs entry_tuple_getitem ?_ (args_tuple_getitem _ _)))
 show wpAny _ _ (Builtin.Tuple.tupleItemsOf (.ref t) >>= _) _ _ s;refine aaC (tupleItemsOf_ ht ?_);refine aaC (wpAny_typeOf kX ?_);rw[if_pos (by decide)];refine aaC (HT.wN hs pl pu ?_);have Im:(((HT.ax items.size 0 lo:Nat):Int) == 0 && (1:Int) == 1 && (HT.ax items.size items.size hi-HT.ax items.size 0 lo) == items.size)=true:=by
  rw[hw.1,hw.2];simp
 show wpAny _ _ (if (((HT.ax items.size 0 lo:Nat):Int) == 0 && (1:Int) == 1 && (HT.ax items.size items.size hi-HT.ax items.size 0 lo) == items.size)=true then _ else _) _ _ s
 rw[if_pos Im];obtain⟨o,ho,hc,n,hd⟩:=id ht;have ex:wpAny (model prog w) A.in1 (Builtin.Tuple.tupleIsExact (.ref t)) (λb s'=>b=true/\s'=s) E s:=by
  unfold Builtin.Tuple.tupleIsExact
  first
   |exact aaC (wpAny_typeOf ⟨o,ho,hc⟩ (aaE ⟨by rfl,rfl⟩))
   |exact aaC (wpAny_load ho (aaE ⟨by rw[hc];rfl,rfl⟩))
 refine aaC (ar ex λb s' hb=>?_);obtain⟨rfl,rfl⟩:=hb;rw[if_pos rfl];exact aaC (wpAny_rule (aaE ⟨_,rfl,aaE h⟩))
end
section
variable {X:Cx}
def rq (K:PySem.W.Frag):V->Option Int->Option Int->Hp->VK->Prop:=λx lo hi H Q=>∃a xs,x=.ref a/\aI K H a xs/\HT.ax xs.length 0 lo=0/\HT.ax xs.length xs.length hi=xs.length/\Q (.ref a) H
theorem Io:fh X (rq X.K):=by
 intro pins s σ H x v vl vu lo hi sl Q I rx hs pl pu h;obtain⟨a,xs,rfl,hx,h1,h2,q⟩:=h;cases rx;obtain⟨its,r,ht,hz⟩:=I.tuple hx;have hlen:its.toArray.size=xs.length:=by rw[aaF];exact r.length.symm
 refine⟨"tuple",_,PyProof.Rows.slot_tuple_getitem.lookup,ht.typeIs,?_⟩;exact Il ht hs pl pu (by rw[hlen];exact⟨h1,h2⟩) ⟨.ref a,H,I,rfl,q⟩
def rz:V->Option Int->Option Int->Hp->VK->Prop:=λx lo hi H Q=>∃z,x=.str z/\z.length<=sizeLine/\Q (.str (Txt.slice z lo hi)) H
theorem Ip:fh X rz:=by
 intro pins s σ H x v vl vu lo hi sl Q I rx hs pl pu h;obtain⟨z,rfl,hz,q⟩:=h;obtain⟨t,rfl⟩:=rx;obtain⟨os,cO,eg,dz⟩:=id hs;refine⟨"str",_,F.slot_str_getitem.lookup,typeIs_str _ _ _,?_⟩;have fin:∀(t':Tok) (k:Nat),EP X pins σ Q (.str (Txt.slice z lo hi) t') { s with toks:=k }:=λt' k=>⟨.str _,H,I.bx _,⟨_,rfl⟩,q⟩;cases pl with
 |none=>
  cases pu with
  |none=>exact wpAny_getItem_str_slice (l:=none) (u:=none) (st:=none) ⟨os,cO,eg,dz⟩ rfl (post_val_or_str ⟨aaZ (Txt.slice_le z _ _) hz,fin⟩)
  |int j uj=>exact wpAny_getItem_str_slice (l:=none) (u:=some (j,uj)) (st:=none) ⟨os,cO,eg,dz⟩ rfl (post_val_or_str ⟨aaZ (Txt.slice_le z _ _) hz,fin⟩)
 |int i Y1=>
  cases pu with
  |none=>exact wpAny_getItem_str_slice (l:=some (i,Y1)) (u:=none) (st:=none) ⟨os,cO,eg,dz⟩ rfl (post_val_or_str ⟨aaZ (Txt.slice_le z _ _) hz,fin⟩)
  |int j uj=>exact wpAny_getItem_str_slice (l:=some (i,Y1)) (u:=some (j,uj)) (st:=none) ⟨os,cO,eg,dz⟩ rfl (post_val_or_str ⟨aaZ (Txt.slice_le z _ _) hz,fin⟩)
theorem Iq:fh X (λx lo hi H Q=>qF X.K x lo hi H Q\/(qA X.K x lo hi H Q\/(rq X.K x lo hi H Q\/rz x lo hi H Q))):=Gj.or (F8.or (Io.or Ip))
end
end L2
namespace L2
open PySem
theorem Ir:bootBuiltins "len"=some (.builtin "len"):=by decide +kernel
theorem xw:bootBuiltins "isinstance"=some (.builtin "isinstance"):=by decide +kernel
theorem rA:bootBuiltins "sorted"=some (.builtin "sorted"):=by decide +kernel
theorem xx:bootBuiltins "int"=some (.type "int"):=by decide +kernel
theorem xy:bootBuiltins "tuple"=some (.type "tuple"):=by decide +kernel
theorem Iu:bootBuiltins "bool"=some (.type "bool"):=by decide +kernel
theorem xA:bootBuiltins "str"=some (.type "str"):=by decide +kernel
theorem xB:bootBuiltins "list"=some (.type "list"):=by decide +kernel
end L2
end
section
namespace L2
open PySem
noncomputable def nL (sc:Scope) (N:List Str) (scope:Scope) (fr:List (Str×Nat)):Bool:=
 (scope.kind == .function) && scope.names.all (λy=>decide (y.2≠.cell)) && scope.names.all (λy=>decide (y.2=.local->scope.names.lookup y.1=some .local)) &&
  scope.names.all (λy=>decide (y.2=.free->sc.names.lookup y.1=some .cell)) && fr.all (λp=>decide (N[p.2]?=some p.1) && decide (scope.names.lookup p.1=some .free))
theorem fo.of {X:Cx}{sc:Scope}{N:List Str}{scope:Scope}{Nt:List Str}{fr:List (Str×Nat)} (h1:X.env.scope=sc) (h2:X.N=N) (h:nL sc N scope fr=true):fo X scope Nt fr:=by
 unfold nL at h;simp only[aaW,List.all_eq_true,decide_eq_true_eq]at h;obtain⟨⟨⟨⟨a1,a2⟩,Xh⟩,Xi⟩,Xu⟩:=h;refine⟨eq_of_beq a1,a2,Xh,λy hy hf=>?_,λp hp=>?_⟩
 ·show X.env.scope.names.lookup y.1=some .cell;rw[h1];exact Xi y hy hf
 ·rw[h2];exact Xu p hp
end L2
end
section
namespace L2
open PySem PySem.Spec PyProof.Rows
noncomputable def aY:Expr->Bool
 |.Starred _ _=>false
 |_=>true
noncomputable def bQ:List Expr->Bool
 |[]=>true
 |e::es=>aY e && bQ es
theorem cp {env:Env}{e:Expr}{es:List Expr} (h:aY e=true):starEach (e::es) env=(false,eval e env)::starEach es env:=by
 cases e <;> first |rfl |exact absurd h aaQ
theorem gf {env:Env}{pos:Pos}:∀{es:List Expr},bQ es=true->(backTo pos (starEach es env)).any (·.1)=false
 |[],_=>rfl
 |e::es,h=>by
  have h':(aY e && bQ es)=true:=h;rw[aaW]at h';rw[cp h'.1];show (false ||(backTo pos (starEach es env)).any (·.1))=false;rw[gf h'.2];rfl
section
variable {X:Cx}
theorem fu {e:Expr}{es:List Expr}{te:TE}{t:TA} (ha:PE X e te) (hr:PA X es t) (hs:aY e=true:=by rfl):PA X (e::es) (qt te t):=Fg ha hr (cp hs)
theorem Iv {CX:cJ}{k:Nat}{f:Addr}{fd:FuncData}{ps:List Str}{sp:Sp}{bI:List V}{ds:List Value}{E:XK}{x:Str}{p pos:Pos}{e:Expr}{es:List Expr}{t:TA}
  (F:a5 X.prog X.w X.K X.mg X.base CX k f fd ps sp) (hr:bf k X.A) (hg:Gl X x) (hm:X.mg x=some (.ref f)) (hk:PySem.W.keepIn X.K (.ref f)=true) (hb:b0 X.K fd ps ds) (hd:aq bI ds) (hx:eA CX X E)
  (ha:PA X (e::es) t) (hs:bQ (e::es)=true:=by rfl) (b9:(x == ("__debug__" : Str))=false:=by decide):PE X (.Call (.Name x p) (e::es) [] pos) (qu sp bI E t):=by
 have h':(aY e && bQ es)=true:=hs;rw[aaW]at h';exact Fl F hr hg hm hk hb hd hx ha b9 (cp h'.1) (gf h'.2)
theorem iK {x:Str}{p pos:Pos}{e:Expr}{es:List Expr}{t:TA}{id:String}{r:List V->Hp->VK->Prop} (hc:bp X (.builtin id) r) (hg:Gl X x) (hm:X.mg x=none) (hv:bootBuiltins x=some (.builtin id)) (ha:PA X (e::es) t)
  (hs:bQ (e::es)=true:=by rfl) (hn:x≠"__name__":=by decide) (b9:(x == ("__debug__" : Str))=false:=by decide):PE X (.Call (.Name x p) (e::es) [] pos) (kP r t):=by
 have h':(aY e && bQ es)=true:=hs;rw[aaW]at h';exact Fv hc hg hm hv ha hn b9 (cp h'.1) (gf h'.2)
theorem nM {x:Str}{p pos:Pos}{e:Expr}{es:List Expr}{t:TA}{T:String}{r:List V->Hp->VK->Prop} (hc:bp X (.type T) r) (hg:Gl X x) (hm:X.mg x=none) (hv:bootBuiltins x=some (.type T)) (ha:PA X (e::es) t)
  (hs:bQ (e::es)=true:=by rfl) (hn:x≠"__name__":=by decide) (b9:(x == ("__debug__" : Str))=false:=by decide):PE X (.Call (.Name x p) (e::es) [] pos) (kP r t):=by
 have h':(aY e && bQ es)=true:=hs;rw[aaW]at h';exact Fw hc hg hm hv ha hn b9 (cp h'.1) (gf h'.2)
theorem Iw {tg a:Expr}{ta:TA}{p pos:Pos} (hg:Gl X "range") (hm:X.mg "range"=none) (ha:PA X [a] ta) (hs:aY a=true:=by rfl):PI X tg (.Call (.Name "range" p) [a] [] pos) (vE ta):=
 Eg hg hm ha (by rw[cp hs];rfl)
theorem xC {q:Bool}{a b:Expr}{ta:TA}{gQ:List Expr}{kk:Nat}{tp p pos:Pos} (hg:Gl X "zip") (hm:X.mg "zip"=none) (ha:PA X [a,b] ta) (hs:aY a=true:=by rfl) (hs2:aY b=true:=by rfl) :
  PI X (.Tuple gQ kk tp) (.Call (.Name "zip" p) [a,b] [] pos) (xv q X.K ta):=
 Ik hg hm ha (by rw[cp hs,cp hs2];rfl) (by rw[cp hs2];rfl)
end
theorem Iy (a:Addr):av (.ref a) (.ref a):=rfl
structure Hd (p:Prop):Prop where
 out:p
section
variable {X:Cx}{pos:Pos}{a b c e o:Expr}{es:List Expr}{ta tb tc te to:TE}{t u:TS}{tt aam:TT}{tA:TA}{st:Stmt}{rest:List Stmt}
theorem rB {env:Env}{cpos:Pos}{es:List Expr} (h:bQ es=true) (hl:es.length<29) :
  ((backTo cpos (starEach es env)).all (λx=>!x.1) && (backToKw cpos (keywordEach [] env)).all (λx=>x.1.isSome)
   && decide (es.length+([]:List Keyword).length+(if ([]:List Keyword).isEmpty then 0 else 1)<30))=true:=by
 have h1:(backTo cpos (starEach es env)).all (λx=>!x.1)=true:=by
  have:=gf (env:=env) (pos:=cpos) h;rw[List.all_eq_not_any_not];simpa using this
 have h2:(backToKw cpos (keywordEach [] env)).all (λx=>x.1.isSome)=true:=rfl;rw[h1,h2];simp;lia
theorem xD {name:Str}{b3 cpos:Pos}{T id:String}{r:V->List V->Hp->VK->Prop} (pa:PlainAttrs T) (slot:Slot T name id) (gJ:typeOf (.builtin id)=pure (.type "method_descriptor")) (hm:eC X id r) (ho:Hd (PE X o to)) (ha:Hd (PA X (e::es) tA))
  (k4:attributeBase o name X.env (eval o X.env)=eval o X.env:=by rfl) (hs:bQ (e::es)=true:=by rfl) (hl:(e::es).length<29:=by decide) (b':(b3.endLine == cpos.line)=true:=by rfl) :
  Hd (PE X (.Call (.Attribute o name b3) (e::es) [] cpos) (qI X.K T r to tA)):=by
 have h':(aY e && bQ es)=true:=hs;rw[aaW]at h';exact⟨Gv pa slot gJ hm ho.out ha.out k4 (rB hs hl) b' (cp h'.1) (gf h'.2)⟩
variable {tg iter:Expr}{wi:TI}{g:TG}
variable {ifs:List Expr}{scope:Scope}{Nt:List Str}{fr:List (Str×Nat)}{aan:ZC->TG}{aao:ZC->TT}{Yp:ZC->TE}
end
section
variable {P:Program}{w:World}{K:PySem.W.Frag}{mg:Str->Option Value}{base:Heap}
end
end L2
end
section
namespace Kn
open PySem PySem.W PyProof.Rows
section
variable (r:Nat->Nat)
variable {r}
end
end Kn
end
section
namespace Kn
open PySem
end Kn
end
section
namespace Kn
open PySem PySem.W PyProof.Rows
section
variable {n:Nat} (h0:0<n)
include h0
end
end Kn
end
section
namespace L2
open PySem PySem.Spec PyProof.Rows PySem.W
open Kn (KE)
section
variable {prog:Program}{w:World}{A:Around}{E:Value->Shared->Prop}{s:Shared}
end
section
variable {X:Cx}
end
end L2
end
section
namespace L2
open PySem PySem.Spec PyProof.Rows
section
variable {X:Cx}
def Iz:R2:=λx y H Q=>∃a b xs,x=.ref a/\y=.ref b/\H a=some (.lst xs)/\H b=some (.lst [])/\Q (.bl (decide (xs=[]))) H
theorem IA (hu:X.A.units<cLine):aA X (compareOp .Eq) Iz:=by
 intro pins s σ H x y v u Q I rx ry h;obtain⟨a,b,xs,rfl,rfl,ha,hb,q⟩:=h;cases rx;cases ry;obtain⟨its,r,p,_⟩:=I.list (aT.of ha);obtain⟨aU,r2,p2,_⟩:=I.list (aT.of hb);cases r2;by_cases hx:xs=[]
 ·subst hx;cases r;refine SeqAt.RcAt.lists (A:=X.A) (e:=λ_=>true) p.isList p2.isList rfl hu (λj h1=>by simp at h1) _ _ _ _ ⟨.bl true,H,I,rfl,?_⟩;simpa using q
 ·refine acj (A:=X.A) p.isList p2.isList ?_ hu _ _ _ _ ⟨.bl false,H,I,rfl,?_⟩
  ·have:=r.length;have h0:its≠[]:=λz=>hx (by subst z;cases xs with |nil=>rfl |cons _ _=>simp at this);cases its with
   |nil=>exact absurd rfl h0
   |cons _ _=>simp
  ·rw[decide_eq_false hx]at q;exact q
variable {pos:Pos}{e f o:Expr}{te aap to:TE}
end
section
variable {X:Cx}
noncomputable def rC (x:Str):It:=⟨λi _=>i<x.cps.size,λi H v H'=>H'=H/\∃c,x.cps[i]?=some c/\v=.str ⟨#[c]⟩,λi _=>x.cps.size<=i⟩
theorem IB {P:Program}{w:World}{K:PySem.W.Frag}{tg:Expr} (it:Addr) (x:Str) (t:Tok):gD P w K tg (rC x) [it] it (λi h=>h.IsStrIter it "str_ascii_iterator" x t i) where
 mem:=by simp
 obj:=λi h st b hb=>by
  have e:b=it:=by simpa using hb
  subst e;obtain⟨o,q,_,d⟩:=st;exact⟨_,q,λv z=>by rw[d]at z;cases z⟩
 keep:=λi h h' st k=>by
  obtain⟨o,q,r⟩:=st;exact⟨o,k it (by simp) _ q,r⟩
 item:=by
  intro X hP hw hK hc i pins s σ H E I hf st hg;subst hP hw hK;obtain⟨f0,f1,f2,f3,f4,f5⟩:=hf it (by simp);have hi:i<x.cps.size:=hg;have hx:x.cps[i]?=some x.cps[i]:=abf hi;refine wpAny_pyNext_ascii_item st hx λh' ce sb=>?_;have I1:ab X pins σ H { s with heap:=h',toks:=s.toks+1 }:=I.dW (t':=s.toks+1) (λb o hb e=>(sb.2 b hb).trans e) f0 f1 f3 f4 f5;obtain⟨o,e,c,d⟩:=id ce;exact⟨_,rfl,kE (s:={ s with heap:=h',toks:=s.toks+1 }) e c d (by decide) ⟨.str ⟨#[x.cps[i]]⟩,H,I1,⟨_,rfl⟩,⟨rfl,_,hx,rfl⟩,ce,λb hb=>(hf b hb).1⟩⟩
 done:=by
  intro X hP hw hK hc i pins s σ H E I hf st hg;subst hP hw hK;obtain⟨f0,f1,f2,f3,f4,f5⟩:=hf it (by simp);have hi:x.cps.size<=i:=hg;exact wpAny_pyNext_ascii_end (I.ok.hd hc) st (Array.getElem?_eq_none hi) λh' eb=>⟨rfl,I.dW (t':=s.toks) (λb o hb e=>eb b o hb e) f0 f1 f3 f4 f5⟩
 self:=λ_ _ _ _ _ st h=>wpAny_pyIter_striter_ascii st h
def IC (tl:TE):TI:=fun σ H R=>tl σ H λv H1=>∃x,v=.str x/\x.cps.all (·<128)=true/\R (rC x) H1
theorem ID {tg l:Expr}{tl:TE} (hl:PE X l tl):PI X tg l (IC tl):=by
 intro pins s σ H R I h;refine ar (hl pins s σ H _ I h) λv s1 ⟨x,H1,I1,r1,q1⟩=>?_;obtain⟨z,e,ha,q⟩:=q1;subst e;obtain⟨t,rfl⟩:=r1;refine wpAny_pyIter_ascii ha ?_;refine⟨s1.heap.objs.size,[s1.heap.objs.size],_,_,H1,rfl,I1.bD (t':=s1.toks) λb o e=>aaD _ e,IB _ z t,⟨_,aaG _ rfl,rfl,rfl⟩,λb hb=>?_,q⟩;have e:b=s1.heap.objs.size:=by simpa using hb
 subst e;exact I1.kC (aaH _) (I1.ae.fresh (aaH _))
end
section
variable {X:Cx}
end
theorem IE (t:SetTable) (n:Nat):(t.orStandIn n).led=t.led:=by
 unfold SetTable.orStandIn;split <;> rfl
theorem IF (t:SetTable) (es:Array (Int×Value)) (h:Int) (x:Value):(layNew t es h x).2.1.led=t.led:=by
 unfold layNew;split
 ·exact IE _ _
 ·rfl
theorem xE {xz IG IH:Nat}{led plain:Bool}{hs:Array Int}{r:SetTable×Array Nat} (h:SetTable.laid xz IG IH led plain hs=some r):r.1.led=led/\r.1.plain=plain:=by
 unfold SetTable.laid at h;cases hc:SetTable.layClean xz hs with
 |none=>rw[hc]at h;cases h
 |some aaq=>rw[hc]at h;cases h;exact⟨rfl,rfl⟩
theorem II (t:SetTable) (es:Array (Int×Value)) (n:Nat):(relayAll t es n).2.1.led=t.led:=by
 unfold relayAll;cases hr:t.relaid (es.map (·.1)) n with
 |none=>rfl
 |some r=>
  obtain⟨t',wE⟩:=r;have:=xE hr;dsimp only;split
  ·exact this.1
  ·rfl
theorem IJ (t:SetTable) (es:Array (Int×Value)) (n:Nat) (hp:t.plain=false):(relayAll t es n).2.1.plain=false:=by
 unfold relayAll;cases hr:t.relaid (es.map (·.1)) n with
 |none=>rfl
 |some r=>
  obtain⟨t',wE⟩:=r;have:=xE hr;dsimp only;split
  ·exact this.2.trans hp
  ·rfl
noncomputable def eD:Value->Str
 |.str x _=>x
 |_=>Str.empty
noncomputable def eE (es:List (Int×Value)):List Str:=es.map λe=>eD e.2
def cQ (prog:Program) (w:World) (h:Heap) (a:Addr) (zs:List Str):Prop:=
 ∃(es:Array (Int×Value)) (ep:Nat) (t:SetTable),h.get? a=some { cls:=.type "set",dict:=none,data:=.set es ep t,slots:=#[] }/\ElemsOf (strKind prog w) es.toList/\t.fits es.size=true /\
  t.led=(!w.params.followText "set-order")/\(t.plain=false\/es=#[])/\es.size<4000/\(eE es.toList).Nodup/\∀x,x∈eE es.toList ↔ x∈zs
theorem cQ.at {prog:Program}{w:World}{h h':Heap}{a:Addr}{zs:List Str} (S:cQ prog w h a zs) (k:∀o,h.get? a=some o->h'.get? a=some o):cQ prog w h' a zs:=by
 obtain⟨es,ep,t,ho,r⟩:=S;exact⟨es,ep,t,k _ ho,r⟩
section
variable {prog:Program}{w:World}{A:Around}{E:Value->Shared->Prop}{s:Shared}{a:Addr}{zs:List Str}
theorem xF {es:List (Int×Value)} (h:ElemsOf (strKind prog w) es) {e:Int×Value} (he:e∈es):∃t,e.2=.str (eD e.2) t/\e.1=(strKind prog w).hash (eD e.2):=by
 obtain⟨⟨k,hk,hh⟩,_⟩:=h e he;obtain⟨t,ht⟩:=Value.isStrOf_shape (x:=k) (v:=e.2) hk;have:eD e.2=k:=by rw[ht];rfl
 exact⟨t,by rw[this];exact ht,by rw[this];exact hh⟩
theorem xG {es:List (Int×Value)} (h:ElemsOf (strKind prog w) es) (x:Str):(∃e∈es,(strKind prog w).is x e.2=true) ↔ x∈eE es:=by
 constructor
 ·rintro⟨e,he,hx⟩;obtain⟨t,ht⟩:=Value.isStrOf_shape (x:=x) (v:=e.2) hx;exact List.mem_map.mpr ⟨e,he,by rw[ht];rfl⟩
 ·intro hx;obtain⟨e,he,rfl⟩:=List.mem_map.mp hx;obtain⟨t,ht,_⟩:=xF h he;refine⟨e,he,?_⟩;rw[ht];exact strKind_is _ _ _ _
theorem xH {es e8:Array (Int×Value)}{ep:Nat}{t t':SetTable}{Q:Unit->Shared->Prop} (ho:s.heap.get? a=some { cls:=.type "set",dict:=none,data:=.set es ep t,slots:=#[] }) (hz:e8.size<4096)
  (h:∀h',ab2 a s.heap h'->h'.get? a=some { cls:=.type "set",dict:=none,data:=.set e8 (ep+1) t',slots:=#[] }->Q () { s with heap:=h' }):wpAny (model prog w) A (storeSet a e8 t') Q E s:=by
 refine wpAny_storeSet_of (ep:=ep) (t:=t) ho rfl (h _ (abj s.heap a _) ?_) (fits_of_scanBound hz);have:=aa7 (Obj.putSet e8 t') ho (by rw[putSet_of (ep:=ep) (t:=t) e8 t' rfl];rfl);rw[this,putSet_of (ep:=ep) (t:=t) e8 t' rfl]
theorem IK {l l':List Str}{x:Str} (p:List.Perm l' (l++[x])) (nd:l.Nodup) (h:x ∉ l):l'.Nodup:=by
 refine p.nodup_iff.mpr (List.nodup_append.mpr ⟨nd,by simp,λy hy z hz=>?_⟩);rw[List.mem_singleton.mp hz];exact λe=>h (e ▸ hy)
theorem IL {x:Str}{tk:Tok}{Q:Bool->Shared->Prop} (S:cQ prog w s.heap a zs) (hl:zs.length<3900)
  (h:∀b h',ab2 a s.heap h'->cQ prog w h' a (zs++[x])->Q b { s with heap:=h' }):wpAny (model prog w) A (setAddHashed a (.str x tk) ((strKind prog w).hash x)) Q E s:=by
 obtain⟨es,ep,t,ho,gS,hf,jx,dv,hsz,nd,hm⟩:=S;have WE:es.size<3950:=by
  have:=List.Nodup.length_le_of_subset nd λy hy=>(hm y).mp hy;rw[eE,aaN,aaT]at this;lia
 have nc:(strKind prog w).is x (.str x tk)=true:=strKind_is _ _ _ _;have d5:(Value.str x tk).scannable=true:=rfl;unfold setAddHashed setAddHashedIn;refine abr (aaC (abJ ho rfl hf ?_));dsimp only;rw[byScan_of d5 (by show es.size<4096;lia) gS,if_pos rfl];unfold setAddByScan;refine aaC (aaC (wpAny_rule (aaC (wpAny_setScan_of nc ho rfl hf gS ?_))));cases hr:List.findIdx? (λe=>(strKind prog w).is x e.2) es.toList with
 |some j=>
  obtain⟨hj,IM,_⟩:=List.findIdx?_eq_some_iff_getElem.mp hr;have hx:x∈zs:=(hm x).mp ((xG gS x).mp ⟨es.toList[j],acr hj,IM⟩);refine aaE (aaE ?_);refine h false s.heap (Heap.SameBut.refl a s.heap) ⟨es,ep,t,ho,gS,hf,jx,dv,hsz,nd,λy=>?_⟩;rw[hm y,List.mem_append,List.mem_singleton];exact⟨.inl,λz=>z.elim id λe=>e ▸ hx⟩
 |none=>
  have hx:x ∉ eE es.toList:=λz=>by
   obtain⟨e,he,q⟩:=(xG gS x).mpr z;have:=List.findIdx?_eq_none_iff.mp hr e he;rw[q]at this;cases this
  have jy:=layNew_perm t es ((strKind prog w).hash x) (.str x tk);have jz:=layNew_fits t es ((strKind prog w).hash x) (.str x tk);have jA:=IF t es ((strKind prog w).hash x) (.str x tk);dsimp only;generalize layNew t es ((strKind prog w).hash x) (.str x tk)=L at jy jz jA ⊢;obtain⟨cR,t1,WF,WG⟩:=L;dsimp only at jy jz jA ⊢;rw[Array.toList_push]at jy;have xI:ElemsOf (strKind prog w) cR.toList:=(gS.push nc d5).perm jy;have rD:(eE cR.toList).Perm (eE es.toList++[x]):=by
   have:=jy.map (λe:Int×Value=>eD e.2);rw[abo]at this;exact this
  have ly:=IK rD nd hx;have fv:∀y,y∈eE cR.toList ↔ y∈zs++[x]:=λy=>by
   rw[rD.mem_iff,List.mem_append,List.mem_append,hm y]
  have hs1:cR.size=es.size+1:=by
   have:=jy.length_eq;rw[abk,aaT,aaT]at this;simpa using this
  have Y2:∀(b:Bool) {s₁:Shared}{Q':Unit->Shared->Prop},Q' () s₁->wpAny (model prog w) A (match b with |true=>rule "set.scan.the-table-gave-way" |false=>pure ()) Q' E s₁:=λb s₁ Q' q=>by
   cases b
   ·exact aaE q
   ·exact wpAny_rule q
  refine aaC (Y2 _ ?_);cases e:t1.plain
  case' false=>
   rw[if_neg aaQ];refine aaC (aaE ?_);simp only[if_true];have hf2:=jz;have hl2:t1.led=t.led:=jA;have bU:t1.plain=false:=e;clear e jz jA;generalize t1=t2 at hf2 hl2 bU ⊢
  case' true=>
   rw[if_pos rfl,hashByValue_scannable 8 d5];refine aaC (aaE ?_);simp only[show plainKind (.str x tk)=false from rfl,Bool.false_eq_true,if_false];have hf2:=SetTable.fits_plain_off jz;have hl2:({ t1 with plain:=false }:SetTable).led=t.led:=jA;have bU:({ t1 with plain:=false }:SetTable).plain=false:=rfl;clear e jz jA;generalize ({ t1 with plain:=false }:SetTable)=t2 at hf2 hl2 bU ⊢
  all_goals
   refine aaC (xH ho (by lia) λh1 jB xJ=>?_);split
   ·have hp:=relayAll_perm t2 cR (SetTable.grown cR.size);have hfr:=relayAll_fits t2 cR (SetTable.grown cR.size);have hlr:=II t2 cR (SetTable.grown cR.size);have rE:=IJ t2 cR (SetTable.grown cR.size) bU;generalize relayAll t2 cR (SetTable.grown cR.size)=R at hp hfr hlr rE ⊢;obtain⟨rF,t3,g2⟩:=R;dsimp only at hp hfr hlr rE ⊢;have hs2:rF.size=cR.size:=(by rw[<- aaT,hp.length_eq,aaT]);have bg:(eE rF.toList).Perm (eE cR.toList):=hp.map _;refine aaC (Y2 _ (aaC (xH (s:={ s with heap:=h1 }) xJ (by lia) λh2 rG dZ=>aaE (aaE ?_))));exact h true h2 (jB.trans rG) ⟨rF,_,t3,dZ,xI.perm hp,hfr,by rw[hlr,hl2,jx],.inl rE,by lia,bg.nodup_iff.mpr ly,λy=>(bg.mem_iff).trans (fv y)⟩
   ·exact aaE (aaE (h true h1 jB ⟨cR,_,t2,xJ,xI,hf2,by rw[hl2,jx],.inl bU,by lia,ly,fv⟩))
end
section
variable {prog:Program}{w:World}{A:Around}{R:Result->Shared->Prop}{I:Addr}{fp wr:List Addr}{G:Array GenState->Array GenState->Prop}{n:Nat}{P:Nat->Value->Prop}{St:Nat->Shared->Prop}
end
theorem xK:∀{vs:List Value}{ss:List Str}{i:Nat}{v:Value},StrsAre vs ss->vs[i]?=some v->∃(x:Str) (t:Tok),ss[i]?=some x/\v=.str x t
 |_,_,i,v,.nil,e=>by simp at e
 |_,_,0,v,.cons x t _,e=>by simp at e;exact⟨x,t,rfl,e.symm⟩
 |_,_,i+1,v,.cons x t r,e=>by
  obtain⟨y,u,h1,h2⟩:=xK (i:=i) r (by simpa using e);exact⟨y,u,by simpa using h1,h2⟩
section
variable {prog:Program}{w:World}{A:Around}{E:Value->Shared->Prop}{s:Shared}
noncomputable def eF (w:World):Obj:={ cls:=.type "set",dict:=none,data:=.set #[] 0 (.fresh 0 0 (!w.params.followText "set-order")) }
theorem IP {h:Heap}{a:Addr} (e:h.get? a=some (eF w)):cQ prog w h a []:=by
 refine⟨#[],0,_,e,λx hx=>?_,by rfl,rfl,.inr rfl,by decide,List.nodup_nil,λx=>Iff.rfl⟩;simp at hx
theorem IQ (a:Value) {Q₁:Value->Shared->Prop} (h:Q₁ (.ref s.heap.objs.size) { s with heap:=s.heap.push (eF w) }) :
  codeAny (model prog w) A (.call (.builtin "set.__new__") ⟨[.type "set",a],[]⟩) (wants Q₁ E) s:=by
 refine codeAny_of_tree ?_;show wpAny _ A.in1 (checkBuiltinCall "set.__new__" ⟨[.type "set",a],[]⟩ >>= λ_=>again (.builtin "set.__new__" ⟨[.type "set",a],[]⟩)) _ _ s;refine aaC (wpAny_of_eq (F.newCall_set_1 a) (aaE ⟨abK F.plain_set_new _,abH F.entry_set_new ?_⟩));rw[abm F.plain_set_new _];unfold Builtin.«set.__new__» Builtin.Frozenset.newClass;have hsub:=sub_set_self;obtain⟨hp,g,d,tk,os⟩:=s;dsimp only at h ⊢
 wp_walk
 refine wpAny_askSetting (aaE ?_);dsimp only;simp only[newObj];exact aaC (wpAny_alloc (aaE (aaE h)))
end
theorem gT:Slot "set_iterator" "__next__" "set_iterator.__next__":=.of (owner:="set_iterator") (n:="__next__") (by rw[typeLookup_type,ab4];kernel_rfl) (by decide +kernel) (by decide +kernel) (by decide +kernel) (by first |exact .inl (by decide +kernel) |exact .inr (by decide +kernel)) (by rw[isSubtype_type];kernel_rfl)
theorem xM:Slot "set_iterator" "__iter__" "set_iterator.__iter__":=.of (owner:="set_iterator") (n:="__iter__") (by rw[typeLookup_type,ab4];kernel_rfl) (by decide +kernel) (by decide +kernel) (by decide +kernel) (by first |exact .inl (by decide +kernel) |exact .inr (by decide +kernel)) (by rw[isSubtype_type];kernel_rfl)
theorem xN:entryFor table "set_iterator.__next__"=some Builtin.«set_iterator.__next__»:=entryFor_of_tree (by kernel_rfl)
theorem xO:Manifest.owners.lookup (String.ofList ['r','o','t','a','r','e','t','i','_','t','e','s'].reverse)=some Manifest.sig_set_iterator:=by kernel_rfl
theorem xP (a:Value):argsOk "set_iterator.__next__" ⟨[a],[]⟩:=by
 unfold argsOk;rw[signature?_of (id:="set_iterator.__next__") (n:=['_','_','t','x','e','n','_','_']) (o:=['r','o','t','a','r','e','t','i','_','t','e','s']) (by kernel_rfl) xO];kernel_rfl
theorem IS:entryFor table "set.__iter__"=some Builtin.«frozenset.__iter__»:=entryFor_alias (id':="frozenset.__iter__") (by kernel_rfl) rfl (by decide +kernel) (by kernel_rfl)
theorem rH {α:Type}:∀(l:List α) (i:Nat) (h:i<l.length),(l[i]::l.eraseIdx i).Perm l
 |x::l,0,_=>.refl _
 |x::l,i+1,h=>by
  have hi:i<l.length:=by simpa using h
  have:=rH l i hi;show (l[i]::x::l.eraseIdx i).Perm (x::l);exact (List.Perm.swap x l[i] _).trans (List.Perm.cons x this)
section
variable {M:Model}{prog:Program}{w:World}{A:Around}{E:Value->Shared->Prop}{s:Shared}
theorem IT {xL:Source}{n:Nat}{Q:Nat->Shared->Prop} (h0:n≠0) (h:∀i d,i<n->Q i { s with drawn:=d }):wpAny M A (choose xL n) Q E s:=fun Γ p hΓ=>by
 show Sem.wp M Γ (.choose xL n .pure) _ _ p s;rw[Sem.wp_choose];exact⟨h0,h _ _ (Nat.mod_lt _ (by lia))⟩
theorem xQ {α:Type}:∀(n:Nat) (xs:List α) (s:Shared) (Q:List α->Shared->Prop),xs.length=n->(∀ys d,ys.Perm xs->Q ys { s with drawn:=d })->wpAny M A (drawOrder n xs) Q E s
 | 0,xs,s,Q,hl,q=>by
  have:xs=[]:=List.length_eq_zero_iff.mp hl;subst this;exact aaE (q [] s.drawn (.refl _))
 |n+1,[],s,Q,hl,q=>by simp at hl
 |n+1,x::xs,s,Q,hl,q=>by
  unfold drawOrder;refine aaC (IT (by simp) λi d hi=>?_);rw[aaI hi];dsimp only;refine aaC (xQ n _ _ _ (by rw[List.length_eraseIdx,if_pos hi];simp at hl ⊢;lia) λys d' p=>aaE (q _ d' ?_));exact (List.Perm.cons _ p).trans (rH _ _ hi)
theorem xR {α:Type} (next:Nat->Nat):∀(fuel k:Nat) (left:List α) (out:Array α),left.length=fuel->(pickOrder.go next fuel k left out).toList.Perm (out.toList++left)
 | 0,k,left,out,hl=>by
  have:left=[]:=List.length_eq_zero_iff.mp hl;subst this;unfold pickOrder.go;simp
 |fuel+1,k,left,out,hl=>by
  have hi:next k % left.length<left.length:=Nat.mod_lt _ (by lia)
  unfold pickOrder.go;rw[aaI hi];dsimp only;refine (xR next fuel (k+1) _ _ (by rw[List.length_eraseIdx,if_pos hi];lia)).trans ?_
  rw[Array.toList_push,abD];exact List.Perm.append_left _ (rH _ _ hi)
theorem rJ {α:Type} (next:Nat->Nat) (xs:Array α):(pickOrder next xs).toList.Perm xs.toList:=by
 have:=xR next xs.size 0 xs.toList #[] (by simp)
 simpa [pickOrder] using this
noncomputable def d6 (first:Value) (i:Nat) (a:Addr) (n ep:Nat):Obj:={ cls:=.type "set_iterator",data:=.fields #[first,.int i 0,.ref a,.int n 0,.int ep 0] }
theorem xS {α:Type} {Q':α->Shared->Prop}{E':Value->Shared->Prop} (hh:A.handled=none) (h:∀ e h',Shared.TypeIs { s with heap:=h' } e "StopIteration"->(∀ b o,s.heap.get? b=some o->h'.get? b=some o)->E' e { s with heap:=h' }) :
  wpAny (model prog w) A.in1 (newExc (.type "StopIteration") [] >>= λe=>(raiseNew e:Sem α)) Q' E' s:=by
 refine aaC ?_;simp only[newExc,newTuple];refine aaC (aa6 ?_ (by size_fits));refine aaC (m:=firstArgMember _ _) (wpAny_of_eq (a:=abB) (by first |rfl |(simp only[firstArgMember];rfl)) (aa6 ?_ (by size_fits)))
 simp only[raiseNew];refine aaC (wpAny_handled ?_);rw[show A.in1.handled=none from hh];refine aaC (aaE (wpAny_throw (h (.ref _) _ ⟨_,aaG _ rfl,rfl⟩ λb o e=>aaD _ (aaD _ e))))
def fy (h:Heap) (a:Addr) (es:Array (Int×Value)) (ep:Nat) (t:SetTable):Prop:=h.get? a=some { cls:=.type "set",dict:=none,data:=.set es ep t,slots:=#[] }/\t.fits es.size=true
theorem rK {a:Addr}{es:Array (Int×Value)}{ep:Nat}{t:SetTable}{Q:Array (Int×Value)->Shared->Prop} (S:fy s.heap a es ep t) (h:Q es s):wpAny (model prog w) A (setEntries a) Q E s:=by
 unfold setEntries;exact aaC (abJ S.1 rfl S.2 (aaE h))
theorem jC {I:Addr}{vs:Array Value}{k:Nat}{v:Value}{Q:Unit->Shared->Prop} (ho:s.heap.get? I=some { cls:=.type "set_iterator",data:=.fields vs }) (hk:k<vs.size)
  (h:∀h',(∀b o,b≠I->s.heap.get? b=some o->h'.get? b=some o)->h'.get? I=some { cls:=.type "set_iterator",data:=.fields (vs.setIfInBounds k v) }->Q () { s with heap:=h' }):wpAny (model prog w) A (setField (.ref I) k v) Q E s:=by
 refine wpAny_setField ho rfl hk (h _ (λb o hb e=>?_) ?_)
 ·exact (aca _ _ (abx hb)).trans e
 ·have:=aa7 (abS (·.setIfInBounds k v)) ho (Obj.isFreed_of_fields (Obj.data_mapFields rfl _));rw[this];rfl
theorem nN {I a:Addr}{slot i n ep:Nat}{es:Array (Int×Value)}{t:SetTable}{r:Option (Value×Nat)}{Q:Option Value->Shared->Prop} (hh:A.handled=none) (hI:s.heap.get? I=some (d6 (.int slot 0) i a n ep)) (S:fy s.heap a es ep t) (hn:es.size=n)
  (hr:∀(A':Around) (E':Value->Shared->Prop) (Q':Option (Value×Nat)->Shared->Prop),Q' r s->wpAny (model prog w) A' (setNext a slot i ep) Q' E' s)
  (h:match r with
   |some (x,nx)=>∀h',(∀b o,b≠I->s.heap.get? b=some o->h'.get? b=some o)->h'.get? I=some (d6 (.int nx 0) (i+1) a n ep)->Q (some x) { s with heap:=h' }
   |none=>∀h',(∀b o,b≠I->s.heap.get? b=some o->h'.get? b=some o)->Q none { s with heap:=h' }):wpAny (model prog w) A (pyNext (.ref I)) Q E s:=by
 have hT:s.TypeIs (.ref I) "set_iterator":=⟨_,hI,rfl⟩;unfold pyNext;refine aaC (wpAny_attempt (aa8 (name:=abz "__next__") hT gT (abg gT hT xN ?_ (xP _))));unfold Builtin.«set_iterator.__next__»;refine aaC (aaE ?_);refine aaC (wpAny_fieldsOf hI rfl ?_);refine aaC (rK S ?_);rw[if_neg (by rw[hn];simp)];refine aaC (hr _ _ _ ?_);have YS:((slot:Int)).toNat=slot:=ack _;cases r with
 |some p=>
  obtain⟨x,nx⟩:=p;dsimp only at h ⊢;refine aaC (jC hI (by simp) λh1 k1 i1=>aaC (jC (s:={ s with heap:=h1 }) i1 (by simp) λh2 k2 i2=>?_));exact aaE ⟨_,rfl,aaE (h h2 (λb o hb e=>k2 b o hb (k1 b o hb e)) (by rw[i2];simp [d6,rawInt]))⟩
 |none=>
  dsimp only at h ⊢;refine aaC (jC hI (by simp) λh1 k1 i1=>?_);refine xS (s:={ s with heap:=h1 }) hh λe h2 lw k2=>?_;refine aaC (acd (T:="StopIteration") (b:=true) lw isSubtype_stop ?_);exact aaE (h h2 λb o hb e=>k2 b o (k1 b o hb e))
end
end L2
end
section
namespace L2
open PySem PySem.Spec PyProof.Rows PySem.W
section
variable {prog:Program}{w:World}{A:Around}{E:Value->Shared->Prop}{s:Shared}
theorem xT {I a tp:Addr}{i n ep:Nat}{es:Array (Int×Value)}{t:SetTable}{vs:Array Value}{m:Nat}{Q:Option Value->Shared->Prop} (hh:A.handled=none) (hI:s.heap.get? I=some (d6 (.ref tp) i a n ep)) (S:fy s.heap a es ep t) (hn:es.size=n)
  (hP:s.heap.get? tp=some { cls:=.type "tuple",data:=.seq vs m })
  (h:(∃(j:Nat) (u:Tok) (e:Int×Value),vs[i]?=some (.int j u)/\es[j]?=some e/\∀h',(∀b o,b≠I->s.heap.get? b=some o->h'.get? b=some o)->h'.get? I=some (d6 (.ref tp) (i+1) a n ep)->Q (some e.2) { s with heap:=h' }) \/
   (vs[i]?=none/\∀h',(∀b o,b≠I->s.heap.get? b=some o->h'.get? b=some o)->Q none { s with heap:=h' })):wpAny (model prog w) A (pyNext (.ref I)) Q E s:=by
 have hT:s.TypeIs (.ref I) "set_iterator":=⟨_,hI,rfl⟩;unfold pyNext;refine aaC (wpAny_attempt (aa8 (name:=abz "__next__") hT gT (abg gT hT xN ?_ (xP _))));unfold Builtin.«set_iterator.__next__»;refine aaC (aaE ?_);refine aaC (wpAny_fieldsOf hI rfl ?_);refine aaC (rK S ?_);rw[if_neg (by rw[hn];simp)];dsimp only;refine aaC (abW hP rfl ?_);dsimp only;rw[ack];rcases h with ⟨j,u,e,h1,h2,h3⟩ |⟨h1,h2⟩
 ·rw[h1];dsimp only;rw[ack,ack];have ZA:∀ {R:Value->Shared->Prop}{E':Value->Shared->Prop}{A':Around},R e.2 s->wpAny (model prog w) A' (setNextDrawn a j ep) R E' s:=λ{R E' A'} q=>by
   unfold setNextDrawn;refine aaC (abJ S.1 rfl S.2 ?_);dsimp only;rw[if_neg (by simp),h2];exact aaC (aaE (aaE q))
  refine aaC (ZA (aaC (jC hI (by simp) λh' k1 i1=>?_)));exact aaE ⟨_,rfl,aaE (h3 h' k1 (by rw[i1];simp [d6,rawInt]))⟩
 ·rw[h1];dsimp only;refine aaC (jC hI (by simp) λh3 k3 XM=>aaC (jC (s:={ s with heap:=h3 }) XM (by simp) λh4 ZD aar=>?_));refine xS (s:={ s with heap:=h4 }) hh λe h5 lw X7=>?_;refine aaC (acd (T:="StopIteration") (b:=true) lw isSubtype_stop ?_);exact aaE (h2 h5 λb o hb e=>X7 b o (ZD b o hb (k3 b o hb e)))
theorem iL {Q:Bool->Shared->Prop} (h:Q (w.params.followText "set-order") s):wpAny (model prog w) A setsByText Q E s:=by
 unfold setsByText;exact aaC (wpAny_askSetting (aaE h))
theorem rL {I:Addr}{o:Obj}{Q:Value->Shared->Prop} (hI:s.heap.get? I=some o) (hc:o.cls=.type "set_iterator") (h:Q (.ref I) s):wpAny (model prog w) A (pyIter (.ref I)) Q E s:=by
 have hT:s.TypeIs (.ref I) "set_iterator":=⟨_,hI,hc⟩;have IN:entryFor table "set_iterator.__iter__"=some Builtin.«dict_keyiterator.__iter__»:=entryFor_alias (id':="dict_keyiterator.__iter__") (by kernel_rfl) rfl (by decide +kernel) (by kernel_rfl);have arg:argsOk "set_iterator.__iter__" ⟨[.ref I],[]⟩:=by
  unfold argsOk;rw[signature?_of (id:="set_iterator.__iter__") (n:=['_','_','r','e','t','i','_','_']) (o:=['r','o','t','a','r','e','t','i','_','t','e','s']) (by kernel_rfl) xO];kernel_rfl
 refine wpAny_pyIter_slot hT xM (abg xM hT IN ?_ arg);unfold Builtin.«dict_keyiterator.__iter__»;refine aaC (aaE ?_);exact aaE ⟨_,rfl,"set_iterator",_,hT,gT.lookup,h⟩
theorem IU {I a:Addr} (d7:a≠I) {es:Array (Int×Value)}{ep:Nat}{t:SetTable} (Xo:w.params.followText "set-order"=true) (hh:A.handled=none) :
  WalksS prog w A I [I,a] [I] (λx y=>y=x) es.size (λi v=>((pickOrder (w.params.setOrder a ep) es).toList.map (·.2))[i]?=some v) (λi s=>s.heap.get? I=some (d6 (.int 0 0) i a es.size ep)/\fy s.heap a es ep t) where
 sub:=λb hb=>by simp at hb;simp [hb]
 grefl:=λ_=>rfl
 gtrans:=λ_ _ _ h1 h2=>h2.trans h1
 frame:=λi s h' tk st _ k=>⟨k I (by simp) _ st.1,k a (by simp) _ st.2.1,st.2.2⟩
 item:=λi s Q E hi st q=>by
  have hs:(pickOrder (w.params.setOrder a ep) es).toList.length=es.size:=by rw[(rJ _ es).length_eq,aaT]
  have em:i<(pickOrder (w.params.setOrder a ep) es).toList.length:=by lia
  have hx:(pickOrder (w.params.setOrder a ep) es)[i]?=some ((pickOrder (w.params.setOrder a ep) es).toList[i]):=by rw[<- abP];exact aaI em
  refine nN (slot:=0) (r:=some (((pickOrder (w.params.setOrder a ep) es).toList[i]).2,0)) hh st.1 st.2 rfl (λA' E' Q' q'=>?_) λh' k hI=>?_
  ·unfold setNext;refine aaC (abJ st.2.1 rfl st.2.2 (aaC (iL ?_)));rw[Xo,if_pos rfl,if_neg (by simp)];unfold setWalk;refine aaC (aaC (abJ st.2.1 rfl st.2.2 (aaC (iL ?_))));rw[Xo,if_pos rfl];refine aaC (wpAny_askSetting (aaE (aaE ?_)));show Q' (((pickOrder (w.params.setOrder a ep) es)[i]?).map λe=>(e.2,0)) s;rw[hx];exact q'
  ·refine q _ _ ?_ ⟨hI,k a _ d7 st.2.1,st.2.2⟩ ⟨λb o hb e=>k b o (λz=>hb (by simp [z])) e,rfl,rfl,rfl,aaH _⟩;rw[aaU,aaI em];rfl
 done:=λs Q E st q=>by
  have hs:(pickOrder (w.params.setOrder a ep) es).toList.length=es.size:=by rw[(rJ _ es).length_eq,aaT]
  have hx:(pickOrder (w.params.setOrder a ep) es)[es.size]?=none:=by rw[<- abP];exact abp (by lia)
  refine nN (slot:=0) (r:=none) hh st.1 st.2 rfl (λA' E' Q' q'=>?_) λh' k=>q _ ⟨λb o hb e=>k b o (λz=>hb (by simp [z])) e,rfl,rfl,rfl,aaH _⟩;unfold setNext;refine aaC (abJ st.2.1 rfl st.2.2 (aaC (iL ?_)));rw[Xo,if_pos rfl,if_neg (by simp)];unfold setWalk;refine aaC (aaC (abJ st.2.1 rfl st.2.2 (aaC (iL ?_))));rw[Xo,if_pos rfl];refine aaC (wpAny_askSetting (aaE (aaE ?_)));show Q' (((pickOrder (w.params.setOrder a ep) es)[es.size]?).map λe=>(e.2,0)) s;rw[hx];exact q'
 self:=λi s Q E st q=>rL st.1 rfl q
theorem IV {I a:Addr} (d7:a≠I) {es:Array (Int×Value)}{ep:Nat}{t:SetTable} (Xo:w.params.followText "set-order"=false) (led:t.led=true) (h1:es.size<=1) (hh:A.handled=none) :
  WalksS prog w A I [I,a] [I] (λx y=>y=x) es.size (λi v=>(es.toList.map (·.2))[i]?=some v) (λi s=>s.heap.get? I=some (d6 (.int (if i=0 then 0 else t.place.getD 0 0+1:Nat) 0) i a es.size ep)/\fy s.heap a es ep t) where
 sub:=λb hb=>by simp at hb;simp [hb]
 grefl:=λ_=>rfl
 gtrans:=λ_ _ _ h1 h2=>h2.trans h1
 frame:=λi s h' tk st _ k=>⟨k I (by simp) _ st.1,k a (by simp) _ st.2.1,st.2.2⟩
 item:=λi s Q E hi st q=>by
  obtain rfl:i=0:=by lia
  have hz:es.size=1:=by lia
  have hp:t.place.size=1:=by
   have:=st.2.2;simp only[SetTable.fits,aaW,beq_iff_eq]at this;lia
  have rM:(!t.plain && decide (es.size > 1))=false:=by rw[hz];simp
  refine nN (slot:=0) (r:=some ((es[0]'(by lia)).2,t.place.getD 0 0+1)) hh (by simpa using st.1) st.2 rfl (λA' E' Q' q'=>?_) λh' k hI=>?_
  ·unfold setNext;refine aaC (abJ st.2.1 rfl st.2.2 (aaC (iL ?_)));rw[Xo,if_neg aaQ];dsimp only;refine abZ (λz=>absurd (rM.symm.trans (show (!t.plain && decide (es.size > 1))=true from z)) aaQ) (λ_=>?_);refine aaC ?_;show wpAny _ _ (if (!t.led && !es.isEmpty)=true then _ else pure PUnit.unit) _ _ s
   rw[led,if_neg (by simp)];refine aaE (aaE ?_);have eb:SetTable.below t.place 0=0:=by
    unfold SetTable.below;rw[hp];simp [SetTable.below.go]
   rw[eb,abf (show 0<es.size by lia),abf (show 0<t.place.size by lia)];have Xw:t.place.getD 0 0=t.place[0]'(by lia):=(by rw[ace,abf (show 0<t.place.size by lia)];rfl);rw[Xw]at q';exact q'
  ·refine q _ _ ?_ ⟨by rw[if_neg (by lia)];exact hI,k a _ d7 st.2.1,st.2.2⟩ ⟨λb o hb e=>k b o (λz=>hb (by simp [z])) e,rfl,rfl,rfl,aaH _⟩;rw[aaU,abP,abf (show 0<es.size by lia)];rfl
 done:=λs Q E st q=>by
  have hp:t.place.size=es.size:=by
   have:=st.2.2;simp only[SetTable.fits,aaW,beq_iff_eq]at this;lia
  have rM:(!t.plain && decide (es.size > 1))=false:=by simp;lia
  refine nN (r:=none) hh st.1 st.2 rfl (λA' E' Q' q'=>?_) λh' k=>q _ ⟨λb o hb e=>k b o (λz=>hb (by simp [z])) e,rfl,rfl,rfl,aaH _⟩;unfold setNext;refine aaC (abJ st.2.1 rfl st.2.2 (aaC (iL ?_)));rw[Xo,if_neg aaQ];dsimp only;refine abZ (λz=>absurd (rM.symm.trans (show (!t.plain && decide (es.size > 1))=true from z)) aaQ) (λ_=>?_);refine aaC ?_;show wpAny _ _ (if (!t.led && !es.isEmpty)=true then _ else pure PUnit.unit) _ _ s
  rw[led,if_neg (by simp)];refine aaE (aaE ?_);have eb:SetTable.below t.place (if es.size=0 then 0 else t.place.getD 0 0+1)=es.size:=by
   rcases Nat.lt_or_ge es.size 1 with hz |hz
   ·have z0:es.size=0:=(by lia);unfold SetTable.below;rw[hp,z0];simp [SetTable.below.go]
   ·have z1:es.size=1:=(by lia);have Xw:∀d,t.place.getD 0 d=t.place[0]'(by lia):=λd=>(by rw[ace,abf (show 0<t.place.size by lia)];rfl);unfold SetTable.below;rw[hp,z1];simp [SetTable.below.go,Xw]
  rw[eb,Array.getElem?_eq_none (aaH _)];exact q'
 self:=λi s Q E st q=>rL st.1 rfl q
theorem IW {I a tp:Addr} (d7:a≠I) (IZ:tp≠I) {es:Array (Int×Value)}{ep m:Nat}{t:SetTable}{ps:List Nat} (hp:ps.Perm (ab6 es.size)) (hh:A.handled=none) :
  WalksS prog w A I [I,a,tp] [I] (λx y=>y=x) es.size (λi v=>(ps.map λj=>(es.getD j (0,.none)).2)[i]?=some v)
   (λi s=>s.heap.get? I=some (d6 (.ref tp) i a es.size ep)/\fy s.heap a es ep t/\s.heap.get? tp=some { cls:=.type "tuple",data:=.seq (ps.map λi=>rawInt (i:Nat)).toArray m }) where
 sub:=λb hb=>by simp at hb;simp [hb]
 grefl:=λ_=>rfl
 gtrans:=λ_ _ _ h1 h2=>h2.trans h1
 frame:=λi s h' tk st _ k=>⟨k I (by simp) _ st.1,⟨k a (by simp) _ st.2.1.1,st.2.1.2⟩,k tp (by simp) _ st.2.2⟩
 item:=λi s Q E hi st q=>by
  have hl:ps.length=es.size:=by rw[hp.length_eq,List.length_range]
  have em:i<ps.length:=by lia
  have hj:ps[i]<es.size:=List.mem_range.mp (hp.mem_iff.mp (acr em));refine xT hh st.1 st.2.1 rfl st.2.2 (.inl ⟨ps[i],0,es[ps[i]],?_,abf hj,λh' k hI=>?_⟩)
  ·simp [aaI em,rawInt]
  ·refine q _ _ ?_ ⟨hI,⟨k a _ d7 st.2.1.1,st.2.1.2⟩,k tp _ IZ st.2.2⟩ ⟨λb o hb e=>k b o (λz=>hb (by simp [z])) e,rfl,rfl,rfl,aaH _⟩;rw[aaU,aaI em];simp [ace,abf hj]
 done:=λs Q E st q=>by
  have hl:ps.length=es.size:=by rw[hp.length_eq,List.length_range]
  refine xT hh st.1 st.2.1 rfl st.2.2 (.inr ⟨?_,λh' k=>q _ ⟨λb o hb e=>k b o (λz=>hb (by simp [z])) e,rfl,rfl,rfl,aaH _⟩⟩);simp [hl]
 self:=λi s Q E st q=>rL st.1 rfl q
end
section
variable {prog:Program}{w:World}{A:Around}{E:Value->Shared->Prop}{s:Shared}
theorem Ja {a:Addr}{zs:List Str}{Q:Value->Shared->Prop} (S:cQ prog w s.heap a zs)
  (h:∀(I:Addr) (h':Heap) (d:Drawn) (fp:List Addr) (St:Nat->Shared->Prop) (os:List Value),(∀b o,s.heap.get? b=some o->h'.get? b=some o)->(∀b∈fp,s.heap.objs.size<=b\/b=a)->s.heap.objs.size<=I ->
   (∃ys:List Str,StrsAre os ys/\ys.Nodup/\∀x,x∈ys ↔ x∈zs)->(∀A':Around,A'.handled=none->WalksS prog w A' I fp [I] (λx y=>y=x) os.length (λi v=>os[i]?=some v) St)->(∀tk,St 0 { s with heap:=h',drawn:=d,toks:=tk })->Q (.ref I) { s with heap:=h',drawn:=d }) :
  wpAny (model prog w) A (pyIter (.ref a)) Q E s:=by
 obtain⟨es,ep,t,ho,gS,hf,jx,dv,hsz,nd,hm⟩:=S;have hT:s.TypeIs (.ref a) "set":=⟨_,ho,rfl⟩;have S0:fy s.heap a es ep t:=⟨ho,hf⟩;have la:a<s.heap.objs.size:=aaJ ho;have f9:∀os:List Value,os.Perm (es.toList.map (·.2))->∃ys:List Str,StrsAre os ys/\ys.Nodup/\∀x,x∈ys ↔ x∈zs:=λos p=>by
  have all:∀v∈os,∃u,v=.str (eD v) u:=λv hv=>by
   obtain⟨e,he,rfl⟩:=List.mem_map.mp (p.mem_iff.mp hv);obtain⟨u,h1,_⟩:=xF gS he;exact⟨u,h1⟩
  have iE:∀l:List Value,(∀v∈l,∃u,v=.str (eD v) u)->StrsAre l (l.map eD):=by
   intro l
   induction l with
   |nil=>intro _;exact .nil
   |cons v l ih=>
    intro hv;obtain⟨u,e⟩:=hv v aaO;have:=ih λx hx=>hv x (aaK _ hx);rw[aaR];rw[e];exact .cons _ u this
  have pp:(os.map eD).Perm (eE es.toList):=by
   have:=p.map eD;rw[List.map_map]at this;exact this
  exact⟨os.map eD,iE os all,pp.nodup_iff.mpr nd,λx=>(pp.mem_iff).trans (hm x)⟩
 refine wpAny_pyIter_slot hT F.slot_set_iter (abg F.slot_set_iter hT IS ?_ (F.args_set_iter_1 _));unfold Builtin.«frozenset.__iter__» Builtin.Frozenset.slot0;refine aaC (aaE ?_);unfold Builtin.Frozenset.sizeOf;refine aaC (aaC (rK S0 (aaE ?_)));unfold setDrawn;refine aaC (aaC (abJ S0.1 rfl S0.2 (aaC (iL (aaE ?_)))));have xU:a≠s.heap.objs.size:=aaL la;cases Xo:w.params.followText "set-order" with
 |true=>
  refine abZ (λz=>absurd z (by simp)) (λ_=>?_);refine aaC (aaE ?_);refine aaC (wpAny_setEpoch_of S0.1 rfl S0.2 ?_);unfold newFields;refine aaC (aa6 (aaE ⟨_,rfl,"set_iterator",_,⟨_,aaG _ rfl,rfl⟩,gT.lookup,?_⟩) (by size_fits));have pp:=(rJ (w.params.setOrder a ep) es).map (·.2);have ol:((pickOrder (w.params.setOrder a ep) es).toList.map (·.2)).length=es.size:=by rw[pp.length_eq];simp
  refine h s.heap.objs.size _ s.drawn [s.heap.objs.size,a] (λi s'=>s'.heap.get? s.heap.objs.size=some (d6 (.int 0 0) i a es.size ep)/\fy s'.heap a es ep t) ((pickOrder (w.params.setOrder a ep) es).toList.map (·.2)) (λb o e=>aaD _ e) (λb hb=>?_) (aaH _) (f9 _ pp) (λA' hA=>by rw[ol];exact IU xU (t:=t) Xo hA) (λtk=>⟨aaG _ rfl,aaD _ S0.1,S0.2⟩);simp at hb;rcases hb with rfl |rfl
  ·exact .inl (aaH _)
  ·exact .inr rfl
 |false=>
  rw[Xo]at jx;rcases Nat.lt_or_ge 1 es.size with h2 |h1
  ·have pl:t.plain=false:=by
    rcases dv with z |z
    ·exact z
    ·rw[z]at h2;simp at h2
   refine abZ (λ_=>?_) (λz=>absurd (show (!false && (!t.plain && decide (es.size > 1)))=true by rw[pl];simp;lia) z);refine aaC (xQ es.size (ab6 es.size) s _ (by simp) λps d hp=>?_);refine aaC (wpAny_newTuple ?_ (by rw[aaN,hp.length_eq,List.length_range];exact fits_of_scanBound (by show es.size<4096;lia)));have o1:∀{o:Obj}{b:Addr},s.heap.get? b=some o->(s.heap.push { cls:=.type "tuple",data:=.seq (ps.map λ(i:Nat)=>rawInt i).toArray }).get? b=some o:=λe=>aaD _ e;refine aaC (wpAny_setEpoch_of (o1 S0.1) rfl S0.2 ?_);unfold newFields;refine aaC (aa6 (aaE ⟨_,rfl,"set_iterator",_,⟨_,aaG _ rfl,rfl⟩,gT.lookup,?_⟩) (by size_fits));have hl:ps.length=es.size:=(by rw[hp.length_eq,List.length_range]);have pp:(ps.map λj=>(es.getD j (0,.none)).2).Perm (es.toList.map (·.2)):=by
    refine (hp.map _).trans ?_;have e:(ab6 es.size).map (λj=>(es.getD j (0,.none)).2)=es.toList.map (·.2):=by
     refine List.ext_getElem? λi=>?_;rw[aaU,aaU];by_cases hi:i<es.size
     ·have a1:(ab6 es.size)[i]?=some i:=(by simp [hi]);have a2:es.toList[i]?=some es[i]:=(by simp [hi]);rw[a1,a2];simp [ace,abf hi]
     ·have a1:(ab6 es.size)[i]?=none:=(by simp;lia);have a2:es.toList[i]?=none:=(by simp;lia);rw[a1,a2];rfl
    rw[e]
   have ev:(s.heap.push { cls:=.type "tuple",data:=.seq (ps.map λ(i:Nat)=>rawInt i).toArray }).objs.size=s.heap.objs.size+1:=aba _ _;have n1:a≠(s.heap.push { cls:=.type "tuple",data:=.seq (ps.map λ(i:Nat)=>rawInt i).toArray }).objs.size:=(by rw[ev];exact aaL (aa' la));have n2:s.heap.objs.size≠(s.heap.push { cls:=.type "tuple",data:=.seq (ps.map λ(i:Nat)=>rawInt i).toArray }).objs.size:=(by rw[ev];exact aaL (ab0 _));refine h (s.heap.push { cls:=.type "tuple",data:=.seq (ps.map λ(i:Nat)=>rawInt i).toArray }).objs.size _ d [(s.heap.push { cls:=.type "tuple",data:=.seq (ps.map λ(i:Nat)=>rawInt i).toArray }).objs.size,a,s.heap.objs.size]
    (λi s'=>s'.heap.get? (s.heap.push { cls:=.type "tuple",data:=.seq (ps.map λ(i:Nat)=>rawInt i).toArray }).objs.size=some (d6 (.ref s.heap.objs.size) i a es.size ep)/\fy s'.heap a es ep t/\s'.heap.get? s.heap.objs.size=some { cls:=.type "tuple",data:=.seq (ps.map λi=>rawInt (i:Nat)).toArray 0 })
    (ps.map λj=>(es.getD j (0,.none)).2) (λb o e=>aaD _ (o1 e)) (λb hb=>?_) (by rw[ev];exact Nat.le_succ _) (f9 _ pp) (λA' hA=>by rw[aaN,hl];exact IW (m:=0) n1 n2 (t:=t) (ep:=ep) hp hA) (λtk=>⟨aaG _ rfl,⟨aaD _ (o1 S0.1),S0.2⟩,aaD _ (aaG _ rfl)⟩)
   simp only[aa0,aa2,or_false]at hb;rcases hb with rfl |rfl |rfl
   ·exact .inl (by rw[ev];exact Nat.le_succ _)
   ·exact .inr rfl
   ·exact .inl (aaH _)
  ·refine abZ (λz=>absurd (show (!false && (!t.plain && decide (es.size > 1)))=true from z) (by simp;lia)) (λ_=>?_);refine aaC (aaE ?_);refine aaC (wpAny_setEpoch_of S0.1 rfl S0.2 ?_);unfold newFields;refine aaC (aa6 (aaE ⟨_,rfl,"set_iterator",_,⟨_,aaG _ rfl,rfl⟩,gT.lookup,?_⟩) (by size_fits));have ol:(es.toList.map (·.2)).length=es.size:=(by simp);refine h s.heap.objs.size _ s.drawn [s.heap.objs.size,a] (λi s'=>s'.heap.get? s.heap.objs.size=some (d6 (.int (if i=0 then 0 else t.place.getD 0 0+1:Nat) 0) i a es.size ep)/\fy s'.heap a es ep t) (es.toList.map (·.2)) (λb o e=>aaD _ e) (λb hb=>?_) (aaH _) (f9 _ (.refl _)) (λA' hA=>by rw[ol];exact IV xU (t:=t) Xo (by simpa using jx) h1 hA) (λtk=>⟨aaG _ rfl,aaD _ S0.1,S0.2⟩)
   simp at hb;rcases hb with rfl |rfl
   ·exact .inl (aaH _)
   ·exact .inr rfl
theorem Jb {r:Addr}{Q:Bool->Shared->Prop} (hT:s.TypeIs (.ref r) "set") (h:Q false s):wpAny (model prog w) A (Builtin.List.listLengthHint (.ref r)) Q E s:=by
 unfold Builtin.List.listLengthHint;refine aaC (wpAny_specialOf hT PySem.F.slot_set_len.lookup ?_);generalize xV:("set.__len__" : String)=Jc
 wp_delta
 rw[show splitId Jc=some ("set","__len__") from by subst xV;decide +kernel];subst xV;refine aaC (acd (T:="set") (b:=true) hT (by rw[isSubtype_type];kernel_rfl) ?_);refine abZ (λz=>absurd z (by decide)) (λ_=>abZ (λ_=>aaC (wpAny_typeOf hT (aaE h))) (λz=>absurd (by decide +kernel) z))
theorem Jd {a : Addr} {zs : List Str} {R : List Value -> Shared -> Prop} (hh : A.handled = none) (S : cQ prog w s.heap a zs) (hz : zs.length < 3900)
    (h:∀(h':Heap) (tk:Nat) (d:Drawn) (os:List Value) (ys:List Str),(∀b o,s.heap.get? b=some o->h'.get? b=some o)->StrsAre os ys->ys.Nodup->(∀x,x∈ys ↔ x∈zs)->R os { s with heap:=h',toks:=tk,drawn:=d }) :
    wpAny (model prog w) A (collect (.ref a)) R E s:=by
  have la:a<s.heap.objs.size:=let ⟨_,_,_,ho,_⟩:=S;aaJ ho
  unfold collect;refine aaC (wpAny_runValue (abH entry_proto_collect' ?_));rw[abm PySem.F.plain_proto_collect _];show wpAny _ A.in1 (newList [] >>= λu=>again (.builtin "list.__iadd__" ⟨[u,.ref a],[]⟩)) _ _ s;refine aaC (aa6 (aaE ⟨abK PySem.F.plain_list_iadd _,abH entry_list_iadd' ?_⟩));rw[abm PySem.F.plain_list_iadd _];have hL:(s.heap.push { cls:=.type "list",data:=.seq ([]:List Value).toArray }).get? s.heap.objs.size=some { cls:=.type "list",data:=.seq #[] }:=aaG _ rfl;have S1:cQ prog w (s.heap.push { cls:=.type "list",data:=.seq ([]:List Value).toArray }) a zs:=S.at λo e=>aaD _ e;have hT:Shared.TypeIs { s with heap:=s.heap.push { cls:=.type "list",data:=.seq ([]:List Value).toArray } } (.ref a) "set":=let ⟨_,_,_,ho,_⟩:=S1;⟨_,ho,rfl⟩
  have ev:(s.heap.push { cls:=.type "list",data:=.seq ([]:List Value).toArray }).objs.size=s.heap.objs.size+1:=aba _ _;have k0:∀b o,s.heap.get? b=some o->(s.heap.push { cls:=.type "list",data:=.seq ([]:List Value).toArray }).get? b=some o:=λb o e=>aaD _ e;show wpAny _ A.in1 (Builtin.List.listExtendWith (.ref s.heap.objs.size) (.ref a) (.ref s.heap.objs.size)) _ _ _;generalize s.heap.push { cls:=.type "list",data:=.seq ([]:List Value).toArray }=g1 at hL S1 hT ev k0 ⊢;have xW:s.heap.objs.size≠a:=abh la;unfold Builtin.List.listExtendWith;refine aaC (wpAny_typeOf (T:="set") hT ?_);have e1:Builtin.List.listSameRef (.ref s.heap.objs.size) (.ref a)=false:=by simp [Builtin.List.listSameRef,xW]
  simp only[e1,show (acg "set" == acg "list")=false by decide,show (acg "set" == acg "tuple")=false by decide,Bool.or_false,Bool.false_eq_true,if_false];refine aaC (Ja S1 λI h2 d fp St os k2 iM hI iE W st=>?_);obtain⟨ys,sa,nd,mem⟩:=iE;have rN:=k2 _ _ hL;have nf:s.heap.objs.size ∉ fp:=λz=>by
    rcases iM _ z with q |q
    · rw[ev]at q;lia
    · exact xW q
  have Y3:s.heap.objs.size≠I:=by rw[ev]at hI;lia
  have lw:Shared.TypeIs { s with heap:=h2,drawn:=d } (.ref a) "set":=let ⟨_,_,_,ho,_⟩:=S1;⟨_,k2 _ _ ho,rfl⟩
  refine aaC (abr (Jb lw ?_));have lo:os.length=ys.length:=sa.length;have nO:os.length<=sizeLine:=by
    have:=List.Nodup.length_le_of_subset nd λy hy=>(mem y).mp hy;exact aaZ (show os.length<=4000 by lia) (by decide)
  have key : ∀ (g : Heap) (c tk : Nat), St 0 { s with heap := g, drawn := d, toks := tk } -> (∀ b o, b ≠ s.heap.objs.size -> h2.get? b = some o -> g.get? b = some o) -> g.get? s.heap.objs.size = some { cls := .type "list", data := .seq #[] c } ->
      codeAny (model prog w) A (.builtin "list.extend.loop" ⟨[.ref s.heap.objs.size,.ref I,.ref s.heap.objs.size],[]⟩) (λr s'=>∃ (h':Heap) (tk:Nat) (am:Array Value) (c':Nat),r=.ok (.ret (.ref s.heap.objs.size))/\s'={ s with heap:=h',toks:=tk,drawn:=d }/\(∀ b o,s.heap.get? b=some o->h'.get? b=some o) /\
        h'.get? s.heap.objs.size=some { cls:=.type "list",dict:=none,data:=.seq am c',slots:=#[] }/\ItemsOf (λi v=>os[i]?=some v) am os.length) { s with heap:=g,drawn:=d,toks:=tk }:=by
    intro g c tk ce Yq hg;refine codeAny_extend_loopS (W A.in1 (by simpa using hh)) nO s.heap.objs.size nf (.ref s.heap.objs.size) os.length 0 _ #[] c rfl (abA _) ce hg (ItemsOf.nil _) λs' am c' m hS' jv=>?_;obtain⟨hx,gx,dx,YQ,ZE⟩:=s';have Xw:gx=s.gens:=m.gens;have Yr:dx=d:=m.drawn;have Ys:ZE=s.os:=m.os;subst Xw;subst Yr;subst Ys;refine⟨hx,YQ,am,c',rfl,rfl,λb o e=>?_,hS',jv⟩;have lb:=aaJ e;refine m.heap b o ?_ (Yq b o (aaL lb) (k2 b o (k0 b o e)));simp only[aa0,aa2,or_false,not_or];exact⟨aaL lb,aaL (abi lb (by rw[ev]at hI;exact hI))⟩
  have fin : ∀ (r : Result) (s' : Shared), (∃ (h' : Heap) (tk : Nat) (am : Array Value) (c' : Nat), r = .ok (.ret (.ref s.heap.objs.size)) ∧ s' = { s with heap := h', toks := tk, drawn := d } ∧ (∀ b o, s.heap.get? b = some o → h'.get? b = some o) ∧
        h'.get? s.heap.objs.size=some { cls:=.type "list",dict:=none,data:=.seq am c',slots:=#[] }/\ItemsOf (λi v=>os[i]?=some v) am os.length)->∃(h':Heap) (tk c':Nat),r=.ok (.ret (.ref s.heap.objs.size))/\s'={ s with heap:=h',toks:=tk,drawn:=d }/\h'.get? s.heap.objs.size=some { cls:=.type "list",dict:=none,data:=.seq os.toArray c',slots:=#[] }/\R os { s with heap:=h',toks:=tk,drawn:=d }:=by
    rintro r s' ⟨h',tk,am,c',rfl,rfl,k,hS',jv⟩;have e:am=os.toArray:=by
      refine Array.ext (by rw[aaF];exact jv.1) λi h1 h2=>?_;have:=jv.2 i am[i] (abf h1);rw[aaF]at h2;rw[aaI h2]at this;injection this with this;rw[<- this];simp
    subst e;exact⟨h',tk,c',rfl,rfl,hS',h h' tk d os ys k sa nd mem⟩
  refine abZ (λ_=>?Je) (λ_=>aaE ⟨abK PySem.F.plain_extend_loop _,codeAny_mono (key h2 0 s.toks (st _) (λb o _ e=>e) rN) λr s' y=>?last⟩)
  case last=>
    obtain⟨h',tk,c',rfl,rfl,hS',q⟩:=fin r s' y;show wpAny _ A (load s.heap.objs.size >>= _) _ _ _;exact aaC (wpAny_load hS' (aaE q))
  case Je=>
    refine aaC (wpAny_rule (aaC ?_));show wpAny _ _ (updateSeq s.heap.objs.size (·.push .none) >>= λ_=>updateSeq s.heap.objs.size (·.pop)) _ _ _;refine aaC (wpAny_updateSeq rN rfl ?_);have u2:=aa7 (abl (·.push abB)) rN rfl;refine wpAny_updateSeq (hz:=by seq_fits) u2 rfl ?_;have u3:=aa7 (abl (·.pop)) u2 rfl;have ge:∀b o,b≠s.heap.objs.size->h2.get? b=some o->((h2.update s.heap.objs.size (abl (·.push abB))).update s.heap.objs.size (abl (·.pop))).get? b=some o:=λb o hb e=>(aca _ _ (abx hb)).trans ((aca _ _ (abx hb)).trans e);refine aaE ⟨abK PySem.F.plain_extend_loop _,codeAny_mono (key _ _ s.toks ((W A hh).frame 0 _ _ _ (st s.toks) (aaH _) λb hb o e=>ge b o (λz=>nf (z ▸ hb)) e) ge u3) λr s' y=>?_⟩;obtain⟨h',tk,c',rfl,rfl,hS',q⟩:=fin r s' y;show wpAny _ A (load s.heap.objs.size >>= _) _ _ _;exact aaC (wpAny_load hS' (aaE q))
end
end L2
end
section
namespace L2
open PySem PySem.Spec PyProof.Rows
theorem Jf:bootBuiltins "set"=some (.type "set"):=by decide +kernel
theorem Jg:bootBuiltins "dict"=some (.type "dict"):=by decide +kernel
theorem Jh:bootBuiltins "max"=some (.builtin "max"):=by decide +kernel
theorem Ji:bootBuiltins "all"=some (.builtin "all"):=by decide +kernel
section
variable {X:Cx}
theorem Jj:aA X (binaryOp .FloorDiv) (rI (λ_ j=>0<j/\j<2 ^ 200) λi j=>.int (i / j)):=ig λi j _ _ _ _ _ hc q=>by
 have h1:(0:Int)<j:=hc.1;have h2:j<2 ^ 200:=hc.2;have h3:j.natAbs<2 ^ 200:=by lia
 exact floordiv_int (by lia) (by rw[Int.fdiv_eq_ediv_of_nonneg i (by lia)];exact q) (.inl (PyProof.noPylong_of_log2 (aaM ((Nat.log2_lt (by lia)).mpr h3) (by decide))))
def Jk:V->List V->Hp->VK->Prop:=λx xs H Q=>∃a b:Str,x=.str a/\xs=[.str b]/\(b.length == 0)=false/\a.length+2<=sizeLine/\∀p,H p=none->Q (.ref p) (ag H p (.lst ((Txt.split a b).map V.str)))
theorem Jl:eC X "str.split" Jk:=by
 intro pins s σ H x xs v us Q I rx Jm h;obtain⟨a,b,rfl,rfl,hb,hz,q⟩:=h;obtain⟨t,rfl⟩:=rx;obtain⟨u,rfl,ru⟩:=Jm.one;obtain⟨t2,rfl⟩:=ru;have hn:(Builtin.Str.partsBetween a (acn a b 0 a.length (a.length+1)) b.length).length<=sizeLine:=by
  have e1:=StrLaws.occ_length_le a b 0 a.length (a.length+1);rw[length_partsBetween];lia
 have fin:∀(l:List (Str×Tok)) (k:Nat),l.map (·.1)=Txt.split a b->l.length<=sizeLine->EP X pins σ Q (.ref s.heap.objs.size) { s with heap:=s.heap.push { cls:=.type "list",data:=.seq (strValues l).toArray },toks:=k }:=λl k e hl=>
  ⟨.ref _,_,I.qJ (t':=k) (nA (strsAre_of_values l)) (by rw[aaN,aaN];exact hl),rfl,by rw[e];exact q _ I.fresh⟩
 cases h1:(decide (a.length<b.length) ||decide (Builtin.Str.strKind a<Builtin.Str.strKind b))
 case true=>exact acq F.slot_str_split (typeIs_str _ _ _) F.entry_str_split (F.args_str_split_2 _ _) (meets_str_split_cannot_occur a b t t2 h1) (fin [(a,t)] s.toks (if_pos h1).symm (by show 1<=sizeLine;decide))
 cases hf:(acn a b 0 a.length (a.length+1)).isEmpty
 case true=>exact acq F.slot_str_split (typeIs_str _ _ _) F.entry_str_split (F.args_str_split_2 _ _) (meets_str_split_not_found a b t t2 h1 hb hf) (fin [(a,t)] s.toks ((if_neg (ne_true_of_eq_false h1)).trans (if_pos hf)).symm (by show 1<=sizeLine;decide))
 refine acq F.slot_str_split (typeIs_str _ _ _) F.entry_str_split (F.args_str_split_2 _ _) (meets_str_split_sep a b t t2 h1 hb hf (by lia) hn) ?_;show wants _ _ _ { s with toks:=_,heap:=s.heap.push { cls:=.type "list",data:=.seq (strsFrom s.toks (Builtin.Str.partsBetween a (acn a b 0 a.length (a.length+1)) b.length)).toArray } };rw[strsFrom_eq];refine fin (numbered s.toks _) _ ((numbered_texts _ _).trans ((if_neg (ne_true_of_eq_false h1)).trans (if_neg (ne_true_of_eq_false hf))).symm) ?_;have e:=congrArg List.length (numbered_texts s.toks (Builtin.Str.partsBetween a (acn a b 0 a.length (a.length+1)) b.length));rw[aaN]at e;rw[e];exact hn
theorem ab.Jn {pins:List (Addr×Obj)} {σ:St} {H:Hp}{s:Shared} (I:ab X pins σ H s) (d:Drawn):ab X pins σ H { s with drawn:=d }:=⟨I.ok,I.os,I.bT,I.base,I.bL,I.cell,I.free,I.dV,I.cA,I.ae,I.len⟩
theorem Jo {pins:List (Addr×Obj)}{s:Shared} {σ:St} {H:Hp}{a:Addr}{zs:List Str}{Q:VK} (hc:X.calm=true) (I:ab X pins σ H s) (S:cQ X.prog X.w s.heap a zs) (wT:zs.length<64)
  (q:∀(p:Addr) (ys:List Str),H p=none->ys.Nodup->(∀x,x∈ys ↔ x∈zs)->sortedS ys=true->Q (.ref p) (ag H p (.lst (ys.map V.str)))) :
  wpAny (model X.prog X.w) X.A (call (.builtin "sorted") [.ref a]) (EP X pins σ Q) X.xe s:=by
 have hh:=I.ok.hd hc;refine Calls.call_function_entry kind_sorted plain_sorted entry_sorted (args_sorted1 _) ?_;unfold Builtin.«sorted»;refine aaC (m:=checkCount "sorted" 1 1 _) (aaE ?_);refine aaC (Jd (A:=X.A.in1) hh S (by lia) λh' tk d os ss keep hS nd mem=>?_);have hl:os.length=ss.length:=hS.length;have le:ss.length<=zs.length:=List.Nodup.length_le_of_subset nd λy hy=>(mem y).mp hy;have nO:os.length<=sizeLine:=aaZ (show os.length<=64 by lia) (by decide);refine aaC (wpAny_newList ?_ nO);have fT:(h'.push { cls:=.type "list",data:=.seq os.toArray }).get? h'.objs.size=some (seqObj "list" os.toArray 0):=aaG _ rfl;refine aaC (abr (abg slot_list_sort ⟨_,fT,rfl⟩ entry_list_sort (list_sort_treeK strKind_oneLt fT hS.keysOf (λv₁ v₂ rest e=>keyKind_strs (by rw[<- e];exact hS)) (by lia) λce a1 a2=>⟨_,rfl,?_⟩) (args_list_sort _)));obtain⟨ys,b1,b2,Xk⟩:=sorted_out_str hS a1 a2;refine aaE ⟨_,rfl,?_⟩;have I1:ab X pins σ H { s with heap:=h',toks:=tk,drawn:=d }:=(I.bD (t':=tk) keep).Jn d;obtain⟨e,qW⟩:=sortedHeap_at (out:=(arrOf ce).map (·.2)) fT;have hz:(ys.map V.str).length<=sizeLine:=by rw[aaN,b2.length_eq,<- hl];exact nO
 refine⟨.ref h'.objs.size,ag H h'.objs.size (.lst (ys.map V.str)),?_,rfl,q _ ys (I1.ae.fresh (aaH _)) (b2.nodup_iff.mpr nd) (λx=>b2.mem_iff.trans (mem x)) Xk⟩;refine I1.laid (t':=tk) (λb o hb=>?_) (aaH _) ⟨hz,_,e,nA b1,?_⟩
 ·have bV:b<h'.objs.size:=aaJ hb;rw[sortedHeap_old (aaL bV) (by rw[aba];exact aa' bV)];exact aaD _ hb
 ·rw[qW]
theorem xX:∀{us:List Value}{ys:List Str},aq (ys.map V.str) us->StrsAre us ys
 |_,[],h=>by cases h;exact .nil
 |_,y::ys,h=>by
  rw[aaR]at h;cases h with
  |cons r rs=>
   obtain⟨t,rfl⟩:=r;exact .cons _ _ (xX rs)
end
section
variable {X:Cx}
def Jp (K:PySem.W.Frag):R2:=λx y H Q=>∃a b xs,x=.ref a/\y=.ref b/\aT K H a xs/\H b=some (.lst [])/\Q (.bl (decide (xs=[]))) H
theorem Jq (hu:X.A.units<cLine):aA X (compareOp .Eq) (Jp X.K):=by
 intro pins s σ H x y v u Q I rx ry h;obtain⟨a,b,xs,rfl,rfl,ha,hb,q⟩:=h;cases rx;cases ry;obtain⟨its,r,p,_⟩:=I.list ha;obtain⟨aU,r2,p2,_⟩:=I.list (aT.of hb);cases r2;by_cases hx:xs=[]
 ·subst hx;cases r;refine SeqAt.RcAt.lists (A:=X.A) (e:=λ_=>true) p.isList p2.isList rfl hu (λj h1=>by simp at h1) _ _ _ _ ⟨.bl true,H,I,rfl,?_⟩;simpa using q
 ·refine acj (A:=X.A) p.isList p2.isList ?_ hu _ _ _ _ ⟨.bl false,H,I,rfl,?_⟩
  ·have:=r.length;have h0:its≠[]:=λz=>hx (by subst z;cases xs with |nil=>rfl |cons _ _=>simp at this);cases its with
   |nil=>exact absurd rfl h0
   |cons _ _=>simp
  ·rw[decide_eq_false hx]at q;exact q
end
section
variable {H:Hp}{p c:Addr}{cs:List Int}{n r t:Int}{kn:Option Int}{kvs:List (Key×V)}
end
def xY (i j:Int):Prop:=i.natAbs<2 ^ 600/\j.natAbs<2 ^ 600
theorem xZ {a:Int} (h:a.natAbs<2 ^ 600):Builtin.Int.intBits a<=2 ^ 20:=by
 unfold Builtin.Int.intBits;split
 ·exact abA _
 ·rename_i z;have hz:a.natAbs≠0:=by first |exact λe=>z (by simpa using e) |(intro e;apply z;lia)
  have:=(Nat.log2_lt hz).mpr h;lia
section
variable {X:Cx}
theorem Jr:aA X (binaryOp .Mult) (rI xY λi j=>.int (i * j)):=ig λ_ _ _ _ _ _ _ hc q=>mul_int q (.of_bits (xZ hc.1) (xZ hc.2))
end
end L2
end
section
namespace L2
open PySem PySem.Spec PyProof.Rows PyProof.V
section
variable {X:Cx}
variable {pos:Pos}
def Js (K:PySem.W.Frag) (n:Nat) (t:fc):TG:=λv σ H Q=>∃a xs,v=.ref a/\aT K H a xs/\xs.length=n/\t xs σ H Q
theorem Jt {es:List Expr}{k:Nat}{t:fc}{n:Nat} (hc:X.calm=true) (h:jq X es t)
  (hn:(assignEach es X.env).length=n:=by rfl) (fV:(assignEach es X.env).findIdx? (·.1)=none:=by rfl):PG X (.Tuple es k pos) (Js X.K n t):=by
 intro pins s σ H v u Q I r hw;obtain⟨a,xs,e1,hq,hl,hw⟩:=hw;subst e1;cases r;obtain⟨its,rv,pl,_⟩:=I.list hq;have Ju:s.heap.IsList a its.toArray:=pl.isList;have len:its.toArray.size=n:=by rw[aaF,<- rv.length,hl]
 rw[assign_Tuple];refine aaC (wpAny_standAt ?_);unfold unpack;rw[hn,fV,<- len];refine aaC (abr (PySem.W.kun_itemsOf (I.ok.hd hc) Ju λh' ext=>?_));have I1:ab X pins σ H { s with heap:=h' }:=I.bD (t':=s.toks) λb o e=>ext b o (aaL (aaJ e)) e;exact h pins _ σ H xs _ Q I1 (by simpa using rv) hw
end
end L2
end
section
namespace L2
open PySem PySem.Spec PyProof.Rows
section
variable {X:Cx}{pos ff b3:Pos}{o e value:Expr}{es:List Expr}{f:Str}{ta tv to te:TE}{tA:TA}
def Jv:List V->Hp->VK->Prop:=λxs H Q=>∃(a:Addr) (kvs:List (Key×V)),xs=[.ref a]/\H a=some (.dK kvs)/\∀p,H p=none->Q (.ref p) (ag H p (.dK kvs))
theorem Jw:bp X (.type "dict") Jv:=by
 intro pins s σ H xs us Q I r h;obtain⟨a,kvs,rfl,ha,q⟩:=h;obtain⟨u,rfl,ru⟩:=r.one;cases ru;obtain⟨z,lo,vs,rel,dd⟩:=nt I.ae ha;have hlen:kvs.length=vs.length:=rel.length;refine kt_call_dict lo dd (by rw[<- hlen];exact z) λh' hm hs=>?_;have keep:∀b o,s.heap.get? b=some o->h'.get? b=some o:=λb o e=>hs.extBut b o (aaL (aaJ e)) (aaD _ e);have gG:(s.heap.objs.size == sysModules)=false:=by
  have:=I.gG;simp only[beq_eq_false_iff_ne];exact abh this
 exact⟨.ref s.heap.objs.size,ag H s.heap.objs.size (.dK kvs),I.laid (t':=s.toks) keep (aaH _) ⟨z,gG,vs,rel,hm⟩,rfl,q _ I.fresh⟩
theorem rO:∀{xs:List V}{us:List Value}{i:Nat}{v:Value},aq xs us->us[i]?=some v->∃x,xs[i]?=some x/\av x v
 |_,_,i,v,.nil,e=>by simp at e
 |_,_,0,v,.cons r _,e=>by simp at e;subst e;exact⟨_,rfl,r⟩
 |_,_,i+1,v,.cons _ t,e=>by
  obtain⟨x,h1,h2⟩:=rO (i:=i) t (by simpa using e);exact⟨x,by simpa using h1,h2⟩
def Jx (K:PySem.W.Frag):List V->Hp->VK->Prop:=λws H Q=>∃(p:Addr) (bs:List Bool),ws=[.ref p]/\aT K H p (bs.map V.bl)/\Q (.bl (bs.all id)) H
theorem Jy (hc:X.calm=true):bp X (.builtin "all") (Jx X.K):=by
 intro pins s σ H ws us Q I r h;obtain⟨p,bs,rfl,hq,q⟩:=h;obtain⟨u,rfl,ru⟩:=r.one;cases ru;have hh:=I.ok.hd hc;obtain⟨its,rv,pl,_⟩:=I.list hq;have hl:s.heap.IsList p its.toArray:=pl.isList;obtain⟨ob,o1,o2,k,o3⟩:=id hl;have ne:p≠s.heap.objs.size:=aaL (aaJ o1);have W:=(Walks.list (prog:=X.prog) (w:=X.w) (A:=X.A.in1) hh s.heap.objs.size p ne its.toArray).toS;have lb:its.length=bs.length:=by have:=rv.length;rw[aaN]at this;exact this.symm
 have ZF:∀(i:Nat) (v:Value),its.toArray[i]?=some v->v=.bool (bs.getD i false):=λi v e=>by
  have e':its[i]?=some v:=by simpa using e
  have hi:i<bs.length:=by have:=(List.getElem?_eq_some_iff.mp e').1;lia
  obtain⟨x,h1,h2⟩:=rO rv e';rw[aaU,aaI hi]at h1;cases h1;rw[abM,aaI hi];exact h2
 refine call_all_walkS (wpAny_pyIter_list hl ?_);refine⟨s.heap.objs.size,_,_,_,_,_,_,λi=>bs.getD i false,rfl,W,⟨⟨_,aaG _ rfl,rfl,rfl⟩,hl.push _⟩,?_,λs' hm=>?_⟩
 ·intro i v s' Q' E' hP im;rw[ZF i v hP];exact ab8 im
 ·obtain⟨h',g',d',db,kM⟩:=s';have z1:g'=s.gens:=hm.gens;have z2:d'=s.drawn:=hm.drawn;have z3:kM=s.os:=hm.os;subst z1 z2 z3;have keep:∀ b o,s.heap.get? b=some o->h'.get? b=some o:=λb o e=>hm.heap b o (λhb=>absurd (aaJ e) ((List.mem_singleton.mp hb) ▸ abT _)) (aaD _ e);refine⟨.bl (bs.all id),H,I.bD (t':=db) keep,?_,q⟩;have e:(ab6 its.toArray.size).all (λi=>bs.getD i false)=bs.all id:=by
   rw[aaF,lb];have:(ab6 bs.length).map (λi=>bs.getD i false)=bs:=by
    refine List.ext_getElem? λi=>?_;by_cases hi:i<bs.length
    ·rw[aaU,aaI (by simpa using hi),aaI hi];simp [abM,aaI hi]
    ·rw[abp (by simpa using hi),abp (by lia)]
   conv=>rhs;rw[<- this]
   rw[List.all_map];rfl
  rw[e];rfl
end
section
variable {X:Cx}
end
section
variable {X:Cx}
end
end L2
end
section
namespace Kn
open PySem PySem.W PyProof.Rows
section
variable {lt:Nat->Nat->Bool}
end
end Kn
namespace L2
open PySem PySem.Spec PyProof.Rows PySem.W
section
open PySem.SeqAt
open PySem.AutoSeq1 (wpAny_loadPart')
open PySem.MeetsSeq PySem.MeetsSeq2 PySem.MeetsSeq3
variable {P:Program}{w:World}{H:Hp}
end
end L2
end
section
namespace L2
open PySem PySem.Spec PyProof.Rows PySem.W
theorem aQ.x3 {P:Program}{w:World}{H:Hp}{h h':Heap}{a:Addr} (x:aQ P w H h) (ha:H a=none) (k:∀b u,b≠a->h.get? b=some u->h'.get? b=some u):aQ P w H h':=λb o e=>
 (x b o e).el (λc u hc q=>k c u (by rintro rfl;rcases hc with rfl |hc;(· rw[ha]at e;cases e);(· rw[ha]at hc;cases hc)) q) (λ_ q=>q) λ_ _ q=>q
section
variable {prog:Program}{w:World}{A:Around}{E:Value->Shared->Prop}{s:Shared}{H:Hp}
end
section
variable {X:Cx}
end
end L2
end
section
namespace Tm
open PySem PySem.W PyProof.Rows
section
variable {M:Model}{A:Around}{E:Value->Shared->Prop}{s:Shared} {κ:SortKind} {S:Keyed->Prop}{L:Keyed->Keyed->Bool}
end
section
variable {S:Keyed->Prop}{L:Keyed->Keyed->Bool}{la lb out:List Keyed}{aas aat:Nat}
end
section
variable {M:Model}{A:Around}{E:Value->Shared->Prop}{s:Shared} {κ:SortKind} {S:Keyed->Prop}{L:Keyed->Keyed->Bool}
end
section
variable {S:Keyed->Prop}{L:Keyed->Keyed->Bool}{la lb lo:List Keyed}{na nb:Nat}
end
section
variable {M:Model}{A:Around}{E:Value->Shared->Prop}{s:Shared} {κ:SortKind} {S:Keyed->Prop}{L:Keyed->Keyed->Bool}
end
section
variable {S:Keyed->Prop}{L:Keyed->Keyed->Bool}
end
section
variable {M:Model}{A:Around}{E:Value->Shared->Prop}{s:Shared} {κ:SortKind} {S:Keyed->Prop}{L:Keyed->Keyed->Bool}
end
section
variable {L:Keyed->Keyed->Bool}
end
section
variable {M:Model}{A:Around}{E:Value->Shared->Prop}{s:Shared} {κ:SortKind} {S:Keyed->Prop}{L:Keyed->Keyed->Bool}
end
section
variable {S:Keyed->Prop}{L:Keyed->Keyed->Bool}
end
section
variable {M:Model}{A:Around}{E:Value->Shared->Prop}{s:Shared} {κ:SortKind} {S:Keyed->Prop}{L:Keyed->Keyed->Bool}
end
section
variable {L:Keyed->Keyed->Bool}
end
section
variable {M:Model}{A:Around}{E:Value->Shared->Prop}{s:Shared} {κ:SortKind} {S:Keyed->Prop}{L:Keyed->Keyed->Bool}
end
end Tm
end
section
namespace L2
open PySem PySem.Spec PyProof.Rows PySem.W Kn
section
variable {prog:Program}{w:World}{A:Around}{E:Value->Shared->Prop}{s:Shared}{H:Hp}
end
section
variable {X:Cx}
end
end L2
end
section
namespace L2
open PySem PySem.Spec PyProof.Rows PySem.W
section
variable {prog:Program}{w:World}{A:Around}{E:Value->Shared->Prop}{s:Shared}
end
section
variable {X:Cx}
end
def gU (t T:String) (b:Bool):Prop:=∀K:PySem.W.Frag,PySem.W.kitOne K (.type t) (.type T)=some b
theorem nP (t:String):gU t t true:=λK=>by unfold PySem.W.kitOne;rw[if_pos (by simp)]
theorem Jz:gU "int" "tuple" false:=λK=>by kernel_rfl
theorem JA:gU "str" "tuple" false:=λK=>by kernel_rfl
theorem JB:gU "int" "bool" false:=λK=>by kernel_rfl
theorem JC:gU "str" "bool" false:=λK=>by kernel_rfl
theorem x4:gU "int" "str" false:=λK=>by kernel_rfl
section
variable {X:Cx}
def JD (K:PySem.W.Frag):List V->Hp->VK->Prop:=λxs H Q=>∃x T t b,xs=[x,.ty T]/\du K H x (.type t)/\gU t T b/\Q (.bl b) H
theorem JE:bp X (.builtin "isinstance") (JD X.K):=by
 intro pins s σ H xs us Q I r h;obtain⟨x,T,t,b,rfl,ty,e,q⟩:=h;obtain⟨u,v,rfl,ru,rv⟩:=r.gK;cases rv;exact Fd I ru ty (e X.K) λtk=>⟨.bl b,H,I.bx _,rfl,q⟩
def JF:List V->Hp->VK->Prop:=λxs H Q=>∃x tp,xs=[x,.ref tp]/\H tp=some (.tup [.ty "str",.ty "int"])/\((∃i,x=.int i)\/∃z,x=.str z)/\Q (.bl true) H
theorem JG:bp X (.builtin "isinstance") JF:=by
 intro pins s σ H xs us Q I r h;obtain⟨x,tp,rfl,ht,hx,q⟩:=h;obtain⟨u,v,rfl,ru,rv⟩:=r.gK;cases rv;obtain⟨_,its,r2,o,h1,h2,n,h3⟩:=(show bk X.prog X.w H s.heap tp (.tup [.ty "str",.ty "int"]) from I.ae tp _ ht);obtain⟨u1,u2,rfl,q1,q2⟩:=r2.gK;cases q1;cases q2;obtain⟨cls,dd,data,sl⟩:=o;simp only at h2 h3;subst h2 h3;rcases hx with ⟨i,rfl⟩ |⟨z,rfl⟩
 ·obtain⟨t,rfl⟩:=ru;refine PySem.W.kia_tup (its:=[.type "str",.type "int"]) PySem.W.kitx_int I.bt aaV h1 ?_ (λz=>nomatch z) λtk=>⟨.bl true,H,I.bx _,rfl,q⟩;unfold PySem.W.kitAny;rw[x4 X.K];show PySem.W.kitAny X.K (.type "int") [.type "int"]=_;unfold PySem.W.kitAny;rw[nP "int" X.K]
 ·obtain⟨t,rfl⟩:=ru;refine PySem.W.kia_tup (its:=[.type "str",.type "int"]) PySem.W.kitx_str I.bt aaV h1 ?_ (λz=>nomatch z) λtk=>⟨.bl true,H,I.bx _,rfl,q⟩;unfold PySem.W.kitAny;rw[nP "str" X.K]
section
open PySem.AutoSeq1 (wpAny_loadPart')
open PySem.MeetsSeq PySem.MeetsSeq2 PySem.MeetsSeq3 PySem.SeqAt
theorem JH (l b:Addr) (xs ys:Array Value) (n m:Nat) (dd:Option Addr) (sl:Array (Option Value)) (c0:¬(!xs.isEmpty && abN (xs.size+ys.size))=true) (c1:xs.size<=sizeLine) (c2:xs.size+ys.size<=sizeLine+1) :
  Meets (Builtin.«list.extend» ⟨[.ref l,.ref b],[]⟩) (λ_ R s=>s.heap.get? l=some (seqObj "list" xs n)/\s.heap.get? b=some { cls:=.type "tuple",dict:=dd,data:=.seq ys m,slots:=sl }/\R (.ok (.ret .none)) { s with heap:=s.heap.update l (abl (·++ys)),toks:=s.toks }):=
 .of_wp λprog w A R s ⟨h1,h2,h3⟩=>by
  obtain⟨hp,g,d,tk,os⟩:=s;have f1:=AutoSeq1.idx_int;have f2:=AutoSeq1.sub_tuple_tuple;have f3:=AutoSeq1.sub_list_list;have f4:=AutoSeq1.sub_tuple_list;have f5:=AutoSeq1.sub_list_tuple;have c3:(xs++ys).size<=sizeLine+1:=by rw[Array.size_append];exact c2
  wp_walk using (wpAny_updateSeq h1 rfl (hz:=c1) (_hz':=c3)),aa1 h1,aa1 h2
  exact⟨_,rfl,h3⟩
end
def x5:V->List V->Hp->VK->Prop:=λx vs H Q=>∃l b xs zs,x=.ref l/\vs=[.ref b]/\H l=some (.lst xs)/\H b=some (.tup zs)/\xs.length+zs.length<=sizeLine/\Q .af (ag H l (.lst (xs++zs)))
theorem JI:k5 X "list.extend" x5:=by
 intro pins s σ H x vs v us Q I rx rv h;obtain⟨l,b,xs,zs,rfl,rfl,hH,XG,hz,q⟩:=h;cases rx;obtain⟨u,rfl,ru⟩:=rv.one;cases ru;obtain⟨z,its,n,r,hl,e⟩:=I.f7 hH;obtain⟨_,aU,r2,ob,h1,h2,n2,h3⟩:=(show bk X.prog X.w H s.heap b (.tup zs) from I.ae b _ XG);obtain⟨cls,dd,data,sl⟩:=ob;simp only at h2 h3;subst h2 h3;have hl2:=r2.length;have hsz:its.toArray.size+aU.toArray.size<=sizeLine:=by rw[aaF,aaF];lia
 have k6:¬(!its.toArray.isEmpty && abN (its.toArray.size+aU.toArray.size))=true:=by
  rw[qK hsz,Bool.and_false];exact aaQ
 refine acq F.slot_list_extend ⟨_,e,rfl⟩ F.entry_list_extend (F.args_list_extend_2 _ _)
  (JH l b its.toArray aU.toArray n n2 dd sl k6 (by rw[aaF];lia) (by lia)) ⟨e,h1,?_⟩
 refine⟨.af,_,I.nz (its':=its++aU) hH e (by simp) (r.append r2) ?_,rfl,q⟩;rw[abk];lia
theorem JJ:k5 X "list.extend" (λx vs H Q=>w6 x vs H Q\/x5 x vs H Q):=λpins s σ H x xs v us Q I rx rv h=>h.elim (Gz pins s σ H x xs v us Q I rx rv) (JI pins s σ H x xs v us Q I rx rv)
end
section
open AutoSeq1 (wpAny_loadPart')
end
section
variable {prog:Program}{w:World}{A:Around}{E:Value->Shared->Prop}{s:Shared}
end
section
variable {X:Cx}
theorem JK:bootBuiltins "reversed"=some (.type "reversed"):=by first |rfl |decide +kernel |kernel_rfl
end
section
variable {X:Cx}
structure jD (K:PySem.W.Frag) (w:World) (a:Addr):Prop where
 ex:∃(es:Array DictEntry) (n:Nat),K.lookup a=some ⟨.type "dict",none,.dict es n,#[]⟩/\PySem.W.KeysLit w.params es.toList
 lo:(a == sysModules)=false
def JL (K:PySem.W.Frag) (a:Addr):R2:=λx y H Q=>∃z v u,x=.ref a/\y=.str z/\PySem.W.nsIn K a z=some (some u)/\av v u/\Q v H
theorem JM {a:Addr} (d:jD X.K X.w a) (hu:X.A.units+1<cLine):dA X (JL X.K a):=by
 intro value slice pins s σ H x y v u Q I rx ry h hs;obtain⟨z,v',u',rfl,rfl,e,r,q⟩:=h;cases rx;obtain⟨t,rfl⟩:=ry;obtain⟨es,n,l,k⟩:=d.ex;obtain⟨m,F⟩:=I.fr;exact PySem.W.topItem_K F I.b8.h8 l k e ⟨v',H,I.bx _,r,q⟩ hs
def nQ (X:Cx) (CX:cJ) (k:Nat) (f:Addr) (sp:Sp):Prop:=∃(fd:FuncData) (ps:List Str),a5 X.prog X.w X.K X.mg X.base CX k f fd ps sp/\PySem.W.keepIn X.K (.ref f)=true/\b0 X.K fd ps []
def JN (C:Addr->Sp->Prop) (E:XK) (te:TE) (t:TA):TE:=fun σ H Q=>te σ H λx H1=>∃f sp,x=.ref f/\C f sp/\t σ H1 λvs H2=>sp vs H2 Q E
end
end L2
end
section
namespace L2
open PySem PySem.Spec PyProof.Rows
end L2
end
section
namespace L2
open PySem
end L2
end
section
namespace L2
open PySem PySem.Spec PyProof.Rows PySem.W Kn
section
variable {X:Cx}
end
def rP (H:Hp) (a b:Addr):Prop:=∃ka kb:List (Key×V),Rd H a (.dK ka)/\Rd H b (.dK kb)/\ka.length=kb.length/\∀p∈ka,∃y d,cw kb p.1=some y/\aF H d p.2/\aF H d y/\d.bE<=60
theorem JO {kvs:List (Key×V)}{vs:List (Key×Value)} (r:KV kvs vs) {k:Key}{y:V} (h:cw kvs k=some y):∃u,valueAt vs k=some u/\av y u:=by
 induction r with
 |nil=>cases h
 |@cons p q l m jE t ih=>
  by_cases e:p.1=k
  ·rw[kQ e]at h;cases h;exact⟨q.2,by simp [valueAt,aby,<- jE.1,e],jE.2⟩
  ·rw[kR e]at h;obtain⟨u,h1,h2⟩:=ih h;refine⟨u,?_,h2⟩;have e':¬q.1=k:=(by rw[<- jE.1];exact e);rw[<- h1];simp [valueAt,aby,e']
theorem rQ {P:Program}{w:World}{H:Hp}{s:Shared}{A:Around} (ok:aQ P w H s.heap) (hu:A.units+60<cLine) {kb:List (Key×V)}{vb:List (Key×Value)} (rb:KV kb vb) :
  ∀{ka:List (Key×V)}{va:List (Key×Value)},KV ka va->(∀p∈ka,∃y d,cw kb p.1=some y/\aF H d p.2/\aF H d y/\d.bE<=60)->KeqHits A s vb va true
 |_,_,.nil,_=>.nil
 |p::ka,q::va,.cons jE t,h=>by
  obtain⟨y,d,h1,h2,h3,h4⟩:=h p aaO;obtain⟨u,e1,e2⟩:=JO rb h1;have he:=qQ 60 A s d d p.2 y q.2 u ok h4 hu h2 h3 jE.2 e2;rw[decide_eq_true rfl]at he;have:=KeqHits.hit (k:=q.1) (by rw[<- jE.1];exact e1) he (rQ ok hu rb t λZG bg=>h ZG (aaK _ bg));exact this
def x6 (P:Program) (w:World) (A:Around) (s:Shared) (x y:Value):Prop:=∀(E:Value->Shared->Prop) (Q:Bool->Shared->Prop),Q true s->wpAny (model P w) A (eqBool x y) Q E s
theorem JP {P:Program}{w:World}{H:Hp}{s:Shared}{A:Around} (ok:aQ P w H s.heap) (hu:A.units+62<cLine) {a b:Addr} (h:rP H a b):x6 P w A s (.ref a) (.ref b):=by
 obtain⟨ka,kb,ha,hb,hl,hp⟩:=h;obtain⟨z1,lz,va,ra,Xl⟩:=dw ok ha;obtain⟨z2,lA,vb,rb,Xm⟩:=dw ok hb;intro E Q q;unfold eqBool;refine abr ?_;refine abZ (λ_=>?_) (λ_=>?_)
 ·exact aaE (M:=model P w) (E:=E) q
 have rR:va.length=vb.length:=by rw[<- ra.length,<- rb.length];exact hl
 refine aaC (keq_eq (knd:=b6 P w) lz lA Xl Xm (by lia) (r:=true) (λ_=>rQ ok (by show A.units+1+60<cLine;lia) rb ra hp) ?_);rw[rR];refine ab8 ?_;simpa using q
section
open PySem.AutoSeq1 (wpAny_loadPart')
open PySem.MeetsSeq PySem.MeetsSeq2 PySem.MeetsSeq3 PySem.SeqAt
variable {P:Program}{w:World}{a b:Addr}{xs ys:Array Value}{ea eb:Nat}{Xl Xm:Option Addr}{sa sb:Array (Option Value)}
def x7 (P:Program) (w:World) (a b:Addr) (xs ys:Array Value) (ea eb:Nat) (Xl Xm:Option Addr) (sa sb:Array (Option Value)):PySem.Spec:=λA R s=>
 s.heap.get? a=some { cls:=.type "list",dict:=Xl,data:=.seq xs ea,slots:=sa }/\s.heap.get? b=some { cls:=.type "list",dict:=Xm,data:=.seq ys eb,slots:=sb }/\(∀j (h1:j<xs.size) (h2:j<ys.size),x6 P w A.in1 s xs[j] ys[j])/\R (.ok (.ret (.bool false))) s
theorem JQ (hz:xs.size=ys.size):∀(k i:Nat),xs.size-i=k->MeetsIn P w (Builtin.«list.__eq__.loop» ⟨[.ref a,.ref b,rawInt i,rawInt 3],[]⟩) (x7 P w a b xs ys ea eb Xl Xm sa sb):=by
 intro k
 induction k with
 |zero=>
  intro i hk A R s ⟨h1,h2,h3,h4⟩;obtain⟨hp,g,d,tk,os⟩:=s
  wp_walk using aa1 h1,aa1 h2
  have x1:xs[((i:Nat):Int).toNat]?=none:=by simp;lia
  have x2:ys[((i:Nat):Int).toNat]?=none:=by simp;lia
  rw[x1,x2]
  wp_walk using aa1 h1,aa1 h2
  show R (.ok (.ret (.bool (xs.size != ys.size)))) _;rw[hz];simpa using h4
 |succ k ih=>
  intro i hk A R s ⟨h1,h2,h3,h4⟩;obtain⟨hp,g,d,tk,os⟩:=s
  wp_walk using aa1 h1,aa1 h2
  have l1:i<xs.size:=by lia
  have l2:i<ys.size:=by lia
  have x1:xs[((i:Nat):Int).toNat]?=some xs[i]:=by simp [l1]
  have x2:ys[((i:Nat):Int).toNat]?=some ys[i]:=by simp [l2]
  have ZH:((i:Int)+1)=((i+1:Nat):Int):=by lia
  rw[x1,x2];refine aaC (h3 i l1 l2 _ _ ?_)
  wp_walk
  rw[ZH];exact⟨abK plain_eq_loop _,abH entry_eq_loop (by
   rw[abm plain_eq_loop _];exact ih (i+1) (by lia) A R _ ⟨h1,h2,h3,h4⟩)⟩
theorem JR (hz:xs.size=ys.size):MeetsIn P w (Builtin.«list.__ne__» ⟨[.ref a,.ref b],[]⟩) (x7 P w a b xs ys ea eb Xl Xm sa sb):=by
 intro A R s ⟨h1,h2,h3,h4⟩;obtain⟨hp,g,d,tk,os⟩:=s;have f3:=AutoSeq1.sub_list_list;have d7:¬(xs.size != ys.size)=true:=by simp [hz]
 wp_walk using aa1 h1,aa1 h2
 exact⟨abK plain_eq_loop _,abH entry_eq_loop (by
  rw[abm plain_eq_loop _];exact JQ hz _ 0 rfl A R _ ⟨h1,h2,h3,h4⟩)⟩
end
section
variable {X:Cx}
def JS:R2:=λx y H Q=>∃a b,x=.ref a/\y=.ref b/\rP H a b/\Q (.bl false) H
theorem JT (hu:X.A.units+110<cLine):aA X (compareOp .NotEq) JS:=by
 intro pins s σ H x y v u Q I rx ry h;obtain⟨a,b,rfl,rfl,⟨ka,kb,ha,hb,hl,hp⟩,q⟩:=h;cases rx;cases ry;obtain⟨z1,lz,va,ra,Xl⟩:=dw I.ae ha;obtain⟨z2,lA,vb,rb,Xm⟩:=dw I.ae hb;have rR:va.length=vb.length:=by rw[<- ra.length,<- rb.length];exact hl
 refine keq_ne (knd:=b6 X.prog X.w) lz lA Xl Xm (by lia) (r:=true) (λ_=>rQ I.ae (by show X.A.units+1+60<cLine;lia) rb ra hp) ⟨.bl false,H,I,?_,q⟩;rw[rR];simp [av]
def JU:R2:=λx y H Q=>∃a b xs ys,x=.ref a/\y=.ref b/\H a=some (.lst xs)/\H b=some (.lst ys)/\xs.length=ys.length/\(∀i:Nat,i<xs.length->∃c d,xs[i]?=some (.ref c)/\ys[i]?=some (.ref d)/\rP H c d)/\Q (.bl false) H
theorem JV (hu:X.A.units+110<cLine):aA X (compareOp .NotEq) JU:=by
 intro pins s σ H x y v u Q I rx ry h;obtain⟨a,b,xs,ys,rfl,rfl,ha,hb,hl,hs,q⟩:=h;cases rx;cases ry;obtain⟨its,r,p,_⟩:=I.list (aT.of ha);obtain⟨aU,r2,p2,_⟩:=I.list (aT.of hb);have l1:its.toArray.size=xs.length:=by rw[aaF,<- r.length]
 have l2:aU.toArray.size=ys.length:=by rw[aaF,<- r2.length]
 obtain⟨⟨cls,dd,data,sl⟩,ho,hc,n,hd⟩:=id p.isList;obtain⟨⟨wv,iD,ww,kW⟩,dZ,fY,n2,gH⟩:=id p2.isList;simp only at hc hd fY gH;subst hc hd fY gH;refine wpAny_richCompare_same_room (op:=.NotEq) ⟨_,ho,rfl⟩ ⟨_,dZ,rfl⟩ F.slot_list_ne (call_meetsIn F.slot_list_ne ⟨_,ho,rfl⟩ F.entry_list_ne (F.args_list_ne_2 _ _) (JR (P:=X.prog) (w:=X.w) (by rw[l1,l2,hl])) ⟨ho,dZ,λj h1 h2=>?_,?_⟩) (by lia)
 ·obtain⟨c,d,e1,e2,e3⟩:=hs j (by rw[<- l1];exact h1);obtain⟨u1,f1,q1⟩:=r.get e1;obtain⟨u2,f2,q2⟩:=r2.get e2;cases q1;cases q2;have w1:its.toArray[j]=.ref c:=by have:=(List.getElem?_eq_some_iff.mp f1).2;simpa using this
  have w2:aU.toArray[j]=.ref d:=by have:=(List.getElem?_eq_some_iff.mp f2).2;simpa using this
  rw[w1,w2];exact JP I.ae (by show X.A.units+1+62<cLine;lia) e3
 ·exact⟨λz=>(nomatch z),.bl false,H,I,rfl,q⟩
end
end L2
end
section
namespace L2
open PySem PySem.Spec PyProof.Rows PySem.W
section
variable {prog:Program}{w:World}{A:Around}{E:Value->Shared->Prop}{s:Shared}
theorem JW:typeLookup (.type "tuple") "keys"=pure none:=by rw[typeLookup_type,ab4];kernel_rfl
theorem JX:typeLookup (.type "list") "keys"=pure none:=by rw[typeLookup_type,ab4];kernel_rfl
theorem JY {a:Addr}{o:Obj}{xs:Array Value}{k:Nat}{Q:Option Value->Shared->Prop} (hx:s.heap.get? a=some o) (hc:o.cls=.type "tuple") (iN:o.data=.seq xs k) (hd:o.dict=none) (hA:A.handled=none)
  (h:∀h' tk,(∀b o,s.heap.get? b=some o->h'.get? b=some o)->Q none { s with heap:=h',toks:=tk }):wpAny (model prog w) A (getAttr? (.ref a) "keys") Q E s:=by
 obtain⟨c,ai,JZ,sl⟩:=o;simp only at hc iN hd;subst hc iN hd;obtain⟨hp,g,d,tk,os⟩:=s;have hT:∀db,(⟨hp,g,d,db,os⟩:Shared).TypeIs (.ref a) "tuple":=λ_=>⟨_,hx,rfl⟩;have f1:=sub_AttributeError;have f3:=F.slot_tuple_getattribute.lookup;have f4:=F.slot_tuple_getattribute.bind (.ref a);have f5:=am_tuple_getattr_none;have rS:(["__module__","__name__","__qualname__","__doc__","__annotations__"]:List Str).contains "keys"=false:=by decide
 unfold getAttr? getAttrBy? getAttrBy
 repeat (any_goals (first |assumption |exact hT _ |((with_reducible show wpAny _ _ (call (Value.builtin "tuple.__getattribute__") _ _) _ _ _);refine acq F.slot_tuple_getattribute (hT _) am_entry_tuple_getattribute (F.args_tuple_getattribute_2 _ _) (meets_getattribute_miss_tuple a xs k sl "keys" _ JW rS) ⟨hx,hA,λh' db e cr=>?_⟩) |wp_step))
 obtain⟨t',u',he⟩:=cr.there;show wpAny _ _ (getattributeRaised _ _ _ _ _ _ _) _ _ _;unfold getattributeRaised
 repeat (any_goals (first |assumption |wp_step))
 exact h _ _ cr.keeps
theorem J0 {a:Addr}{o:Obj}{xs:Array Value}{k:Nat}{Q:Option Value->Shared->Prop} (hx:s.heap.get? a=some o) (hc:o.cls=.type "list") (iN:o.data=.seq xs k) (hd:o.dict=none) (hA:A.handled=none)
  (h:∀h' tk,(∀b o,s.heap.get? b=some o->h'.get? b=some o)->Q none { s with heap:=h',toks:=tk }):wpAny (model prog w) A (getAttr? (.ref a) "keys") Q E s:=by
 obtain⟨c,ai,JZ,sl⟩:=o;simp only at hc iN hd;subst hc iN hd;obtain⟨hp,g,d,tk,os⟩:=s;have hT:∀db,(⟨hp,g,d,db,os⟩:Shared).TypeIs (.ref a) "list":=λ_=>⟨_,hx,rfl⟩;have f1:=sub_AttributeError;have f3:=F.slot_list_getattribute.lookup;have f4:=F.slot_list_getattribute.bind (.ref a);have f5:=am_list_getattr_none;have rS:(["__module__","__name__","__qualname__","__doc__","__annotations__"]:List Str).contains "keys"=false:=by decide
 unfold getAttr? getAttrBy? getAttrBy
 repeat (any_goals (first |assumption |exact hT _ |((with_reducible show wpAny _ _ (call (Value.builtin "list.__getattribute__") _ _) _ _ _);refine acq F.slot_list_getattribute (hT _) am_entry_list_getattribute (F.args_list_getattribute_2 _ _) (meets_getattribute_miss_list a xs k sl "keys" _ JX rS) ⟨hx,hA,λh' db e cr=>?_⟩) |wp_step))
 obtain⟨t',u',he⟩:=cr.there;show wpAny _ _ (getattributeRaised _ _ _ _ _ _ _) _ _ _;unfold getattributeRaised
 repeat (any_goals (first |assumption |wp_step))
 exact h _ _ cr.keeps
theorem x8:entryFor table "dict.update.loop"=some Builtin.«dict.update.loop»:=entryFor_of_tree (by kernel_rfl)
theorem jF:plainId "dict.update.loop"=true:=by decide +kernel
variable {I:Addr}{fp wr:List Addr}{n:Nat}{P:Nat->Value->Prop}{St:Nat->Heap->Prop}
def x9 (prog:Program) (w:World) (A:Around) (d:Addr) (n:Nat) (P:Nat->Value->Prop) (DK:Nat->Heap->Prop):Prop:=
 ∀(i:Nat) (v:Value) (s:Shared),i<n->P i v->DK i s.heap->∃(a:Addr) (o:Obj) (xs:Array Value) (m:Nat) (k x:Value),v=.ref a/\s.heap.get? a=some o/\o.cls=.type "tuple"/\o.data=.seq xs m/\xs.toList=[k,x] /\
  ∀(Q:Unit->Shared->Prop) (E:Value->Shared->Prop),(∀h' tk,DK (i+1) h'->ab2 d s.heap h'->Q () { s with heap:=h',toks:=tk })->wpAny (model prog w) A (dictSet d k x) Q E s
theorem J1 {R:Result->Shared->Prop}{DK:Nat->Heap->Prop} (W:Walks prog w A.in1 I fp wr n P St) (d:Addr) (gL:d ∉ fp) (hfr:∀ i h h',DK i h->(∀ b o,b ∉ wr->h.get? b=some o->h'.get? b=some o)->DK i h') (put:x9 prog w A.in1 d n P DK) (res:Value) :
  ∀(k i:Nat) (t:Tok) (s:Shared),n-i=k->i<=n->St i s.heap->DK i s.heap ->
  (∀h' tk,DK n h'->(∀b o,b ∉ d::wr->s.heap.get? b=some o->h'.get? b=some o)->R (.ok (.ret res)) { s with heap:=h',toks:=tk }) ->
  codeAny (model prog w) A (.builtin "dict.update.loop" ⟨[.ref d,.ref I,.int i t,res],[]⟩) R s:=by
 have WH:d ∉ wr:=λh=>gL (W.sub _ h);intro k
 induction k with
 |zero=>
  intro i t s hk hi fV hD hR;have J2:i=n:=by lia
  subst J2;refine abH x8 ?_;rw[abm jF _];show wpAny _ A.in1 (pyNext (.ref I) >>= _) _ _ s;refine aaC (W.done s _ _ fV λh' tk hm=>?_);dsimp only;unfold Builtin.Dict.addKeywords;refine aaC (aaE ?_);exact aaE (hR h' tk (hfr _ _ _ hD hm) λb o hb e=>hm b o (λz=>hb (aaK _ z)) e)
 |succ k ih=>
  intro i t s hk hi fV hD hR;have bV:i<n:=by lia
  refine abH x8 ?_;rw[abm jF _];show wpAny _ A.in1 (pyNext (.ref I) >>= _) _ _ s;refine aaC (W.item i s _ _ bV fV λv h' tk hP J3 hm=>?_);dsimp only;obtain⟨a,o,xs,m,aau,x,rfl,ho,hc,iN,jw,J4⟩:=put i v { s with heap:=h',toks:=tk } bV hP (hfr _ _ _ hD hm);refine aaC (abr (aaC (wpAny_tryCatch ?_)));unfold Builtin.Dict.pairItems;refine aaC (wpAny_typeOf (T:="tuple") ⟨o,ho,hc⟩ ?_);rw[if_pos (by decide)];refine aaC (abW ho iN (aaE ?_));dsimp only[Option.getD_some];rw[jw];dsimp only;refine abr (J4 _ _ λh'' db J5 hs=>?_);refine aaE ⟨abK jF _,?_⟩;have:=ih (i+1) 0 { s with heap:=h'',toks:=db } (by lia) bV (W.frame _ _ _ J3 λb hb o e=>(hs.2 b (λz=>gL (z ▸ hb))).trans e) J5 (λh3 J6 J7 J8=>hR h3 J6 J7 λb o hb e=>J8 b o hb ((hs.2 b (λz=>hb (by simp [z]))).trans (hm b o (λz=>hb (aaK _ z)) e)));exact this
end
end L2
end
section
namespace L2
open PySem PySem.Spec PyProof.Rows PySem.W
open Classical in
section
variable {P:Program}{w:World}{H:Hp}
end
end L2
end
section
namespace L2
open PySem PySem.Spec PyProof.Rows PySem.W
structure nR (prog:Program) (w:World) (T:String) (r:Addr) (n:Nat) (P:Nat->Value->Prop) (OK:Heap->Prop):Prop where
 type:∀s:Shared,OK s.heap->s.TypeIs (.ref r) T
 there:∀h:Heap,OK h->r<h.objs.size
 keep:∀h h':Heap,OK h->(∀o,h.get? r=some o->h'.get? r=some o)->OK h'
 notDict:(acg T != acg "dict")=true
 rT:∀(A:Around) (E:Value->Shared->Prop) (s:Shared) (Q:Option Value->Shared->Prop),A.handled=none->OK s.heap->(∀h' tk,(∀b o,s.heap.get? b=some o->h'.get? b=some o)->Q none { s with heap:=h',toks:=tk })->wpAny (model prog w) A (getAttr? (.ref r) "keys") Q E s
 iter:∀(A:Around) (s:Shared),A.handled=none->OK s.heap->∃(oI:Obj) (St:Nat->Heap->Prop),
  (∀(E:Value->Shared->Prop) (Q:Value->Shared->Prop),Q (.ref s.heap.objs.size) { s with heap:=s.heap.push oI }->wpAny (model prog w) A (pyIter (.ref r)) Q E s) /\
  Walks prog w A s.heap.objs.size [s.heap.objs.size,r] [s.heap.objs.size] n P St/\St 0 (s.heap.push oI)
section
variable {prog:Program}{w:World}{A:Around}{E:Value->Shared->Prop}{s:Shared}{T:String}{r:Addr}{n:Nat}{P:Nat->Value->Prop}{OK:Heap->Prop}
theorem J9 {k:Nat}{its:Array Value}:nR prog w "list" r its.size (λi v=>its[i]?=some v) (λh=>h.get? r=some { cls:=.type "list",data:=.seq its k }) where
 type:=λs h=>⟨_,h,rfl⟩
 there:=λh e=>aaJ e
 keep:=λh h' e k=>k _ e
 notDict:=by decide
 rT:=λA E s Q hA e q=>J0 e rfl rfl rfl hA q
 iter:=λA s hA e=>by
  have hl:s.heap.IsList r its:=⟨_,e,rfl,k,rfl⟩;have ne:r≠s.heap.objs.size:=aaL (aaJ e);exact⟨_,_,λ_ _ q=>wpAny_pyIter_list hl q,Walks.list hA s.heap.objs.size r ne its,⟨⟨_,aaG _ rfl,rfl,rfl⟩,hl.push _⟩⟩
theorem J' {its:Array Value}:nR prog w "tuple" r its.size (λi v=>its[i]?=some v) (λh=>∃o k,h.get? r=some o/\o.cls=.type "tuple"/\o.data=.seq its k/\o.dict=none) where
 type:=λs ⟨o,k,h,c,_⟩=>⟨_,h,c⟩
 there:=λh ⟨o,k,e,_⟩=>aaJ e
 keep:=λh h' ⟨o,k,e,c⟩ q=>⟨o,k,q _ e,c⟩
 notDict:=by decide
 rT:=λA E s Q hA ⟨o,k,e,c,d,z⟩ q=>JY e c d z hA q
 iter:=λA s hA ⟨o,k,e,c,d,z⟩=>by
  have hl:s.heap.IsTuple r its:=⟨o,e,c,k,d⟩;have ne:r≠s.heap.objs.size:=aaL (aaJ e);exact⟨_,_,λ_ _ q=>abQ hl q,Walks.tuple hA s.heap.objs.size r ne its,⟨⟨_,aaG _ rfl,rfl,rfl⟩,hl.push _⟩⟩
theorem Ka {DK:Nat->Heap->Prop}{Q:Value->Shared->Prop} (K:nR prog w T r n P OK) (hA:A.handled=none) (ae:OK s.heap) (Xx:DK 0 (s.heap.push { cls:=.type "dict",data:=.dict #[] }))
  (hfr:∀i h h' (it:Addr),s.heap.objs.size<it->DK i h->(∀b o,b≠it->h.get? b=some o->h'.get? b=some o)->DK i h') (put:∀A':Around,A'.units<=A.units+5->x9 prog w A' s.heap.objs.size n P DK)
  (h:∀h' tk,DK n h'->(∀b o,s.heap.get? b=some o->h'.get? b=some o)->Q (.ref s.heap.objs.size) { s with heap:=h',toks:=tk }):wpAny (model prog w) A (call (.type "dict") [.ref r]) Q E s:=by
 refine callType_codes (Q₁:=λobj s₁=>obj=.ref s.heap.objs.size/\s₁={ s with heap:=s.heap.push { cls:=.type "dict",data:=.dict #[] } }) F.kt_called_dict (F.kt_typeCall_dict_1 _) F.entry_dict_init (kt_code_dict_new _ ⟨rfl,rfl⟩) ?_;rintro obj s₁ ⟨rfl,rfl⟩;have k1:∀ b o,s.heap.get? b=some o->(s.heap.push { cls:=.type "dict",data:=.dict #[] }).get? b=some o:=λb o e=>aaD _ e;have lB:OK (s.heap.push { cls:=.type "dict",data:=.dict #[] }):=K.keep _ _ ae λo e=>k1 _ o e;have x':(Shared.TypeIs { s with heap:=s.heap.push { cls:=.type "dict",data:=.dict #[] } } (.ref s.heap.objs.size) "dict"):=⟨_,aaG _ rfl,rfl⟩;refine⟨x',F.args_dict_init_2 _ _,?_⟩;unfold Builtin.«dict.__init__»;refine aaC ?_;unfold Builtin.Dict.selfAndRest;refine aaC (wpAny_notOrdered_dict x' ?_);show wpAny _ _ (pure (s.heap.objs.size,[aaX r])) _ _ _;refine aaE ?_;show wpAny _ _ (Builtin.Dict.updateFrom "dict.__init__" s.heap.objs.size (.ref r) [] .none) _ _ _;unfold Builtin.Dict.updateFrom;refine aaC (wpAny_typeOf (K.type _ lB) ?_);rw[if_pos K.notDict];refine aaC (K.rT A.in1.in1 _ { s with heap:=s.heap.push { cls:=.type "dict",data:=.dict #[] } } _ hA lB λh2 ya k2=>?_);simp only[Option.isNone_none,if_true];refine aaC (wpAny_rule ?_);have dH:OK h2:=K.keep _ _ lB λo e=>k2 _ o e;obtain⟨oI,St,hit,W,st⟩:=K.iter A.in1.in1 { s with heap:=h2,toks:=ya } hA dH;have nS:s.heap.objs.size<h2.objs.size:=aaJ (k2 _ _ (aaG _ rfl));refine aaC (hit _ _ ?_);have hr:r<s.heap.objs.size:=K.there _ ae;have loop:=J1 (A:=A.in1) (R:=wants (λr' s₂=>r'=.none/\Q (.ref s.heap.objs.size) s₂) E) (DK:=DK) W s.heap.objs.size (by
   simp only[aa0,aa2,or_false,not_or];exact⟨aaL nS,abh hr⟩)
  (λi h h' x k=>hfr i h h' h2.objs.size nS x λb o hb e=>k b o (by simpa using hb) e) (put _ (by show A.units+1+1<=_;lia)) .none n 0 0 { s with heap:=h2.push oI,toks:=ya } rfl (abA _) st
  (hfr 0 _ _ h2.objs.size nS Xx λb o _ e=>aaD _ (k2 b o e)) (λh' tk hD hk=>⟨rfl,h h' tk hD λb o e=>hk b o (by
   have hb:=aaJ e;simp only[aa0,aa2,or_false,not_or];exact⟨aaL hb,aaL (abi hb nS)⟩) (aaD _ (k2 b o (k1 b o e)))⟩)
 first
  |exact aaE ⟨abK jF _,loop⟩
  |exact aaE (aaE ⟨abK jF _,loop⟩)
  |exact aaC (aaE (aaE ⟨abK jF _,loop⟩))
end
noncomputable def d8 {κ:Type} [DecidableEq κ] (kvs more:List (κ×V)):List (κ×V):=more.foldl (λam kv=>cx am kv.1 kv.2) kvs
theorem rU {κ:Type} [DecidableEq κ]:∀(more kvs:List (κ×V)),(d8 kvs more).length<=kvs.length+more.length
 |[],kvs=>by simp [d8]
 |p::more,kvs=>by
  have h1:=rU more (cx kvs p.1 p.2);have h2:=nr kvs p.1 p.2;have e:d8 kvs (p::more)=d8 (cx kvs p.1 p.2) more:=rfl;rw[e,aaS];lia
theorem Kb {κ:Type} [DecidableEq κ] {kvs:List (κ×V)}{i:Nat}{p:κ×V} (h:kvs[i]?=some p):d8 [] (kvs.take (i+1))=cx (d8 [] (kvs.take i)) p.1 p.2:=by
 rw[List.take_add_one,h];unfold d8;rw[List.foldl_append];rfl
def yb (H:Hp):List (Key×V)->List V->Prop:=Paired λkv x=>∃a,x=.ref a/\H a=some (.tup [kV kv.1,kv.2])
theorem yc {α β:Type} {F:α->β->Prop}:∀{l:List α}{m:List β}{i:Nat}{b:β},Paired F l m->m[i]?=some b->∃a,l[i]?=some a/\F a b
 |_,_,_,_,.nil,e=>by simp at e
 |_,_,0,_,.cons r _,e=>by simp at e;subst e;exact⟨_,rfl,r⟩
 |_,_,i+1,_,.cons _ t,e=>by
  obtain⟨a,h1,h2⟩:=yc (i:=i) t (by simpa using e);exact⟨a,by simpa using h1,h2⟩
section
variable {X:Cx}
def yd (H:Hp) (r:Addr) (xs:List V):Prop:=H r=some (.lst xs)\/H r=some (.tup xs)
theorem Kc {pins:List (Addr×Obj)}{s:Shared} {σ:St} {H:Hp}{r:Addr}{xs:List V} (I:ab X pins σ H s) (h:yd H r xs):∃(T:String) (its:List Value) (OK:Heap->Prop),aq xs its/\xs.length<=sizeLine/\OK s.heap/\nR X.prog X.w T r its.toArray.size (λi v=>its.toArray[i]?=some v) OK:=by
 rcases h with h |h
 ·obtain⟨z,its,n,rv,ho⟩:=I.ae r _ h;exact⟨_,its,_,rv,z,ho,J9 (k:=n)⟩
 ·obtain⟨z,its,rv,o,ho,hc,n,hd⟩:=I.ae r _ h;exact⟨_,its,_,rv,z.1,⟨o,n,ho,hc,hd,z.2 o ho⟩,J'⟩
def Ke:List V->Hp->VK->Prop:=λws H Q=>∃(r:Addr) (xs:List V) (kvs:List (Key×V)),ws=[.ref r]/\yd H r xs/\yb H kvs xs/\∀p,H p=none->Q (.ref p) (ag H p (.dK (d8 [] kvs)))
theorem Kf (hc:X.calm=true):bp X (.type "dict") Ke:=by
 intro pins s σ H ws us Q I r h;obtain⟨a,xs,kvs,rfl,ha,hp,q⟩:=h;obtain⟨u,rfl,ru⟩:=r.one;cases ru;have hh:=I.ok.hd hc;obtain⟨T,its,OK,rv,hz,ae,S⟩:=Kc I ha;have fr:H s.heap.objs.size=none:=I.ae.fresh (aaH _);have lk:kvs.length=xs.length:=Paired.length hp;refine Ka (DK:=λi h=>aQ X.prog X.w H h/\∃vs,KV (d8 [] (kvs.take i)) vs/\h.DictOf (b6 X.prog X.w) s.heap.objs.size vs) S hh ae ⟨I.ae.bD λb o e=>aaD _ e,[],.nil,Heap.DictOf.new _⟩ (λi h h' it hit x k=>?_) (λA' WI i v s' hi hP hD=>?_) λh' tk hD keep=>?_
 ·obtain⟨ok,vs,rel,o,es,ep,e,rest⟩:=x;exact⟨ok.x3 (I.ae.fresh (Nat.le_of_lt hit)) k,vs,rel,o,es,ep,k _ _ (aaL hit) e,rest⟩
 ·obtain⟨ok,vs,rel,dd⟩:=hD;have e1:its[i]?=some v:=by simpa using hP
  obtain⟨x,x1,x2⟩:=rO rv e1;obtain⟨kv,k1,b,rfl,k3⟩:=yc hp x1;cases x2;obtain⟨_,aU,r2,o,ho,cb,n,hd⟩:=ok b _ k3;cases r2 with
  |@cons _ ZI _ _ rk r3=>
  cases r3 with
  |@cons _ ZJ _ _ rx r4=>
  cases r4;refine⟨b,o,_,n,ZI,ZJ,rfl,ho,cb,hd,rfl,λQ E hq=>?_⟩;have hv:vs.length<=sizeLine:=by
   rw[<- rel.length];have:=rU (kvs.take i) ([]:List (Key×V));rw[List.length_take,abV]at this;lia
  refine wpAny_dictSet_pairs (hsz:=hv) (gF rk) dd λh2 iD sb=>hq _ _ ⟨ok.x3 fr λb o hb e=>sb.extBut b o hb e,_,?_,iD⟩ sb;rw[Kb k1];exact rel.put kv.1 rx
 ·obtain⟨ok,vs,rel,dd⟩:=hD;have ls:its.toArray.size=kvs.length:=by rw[aaF,<- rv.length,lk]
  rw[ls,List.take_length]at rel;have gG:(s.heap.objs.size == sysModules)=false:=by
   have:=I.gG;simp only[beq_eq_false_iff_ne];exact abh this
  have hl:(d8 [] kvs).length<=sizeLine:=by
   have:=rU kvs ([]:List (Key×V));rw[abV]at this;lia
  exact⟨.ref s.heap.objs.size,_,I.laid (t':=tk) (o:=.dK (d8 [] kvs)) keep (aaH _) ⟨hl,gG,vs,rel,dd⟩,rfl,q _ fr⟩
end
section
variable {X:Cx}
end
section
variable {X:Cx}
end
end L2
end
section
namespace L2
open PySem PySem.Spec PyProof.Rows
theorem _root_.PySem.Draws.tuple {prog:Program}{w:World}{A:Around} (hh:A.handled=none) (it l:Addr) (d7:l≠it) (items:Array Value) :
  Draws prog w A it [it,l] items.size (λi v=>items[i]?=some v) (λi h=>h.IsTupleIter it l i/\h.IsTuple l items) where
 live:=λ_ _ st=>let ⟨o,ho,_⟩:=st.1;⟨o,ho⟩
 frame:=λ_ _ _ st hk=>⟨st.1.at λo e=>hk it (by simp) o e,st.2.at λo e=>hk l (by simp) o e⟩
 item:=λi s Q E hi st hQ=>by
  refine lq st.1 st.2 (x:=items[i]) (by simp [hi]) λh' rV bu=>?_;exact hQ _ h' s.toks (by simp [hi]) ⟨rV,st.2.extBut bu.extBut d7⟩ bu
 done:=λs Q E st XI=>lr hh st.1 st.2 (by simp) XI
section
open AutoSeq1 (wpAny_loadPart')
theorem Kg (l:Addr) (items:Array Value) (n:Nat) (ai:Option Addr) (sl:Array (Option Value)) :
  Meets (Builtin.«enumerate.__new__» ⟨[.type "enumerate",.ref l],[]⟩) (λ_ R s=>s.heap.get? l=some { cls:=.type "tuple",dict:=ai,data:=.seq items n,slots:=sl } /\
   R (.ok (.ret (.ref (s.heap.push { cls:=.type "tuple_iterator",data:=.fields #[.ref l,.int 0 0] }).objs.size)))
    { s with heap:=(s.heap.push { cls:=.type "tuple_iterator",data:=.fields #[.ref l,.int 0 0] }).push { cls:=.type "enumerate",data:=.fields #[.none,.bool false,.ref s.heap.objs.size,rawInt 0,.none,.none] } }):=
 .of_wp λprog w A R s h=>by
  obtain⟨hp,g,d,tk,os⟩:=s;obtain⟨hl,h⟩:=h;have hsub:=sub_enumerate;have hL:Heap.IsTuple (Shared.heap ⟨hp,g,d,tk,os⟩) l items:=⟨_,hl,rfl,n,rfl⟩
  wp_walk using aa1 hl
  refine wpAny_stack_any λst=>aaE ?_;split
  ·rename_i c _ _ _ _ _;cases (c == acg "enumerate")
   ·wp_walk using aa1 hl,abQ hL
    exact⟨_,rfl,h⟩
   ·wp_walk using aa1 hl,abQ hL
    exact⟨_,rfl,h⟩
  ·wp_walk using aa1 hl,abQ hL
   exact⟨_,rfl,h⟩
end
section
variable {prog:Program}{w:World}{A:Around}{E:Value->Shared->Prop}{s:Shared}
theorem Kh {l:Addr}{items:Array Value}{Q:Value->Shared->Prop} (hL:IsTup s.heap l items)
  (h:∀h',IsEnum h' (s.heap.objs.size+1) s.heap.objs.size 0 .none->h'.IsTupleIter s.heap.objs.size l 0->h'.objs.size=s.heap.objs.size+2 ->
   (∀b o,s.heap.get? b=some o->h'.get? b=some o)->Q (.ref (s.heap.objs.size+1)) { s with heap:=h' }) :
  wpAny (model prog w) A (call (.type "enumerate") [.ref l]) Q E s:=by
 obtain⟨⟨c,ai,ZK,sl⟩,hl,hc,n,hd⟩:=hL;replace hc:c=.type "tuple":=hc;replace hd:ZK=.seq items n:=hd;subst hc hd;refine callType_new F.called_enumerate (by decide) (F.typeCall_enumerate_1 _) (F.newCall_enumerate_1 _) (λobj=>F.args_object_init_2 obj _) F.entry_enumerate_new
  (Kg l items n ai sl) ⟨hl,?_⟩
 have hz:(s.heap.push { cls:=.type "tuple_iterator",data:=.fields #[.ref l,.int 0 0] }).objs.size=s.heap.objs.size+1:=aba ..;show _/\_;rw[hz];have he:IsEnum ((s.heap.push { cls:=.type "tuple_iterator",data:=.fields #[.ref l,.int 0 0] }).push
   { cls:=.type "enumerate",data:=.fields #[.none,.bool false,.ref s.heap.objs.size,rawInt 0,.none,.none] }) (s.heap.objs.size+1) s.heap.objs.size 0 .none:=by
  have:=aaG (s.heap.push { cls:=.type "tuple_iterator",data:=.fields #[.ref l,.int 0 0] })
   (o:={ cls:=.type "enumerate",data:=.fields #[.none,.bool false,.ref s.heap.objs.size,rawInt 0,.none,.none] }) rfl
  rw[hz]at this;exact this
 refine⟨⟨_,he,rfl⟩,h _ he ⟨_,aaD _ (aaG _ rfl),rfl,rfl⟩ (by rw[aba,hz]) λb o x=>aaD _ (aaD _ x)⟩
theorem Ki {e it l:Addr}{i:Nat}{items:Array Value}{bv:Value}{Q:Option Value->Shared->Prop} (hh:A.handled=none)
  (he:IsEnum s.heap e it i bv) (hit:s.heap.IsTupleIter it l i) (hl:s.heap.IsTuple l items) (hx:items[i]?=none)
  (hQ:∀h',Heap.ExtBut it s.heap h'->Q none { s with heap:=h' }):wpAny (model prog w) A (pyNext (.ref e)) Q E s:=by
 have hT:s.TypeIs (.ref e) "enumerate":=⟨_,he,rfl⟩;unfold pyNext;refine aaC (wpAny_attempt (aa8 (name:=abz "__next__") hT ab3
  (abg ab3 hT F.entry_enumerate_next ?_ (F.args_enumerate_next_1 _))))
 show wpAny _ _ (field (.ref e) 2 >>= _) _ _ _;refine aaC (abn he rfl (x:=.ref it) rfl ?_);refine aaC (lr hh hit hl hx λh' x iI cr=>?_);obtain⟨o,ho,hc⟩:=cr;refine aaC (acd (T:="StopIteration") (b:=true) ⟨o,ho,hc⟩ isSubtype_stop ?_);exact aaE (hQ _ iI)
end
section
variable {X:Cx}
end
end L2
end
section
namespace L2
open PySem PySem.Spec PyProof.Rows PySem.W
section
variable {X:Cx}
def ye:R2:=λx y H Q=>∃a b xs ys ds es,x=.ref a/\y=.ref b/\H a=some (.lst xs)/\H b=some (.lst ys)/\aX H ds xs/\aX H es ys/\aV ds<=bF/\Q (.bl (decide (ds=es))) H
theorem Kj (hu:X.A.units+110<cLine):aA X (compareOp .Eq) ye:=by
 intro pins s σ H x y v u Q I rx ry h;obtain⟨a,b,xs,ys,ds,es,rfl,rfl,ha,hb,h2,g2,hd,q⟩:=h;cases rx;cases ry;obtain⟨its,r,p,_⟩:=I.list (aT.of ha);obtain⟨aU,r2,p2,_⟩:=I.list (aT.of hb);have l1:its.toArray.size=ds.length:=by rw[aaF,<- r.length,h2.length]
 have l2:aU.toArray.size=es.length:=by rw[aaF,<- r2.length,g2.length]
 by_cases hl:ds.length=es.length
 ·refine SeqAt.RcAt.lists (s:=s) (A:=X.A) (e:=λj=>decide (ds[j]?=es[j]?)) p.isList p2.isList (by rw[l1,l2,hl]) (by lia) (k8 (n:=bF) (A:=X.A.in1) I.ae hd (by show X.A.units+1+bF<cLine;unfold bF;lia) h2 g2 r r2) _ _ _ _ ⟨.bl (decide (ds=es)),H,I,?_,q⟩;have:=k7 ds es;rw[<- hl,Nat.min_self]at this;simp only[beq_self_eq_true,Bool.and_true]at this;rw[<- this,l1];rfl
 ·refine acj (A:=X.A) p.isList p2.isList (by rw[l1,l2];simpa using hl) (by lia) _ _ _ _ ⟨.bl false,H,I,rfl,?_⟩;rw[decide_eq_false (λz=>hl (by rw[z]))]at q;exact q
theorem Kk (hu:X.A.units+110<cLine):aA X (compareOp .Eq) (λx y H Q=>(ql x y H Q\/qS x y H Q)\/ye x y H Q):=(Hg hu).or (Kj hu)
end
theorem Kl (xs:Array Value):((ab6 xs.size).filterMap λ(k:Nat)=>xs[(((xs.size:Int)-1)+(k:Int) * (-1)).toNat]?).toArray=xs.toList.reverse.toArray:=by
 congr 1
 have nq:∀(l:List Nat),(∀k∈l,k<xs.size)->l.filterMap (λ(k:Nat)=>xs[(((xs.size:Int)-1)+(k:Int) * (-1)).toNat]?)=l.map λk=>xs.toList.getD (xs.size-1-k) abB:=by
  intro l
  induction l with
  |nil=>intro _;rfl
  |cons k l ih=>
   intro h;have dI:k<xs.size:=h k aaO;have e1:(((xs.size:Int)-1)+(k:Int) * (-1)).toNat=xs.size-1-k:=(by lia);have e2:xs[(((xs.size:Int)-1)+(k:Int) * (-1)).toNat]?=some (xs.toList.getD (xs.size-1-k) abB):=by
    rw[e1,abM,<- abP,aaI (by rw[aaT];lia)];rfl
   rw[List.filterMap_cons,e2,aaR,ih λz hz=>h z (aaK _ hz)]
 rw[nq _ λk hk=>List.mem_range.mp hk];apply List.ext_getElem?;intro i;by_cases hi:i<xs.size
 ·rw[aaU,List.getElem?_range hi,List.getElem?_reverse (by rw[aaT];exact hi),aaT];show some (xs.toList.getD (xs.size-1-i) abB)=_;rw[abM,aaI (by rw[aaT];lia)];rfl
 ·rw[abp (by simpa using hi),abp (by simpa using hi)]
section
variable {prog:Program}{w:World}{A:Around}{E:Value->Shared->Prop}{s:Shared}
theorem Km {t sl:Addr}{items:Array Value}{tk:Tok}{Q:Value->Shared->Prop} (ht:IsTup s.heap t items) (hs:s.heap.IsSliceOf sl .none .none (.int (-1) tk))
  (h:Q (.ref s.heap.objs.size) { s with heap:=s.heap.push { cls:=.type "tuple",data:=.seq items.toList.reverse.toArray } })
  (hsz:items.size<=sizeLine):wpAny (model prog w) A (getItem (.ref t) (.ref sl)) Q E s:=by
 have fZ:sizeOk (.seq items.toList.reverse.toArray):=by
  show items.toList.reverse.toArray.size<=sizeLine;rw[aaF,acx,aaT];exact hsz
 obtain⟨os,cO,eg,dz⟩:=id hs;have kX:s.TypeIs (.ref sl) "slice":=⟨os,cO,eg⟩;unfold getItem
 try with_reducible refine abr ?_
 first |refine aaC (aaE ?_) |skip
 refine aaC (wpAny_sequenceKey ht.typeIs (by decide) ?_);refine aaC (aa8 (name:=abz "__getitem__") ht.typeIs abw
  (abg abw ht.typeIs entry_tuple_getitem ?_ (args_tuple_getitem _ _)))
 show wpAny _ _ (Builtin.Tuple.tupleItemsOf (.ref t) >>= _) _ _ s;refine aaC (tupleItemsOf_ ht ?_);refine aaC (wpAny_typeOf kX ?_);rw[if_pos (by decide)];have Yt:∀{Q:Int×Int×Nat->Shared->Prop}{E:Value->Shared->Prop}{A:Around},Q ((items.size:Int)-1,-1,items.size) s->wpAny (model prog w) A (ab' (.ref sl) (pure (items.size:Int))) Q E s:=by
  intro Q E A q;unfold ab' Builtin.Slice.sliceFields;refine aaC (aaC (abn cO dz (x:=.none) rfl (aaC (abn cO dz (x:=.none) rfl (aaC (abn cO dz (x:=.int (-1) tk) rfl (aaE ?_)))))));refine aaC (slicePart_int ?_);show wpAny _ _ (if ((-1:Int) == 0)=true then _ else _) _ _ s
  rw[if_neg (by decide)];refine aaC (slicePart_none (aaC (slicePart_none (aaC (aaE ?_)))));refine aaE ?_;have e:abC ((items.size:Int)-1) (-1) (-1)=items.size:=by
   unfold abC;rw[if_neg (by decide)];split
   ·have:((items.size:Int)-1 - -1-1) / (- -1)=(items.size:Int)-1:=(by rw[show (- -1:Int)=1 from rfl,Int.ediv_one];lia);lia
   ·lia
  show Q ((items.size:Int)-1,-1,abC ((items.size:Int)-1) (-1) (-1)) s;rw[e];exact q
 refine aaC (Yt ?_);show wpAny _ _ (if (((items.size:Int)-1 == 0) && (-1:Int) == 1 && (items.size == items.size))=true then _ else _) _ _ s
 rw[if_neg (by simp),Kl]
 first
  |exact aaC (m:=abq _) (aa6 (aaE ⟨_,rfl,aaE h⟩) fZ)
  |exact aaC (m:=abq _) (aa6 (aaC (aaE (aaE ⟨_,rfl,aaE h⟩))) fZ)
  |exact aaC (aaC (m:=abq _) (aa6 (aaE (aaE ⟨_,rfl,aaE h⟩)) fZ))
  |exact aaC (aaC (m:=abq _) (aa6 (aaE ⟨_,rfl,aaE h⟩) fZ))
end
section
variable {X:Cx}
end
section
variable {X:Cx}{e o:Expr}{te to:TE}
theorem Ko {m:Str}{b3 cpos:Pos} (hb:attributeBase o m X.env (eval o X.env)=eval o X.env) (h1:aY e=true) (b':(b3.endLine == cpos.line)=true):M1 X o m b3 e cpos:=
 ⟨hb,rB (by show (aY e && true)=true;rw[h1];rfl) (by show 1<29;decide),b',by rw[cp h1];rfl⟩
end
end L2
end
section
namespace L2
open PySem PySem.Spec PyProof.Rows PySem.W Kn
section
variable {X:Cx}
end
end L2
end
section
namespace PL
open PySem L2
inductive D where
 |at (v:V)
 |tup (ds:List D)
noncomputable abbrev D.int (i:Int):D:=.at (.int i)
noncomputable abbrev D.str (x:Str):D:=.at (.str x)
noncomputable abbrev D.bl (b:Bool):D:=.at (.bl b)
noncomputable abbrev D.ref (a:Addr):D:=.at (.ref a)
noncomputable abbrev D.af:D:=.at .af
mutual
def RD (H:Hp):D->V->Prop
 |.at v,u=>u=v
 |.tup ds,u=>∃a xs,u=.ref a/\H a=some (.tup xs)/\az H ds xs
def az (H:Hp):List D->List V->Prop
 |[],xs=>xs=[]
 |d::ds,xs=>∃y ys,xs=y::ys/\RD H d y/\az H ds ys
end
theorem RD.aw {H:Hp} (v:V):RD H (.at v) v:=by rw[RD]
theorem az.nil {H:Hp}:az H [] []:=by rw[az]
theorem az.cons {H:Hp}{d:D}{ds:List D}{x:V}{xs:List V} (h:RD H d x) (t:az H ds xs):az H (d::ds) (x::xs):=by rw[az];exact⟨x,xs,rfl,h,t⟩
theorem bG {H:Hp}:∀{ds:List D}{xs:List V},az H ds xs->Paired (RD H) ds xs
 |[],xs,h=>by rw[az]at h;subst h;exact .nil
 |d::ds,xs,h=>by rw[az]at h;obtain⟨y,ys,rfl,h1,h2⟩:=h;exact .cons h1 (bG h2)
theorem gg {H:Hp}:∀{ds:List D}{xs:List V},Paired (RD H) ds xs->az H ds xs
 |_,_,.nil=>.nil
 |_,_,.cons h t=>.cons h (gg t)
mutual
theorem RD.mono {H H':Hp} (t:ay H H'):∀{d:D}{v:V},RD H d v->RD H' d v
 |.at u,v,h=>by rw[RD]at h ⊢;exact h
 |.tup ds,v,h=>by
  rw[RD]at h ⊢;obtain⟨a,xs,e,h1,h2⟩:=h;exact⟨a,xs,e,t a xs h1,az.mono t h2⟩
theorem az.mono {H H':Hp} (t:ay H H'):∀{ds:List D}{xs:List V},az H ds xs->az H' ds xs
 |[],xs,h=>by rw[az]at h ⊢;exact h
 |d::ds,xs,h=>by
  rw[az]at h ⊢;obtain⟨y,ys,e,h1,h2⟩:=h;exact⟨y,ys,e,RD.mono t h1,az.mono t h2⟩
end
section
variable {α β:Type} {F:α->β->Prop}
theorem eG:∀{l:List α}{m:List β}{i:Nat}{a:α},Paired F l m->l[i]?=some a->∃b,m[i]?=some b/\F a b
 |_,_,_,_,.nil,e=>by simp at e
 |_,_,0,_,.cons r _,e=>by simp at e;subst e;exact⟨_,rfl,r⟩
 |_,_,i+1,a,.cons _ t,e=>by
  obtain⟨u,h1,h2⟩:=eG (i:=i) (a:=a) t (by simpa using e);exact⟨u,by simpa using h1,h2⟩
theorem rW:∀{l:List α}{m:List β}{i:Nat}{b:β},Paired F l m->m[i]?=some b->∃a,l[i]?=some a/\F a b
 |_,_,_,_,.nil,e=>by simp at e
 |_,_,0,_,.cons r _,e=>by simp at e;subst e;exact⟨_,rfl,r⟩
 |_,_,i+1,b,.cons _ t,e=>by
  obtain⟨u,h1,h2⟩:=rW (i:=i) (b:=b) t (by simpa using e);exact⟨u,by simpa using h1,h2⟩
theorem rX:∀{l l':List α}{m m':List β},Paired F l m->Paired F l' m'->Paired F (l++l') (m++m')
 |_,_,_,_,.nil,s=>s
 |_,_,_,_,.cons r t,s=>.cons r (rX t s)
theorem yf {a:α}{b:β} (r:F a b):∀{l:List α}{m:List β} (i:Nat),Paired F l m->Paired F (l.set i a) (m.set i b)
 |_,_,_,.nil=>.nil
 |_,_,0,.cons _ t=>.cons r t
 |_,_,i+1,.cons q t=>.cons q (yf r i t)
theorem rY:∀{l:List α}{m:List β} (n:Nat),Paired F l m->Paired F (l.take n) (m.take n)
 |_,_,0,_=>.nil
 |_,_,_+1,.nil=>.nil
 |_,_,n+1,.cons r t=>.cons r (rY n t)
theorem yg:∀{l:List α}{m:List β} (n:Nat),Paired F l m->Paired F (l.drop n) (m.drop n)
 |_,_,0,r=>r
 |_,_,_+1,.nil=>.nil
 |_,_,n+1,.cons _ t=>yg n t
theorem rZ:∀{l:List α}{m:List β},Paired F l m->Paired F l.reverse m.reverse
 |_,_,.nil=>.nil
 |_,_,.cons r t=>by rw[ab5,ab5];exact (rZ t).snoc r
end
noncomputable def nU:HO->Bool
 |.lst _=>true
 |.dK _=>true
 |.ins _ _ _=>true
 |_=>false
structure gV (ψ:Hp->Prop):Prop where
 lay:∀H p u,H p=none->ψ H->ψ (ag H p u)
 put:∀H p u u0,H p=some u0->nU u0=true->ψ H->ψ (ag H p u)
 grow:∀H H',(∀b o,(∀qs,o≠HO.bj qs)->H b=some o->H' b=some o)->ψ H->ψ H'
structure r6 (ψ:Hp->Prop):Prop where
 lay:∀H p u,H p=none->ψ H->ψ (ag H p u)
 put:∀H p u u0,H p=some u0->nU u0=true->ψ H->ψ (ag H p u)
 grow:∀H H',(∀b o,H b=some o->H' b=some o)->ψ H->ψ H'
inductive MO where
 |lst (xs:List D)
  |jG (xs:List D)
 |ai (kvs:List (Key×D))
 |ins (C:Addr) (fs:List (Str×D))
  |ext (ψ:Hp->Prop) (s:gV ψ)
noncomputable def r8:MO->Bool
 |.lst _=>true
 |.ai _=>true
 |.ins _ _=>true
 |_=>false
abbrev Mp:=Addr->Option MO
noncomputable def up (M:Mp) (a:Addr) (o:MO):Mp:=λb=>if b=a then some o else M b
theorem ah {M:Mp}{a:Addr}{o:MO}:up M a o a=some o:=by unfold up;rw[if_pos rfl]
theorem ao {M:Mp}{a b:Addr}{o:MO} (h:b≠a):up M a o b=M b:=by unfold up;rw[if_neg h]
def bM {κ:Type} (H:Hp) (kvs:List (κ×D)) (vs:List (κ×V)):Prop:=Paired (λp q=>p.1=q.1/\RD H p.2 q.2) kvs vs
theorem bM.mono {κ:Type} {H H':Hp} (t:ay H H') {kvs:List (κ×D)}{vs:List (κ×V)} (h:bM H kvs vs):bM H' kvs vs:=Paired.mM h λ_ _ r=>⟨r.1,r.2.mono t⟩
def RO (H:Hp) (a:Addr):MO->Prop
 |.lst ds=>∃xs,H a=some (.lst xs)/\az H ds xs
 |.jG ds=>∃o xs,H a=some (.cX o (.lst xs))/\az H ds xs
 |.ai kvs=>∃vs,H a=some (.dK vs)/\bM H kvs vs
 |.ins C fs=>∃dx vs,H a=some (.ins C dx vs)/\bM H fs vs
 |.ext ψ _=>ψ H/\∃ φ,H a=some (.ext φ)
structure Tp where
 tups:List (Addr×D)
 J:Hp->Prop
 sj:r6 J
structure RM (T:Tp) (H:Hp) (M:Mp):Prop where
 aa:∀p∈T.tups,RD H p.2 (.ref p.1)
 fz:T.J H
 ob:∀a o,M a=some o->RO H a o
theorem RO.mono {H H':Hp}{a:Addr} (t:ay H H') (e:H' a=H a) (g:∀ ψ,gV ψ->ψ H->ψ H'):∀{o:MO},RO H a o->RO H' a o
 |.lst _,⟨xs,h,r⟩=>⟨xs,by rw[e];exact h,r.mono t⟩
 |.jG _,⟨o,xs,h,r⟩=>⟨o,xs,by rw[e];exact h,r.mono t⟩
 |.ai _,⟨xs,h,r⟩=>⟨xs,by rw[e];exact h,r.mono t⟩
 |.ins _ _,⟨dx,xs,h,r⟩=>⟨dx,xs,by rw[e];exact h,r.mono t⟩
 |.ext ψ s,⟨h,u,h1⟩=>⟨g ψ s h,u,by rw[e];exact h1⟩
theorem RO.some {H:Hp}{a:Addr}:∀{o:MO},RO H a o->∃u,H a=abI u/\(∀xs,u≠HO.tup xs)/\(r8 o=true->nU u=true)
 |.lst _,⟨xs,h,r⟩=>⟨_,h,λ_ z=>(nomatch z),λ_=>rfl⟩
 |.jG _,⟨o,xs,h,r⟩=>⟨_,h,λ_ z=>(nomatch z),λz=>nomatch z⟩
 |.ai _,⟨xs,h,r⟩=>⟨_,h,λ_ z=>(nomatch z),λ_=>rfl⟩
 |.ins _ _,⟨dx,xs,h,r⟩=>⟨_,h,λ_ z=>(nomatch z),λ_=>rfl⟩
 |.ext _ _,⟨_,u,h1⟩=>⟨_,h1,λ_ z=>(nomatch z),λz=>nomatch z⟩
theorem RO.Kp {H:Hp}{a:Addr}{o:MO} (r:RO H a o) (qs:Array Value):H a≠abI (.bj qs):=by
 cases o with
 |lst _=>obtain⟨_,h,_⟩:=r;rw[h];exact λz=>nomatch z
 |jG _=>obtain⟨_,_,h,_⟩:=r;rw[h];exact λz=>nomatch z
 |ai _=>obtain⟨_,h,_⟩:=r;rw[h];exact λz=>nomatch z
 |ins _ _=>obtain⟨_,_,h,_⟩:=r;rw[h];exact λz=>nomatch z
 |ext _ _=>obtain⟨_,_,h⟩:=r;rw[h];exact λz=>nomatch z
section
variable {T:Tp}{H H':Hp}{M:Mp}
theorem RM.free (r:RM T H M) {p:Addr} (h:H p=none):M p=none:=by
 cases e:M p with
 |none=>rfl
 |some o=>obtain⟨u,q,_⟩:=(r.ob p o e).some;rw[h]at q;cases q
theorem RM.lay (r:RM T H M) {p:Addr} (h:H p=none) (u:HO):RM T (ag H p u) M:=
 ⟨λq hq=>(r.aa q hq).mono (ay.new h u),T.sj.lay H p u h r.fz,λa o e=>(r.ob a o e).mono (ay.new h u) (by rw[aD];rintro rfl;rw[r.free h]at e;cases e) fun ψ s=>s.lay H p u h⟩
theorem RM.new (r:RM T H M) {p:Addr} (h:H p=none) {u:HO}{o:MO} (n:RO (ag H p u) p o):RM T (ag H p u) (up M p o):=
 ⟨λq hq=>(r.aa q hq).mono (ay.new h u),T.sj.lay H p u h r.fz,λa o' e=>by
  by_cases ha:a=p
  ·subst ha;rw[ah]at e;cases e;exact n
  ·rw[ao ha]at e;exact (r.ob a o' e).mono (ay.new h u) (aD ha) fun ψ s=>s.lay H p u h⟩
theorem d9 {p:Addr}{u:HO}{o:MO} (r:RM T H M) (h:M p=some o):ay H (ag H p u):=λb xs e=>by
 rw[aD];exact e;rintro rfl;obtain⟨v,q,n,_⟩:=(r.ob b o h).some;rw[e]at q;cases q;exact n _ rfl
theorem RM.put (r:RM T H M) {p:Addr}{o o':MO}{u:HO} (h:M p=some o) (n:RO (ag H p u) p o') (ho:r8 o=true:=by rfl):RM T (ag H p u) (up M p o'):=by
 obtain⟨u0,q,_,hd⟩:=(r.ob p o h).some;exact⟨λq hq=>(r.aa q hq).mono (d9 r h),T.sj.put H p u u0 q (hd ho) r.fz,λa o2 e=>by
  by_cases ha:a=p
  ·subst ha;rw[ah]at e;cases e;exact n
  ·rw[ao ha]at e;exact (r.ob a o2 e).mono (d9 r h) (aD ha) fun ψ s=>s.put H p u u0 q (hd ho)⟩
theorem RM.grow (r:RM T H M) (k:∀b o,H b=some o->H' b=some o):RM T H' M:=
 ⟨λq hq=>(r.aa q hq).mono λb xs e=>k b _ e,T.sj.grow H H' k r.fz,λa o e=>by
  obtain⟨u,q,_⟩:=(r.ob a o e).some;exact (r.ob a o e).mono (λb xs e=>k b _ e) (by rw[q];exact k a u q) fun ψ s=>s.grow H H' λb o _=>k b o⟩
theorem RM.tab (r:RM T H M) (k:∀b o,(∀qs,o≠HO.bj qs)->H b=some o->H' b=some o) (j:T.J H'):RM T H' M:=
 ⟨λq hq=>(r.aa q hq).mono λb xs e=>k b _ (λ_ z=>nomatch z) e,j,λa o e=>by
  obtain⟨u,q,_⟩:=(r.ob a o e).some;exact (r.ob a o e).mono (λb xs e=>k b _ (λ_ z=>nomatch z) e) (by rw[q];exact k a u (λqs z=>(r.ob a o e).Kp qs (by rw[q,z])) q) fun ψ s=>s.grow H H' k⟩
def Sub (M' M:Mp):Prop:=∀a o,M' a=some o->M a=some o
theorem RM.sub (r:RM T H M) {M':Mp} (h:Sub M' M):RM T H M':=⟨r.aa,r.fz,λa o e=>r.ob a o (h a o e)⟩
end
abbrev bb:=List (Option D)
structure RS (H:Hp) (τ:bb) (σ:St):Prop where
 len:τ.length=σ.length
 aw:∀(i:Nat) (d:D),τ[i]?=some (some d)->∃v,σ[i]?=some (some v)/\RD H d v
theorem RS.mono {H H':Hp} {τ:bb} {σ:St} (t:ay H H') (r:RS H τ σ):RS H' τ σ:=⟨r.len,λi d e=>let ⟨v,h,q⟩:=r.aw i d e;⟨v,h,q.mono t⟩⟩
theorem RS.set {H:Hp} {τ:bb} {σ:St} (r:RS H τ σ) (i:Nat) {d:D}{v:V} (h:RD H d v):RS H (τ.set i (some d)) (σ.set i (some v)):=
 ⟨by rw[List.length_set,List.length_set,r.len],λj e q=>by
  rw[List.getElem?_set]at q ⊢;by_cases hj:i=j
  ·subst hj;rw[if_pos rfl]at q ⊢;by_cases hl:i < τ.length
   ·rw[if_pos hl]at q;rw[if_pos (by rw[<- r.len];exact hl)];cases q;exact⟨v,rfl,h⟩
   ·rw[if_neg hl]at q;cases q
  ·rw[if_neg hj]at q ⊢;exact r.aw j e q⟩
abbrev QK:=D->Mp->Prop
abbrev DE:=bb->Mp->QK->Prop
abbrev DT:=bb->Mp->(Bool->Mp->Prop)->Prop
abbrev DA:=bb->Mp->(List D->Mp->Prop)->Prop
structure En where
 nx:bb->Mp->Prop
 rt:QK
 Xj:bb->Mp->Prop:=λ_ _=>False
 ct:bb->Mp->Prop:=λ_ _=>False
abbrev DS:=En->bb->Mp->Prop
variable (T:Tp)
def Po (H:Hp) (q:QK) (Q:VK):Prop:=∀v d H' M',ay H H'->RM T H' M'->RD H' d v->q d M'->Q v H'
def ak (t:DE):TE:=fun σ H Q=>∃ τ M q,RS H τ σ/\RM T H M/\t τ M q/\Po T H q Q
def bW (t:DT):TT:=fun σ H Q=>∃ τ M q,RS H τ σ/\RM T H M/\t τ M q/\∀b H' M',ay H H'->RM T H' M'->q b M'->Q b H'
def cS (t:DA):TA:=fun σ H Q=>∃ τ M q,RS H τ σ/\RM T H M/\t τ M q/\∀vs ds H' M',ay H H'->RM T H' M'->az H' ds vs->q ds M'->Q vs H'
structure nV (H:Hp) (e:En) (D:gB):Prop where
 nx:∀ τ σ H' M',ay H H'->RM T H' M'->RS H' τ σ->e.nx τ M'->D.nx σ H'
 rt:Po T H e.rt D.rt
 Xj:∀ τ σ H' M',ay H H'->RM T H' M'->RS H' τ σ->e.Xj τ M'->D.Xj σ H'
 ct:∀ τ σ H' M',ay H H'->RM T H' M'->RS H' τ σ->e.ct τ M'->D.ct σ H'
def cj (t:DS):TS:=λD σ H=>∃ τ M e,RS H τ σ/\RM T H M/\t e τ M/\nV T H e D
variable {T}
theorem Po.tr {H H':Hp}{q:QK}{Q:VK} (t:ay H H') (p:Po T H q Q):Po T H' q Q:=λv d H2 M2 t2=>p v d H2 M2 (t.trans t2)
theorem nV.tr {H H':Hp}{e:En}{D:gB} (t:ay H H') (p:nV T H e D):nV T H' e D:=
 ⟨fun τ σ H2 M2 t2=>p.nx τ σ H2 M2 (t.trans t2),p.rt.tr t,fun τ σ H2 M2 t2=>p.Xj τ σ H2 M2 (t.trans t2),fun τ σ H2 M2 t2=>p.ct τ σ H2 M2 (t.trans t2)⟩
theorem Po.same {H:Hp}{M:Mp}{q:QK}{Q:VK}{v:V}{d:D} (p:Po T H q Q) (r:RM T H M) (h:RD H d v) (x:q d M):Q v H:=p v d H M (ay.refl H) r h x
theorem Po.new {H:Hp}{M:Mp}{q:QK}{Q:VK} (p:Po T H q Q) (r:RM T H M) {o:MO}{u:HO}{a:Addr} (h:H a=none) (n:RO (ag H a u) a o) (x:∀a,M a=none->q (.ref a) (up M a o)):Q (.ref a) (ag H a u):=
 p _ (.ref a) _ _ (ay.new h u) (r.new h n) (RD.aw _) (x a (r.free h))
section
variable {X:Cx}
theorem aR {e:Expr}{t u:TE} (h:PE X e t) (f:∀ σ H Q,u σ H Q->t σ H Q):PE X e u:=λpins s σ H Q I q=>h pins s σ H Q I (f σ H Q q)
theorem nW {e:Expr}{t u:TT} (h:PT X e t) (f:∀ σ H Q,u σ H Q->t σ H Q):PT X e u:=λpins s σ H Q I q=>h pins s σ H Q I (f σ H Q q)
theorem nX {e:Expr}{t u:TT} (h:PW X e t) (f:∀ σ H Q,u σ H Q->t σ H Q):PW X e u:=λw pins s σ H Q I q=>h w pins s σ H Q I (f σ H Q q)
theorem yh {e:List Expr}{t u:TA} (h:PA X e t) (f:∀ σ H Q,u σ H Q->t σ H Q):PA X e u:=λpos pins s σ H Q I q=>h pos pins s σ H Q I (f σ H Q q)
theorem eH {e:Stmt}{t u:TS} (h:PS X e t) (f:∀D σ H,u D σ H->t D σ H):PS X e u:=λpins s σ H Q I q=>h pins s σ H Q I (f Q σ H q)
theorem yi {e:List Stmt}{t u:TS} (h:bP X e t) (f:∀D σ H,u D σ H->t D σ H):bP X e u:=λpins s σ H Q I q=>h pins s σ H Q I (f Q σ H q)
end
end PL
end
section
namespace L2
open PySem PySem.Spec PyProof.Rows
section
variable {P:Program}{w:World}{fs ex:List Addr}{H:Hp}{h h':Heap}{T c:Addr}{ps more:Array Value}{o:HO}
theorem Un.r9 (hT:H T=some (.bj ps)) (k:∀b u,b≠T->h.get? b=some u->h'.get? b=some u) (e:∃u,h'.get? T=some u) (hp:h.objs.size<=c) (hn:H c=none):Un fs ex H (ag (ag H T (.bj (ps++more))) c o) h h':=by
 have XC:T≠c:=bB hT hn;have nT:∀b,H b=none->b≠T:=λb n z=>by rw[z,hT]at n;cases n
 have ge:∀b u,H b=some u->b≠T->ag (ag H T (.bj (ps++more))) c o b=some u:=λb u q z=>by rw[aD (bB q hn),aD z];exact q
 refine⟨λb u q n _ _=>k b u (nT b n) q,λb u q n _ _=>⟨u.slots,k b u (nT b n) q⟩,λb u q n _=>?_,λb u q _=>?_,λb xs q=>ge b _ q λz=>?_,λb u xs q=>ge b _ q λz=>?_,λb qs q=>?_,λb xs o q e=>k b o (λz=>by rw[z,hT]at q;cases q) e⟩
 ·rw[aD (aaL (aaM (aaJ q) hp)),aD (nT b n)];exact n
 ·by_cases z:b=T
  ·rw[z];exact e
  ·exact⟨u,k b u z q⟩
 ·rw[z,hT]at q;cases q
 ·rw[z,hT]at q;cases q
 ·by_cases z:b=T
  ·rw[z,hT]at q;cases q;exact⟨more,by rw[z,aD XC,b7]⟩
  ·exact⟨#[],by rw[ge b _ q z];simp⟩
theorem aQ.r9 (x:aQ P w H h) (hT:H T=some (.bj ps)) (k:∀b u,b≠T->h.get? b=some u->h'.get? b=some u) (e:h'.get? T=some (PySem.W.tabObj (ps++more))) (hn:H c=none) (new:∀H',bk P w H' h' c o):aQ P w (ag (ag H T (.bj (ps++more))) c o) h':=λb u q=>by
 have XC:T≠c:=bB hT hn;by_cases z:b=c
 ·rw[z,b7]at q;cases q;rw[z];exact new _
 rw[aD z]at q;by_cases y:b=T
 ·rw[y,b7]at q;cases q;rw[y];exact e
 rw[aD y]at q;have ge:∀b u,H b=some u->b≠T->ag (ag H T (.bj (ps++more))) c o b=some u:=λb u q z=>by rw[aD (bB q hn),aD z];exact q
 have nT:∀d v,H d=some v->(∀qs,v≠.bj qs)->d≠T:=λd v r m z=>by rw[z,hT]at r;cases r;exact m _ rfl
 refine (x b u q).el (λd v hd r=>k d v ?_ r) (λd r=>ge d _ r (nT d _ r λ_ z=>by cases z)) λd xs r=>ge d _ r (nT d _ r λ_ z=>by cases z);rcases hd with rfl |hd
 ·exact y
 ·exact nT d _ hd λ_ z=>by cases z
end
section
variable {X:Cx}
def fA (c:Addr) (qual:Str):Heap->Prop:=λh=>h.CodeRec (.ref c) qual
def iO (qual:Str) (params:Arguments) (body:Expr) (scope:Scope) (pm:Value) (c:Addr) (ap:Value) (f:Addr):Heap->Prop:=λh=>h.get? f=some (PySem.W.kla_obj "<lambda>" qual params body scope [] pm c ap)
def yj (H:Hp) (T:Addr) (pos:Pos) (qual:Str):Prop:=H T=some (.bj #[])\/∃c,H T=some (.bj #[rawInt pos.line,rawInt pos.col,.ref c])/\H c=some (.ext (fA c qual))
def yk (T:Addr) (qual:Str) (params:Arguments) (body:Expr) (scope:Scope) (pm:Value) (pos:Pos):TE:=λ_ H Q=>yj H T pos qual /\
 ∀(f c:Addr) (ap:Value) (H':Hp),H f=none->H' f=some (.ext (iO qual params body scope pm c ap f))->H' c=some (.ext (fA c qual))->H' T=some (.bj #[rawInt pos.line,rawInt pos.col,.ref c])->(∀b o,b≠T->H b=some o->H' b=some o)->Q (.ref f) H'
theorem Kq {P:Program}{w:World}{h:Heap}{c:Addr}{qual:Str} (x:h.CodeRec (.ref c) qual) (H':Hp):bk P w H' h c (.ext (fA c qual)):=by
 refine⟨x,?_,λh1 h2 y k=>?_⟩
 ·obtain⟨d,o,vs,t,e,e1,e2,e3⟩:=x;cases e;exact⟨o,e1⟩
 ·obtain⟨d,o,vs,t,e,e1,e2,e3⟩:=y;cases e;exact⟨c,o,vs,t,rfl,k _ e1,e2,e3⟩
theorem yl {P:Program}{w:World}{h:Heap}{c f:Addr}{qual:Str}{params:Arguments}{body:Expr}{scope:Scope}{pm ap:Value} (x:h.get? f=some (PySem.W.kla_obj "<lambda>" qual params body scope [] pm c ap)) (H':Hp):bk P w H' h f (.ext (iO qual params body scope pm c ap f)):=
 ⟨x,⟨_,x⟩,λh1 h2 y k=>k _ y⟩
theorem Kr {params:Arguments}{body:Expr}{scope:Scope}{pos:Pos}{c T bm:Addr}{ob:Obj} (se:defaultsOf params X.env=([],[])) (cb:closureFor scope X.env=pure []) (jH:X.env.globals=mainGlobals) (jI:X.env.code=.ref c) (cY:PySem.W.codeHdIn X.K c T=true)
  (Ks:X.mg "__builtins__"=some (.ref bm)) (Kt:X.K.lookup bm=some ob) (h1:bm≠builtinsNs) (h2:bm≠mainGlobals) (h3:bm≠T) (h4:ob.cls=.type "module") (h5:ob.dict=some builtinsNs) (h6:ob.data=.plain) (Ku:mainGlobals≠T) :
  PE X (.Lambda params body scope pos) (yk T (X.env.qual++"<lambda>") params body scope ((X.mg "__name__").getD .none) pos):=by
 intro pins s σ H Q I ⟨hL,q⟩;have hg:s.heap.Ns mainGlobals X.mg:=I.b8.eZ.keeps I.Xj;have C:PySem.W.CodeHd s.heap c T:=PySem.W.codeHd_of_K I.bt cY;have hb:s.heap.BuiltinsAt X.mg T:=⟨bm,ob,Ks,h1,h2,h3,I.bt _ _ Kt,h4,h5,h6⟩;refine PySem.W.kla_eval se ?_;rcases hL with hT |⟨c',hT,hC⟩
 ·have hP:s.heap.get? T=some (PySem.W.tabObj #[]):=I.ae T _ hT;refine PySem.W.kla_makeFunction cb jH hg jI C hP trivial rfl Ku hb λc' ap h' tk ext ym fY rec tab=>?_;have nY:H c'=none:=I.ae.fresh ym;have XC:T≠c':=bB hT nY;have I1:ab X pins σ (ag (ag H T (.bj (#[]++#[rawInt pos.line,rawInt pos.col,.ref c']))) c' (.ext (fA c' (X.env.qual++"<lambda>")))) { s with heap:=h',toks:=tk }:=
   I.un (Un.r9 hT (λb u z e=>ext b u z e) ⟨_,tab⟩ ym nY) (I.ae.r9 hT (λb u z e=>ext b u z e) tab nY (Kq rec))
  have gh:(ag (ag H T (.bj (#[]++#[rawInt pos.line,rawInt pos.col,.ref c']))) c' (.ext (fA c' (X.env.qual++"<lambda>")))) h'.objs.size=none:=I1.ae.fresh (aaH _);have hf:H h'.objs.size=none:=by
   rw[aD (λz=>by rw[z,b7]at gh;cases gh)]at gh;rw[aD (λz=>by rw[z,b7]at gh;cases gh)]at gh;exact gh
  have XH:c'≠h'.objs.size:=λz=>by rw[<- z,b7]at gh;cases gh
  have ZL:T≠h'.objs.size:=bB hT hf;refine⟨.ref h'.objs.size,ag _ h'.objs.size (.ext (iO (X.env.qual++"<lambda>") params body scope ((X.mg "__name__").getD .none) c' ap h'.objs.size)),I1.laid (t':=tk) (λb u e=>aaD _ e) (aaH _) (yl (aaG _ rfl) _),rfl,q _ c' ap _ hf b7 ?_ ?_ λb o z e=>?_⟩
  ·rw[aD XH,b7]
  ·rw[aD ZL,aD XC,b7];simp
  ·rw[aD (bB e hf),aD (bB e nY),aD z];exact e
 ·have hP:s.heap.get? T=some (PySem.W.tabObj #[rawInt pos.line,rawInt pos.col,.ref c']):=I.ae T _ hT;refine PySem.W.kla_makeFunctionHit (cv:=.ref c') cb jH hg jI C hP ?_ ?_ hb λap h' tk k hs=>?_
  ·simp [TriplesOk,rawInt]
  ·simp [codeAmong,rawInt]
  have I1:ab X pins σ H { s with heap:=h',toks:=tk }:=I.bD k;have hf:H h'.objs.size=none:=I1.ae.fresh (aaH _);exact⟨.ref h'.objs.size,ag H h'.objs.size (.ext (iO (X.env.qual++"<lambda>") params body scope ((X.mg "__name__").getD .none) c' ap h'.objs.size)),I1.laid (t':=tk) (λb u e=>aaD _ e) (aaH _) (yl (aaG _ rfl) _),rfl,q _ c' ap _ hf b7 (by rw[aD (bB hC hf)];exact hC) (by rw[aD (bB hT hf)];exact hT) λb o z e=>by rw[aD (bB e hf)];exact e⟩
theorem Kv {CX:cJ}{P:Program}{w:World}{K:PySem.W.Frag}{mg:Str->Option Value}{base:Heap}{k:Nat}{f c:Addr}{qual:Str}{params:Arguments}{body:Expr}{scope:Scope}{pm ap:Value}{N ps:List Str}{sp:Sp}
  (S:aK N ps scope) (len:∀vs H Q E,sp vs H Q E->vs.length=ps.length) (aw:∀vs H Q E,sp vs H Q E->H f=some (.ext (iO qual params body scope pm c ap f))/\H c=some (.ext (fA c qual)))
  (one:∀(A:Around) (out:List Env) (s:Shared) (H:Hp) (vs:List V) (Q:VK) (E:XK),bf k (A.deeper (envOfC qual scope s.heap.objs.size f (.ref c)))->sp vs H Q E->∃te,PE (dY CX P w K mg base N qual scope f (.ref c) A out s H E) body te/\te (start N vs) H Q) :
  a5 P w K mg base CX (k+1) f (PySem.W.kla_fn "<lambda>" qual params body scope [] pm (.ref c) ap) ps sp:=by
 refine⟨len,λA out s H args us vs Q E room en sf rel sg=>?_⟩;obtain⟨hf,hc⟩:=aw _ _ _ _ sg;have ho:s.heap.get? f=some _:=(en.ae f _ hf).1;have hr:s.heap.CodeRec (.ref c) qual:=(en.ae c _ hc).1;have Kw:∀y∈ps.zip us,scope.names.lookup y.1=some .local\/(scope.names.lookup y.1=some .cell/\((cellsFrom (s.heap.objs.size+1) scope.names []).lookup y.1).isSome=true):=by
  rintro⟨n,v⟩ hy;exact (S.qv n (List.of_mem_zip hy).1).imp id λq=>⟨q,PySem.W.cellsFrom_some _ _ _ (.inl q)⟩
 refine PySem.W.kla_callFunE room.depth ho rfl S.YO S.nq rfl hr (sf _ _ _ _ ?_);refine wpAny_newFunctionEnv_cells S.kind Kw λenv he s1 x=>?_;subst he;refine⟨(en.b8.nolimit.keeps λb o e=>(en.bs b o e).1).keeps x.toInCall.keep,PySem.W.kla_codeExpr ?_⟩;obtain⟨te,ht,hq⟩:=one A out s H vs Q E (room.deeper _) sg;exact wpAny_mono (ht [] s1 _ H _ (wz S room.hd en (len _ _ _ _ sg) rel x) hq) (λu s' ⟨v,H',J,rv,q⟩=>⟨v,H',J.os,J.bT,J.base,J.ae,rv,q⟩) λe s' z=>z
def nZ (X:Cx) (CX:cJ) (k:Nat) (f:Addr) (sp:Sp):Prop:=∃(c:Addr) (qual:Str) (params:Arguments) (body:Expr) (scope:Scope) (pm ap:Value) (ps:List Str),
 a5 X.prog X.w X.K X.mg X.base CX k f (PySem.W.kla_fn "<lambda>" qual params body scope [] pm (.ref c) ap) ps sp/\b0 X.K (PySem.W.kla_fn "<lambda>" qual params body scope [] pm (.ref c) ap) ps []/\∀vs H Q E,sp vs H Q E->H f=some (.ext (iO qual params body scope pm c ap f))
structure sh (K:PySem.W.Frag) (mg:Str->Option Value) (c T:Addr):Prop where
 cd:PySem.W.codeHdIn K c T=true
 bi:∃(bm:Addr) (ob:Obj),mg "__builtins__"=some (.ref bm)/\K.lookup bm=some ob/\bm≠builtinsNs/\bm≠mainGlobals/\bm≠T/\ob.cls=.type "module"/\ob.dict=some builtinsNs/\ob.data=.plain
 Y4:mainGlobals≠T
theorem Kx {params:Arguments}{body:Expr}{scope:Scope}{pos:Pos}{c T:Addr} (L:sh X.K X.mg c T) (se:defaultsOf params X.env=([],[]):=by rfl) (cb:closureFor scope X.env=pure []:=by rfl) (jH:X.env.globals=mainGlobals:=by rfl) (jI:X.env.code=.ref c:=by rfl) :
  Hd (PE X (.Lambda params body scope pos) (yk T (X.env.qual++"<lambda>") params body scope ((X.mg "__name__").getD .none) pos)):=by
 obtain⟨cd,⟨bm,ob,b1,b2,Xk,b4,Yu,Yv,Yw,Yx⟩,Y4⟩:=L;exact⟨Kr se cb jH jI cd b1 b2 Xk b4 Yu Yv Yw Yx Y4⟩
theorem dg.Ky {P:Program}{w:World}{K:PySem.W.Frag}{mg:Str->Option Value}{base:Heap}{x qual:Str}{st:Stmt}{f c:Addr}{fd:FuncData}{N ps:List Str}{k:Nat}{sp:Sp} (F:dg K x qual st f fd) (hc:fd.code=.ref c) (S:aK N ps (aj st)) (len:∀ vs H Q E,sp vs H Q E->vs.length=ps.length)
  (body:∀(A:Around) (outer:List Env) (s:Shared) (H:Hp) (vs:List V) (Q:VK) (E:XK),bf k (A.deeper (envOfC qual (aj st) s.heap.objs.size f (.ref c)))->sp vs H Q E ->
   ∃t,Hd (bP (dY a7 P w K mg base N qual (aj st) f (.ref c) A outer s H E).dG (aH st) t)/\t { nx:=λ_ H'=>Q .af H',rt:=Q } (start N vs) H):a5 P w K mg base a7 (k+1) f fd ps sp:=by
 obtain⟨oc,od,kV,a3,pm,an,aW,ct,cZ,rfl,lk,cY⟩:=F.ex;obtain rfl:aW=.ref c:=hc;refine wA lk cY S len λA outer s H vs Q E hr h=>?_;obtain⟨t,h1,h2⟩:=body A outer s H vs Q E hr h;exact⟨t,h1.out.dG,h2⟩
end
section
variable {X:Cx}
def yn:R2:=λx y H Q=>∃a b xs ys ds es,x=.ref a/\y=.ref b/\H a=some (.lst xs)/\H b=some (.lst ys)/\aX H ds xs/\aX H es ys/\aV ds<=bF/\Q (.bl (!decide (ds=es))) H
theorem Kz {ds es:List Dt} (hl:ds.length=es.length):((ab6 ds.length).all λj=>decide (ds[j]?=es[j]?))=decide (ds=es):=by
 rw[abd,List.all_eq_true,decide_eq_true_iff];constructor
 ·intro h;refine List.ext_getElem? λj=>?_;by_cases z:j<ds.length
  ·exact of_decide_eq_true (h j (List.mem_range.mpr z))
  ·rw[abp (by lia),abp (by lia)]
 ·rintro rfl j _;exact decide_eq_true rfl
theorem KA (hu:X.A.units+110<cLine):aA X (compareOp .NotEq) yn:=by
 intro pins s σ H x y v u Q I rx ry h;obtain⟨a,b,xs,ys,ds,es,rfl,rfl,ha,hb,h2,g2,hd,q⟩:=h;cases rx;cases ry;obtain⟨its,r,p,_⟩:=I.list (aT.of ha);obtain⟨aU,r2,p2,_⟩:=I.list (aT.of hb);have l1:its.toArray.size=ds.length:=by rw[aaF,<- r.length,h2.length]
 have l2:aU.toArray.size=es.length:=by rw[aaF,<- r2.length,g2.length]
 by_cases hl:ds.length=es.length
 ·refine SeqAt.RcNeAt.lists (s:=s) (A:=X.A) (e:=λj=>decide (ds[j]?=es[j]?)) p.isList p2.isList (by rw[l1,l2];exact hl) (by lia) (k8 (n:=bF) (A:=X.A.in1) I.ae hd (by show X.A.units+1+bF<cLine;unfold bF;lia) h2 g2 r r2) _ _ _ _ ?_;rw[l1,Kz hl];exact⟨.bl _,H,I,rfl,q⟩
 ·refine SeqAt.RcNeAt.lists_lengths (A:=X.A) p.isList p2.isList (by rw[l1,l2];simpa using hl) (by lia) _ _ _ _ ⟨.bl true,H,I,rfl,?_⟩;rw[decide_eq_false (λz=>hl (by rw[z]))]at q;exact q
theorem KC (hu:X.A.units+110<cLine):aA X (compareOp .NotEq) (λx y H Q=>(qm x y H Q\/((∃ds es,aF H (.tup ds) x/\aF H (.tup es) y/\aV ds<=bF/\Q (.bl (!decide (ds=es))) H)\/qX x y H Q))\/yn x y H Q):=(Hi hu).or (KA hu)
end
abbrev lC:=List (Str×Addr)
def yo (dJ:lC) (b:Addr):Prop:=b∈dJ.map (·.2)
noncomputable instance (dJ:lC) (b:Addr):Decidable (yo dJ b):=by unfold yo;infer_instance
section
variable {P:Program}{w:World}{H H':Hp}{h h':Heap}{dJ:lC}{g:Addr->Obj}
end
section
variable {X:Cx}
end
section
variable {X:Cx}
end
section
variable {X:Cx}
def yp:R2:=λx y H Q=>∃a o,y=.ref a/\fg H a x o/\Q (.bl o.isSome) H
theorem KD (hu:X.A.units+1<cLine):aA X (compareOp .In) yp:=by
 intro pins s σ H x y v u Q I rx ry h;obtain⟨a,o,rfl,g,q⟩:=h;obtain rfl:u=aaX a:=ry;exact Fy hu I g rx λs3 I3=>⟨.bl o.isSome,H,I3,rfl,q⟩
end
section
variable {X:Cx}
def KG (K:PySem.W.Frag):List V->Hp->VK->Prop:=λws H Q=>∃(p:Addr) (ns:List Int),ws=[.ref p]/\aT K H p (ns.map V.int)/\0<ns.length/\∀M,M∈ns->(∀a∈ns,a<=M)->Q (.int M) H
theorem KH (hc:X.calm=true):bp X (.builtin "max") (KG X.K):=by
 intro pins s σ H ws us Q I r h;obtain⟨p,ns,rfl,hq,h0,q⟩:=h;obtain⟨u,rfl,ru⟩:=r.one;cases ru;have hh:=I.ok.hd hc;obtain⟨its,rv,pl,_⟩:=I.list hq;have hi:IntsAre its ns:=F3 rv;have hl:s.heap.IsList p its.toArray:=pl.isList;obtain⟨xs,hx⟩:=hi.allInts.items;have hn:numsOf its.toArray.toList=ns:=by rw[show its.toArray.toList=its from rfl,hi.numsOf]
 rw[hx]at hl hn;rw[nums_intItems]at hn;have hsz:0<xs.size:=by
  have:=congrArg List.length hn;rw[aaN,aaT]at this;lia
 refine max_intList hh hl hsz λv h' tk hv hk=>?_;obtain⟨t,rfl⟩:=intItems_at hv;obtain⟨h1,h2⟩:=argBest_gt (numAt xs) (xs.size-1);refine⟨.int _,H,I.bD (t':=tk) hk,⟨t,rfl⟩,q _ ?_ λa ha=>?_⟩
 ·rw[<- hn,numAt_eq];exact getD_mem (by rw[aaN,aaT];lia)
 ·rw[<- hn]at ha;obtain⟨j,hj,rfl⟩:=mem_getD ha;rw[aaN,aaT]at hj;rw[<- numAt_eq];exact h2 j (by lia)
end
end L2
end
section
namespace PL
open PySem L2
mutual
noncomputable def bh:D->Option Dt
 |.at (.int i)=>some (.int i)
 |.at (.str x)=>some (.str x)
 |.at _=>none
 |.tup ds=>(aN ds).map Dt.tup
noncomputable def aN:List D->Option (List Dt)
 |[]=>some []
 |d::ds=>(bh d).bind λe=>(aN ds).map λes=>e::es
end
mutual
theorem gW {H:Hp}:∀{d:D}{e:Dt}{v:V},bh d=some e->RD H d v->aF H e v
 |.at u,e,v,h,r=>by
  rw[RD]at r;cases u <;> rw[bh]at h <;> cases h <;> rw[aF] <;> exact r
 |.tup ds,e,v,h,r=>by
  rw[RD]at r;obtain⟨a,xs,rfl,h1,h2⟩:=r;rw[bh]at h;obtain⟨es,h3,rfl⟩:=Option.map_eq_some_iff.mp h;rw[aF];exact⟨a,xs,rfl,h1,fB h3 h2⟩
theorem fB {H:Hp}:∀{ds:List D}{es:List Dt}{xs:List V},aN ds=some es->az H ds xs->aX H es xs
 |[],es,xs,h,r=>by rw[aN]at h;cases h;rw[az]at r;rw[aX];exact r
 |d::ds,es,xs,h,r=>by
  rw[aN]at h;obtain⟨e,h1,h2⟩:=Option.bind_eq_some_iff.mp h;obtain⟨fs,h3,rfl⟩:=Option.map_eq_some_iff.mp h2;rw[az]at r;obtain⟨y,ys,rfl,r1,r2⟩:=r;rw[aX];exact⟨y,ys,rfl,gW h1 r1,fB h3 r2⟩
end
mutual
noncomputable def gi:Dt->D
 |.int i=>.int i
 |.str x=>.str x
 |.tup ds=>.tup (eI ds)
noncomputable def eI:List Dt->List D
 |[]=>[]
 |d::ds=>gi d::eI ds
end
mutual
theorem iB:∀(e:Dt),bh (gi e)=some e
 |.int i=>by rw[gi,bh]
 |.str i=>by rw[gi,bh]
 |.tup ds=>by rw[gi,bh,n6 ds];rfl
theorem n6:∀(es:List Dt),aN (eI es)=some es
 |[]=>by rw[eI,aN]
 |d::ds=>by rw[eI,aN,iB d,n6 ds];rfl
end
mutual
theorem n8:∀{d:D}{e:Dt},bh d=some e->d=gi e
 |.at u,e,h=>by cases u <;> rw[bh]at h <;> cases h <;> rw[gi]
 |.tup ds,e,h=>by
  rw[bh]at h;obtain⟨es,h3,rfl⟩:=Option.map_eq_some_iff.mp h;rw[gi,lD h3]
theorem lD:∀{ds:List D}{es:List Dt},aN ds=some es->ds=eI es
 |[],es,h=>by rw[aN]at h;cases h;rw[eI]
 |d::ds,es,h=>by
  rw[aN]at h;obtain⟨e,h1,h2⟩:=Option.bind_eq_some_iff.mp h;obtain⟨fs,h3,rfl⟩:=Option.map_eq_some_iff.mp h2;rw[eI,n8 h1,lD h3]
end
mutual
noncomputable def jJ:D->D->Bool
 |.at a,.at b=>decide (a=b)
 |.tup a,.tup b=>iP a b
 |_,_=>false
noncomputable def iP:List D->List D->Bool
 |[],[]=>true
 |a::r,b::s=>jJ a b && iP r s
 |_,_=>false
end
mutual
theorem yq:∀(a b:D),jJ a b=true ↔ a=b
 |.at a,.at b=>by rw[jJ];simp
 |.tup a,.tup b=>by rw[jJ,yr a b];simp
 |.at a,.tup b=>by simp [jJ]
 |.tup a,.at b=>by simp [jJ]
theorem yr:∀(a b:List D),iP a b=true ↔ a=b
 |[],[]=>by simp [iP]
 |a::r,b::s=>by rw[iP,aaW,yq a b,yr r s,acs]
 |[],_::_=>by simp [iP]
 |_::_,[]=>by simp [iP]
end
noncomputable instance:DecidableEq D:=λa b=>decidable_of_iff _ (yq a b)
theorem KI {d d':D}{e e':Dt} (h:bh d=some e) (h':bh d'=some e'):decide (e=e')=decide (d=d'):=by
 rw[n8 h,n8 h'];by_cases z:e=e'
 ·rw[decide_eq_true z,decide_eq_true (by rw[z])]
 ·rw[decide_eq_false z,decide_eq_false];intro y;have:=iB e;rw[y,iB e']at this;exact z (abe this).symm
theorem sk {d d':List D}{e e':List Dt} (h:aN d=some e) (h':aN d'=some e'):decide (e=e')=decide (d=d'):=by
 rw[lD h,lD h'];by_cases z:e=e'
 ·rw[decide_eq_true z,decide_eq_true (by rw[z])]
 ·rw[decide_eq_false z,decide_eq_false];intro y;have:=n6 e;rw[y,n6 e']at this;exact z (abe this).symm
abbrev Q2:=D->D->Mp->QK->Prop
abbrev QN:=List D->Mp->QK->Prop
abbrev QM:=D->List D->Mp->QK->Prop
def Ls (M:Mp) (a:Addr) (xs:List D):Prop:=M a=some (.lst xs)\/M a=some (.jG xs)
variable (T:Tp)
def cC (r:Q2):R2:=λx y H Q=>∃dx dy M q,RM T H M/\RD H dx x/\RD H dy y/\r dx dy M q/\Po T H q Q
def dh (r:QN):List V->Hp->VK->Prop:=λvs H Q=>∃ds M q,RM T H M/\az H ds vs/\r ds M q/\Po T H q Q
def jK (r:QM):V->List V->Hp->VK->Prop:=λx vs H Q=>∃d ds M q,RM T H M/\RD H d x/\az H ds vs/\r d ds M q/\Po T H q Q
variable {T}
section
variable {X:Cx}
theorem cc {f:Value->Value->Sem Value}{r r':R2} (h:aA X f r) (g:∀x y H Q,r' x y H Q->r x y H Q):aA X f r':=λpins s σ H x y v u Q I a b q=>h pins s σ H x y v u Q I a b (g x y H Q q)
theorem KJ {r r':R2} (h:dA X r) (g:∀x y H Q,r' x y H Q->r x y H Q):dA X r':=λe f pins s σ H x y v u Q I a b q=>h e f pins s σ H x y v u Q I a b (g x y H Q q)
theorem gj {f:Value}{r r':List V->Hp->VK->Prop} (h:bp X f r) (g:∀x H Q,r' x H Q->r x H Q):bp X f r':=λpins s σ H x us Q I a q=>h pins s σ H x us Q I a (g x H Q q)
theorem sm {f:String}{r r':V->List V->Hp->VK->Prop} (h:eC X f r) (g:∀x y H Q,r' x y H Q->r x y H Q):eC X f r':=λpins s σ H x y v u Q I a b q=>h pins s σ H x y v u Q I a b (g x y H Q q)
end
theorem au {H:Hp}{u v:V}:RD H (.at u) v ↔ v=u:=by rw[RD]
theorem bX {H:Hp}{ds:List D}{v:V}:RD H (.tup ds) v ↔ ∃a xs,v=.ref a/\H a=some (.tup xs)/\az H ds xs:=by rw[RD]
theorem az.length {H:Hp}{ds:List D}{xs:List V} (h:az H ds xs):ds.length=xs.length:=(bG h).length
theorem az.app {H:Hp}{ds es:List D}{xs ys:List V} (h:az H ds xs) (g:az H es ys):az H (ds++es) (xs++ys):=gg (rX (bG h) (bG g))
theorem cK {H:Hp}{d:D}{xs:List V} (h:az H [d] xs):∃x,xs=[x]/\RD H d x:=by
 cases bG h with
 |cons r t=>cases t;exact⟨_,rfl,r⟩
theorem so {H:Hp}{d e:D}{xs:List V} (h:az H [d,e] xs):∃x y,xs=[x,y]/\RD H d x/\RD H e y:=by
 cases bG h with
 |cons r t=>cases t with
  |cons r2 t=>cases t;exact⟨_,_,rfl,r,r2⟩
theorem eJ {H:Hp}{xs:List V} (h:az H [] xs):xs=[]:=by rw[az]at h;exact h
theorem RM.lst {H:Hp}{M:Mp}{a:Addr}{ds:List D} (r:RM T H M) (h:M a=some (.lst ds)):∃xs,H a=some (.lst xs)/\az H ds xs:=r.ob a _ h
theorem RM.ls {H:Hp}{M:Mp}{a:Addr}{ds:List D}{K:PySem.W.Frag} (r:RM T H M) (h:Ls M a ds):∃xs,aT K H a xs/\az H ds xs:=by
 rcases h with h |h
 ·obtain⟨xs,h1,h2⟩:=r.ob a _ h;exact⟨xs,aT.of h1,h2⟩
 ·obtain⟨o,xs,h1,h2⟩:=r.ob a _ h;exact⟨xs,.inl (.inr ⟨o,h1⟩),h2⟩
theorem n9 {H:Hp}{p:Addr}{ds:List D}{xs:List V} (h:az H ds xs) (t:ay H (ag H p (.lst xs))):RO (ag H p (.lst xs)) p (.lst ds):=⟨xs,b7,h.mono t⟩
theorem Po.lst {H:Hp}{M:Mp}{q:QK}{Q:VK}{ds:List D}{xs:List V}{a:Addr} (p:Po T H q Q) (r:RM T H M) (hd:az H ds xs) (h:H a=none) (x:∀a,M a=none->q (.ref a) (up M a (.lst ds))):Q (.ref a) (ag H a (.lst xs)):=
 p.new r h (n9 hd (ay.new h _)) x
theorem Po.tup {H:Hp}{M:Mp}{q:QK}{Q:VK}{ds:List D}{xs:List V}{a:Addr} (p:Po T H q Q) (r:RM T H M) (hd:az H ds xs) (h:H a=none) (x:q (.tup ds) M):Q (.ref a) (ag H a (.tup xs)):=
 p _ (.tup ds) _ _ (ay.new h _) (r.lay h _) (bX.mpr ⟨a,xs,rfl,b7,hd.mono (ay.new h _)⟩) x
theorem Po.put {H:Hp}{M:Mp}{q:QK}{Q:VK}{o:MO}{ds:List D}{xs:List V}{a:Addr}{v:V}{d:D} (p:Po T H q Q) (r:RM T H M) (hd:az H ds xs) (h:M a=some o) (hv:RD H d v) (x:q d (up M a (.lst ds))) (ho:r8 o=true:=by rfl):Q v (ag H a (.lst xs)):=
 p _ d _ _ (d9 r h) (r.put h (n9 hd (d9 r h)) ho) (hv.mono (d9 r h)) x
def su:Q2:=λx y M Q=>match x,y with
 |.int i,.int j=>Q (.int (i+j)) M
 |.str a,.str b=>a.length+b.length<=sizeLine/\Q (.str (a++b)) M
 |.tup a,.tup b=>a.length+b.length<=sizeLine/\Q (.tup (a++b)) M
 |.ref a,.ref b=>∃xs ys,M a=some (.lst xs)/\M b=some (.lst ys)/\xs.length+ys.length<=sizeLine/\∀p,M p=none->Q (.ref p) (up M p (.lst (xs++ys)))
 |_,_=>False
def sI (C:Int->Int->Prop) (f:Int->Int->D):Q2:=λx y M Q=>match x,y with
 |.int i,.int j=>C i j/\Q (f i j) M
 |_,_=>False
def oe (f:Int->Int->D):Q2:=λx y M Q=>match x,y with
 |.int i,.int j=>Q (f i j) M
 |_,_=>False
def sv:Operator->Q2
 |.Add=>su
 |.Sub=>oe λi j=>.int (i-j)
 |.Mult=>sI (λi j=>m8 i j\/xY i j) λi j=>.int (i * j)
 |.FloorDiv=>sI (λ_ j=>0<j/\j<2 ^ 200) λi j=>.int (i / j)
 |.Mod=>sI (λ_ j=>0<j) λi j=>.int (i % j)
 |.Pow=>sI m7 λi j=>.int (i ^ j.toNat)
 |.LShift=>sI m7 λi j=>.int (i * 2 ^ j.toNat)
 |.RShift=>sI (λ_ j=>0<=j) λi j=>.int (i / 2 ^ j.toNat)
 |.BitAnd=>oe λi j=>.int (Builtin.bitAnd i j)
 |_=>λ_ _ _ _=>False
section
variable {X:Cx}
theorem KL:aA X (binaryOp .Add) (cC T su):=cc Hf λx y H Q ⟨dx,dy,M,q,rm,rx,ry,h,po⟩=>by
 unfold su at h;split at h
 ·cases au.mp rx;cases au.mp ry;exact .inl ⟨_,_,rfl,rfl,po.same rm (RD.aw _) h⟩
 ·cases au.mp rx;cases au.mp ry;exact .inr (.inl ⟨_,_,rfl,rfl,h.1,po.same rm (RD.aw _) h.2⟩)
 ·obtain⟨a,xs,rfl,ha,ra⟩:=bX.mp rx;obtain⟨b,ys,rfl,hb,rb⟩:=bX.mp ry;refine .inr (.inr (.inr ⟨a,b,xs,ys,rfl,rfl,ha,hb,by rw[<- ra.length,<- rb.length];exact h.1,λp H' k hp=>?_⟩));have t:ay H H':=λc zs e=>k c _ e;exact po _ _ H' M t (rm.grow k) (bX.mpr ⟨p,_,rfl,hp,(ra.mono t).app (rb.mono t)⟩) h.2
 ·cases au.mp rx;cases au.mp ry;obtain⟨xs,ys,ha,hb,hl,h⟩:=h;obtain⟨us,eK,ra⟩:=rm.lst ha;obtain⟨vs,fC,rb⟩:=rm.lst hb;exact .inr (.inr (.inl ⟨_,_,us,vs,rfl,rfl,eK,fC,by rw[<- ra.length,<- rb.length];exact hl,λp hp=>po.lst rm (ra.app rb) hp h⟩))
 ·exact h.elim
theorem jL {C:Int->Int->Prop}{f:Int->Int->V}{x y:V}{H:Hp}{Q:VK} (h:cC T (sI C λi j=>.at (f i j)) x y H Q):rI C f x y H Q:=by
 obtain⟨dx,dy,M,q,rm,rx,ry,h,po⟩:=h;unfold sI at h;split at h
 ·cases au.mp rx;cases au.mp ry;exact⟨_,_,rfl,rfl,h.1,po.same rm (RD.aw _) h.2⟩
 ·exact h.elim
theorem yt {f:Int->Int->V}{x y:V}{H:Hp}{Q:VK} (h:cC T (oe λi j=>.at (f i j)) x y H Q):ez f x y H Q:=by
 obtain⟨dx,dy,M,q,rm,rx,ry,h,po⟩:=h;unfold oe at h;split at h
 ·cases au.mp rx;cases au.mp ry;exact⟨_,_,rfl,rfl,po.same rm (RD.aw _) h⟩
 ·exact h.elim
theorem eL {f:Value->Value->Sem Value}:aA X f (cC T λ_ _ _ _=>False):=λ_ _ _ _ _ _ _ _ _ _ _ _ ⟨_,_,_,_,_,_,_,h,_⟩=>h.elim
theorem KN:∀o:Operator,aA X (binaryOp o) (cC T (sv o))
 |.Add=>KL
 |.Sub=>cc Er λ_ _ _ _ h=>yt h
 |.Mult=>cc (Es.or Jr) λx y H Q h=>by
  obtain⟨i,j,e1,e2,c,q⟩:=jL h;exact c.elim (λc=>.inl ⟨i,j,e1,e2,c,q⟩) λc=>.inr ⟨i,j,e1,e2,c,q⟩
 |.FloorDiv=>cc Jj λ_ _ _ _ h=>jL h
 |.Mod=>cc Et λ_ _ _ _ h=>jL h
 |.Pow=>cc Eu λ_ _ _ _ h=>jL h
 |.LShift=>cc Ew λ_ _ _ _ h=>jL h
 |.RShift=>cc Ey λ_ _ _ _ h=>jL h
 |.BitAnd=>cc Ez λ_ _ _ _ h=>yt h
 |.MatMult=>eL
 |.Div=>eL
 |.BitOr=>eL
 |.BitXor=>eL
end
@[irreducible] def cT (x y:D) (M:Mp) (k:Bool->Prop):Prop:=match x,y with
 |.ref a,.ref b=>∃xs ys,M a=some (.lst xs)/\M b=some (.lst ys)/\((ys=[]/\k (decide (xs=[])))\/∃ds es,aN xs=some ds/\aN ys=some es/\aV ds<bF/\k (decide (xs=ys)))
 |.at u,.at v=>m9 u v=true/\k (decide (u=v))
 |.tup a,.tup b=>∃d e,aN a=some d/\aN b=some e/\aV d<bF/\k (decide (a=b))
 |_,_=>False
theorem aC {u v:V}{M:Mp}{k:Bool->Prop} (h:m9 u v=true) (q:k (decide (u=v))):cT (.at u) (.at v) M k:=by
 unfold cT;cases u <;> cases v <;> first |exact⟨h,q⟩ |cases h
theorem KO {a b:List D}{M:Mp}{k:Bool->Prop}{d e:List Dt} (h1:aN a=some d) (h2:aN b=some e) (h3:aV d<bF) (q:k (decide (a=b))):cT (.tup a) (.tup b) M k:=by
 unfold cT;exact⟨d,e,h1,h2,h3,q⟩
theorem og {a b:Addr}{xs:List D}{M:Mp}{k:Bool->Prop} (h1:M a=some (.lst xs)) (h2:M b=some (.lst [])) (q:k (decide (xs=[]))):cT (.ref a) (.ref b) M k:=by
 unfold cT;exact⟨xs,[],h1,h2,.inl ⟨rfl,q⟩⟩
theorem KP {a b:Addr}{xs ys:List D}{M:Mp}{k:Bool->Prop}{d e:List Dt} (h1:M a=some (.lst xs)) (h2:M b=some (.lst ys)) (h3:aN xs=some d) (h4:aN ys=some e) (h5:aV d<bF) (q:k (decide (xs=ys))):cT (.ref a) (.ref b) M k:=by
 unfold cT;exact⟨xs,ys,h1,h2,.inr ⟨d,e,h3,h4,h5,q⟩⟩
def sy (x:D) (M:Mp) (k:Bool->Prop):Prop:=match x with
 |.af=>k false
 |.bl b=>k b
 |.int i=>k (i != 0)
 |.str y=>y.length<=sizeLine/\k ((y.length:Int) != 0)
 |.tup ds=>k (!ds.isEmpty)
 |.ref p=>(∃xs,Ls M p xs/\k (!xs.isEmpty))\/∃kvs,M p=some (.ai kvs)/\k (!kvs.isEmpty)
 |_=>False
noncomputable def iQ:D->Option Key
 |.int i=>some (.inl i)
 |.str x=>some (.inr x)
 |_=>none
noncomputable def bc (kvs:List (Key×D)) (k:Key):Option D:=(kvs.find? λkv=>decide (kv.1=k)).map (·.2)
noncomputable def bJ (kvs:List (Key×D)) (k:Key) (v:D):List (Key×D):=
 if (kvs.any λkv=>decide (kv.1=k))=true then kvs.map (λkv=>if kv.1=k then (kv.1,v) else kv) else kvs++[(k,v)]
noncomputable def gX:D->Bool
 |.at v=>fj v
 |_=>false
noncomputable def jM:D->D->Bool
 |.at u,.at v=>f6 u v
 |_,_=>false
def lE (x y:D) (M:Mp) (k:Bool->Prop):Prop:=match y with
 |.tup ds=>gX x=true/\ds.all gX=true/\k (ds.any λy=>jM y x)
 | .ref a=>(∃ xs,Ls M a xs/\gX x=true/\xs.all gX=true/\k (xs.any λy=>jM y x))\/(∃ kvs Y5,M a=some (.ai kvs)/\iQ x=some Y5/\k (bc kvs Y5).isSome)
   \/ ∃xs ds d,Ls M a xs/\aN xs=some ds/\bh x=some d/\aV ds<=bF/\k (decide (x∈xs))
 |_=>False
def oh (x y:D) (k:Bool->Prop):Prop:=match x,y with
 |.at u,.af=>k (decide (u=.af))
 |.tup _,.af=>k false
 |_,_=>False
def sA (x y:D) (k:Bool->Prop):Prop:=match x,y with
 |.int i,.int j=>k (decide (i<j))
 |.str i,.str j=>k (decide (i.cps.toList<j.cps.toList))
 |_,_=>False
def lF (x y:D) (k:Int->Int->Prop):Prop:=match x,y with
 |.int i,.int j=>k i j
 |_,_=>False
def lG:CmpOp->D->D->Mp->(Bool->Prop)->Prop
 |.Eq=>λx y M k=>cT x y M k
 |.NotEq=>λx y M k=>cT x y M λb=>k (!b)
 |.Lt=>λx y M k=>sA x y k
 |.LtE=>λx y M k=>lF x y λi j=>k (decide (i<=j))
 |.Gt=>λx y M k=>lF x y λi j=>k (decide (j<i))
 |.GtE=>λx y M k=>lF x y λi j=>k (decide (j<=i))
 |.In=>λx y M k=>lE x y M k
 |.NotIn=>λx y M k=>lE x y M λb=>k (!b)
 |.Is=>λx y _ k=>oh x y k
 |.IsNot=>λx y _ k=>oh x y λb=>k (!b)
section
variable {X:Cx}{T:Tp}
def yu:R2:=λx y H Q=>∃a o,y=.ref a/\fg H a x o/\Q (.bl (!o.isSome)) H
theorem KQ (hu:X.A.units+1<cLine):aA X (compareOp .NotIn) yu:=by
 intro pins s σ H x y v u Q I rx ry h;obtain⟨a,o,rfl,g,q⟩:=h;obtain rfl:u=aaX a:=ry;exact Fz hu I g rx λs3 I3=>⟨.bl (!o.isSome),H,I3,rfl,q⟩
def sC (o:CmpOp):Q2:=λx y M Q=>lG o x y M λb=>Q (.bl b) M
theorem sD {H:Hp}{ds:List D}{xs:List V} (h:az H ds xs):decide (xs=[])=decide (ds=[]):=by
 cases bG h <;> simp
theorem lH {H:Hp}{d:D}{k:Key}{v:V} (h:iQ d=some k) (r:RD H d v):v=kV k:=by
 unfold iQ at h;split at h
 ·cases h;exact au.mp r
 ·cases h;exact au.mp r
 ·cases h
theorem lI {H:Hp}{k:Key}:∀{kvs:List (Key×D)}{vs:List (Key×V)},bM H kvs vs->(cw vs k=none/\bc kvs k=none)\/∃v d,cw vs k=some v/\bc kvs k=some d/\RD H d v
 |_,_,.nil=>.inl ⟨rfl,rfl⟩
 |p::kvs,q::vs,.cons r t=>by
  by_cases e:q.1=k
  ·refine .inr ⟨q.2,p.2,kQ e,?_,r.2⟩;simp [bc,aby,r.1,e]
  ·have e':¬p.1=k:=(by rw[r.1];exact e);have h1:bc (p::kvs) k=bc kvs k:=(by simp [bc,aby,e']);rw[kR e,h1];exact lI t
theorem KR {H:Hp}{k:Key}{kvs:List (Key×D)}{vs:List (Key×V)}{d:D} (r:bM H kvs vs) (h:bc kvs k=some d):∃v,cw vs k=some v/\RD H d v:=by
 rcases lI (k:=k) r with ⟨_,h2⟩ |⟨v,d',h1,h2,h3⟩
 ·rw[h2]at h;cases h
 ·rw[h2]at h;cases h;exact⟨v,h1,h3⟩
theorem KS {H:Hp}{k:Key}{kvs:List (Key×D)}{vs:List (Key×V)} (r:bM H kvs vs):(cw vs k).isSome=(bc kvs k).isSome:=by
 rcases lI (k:=k) r with ⟨h1,h2⟩ |⟨v,d',h1,h2,h3⟩ <;> rw[h1,h2] <;> rfl
theorem yv {α β:Type} {F:α->β->Prop}{f:α->Bool}{g:β->Bool} (h:∀a b,F a b->f a=g b):∀{l:List α}{m:List β},Paired F l m->l.any f=m.any g
 |_,_,.nil=>rfl
 |_,_,.cons r t=>by rw[abR,abR,h _ _ r,yv h t]
theorem sE {α β:Type} {F:α->β->Prop}{f:α->Bool}{g:β->Bool} (h:∀a b,F a b->f a=true->g b=true):∀{l:List α}{m:List β},Paired F l m->l.all f=true->m.all g=true
 |_,_,.nil,_=>rfl
 |_,_,.cons r t,q=>by
  rw[List.all_cons,aaW]at q ⊢;exact⟨h _ _ r q.1,sE h t q.2⟩
theorem oi {H:Hp}{d:D}{v:V} (r:RD H d v) (h:gX d=true):fj v=true:=by
 cases d with
 | «at» u=>rw[au]at r;subst r;exact h
 |tup ds=>cases h
theorem yw {H:Hp}{d:D}{v:V}{ds:List D}{xs:List V} (r:RD H d v) (rs:az H ds xs) (h:gX d=true) (hs:ds.all gX=true):ny v xs=ds.any λy=>jM y d:=by
 cases d with
 |tup ds=>cases h
 | «at» u=>
  rw[au]at r;subst r;unfold ny
  induction bG rs with
  |nil=>rfl
  |@cons a b l m r t ih=>
   rw[List.all_cons,aaW]at hs;rw[abR,abR,ih (gg t) hs.2];cases a with
   |tup _=>cases hs.1
   | «at» w=>rw[au]at r;subst r;rfl
theorem sF (b n:Bool):(if n=true then !b else b)=(n ^^ b):=by cases n <;> cases b <;> rfl
theorem KU:∀{xs:List D}{ds:List Dt}{x:D}{d:Dt},aN xs=some ds->bh x=some d->(d∈ds ↔ x∈xs):=by
 intro xs ds x d h1 h2;rw[lD h1,n8 h2];have:∀es:List Dt,eI es=es.map gi:=λes=>by induction es with
  |nil=>rw[eI];rfl
  |cons a r ih=>rw[eI,ih];rfl
 rw[this,List.mem_map];constructor
 ·exact λh=>⟨d,h,rfl⟩
 ·rintro⟨e,he,e2⟩;have h:=iB e;rw[e2,iB d]at h;cases h;exact he
theorem KW (hu:X.A.units+110<cLine):aA X (compareOp .Eq) (cC T (sC .Eq)):=cc ((Kk hu).or (IA (by lia))) λx y H Q ⟨dx,dy,M,q,rm,rx,ry,h,po⟩=>by
 replace h:cT dx dy M (λb=>q (.bl b) M):=h;unfold cT at h;split at h
 ·cases au.mp rx;cases au.mp ry;obtain⟨xs,ys,ha,hb,h⟩:=h;obtain⟨us,eK,ra⟩:=rm.lst ha;obtain⟨vs,fC,rb⟩:=rm.lst hb;rcases h with ⟨rfl,h⟩ |⟨ds,es,h1,h2,h3,h4⟩
  ·cases eJ rb;exact .inr ⟨_,_,us,rfl,rfl,eK,fC,po.same rm (by rw[sD ra];exact RD.aw _) h⟩
  ·exact .inl (.inr ⟨_,_,us,vs,ds,es,rfl,rfl,eK,fC,fB h1 ra,fB h2 rb,by lia,po.same rm (by rw[sk h1 h2];exact RD.aw _) h4⟩)
 ·cases au.mp rx;cases au.mp ry;exact .inl (.inl (.inl ⟨h.1,po.same rm (RD.aw _) h.2⟩))
 ·obtain⟨d,e,h1,h2,h3,h4⟩:=h;rename_i a b;have hx:bh (.tup a)=some (.tup d):=by rw[bh,h1];rfl
  have hy:bh (.tup b)=some (.tup e):=by rw[bh,h2];rfl
  refine .inl (.inl (.inr ⟨_,_,gW hx rx,gW hy ry,by rw[Dt.bE];lia,po.same rm (by rw[KI hx hy];exact RD.aw _) ?_⟩));simpa using h4
 ·exact h.elim
theorem KY (hu:X.A.units+110<cLine):aA X (compareOp .NotEq) (cC T (sC .NotEq)):=cc (KC hu) λx y H Q ⟨dx,dy,M,q,rm,rx,ry,h,po⟩=>by
 replace h:cT dx dy M (λb=>q (.bl (!b)) M):=h;unfold cT at h;split at h
 ·cases au.mp rx;cases au.mp ry;obtain⟨xs,ys,ha,hb,h⟩:=h;obtain⟨us,eK,ra⟩:=rm.lst ha;obtain⟨vs,fC,rb⟩:=rm.lst hb;rcases h with ⟨rfl,h⟩ |⟨ds,es,h1,h2,h3,h4⟩
  ·cases eJ rb;refine .inl (.inr (.inr ⟨_,_,us,rfl,rfl,eK,fC,po.same rm (d:=.bl (!decide (xs=[]))) ?_ h⟩));rw[au,<- sD ra];simp
  ·exact .inr ⟨_,_,us,vs,ds,es,rfl,rfl,eK,fC,fB h1 ra,fB h2 rb,by lia,po.same rm (by rw[sk h1 h2];exact RD.aw _) h4⟩
 ·cases au.mp rx;cases au.mp ry;exact .inl (.inl ⟨h.1,po.same rm (RD.aw _) h.2⟩)
 ·obtain⟨d,e,h1,h2,h3,h4⟩:=h;rename_i a b;have hx:bh (.tup a)=some (.tup d):=by rw[bh,h1];rfl
  have hy:bh (.tup b)=some (.tup e):=by rw[bh,h2];rfl
  exact .inl (.inr (.inl ⟨_,_,gW hx rx,gW hy ry,by lia,po.same rm (by rw[sk h1 h2];exact RD.aw _) h4⟩))
 ·exact h.elim
theorem yx {neg:Bool}{x y:V}{H:Hp}{Q:VK}{K:PySem.W.Frag}{dx dy:D}{M:Mp}{q:QK} (rm:RM T H M) (rx:RD H dx x) (ry:RD H dy y) (h:lE dx dy M λb=>q (.bl (neg ^^ b)) M) (po:Po T H q Q) :
  qG K neg x y H Q\/(∃a o,y=.ref a/\fg H a x o/\Q (.bl (neg ^^ o.isSome)) H)\/qV K neg x y H Q:=by
 unfold lE at h;split at h
 ·obtain⟨a,xs,rfl,ha,ra⟩:=bX.mp ry;obtain⟨h1,h2,h3⟩:=h;exact .inl ⟨a,xs,rfl,.inr (aI.of ha),oi rx h1,sE (λ_ _ r=>oi r) (bG ra) h2,po.same rm (by rw[yw rx ra h1 h2,sF];exact RD.aw _) h3⟩
 ·cases au.mp ry;rcases h with ⟨xs,ha,h1,h2,h3⟩ |⟨kvs,k,ha,hk,h⟩ |⟨xs,ds,d,ha,h1,h2,h3,h4⟩
  ·obtain⟨us,eK,ra⟩:=rm.ls (K:=K) ha;exact .inl ⟨_,us,rfl,.inl eK,oi rx h1,sE (λ_ _ r=>oi r) (bG ra) h2,po.same rm (by rw[yw rx ra h1 h2,sF];exact RD.aw _) h3⟩
  ·obtain⟨vs,hv,rk⟩:=rm.ob _ _ ha;refine .inr (.inl ⟨_,cw vs k,rfl,.inl ⟨vs,k,.inl hv,lH hk rx,rfl⟩,po.same rm (by rw[KS rk];exact RD.aw _) h⟩)
  ·obtain⟨us,eK,ra⟩:=rm.ls (K:=K) ha;refine .inr (.inr ⟨_,us,d,ds,rfl,eK,gW h2 rx,fB h1 ra,h3,po.same rm (by rw[sF,decide_eq_decide.mpr (KU h1 h2)];exact RD.aw _) h4⟩)
 ·exact h.elim
theorem KZ (hu:X.A.units+110<cLine):aA X (compareOp .In) (cC T (sC .In)):=cc (Gm.or ((KD (by lia)).or (G8 hu))) λx y H Q ⟨dx,dy,M,q,rm,rx,ry,h,po⟩=>by
 have:=yx (neg:=false) (K:=X.K) rm rx ry (by simpa [sC,lG] using h) po;simpa [yp] using this
theorem K0 (hu:X.A.units+110<cLine):aA X (compareOp .NotIn) (cC T (sC .NotIn)):=cc (Gn.or ((KQ (by lia)).or (G7 hu))) λx y H Q ⟨dx,dy,M,q,rm,rx,ry,h,po⟩=>by
 have:=yx (neg:=true) (K:=X.K) rm rx ry (by simpa [sC,lG] using h) po;simpa [yu] using this
theorem K1:aA X (compareOp .Lt) (cC T (sC .Lt)):=cc (EC.or EG) λx y H Q ⟨dx,dy,M,q,rm,rx,ry,h,po⟩=>by
 replace h:sA dx dy (λb=>q (.bl b) M):=h;unfold sA at h;split at h
 ·cases au.mp rx;cases au.mp ry;exact .inl ⟨_,_,rfl,rfl,po.same rm (RD.aw _) h⟩
 ·cases au.mp rx;cases au.mp ry;exact .inr ⟨_,_,rfl,rfl,po.same rm (RD.aw _) h⟩
 ·exact h.elim
theorem yy {x y:V}{H:Hp}{dx dy:D}{k:Bool->Prop} (rx:RD H dx x) (ry:RD H dy y) (h:oh dx dy k):y=.af/\k (decide (x=.af)):=by
 unfold oh at h;split at h
 ·exact⟨au.mp ry,by rw[au.mp rx];exact h⟩
 ·obtain⟨a,xs,rfl,_⟩:=bX.mp rx;exact⟨au.mp ry,h⟩
 ·exact h.elim
theorem sG {x y:V}{H:Hp}{dx dy:D}{k:Int->Int->Prop} (rx:RD H dx x) (ry:RD H dy y) (h:lF dx dy k):∃i j,x=.int i/\y=.int j/\k i j:=by
 unfold lF at h;split at h
 ·exact⟨_,_,au.mp rx,au.mp ry,h⟩
 ·exact h.elim
theorem yz (hu:X.A.units+110<cLine):∀o:CmpOp,aA X (compareOp o) (cC T (sC o))
 |.Eq=>KW hu
 |.NotEq=>KY hu
 |.In=>KZ hu
 |.NotIn=>K0 hu
 |.Lt=>K1
 |.LtE=>cc ED λx y H Q ⟨dx,dy,M,q,rm,rx,ry,h,po⟩=>by
  obtain⟨i,j,rfl,rfl,h⟩:=sG (k:=λi j=>q (.bl (decide (i<=j))) M) rx ry h;exact⟨_,_,rfl,rfl,po.same rm (RD.aw _) h⟩
 |.Gt=>cc EE λx y H Q ⟨dx,dy,M,q,rm,rx,ry,h,po⟩=>by
  obtain⟨i,j,rfl,rfl,h⟩:=sG (k:=λi j=>q (.bl (decide (j<i))) M) rx ry h;exact⟨_,_,rfl,rfl,po.same rm (RD.aw _) h⟩
 |.GtE=>cc EF λx y H Q ⟨dx,dy,M,q,rm,rx,ry,h,po⟩=>by
  obtain⟨i,j,rfl,rfl,h⟩:=sG (k:=λi j=>q (.bl (decide (j<=i))) M) rx ry h;exact⟨_,_,rfl,rfl,po.same rm (RD.aw _) h⟩
 |.Is=>cc EH λx y H Q ⟨dx,dy,M,q,rm,rx,ry,h,po⟩=>by
  obtain⟨e,h⟩:=yy (k:=λb=>q (.bl b) M) rx ry h;exact⟨e,po.same rm (RD.aw _) h⟩
 |.IsNot=>cc EI λx y H Q ⟨dx,dy,M,q,rm,rx,ry,h,po⟩=>by
  obtain⟨e,h⟩:=yy (k:=λb=>q (.bl (!b)) M) rx ry h;exact⟨e,po.same rm (RD.aw _) h⟩
theorem K2 {x:V}{H:Hp}{d:D}{M:Mp}{k:Bool->Prop}{K:PySem.W.Frag} (rm:RM T H M) (r:RD H d x) (h:sy d M k):∃b,qn K x H b/\k b:=by
 unfold sy at h;split at h
 ·cases au.mp r;exact⟨_,rfl,h⟩
 ·cases au.mp r;exact⟨_,rfl,h⟩
 ·cases au.mp r;exact⟨_,rfl,h⟩
 ·cases au.mp r;exact⟨_,⟨h.1,rfl⟩,h.2⟩
 ·obtain⟨a,xs,rfl,ha,ra⟩:=bX.mp r;refine⟨_,.inr (.inl ⟨xs,aI.of ha,rfl⟩),?_⟩;cases bG ra <;> exact h
 ·cases au.mp r;rcases h with ⟨xs,h1,h2⟩ |⟨kvs,h1,h2⟩
  ·obtain⟨us,hs,rs⟩:=rm.ls (K:=K) h1;refine⟨_,.inl ⟨us,hs,rfl⟩,?_⟩;cases bG rs <;> exact h2
  ·obtain⟨vs,hv,rk⟩:=rm.ob _ _ h1;refine⟨_,.inr (.inr ⟨vs,hv,rfl⟩),?_⟩;cases rk <;> exact h2
 ·exact h.elim
def ax:Q2:=λx y M Q=>match x,y with
 |.tup ds,.int i=>∃d,cg ds i=some d/\Q d M
 |.str z,.int i=>z.length<=sizeLine/\∃c,cg z.cps.toList i=some c/\Q (.str ⟨#[c]⟩) M
 |.ref a,y=>(∃xs i d,Ls M a xs/\y=.int i/\cg xs i=some d/\Q d M)\/∃kvs k d,M a=some (.ai kvs)/\iQ y=some k/\bc kvs k=some d/\Q d M
 |_,_=>False
theorem yA {α β:Type} {F:α->β->Prop}{l:List α}{m:List β}{i:Int}{a:α} (p:Paired F l m) (h:cg l i=some a):∃b,cg m i=some b/\F a b:=by
 unfold cg at h ⊢;rw[<- p.length];obtain⟨j,h1,h2⟩:=Option.bind_eq_some_iff.mp h;obtain⟨b,h3,h4⟩:=eG p h2;exact⟨b,Option.bind_eq_some_iff.mpr ⟨j,h1,h3⟩,h4⟩
theorem K3 (hu:X.A.units+1<cLine):dA X (cC T ax):=KJ (Hm hu) λx y H Q ⟨dx,dy,M,q,rm,rx,ry,h,po⟩=>by
 unfold ax at h;split at h
 ·obtain⟨a,xs,rfl,ha,ra⟩:=bX.mp rx;cases au.mp ry;obtain⟨d,h1,h2⟩:=h;obtain⟨v,h3,h4⟩:=yA (bG ra) h1;exact .inr (.inl ⟨a,xs,_,v,rfl,rfl,aI.of ha,h3,po.same rm h4 h2⟩)
 ·cases au.mp rx;cases au.mp ry;obtain⟨h0,c,h1,h2⟩:=h;exact .inr (.inr (.inl ⟨_,_,c,rfl,rfl,h0,h1,po.same rm (RD.aw _) h2⟩))
 ·cases au.mp rx;rcases h with ⟨xs,i,d,h1,rfl,h2,h3⟩ |⟨kvs,k,d,h1,h2,h3,h4⟩
  ·cases au.mp ry;obtain⟨us,hs,rs⟩:=rm.ls (K:=X.K) h1;obtain⟨v,h4,h5⟩:=yA (bG rs) h2;exact .inl ⟨_,us,i,v,rfl,rfl,hs,h4,po.same rm h5 h3⟩
  ·obtain⟨vs,hv,rk⟩:=rm.ob _ _ h1;obtain⟨v,h5,h6⟩:=KR rk h3;exact .inr (.inr (.inr ⟨_,v,rfl,.inl ⟨vs,k,.inl hv,lH h2 ry,h5.symm⟩,po.same rm h6 h4⟩))
 ·exact h.elim
noncomputable def gY (xs:List D) (lo hi:Option Int):List D:=(xs.drop (HT.ax xs.length 0 lo)).take (HT.ax xs.length xs.length hi-HT.ax xs.length 0 lo)
def sH (x:D) (lo hi:Option Int) (M:Mp) (Q:QK):Prop:=match x with
 |.tup ds=>Q (.tup (gY ds lo hi)) M
 |.str z=>z.length<=sizeLine/\Q (.str (Txt.slice z lo hi)) M
 |.ref a=>∃xs,Ls M a xs/\∀p,M p=none->Q (.ref p) (up M p (.lst (gY xs lo hi)))
 |_=>False
theorem az.yB {H:Hp}{ds:List D}{xs:List V} (h:az H ds xs) (lo hi:Option Int):az H (gY ds lo hi) (gI xs lo hi):=by
 unfold gY gI;rw[h.length];exact gg (rY _ (yg _ (bG h)))
theorem K4 {x:V}{lo hi:Option Int}{H:Hp}{Q:VK}{d:D}{M:Mp}{q:QK}{K:PySem.W.Frag} (rm:RM T H M) (r:RD H d x) (h:sH d lo hi M q) (po:Po T H q Q) :
  qF K x lo hi H Q\/(qA K x lo hi H Q\/(rq K x lo hi H Q\/rz x lo hi H Q)):=by
 unfold sH at h;split at h
 ·obtain⟨a,xs,rfl,ha,ra⟩:=bX.mp r;by_cases e:HT.ax xs.length 0 lo=0/\HT.ax xs.length xs.length hi=xs.length
  ·refine .inr (.inr (.inl ⟨a,xs,rfl,aI.of ha,e.1,e.2,po.same rm r ?_⟩));rename_i ds;have:gY ds lo hi=ds:=by
    unfold gY;rw[ra.length,e.1,e.2,List.drop_zero,Nat.sub_zero,<- ra.length,List.take_length]
   rw[<- this];exact h
  ·exact .inr (.inl ⟨a,xs,rfl,aI.of ha,e,λp hp=>po.tup rm (ra.yB lo hi) hp h⟩)
 ·cases au.mp r;exact .inr (.inr (.inr ⟨_,rfl,h.1,po.same rm (RD.aw _) h.2⟩))
 ·cases au.mp r;obtain⟨xs,h1,h2⟩:=h;obtain⟨us,hs,rs⟩:=rm.ls (K:=K) h1;exact .inl ⟨_,us,rfl,hs,λp hp=>po.lst rm (rs.yB lo hi) hp h2⟩
 ·exact h.elim
end
end PL
end
section
namespace PL
open PySem L2
open PyProof.Rows (sortedS)
section
variable {X:Cx}{T:Tp}
def sJ:QN:=λds M Q=>match ds with
 |[.str z]=>z.length<=sizeLine/\Q (.int z.length) M
 |[.tup ds]=>Q (.int ds.length) M
 |[.ref a]=>(∃xs,Ls M a xs/\Q (.int xs.length) M)\/∃kvs,M a=some (.ai kvs)/\Q (.int kvs.length) M
 |_=>False
def sL:QN:=λds M Q=>match ds with
 |[.tup ds]=>Q (.tup ds) M
 |[.ref a]=>∃xs,Ls M a xs/\Q (.tup xs) M
 |_=>False
def sM:QN:=λds M Q=>match ds with
 |[.tup ds]=>∀p,M p=none->Q (.ref p) (up M p (.lst ds))
 |[.ref a]=>∃xs,Ls M a xs/\∀p,M p=none->Q (.ref p) (up M p (.lst xs))
 |_=>False
def sN:QN:=λds M Q=>match ds with
 |[.int i]=>Q (.int i) M
 |[.bl b]=>Q (.int (if b then 1 else 0)) M
 |_=>False
def sP:QN:=λds M Q=>match ds with
 |[.int i,.int j]=>Q (.int (if j > i then j else i)) M
 |[.ref a]=>∃ns:List Int,Ls M a (ns.map D.int)/\0<ns.length/\∀m,m∈ns->(∀a∈ns,a<=m)->Q (.int m) M
 |_=>False
def sQ:QN:=λds M Q=>match ds with
 | [.ref a]=>(∃ kvs,M a=some (.ai kvs)/\∀ p,M p=none->Q (.ref p) (up M p (.ai kvs))) \/
   ∃kvs:List (Key×D),M a=some (.lst (kvs.map λkv=>.tup [.at (kV kv.1),kv.2]))/\∀p,M p=none->Q (.ref p) (up M p (.ai (kvs.foldl (λam kv=>bJ am kv.1 kv.2) [])))
 |[.tup ds]=>∃kvs:List (Key×D),ds=(kvs.map λkv=>.tup [.at (kV kv.1),kv.2])/\∀p,M p=none->Q (.ref p) (up M p (.ai (kvs.foldl (λam kv=>bJ am kv.1 kv.2) [])))
 |_=>False
theorem yC {H:Hp}:∀{ns:List Int}{xs:List V},az H (ns.map D.int) xs->xs=ns.map V.int
 |[],xs,h=>eJ h
 |n::ns,xs,h=>by
  rw[aaR,az]at h;obtain⟨y,ys,rfl,h1,h2⟩:=h;rw[au.mp h1,yC h2];rfl
theorem yD {H:Hp}{k:Key}{d:D}{v:V} (rv:RD H d v) {kvs:List (Key×D)}{vs:List (Key×V)} (r:bM H kvs vs):bM H (bJ kvs k d) (cx vs k v):=by
 unfold bJ cx;rw[yv (F:=λ(p:Key×D) (q:Key×V)=>p.1=q.1/\RD H p.2 q.2) (g:=λkv=>decide (kv.1=k)) (λa b h=>by rw[h.1]) r];split
 ·rename_i hh;clear hh
  induction r with
  |nil=>exact .nil
  |@cons a b l m r t ih=>
   refine .cons ?_ ih;show (if a.1=k then (a.1,d) else a).1=(if b.1=k then (b.1,v) else b).1/\RD H (if a.1=k then (a.1,d) else a).2 (if b.1=k then (b.1,v) else b).2
   by_cases e:a.1=k
   ·rw[if_pos e,if_pos (by rw[<- r.1];exact e)];exact⟨r.1,rv⟩
   ·rw[if_neg e,if_neg (by rw[<- r.1];exact e)];exact r
 ·exact rX r (.cons ⟨rfl,rv⟩ .nil)
theorem bM.length {κ:Type} {H:Hp}{kvs:List (κ×D)}{vs:List (κ×V)} (r:bM H kvs vs):kvs.length=vs.length:=Paired.length r
theorem iR {H:Hp}{p:Addr}{kvs:List (Key×D)}{vs:List (Key×V)} (h:bM H kvs vs) (t:ay H (ag H p (.dK vs))):RO (ag H p (.dK vs)) p (.ai kvs):=⟨vs,b7,h.mono t⟩
theorem sR {H:Hp}:∀{kvs:List (Key×D)}{xs:List V},az H (kvs.map λkv=>.tup [.at (kV kv.1),kv.2]) xs->∃vs,yb H vs xs/\bM H kvs vs
 |[],xs,h=>⟨[],by rw[eJ h];exact .nil,.nil⟩
 |(k,d)::kvs,xs,h=>by
  rw[aaR,az]at h;obtain⟨y,ys,rfl,h1,h2⟩:=h;obtain⟨a,zs,rfl,ha,hz⟩:=bX.mp h1;obtain⟨u,v,rfl,hu,hv⟩:=so hz;cases au.mp hu;obtain⟨vs,p1,p2⟩:=sR h2;exact⟨(k,v)::vs,.cons ⟨a,rfl,ha⟩ p1,.cons ⟨rfl,hv⟩ p2⟩
theorem oj {H:Hp}:∀{kvs am:List (Key×D)}{vs sn:List (Key×V)},bM H kvs vs->bM H am sn->bM H (kvs.foldl (λam kv=>bJ am kv.1 kv.2) am) (d8 sn vs)
 |_,_,_,_,.nil,r=>r
 |(k,d)::kvs,am,(k',v)::vs,sn,.cons h t,r=>by
  obtain⟨e,hv⟩:=h;cases e;exact oj (kvs:=kvs) (vs:=vs) t (yD hv r)
theorem K5:bp X (.builtin "len") (dh T sJ):=gj (Hj.or GZ) λvs H Q ⟨ds,M,q,rm,rs,h,po⟩=>by
 unfold sJ at h;split at h
 ·obtain⟨x,rfl,hx⟩:=cK rs;cases au.mp hx;exact .inl (.inr ⟨_,rfl,h.1,po.same rm (RD.aw _) h.2⟩)
 ·obtain⟨x,rfl,hx⟩:=cK rs;obtain⟨a,xs,rfl,ha,ra⟩:=bX.mp hx;exact .inl (.inl ⟨a,xs,rfl,.inr (aI.of ha),po.same rm (by rw[<- ra.length];exact RD.aw _) h⟩)
 ·obtain⟨x,rfl,hx⟩:=cK rs;cases au.mp hx;rcases h with ⟨xs,h1,h2⟩ |⟨kvs,h1,h2⟩
  ·obtain⟨us,hs,ru⟩:=rm.ls (K:=X.K) h1;exact .inl (.inl ⟨_,us,rfl,.inl hs,po.same rm (by rw[<- ru.length];exact RD.aw _) h2⟩)
  ·obtain⟨us,hv,rk⟩:=rm.ob _ _ h1;exact .inr ⟨_,us,rfl,hv,po.same rm (by rw[<- rk.length];exact RD.aw _) h2⟩
 ·exact h.elim
theorem K6:bp X (.type "tuple") (dh T sL):=gj Gs λvs H Q ⟨ds,M,q,rm,rs,h,po⟩=>by
 unfold sL at h;split at h
 ·obtain⟨x,rfl,hx⟩:=cK rs;obtain⟨a,xs,rfl,ha,ra⟩:=bX.mp hx;exact⟨a,xs,rfl,.inr ⟨aI.of ha,po.same rm hx h⟩⟩
 ·obtain⟨x,rfl,hx⟩:=cK rs;cases au.mp hx;obtain⟨xs,h1,h2⟩:=h;obtain⟨us,hs,ru⟩:=rm.ls (K:=X.K) h1;exact⟨_,us,rfl,.inl ⟨hs,λl hl=>po.tup rm ru hl h2⟩⟩
 ·exact h.elim
theorem K7:bp X (.type "list") (dh T sM):=gj Gr λvs H Q ⟨ds,M,q,rm,rs,h,po⟩=>by
 unfold sM at h;split at h
 ·obtain⟨x,rfl,hx⟩:=cK rs;obtain⟨a,xs,rfl,ha,ra⟩:=bX.mp hx;exact⟨a,xs,rfl,.inr (aI.of ha),λl hl=>po.lst rm ra hl h⟩
 ·obtain⟨x,rfl,hx⟩:=cK rs;cases au.mp hx;obtain⟨xs,h1,h2⟩:=h;obtain⟨us,hs,ru⟩:=rm.ls (K:=X.K) h1;exact⟨_,us,rfl,.inl hs,λl hl=>po.lst rm ru hl h2⟩
 ·exact h.elim
theorem K8:bp X (.type "int") (dh T sN):=gj ET λvs H Q ⟨ds,M,q,rm,rs,h,po⟩=>by
 unfold sN at h;split at h
 ·obtain⟨x,rfl,hx⟩:=cK rs;cases au.mp hx;exact .inl ⟨_,rfl,po.same rm (RD.aw _) h⟩
 ·obtain⟨x,rfl,hx⟩:=cK rs;cases au.mp hx;exact .inr ⟨_,rfl,po.same rm (RD.aw _) h⟩
 ·exact h.elim
theorem K9 (hc:X.calm=true):bp X (.builtin "max") (dh T sP):=gj ((ES hc).or (KH hc)) λvs H Q ⟨ds,M,q,rm,rs,h,po⟩=>by
 unfold sP at h;split at h
 ·obtain⟨x,y,rfl,hx,hy⟩:=so rs;cases au.mp hx;cases au.mp hy;exact .inl ⟨_,_,rfl,po.same rm (RD.aw _) h⟩
 ·obtain⟨x,rfl,hx⟩:=cK rs;cases au.mp hx;obtain⟨ns,h1,h2,h3⟩:=h;obtain⟨us,hs,ru⟩:=rm.ls (K:=X.K) h1;cases yC ru;exact .inr ⟨_,ns,rfl,hs,h2,λm m1 m2=>po.same rm (RD.aw _) (h3 m m1 m2)⟩
 ·exact h.elim
theorem K' (hc:X.calm=true):bp X (.type "dict") (dh T sQ):=gj (Jw.or (Kf hc)) λvs H Q ⟨ds,M,q,rm,rs,h,po⟩=>by
 unfold sQ at h;split at h
 ·obtain⟨x,rfl,hx⟩:=cK rs;cases au.mp hx;rcases h with ⟨kvs,h1,h2⟩ |⟨kvs,h1,h2⟩
  ·obtain⟨us,hv,rk⟩:=rm.ob _ _ h1;exact .inl ⟨_,us,rfl,hv,λp hp=>po.new rm hp (iR rk (ay.new hp _)) h2⟩
  ·obtain⟨us,hv,ru⟩:=rm.lst h1;obtain⟨vs,p1,p2⟩:=sR ru;exact .inr ⟨_,us,vs,rfl,.inl hv,p1,λp hp=>po.new rm hp (iR (oj p2 .nil) (ay.new hp _)) h2⟩
 ·obtain⟨x,rfl,hx⟩:=cK rs;obtain⟨a,xs,rfl,ha,ra⟩:=bX.mp hx;obtain⟨kvs,rfl,h2⟩:=h;obtain⟨vs,p1,p2⟩:=sR ra;exact .inr ⟨_,xs,vs,rfl,.inr ha,p1,λp hp=>po.new rm hp (iR (oj p2 .nil) (ay.new hp _)) h2⟩
 ·exact h.elim
theorem om {α:Type} {H:Hp}{f:α->D}{g:α->V}:∀{l:List α},(∀a∈l,RD H (f a) (g a))->az H (l.map f) (l.map g)
 |[],_=>.nil
 |a::l,h=>.cons (h a aaO) (om λb hb=>h b (aaK _ hb))
end
end PL
end
section
namespace L2
open PySem PySem.Spec PyProof.Rows
theorem oq {ys N:List Str} (h:∀x∈ys,x∈N):∀x,x∈ys ↔ x∈N.filter (λz=>decide (z∈ys)):=λx=>by
 rw[List.mem_filter,decide_eq_true_iff];exact⟨λz=>⟨h x z,z⟩,λz=>z.2⟩
theorem cQ.mem {prog:Program}{w:World}{h:Heap}{a:Addr}{zs zs':List Str} (S:cQ prog w h a zs) (e:∀x,x∈zs ↔ x∈zs'):cQ prog w h a zs':=by
 obtain⟨es,ep,t,ho,r1,r2,r3,r4,r5,ZM,r7⟩:=S;exact⟨es,ep,t,ho,r1,r2,r3,r4,r5,ZM,λx=>(r7 x).trans (e x)⟩
section
variable {prog:Program}{w:World}{A:Around}{R:Result->Shared->Prop}{I:Addr}{fp wr:List Addr}{G:Array GenState->Array GenState->Prop}{n:Nat}{P:Nat->Value->Prop}{St:Nat->Shared->Prop}
theorem La (W:WalksS prog w A.in1 I fp wr G n P St) (S:Addr) (hS:S ∉ fp) (zs:List Str) (hn:n=zs.length) (Lb:∀ i v,P i v->∃ (x:Str) (t:Tok),zs[i]?=some x/\v=.str x t) {N:List Str} (hN:N.length<3900) (hb:∀ x∈zs,x∈N) :
  ∀(k i:Nat) (s:Shared),n-i=k->i<=n->St i s->cQ prog w s.heap S (zs.take i)->(∀s',Moved (S::wr) G s s'->cQ prog w s'.heap S zs->R (.ok (.ret .none)) s') ->
   codeAny (model prog w) A (.builtin "set.update.loop" ⟨[.ref S,.ref I],[]⟩) R s:=by
 have hw:S ∉ wr:=λh=>hS (W.sub _ h);have sub:∀b∈wr,b∈S::wr:=λb h=>aaK _ h;intro k
 induction k with
 |zero=>
  intro i s hk hi st hs q;obtain rfl:i=n:=by lia
  refine abH F.entry_set_update_loop ?_;rw[abm F.plain_set_update_loop _];show wpAny _ A.in1 (pyNext (.ref I) >>= _) _ _ s;refine aaC (W.done s _ _ st λs' m=>?_);refine aaE (q s' (m.mono sub) ?_);rw[List.take_of_length_le (by lia)]at hs;exact hs.at λo e=>m.heap S o hw e
 |succ k ih=>
  intro i s hk hi st hs q;have lt:i<n:=by lia
  refine abH F.entry_set_update_loop ?_;rw[abm F.plain_set_update_loop _];show wpAny _ A.in1 (pyNext (.ref I) >>= _) _ _ s;refine aaC (W.item i s _ _ lt st λv s1 hP nE m=>?_);obtain⟨x,t,hx,rfl⟩:=Lb i v hP;have hs1:=hs.at (h':=s1.heap) λo e=>m.heap S o hw e;show wpAny _ A.in1 (holding [Value.str x t] (setAdd S (.str x t)) >>= _) _ _ s1;unfold setAdd;refine aaC (abr (abr (aaC ((strKind prog w).pyHash (k:=x) (strKind_is _ _ _ _) ?_))));have hsm:=hs1.mem (oq (ys:=zs.take i) (λx hx=>hb x (List.mem_of_mem_take hx)));refine IL (s:={ s1 with toks:=s1.toks+1 }) hsm (aaP (List.length_filter_le _ _) hN) λb h' fC lJ=>?_;have hs2:=lJ.mem (zs':=zs.take i++[x]) (λy=>by rw[List.mem_append,List.mem_append,<- oq (ys:=zs.take i) (λx hx=>hb x (List.mem_of_mem_take hx)) y]);have e2:zs.take i++[x]=zs.take (i+1):=by rw[List.take_add_one,hx];rfl
  rw[e2]at hs2;refine aaE ⟨abK F.plain_set_update_loop _,ih (i+1) _ (by lia) lt (W.frame _ s1 _ _ nE (Nat.le_succ _) λc hc o e=>?_) hs2 λs2 m2 q2=>?_⟩
  ·rw[fC.2 c λz:c=S=>hS (z ▸ hc)];exact e
  ·exact q s2 (Moved.trans W.gtrans ((m.mono sub).then_heap (Nat.le_succ _) λc o hc e=>by rw[fC.2 c λz:c=S=>hc (z ▸ aaO)];exact e) m2) q2
end
section
variable {prog:Program}{w:World}{A:Around}{E:Value->Shared->Prop}{s:Shared}
theorem Lc {l:Addr}{its:Array Value}{zs:List Str}{Q:Value->Shared->Prop} (hh:A.handled=none) (hl:s.heap.IsList l its) (hi:StrsAre its.toList zs) {N:List Str} (hN:N.length<3900) (hb:∀ x∈zs,x∈N)
  (h:∀(h':Heap) (tk:Nat),cQ prog w h' s.heap.objs.size zs->(∀b o,s.heap.get? b=some o->h'.get? b=some o)->Q (.ref s.heap.objs.size) { s with heap:=h',toks:=tk }) :
  wpAny (model prog w) A (call (.type "set") [.ref l]) Q E s:=by
 obtain⟨c,tl,WJ⟩:=F.called_set.mro;have made:=F.called_set.made;have sub:=F.called_set.sub;refine wpAny_call (codeAny_of_tree ?_);show wpAny _ _ (callAny (.type "set") _) _ _ _;refine aaE ⟨Code.quiet_builtin _ (by decide +kernel),abH F.entry_type_call ?_⟩;rw[Around.under_plain (weight_type_call_type "set" [.ref l] []) rfl];have g1:=F.called_set.notType;have g2:=F.called_set.canCreate;have g3:=F.typeCall_set_1 (.ref l)
 repeat (any_goals (first |assumption |wp_step))
 refine codeAny_mono (IQ (.ref l) (E:=E) (Q₁:=λu s1=>u=.ref s.heap.objs.size/\s1={ s with heap:=s.heap.push (eF w) }) ⟨rfl,rfl⟩) λr s1 hr=>?_;cases r with
 |error e=>exact hr
 |ok fl=>
  cases fl with
  |ret obj=>
   obtain⟨rfl,rfl⟩:=hr;have hS:(s.heap.push (eF w)).get? s.heap.objs.size=some (eF w):=aaG _ rfl;have hT:Shared.TypeIs { s with heap:=s.heap.push (eF w) } (.ref s.heap.objs.size) "set":=⟨_,hS,rfl⟩;have WK:∀{k:Nat},Shared.TypeIs { s with heap:=s.heap.push (eF w),toks:=k } (.ref s.heap.objs.size) "set":=⟨_,hS,rfl⟩;have li:=F.called_set.init.lookup;have bi:=F.called_set.init.bind (.ref s.heap.objs.size)
   repeat (any_goals (first |assumption |wp_step))
   refine codeAny_mono (codeAny_call_builtin (R:=wants (λr s2=>r=.none/\∃h' tk,s2={ s with heap:=h',toks:=tk }/\cQ prog w h' s.heap.objs.size zs/\(∀b o,s.heap.get? b=some o->h'.get? b=some o)) E) F.called_set.init.plain F.entry_set_init (check_set_init_1 hT ?_)) λr2 s2 sw=>?_
   ·obtain⟨ol,yE,cb,nl,yF⟩:=hl;obtain⟨oc,od,WL,os⟩:=ol;simp only at cb yF;subst cb;subst yF;have Ld:(s.heap.push (eF w)).get? l=some { cls:=.type "list",dict:=od,data:=.seq its nl,slots:=os }:=aaD _ yE;have e1:=F.sub_list_set;have e2:=F.sub_list_frozenset;have e3:(acg "list" == acg "dict")=false:=(by decide);have hl1:(s.heap.push (eF w)).IsList l its:=⟨_,Ld,rfl,nl,rfl⟩;unfold Builtin.«set.__init__» noKeywords Builtin.Frozenset.updateFrom;generalize Le:pyIter=PI
    wp_walk
    subst Le;refine wpAny_pyIter_list hl1 (aaC (wpAny_runValue ?_));have X8:l<s.heap.objs.size:=aaJ yE;have Lf:A.in1.in1.in1.handled=none:=(by simp [hh]);have Y3:l≠(s.heap.push (eF w)).objs.size:=(by rw[aba];exact aaL (aa' X8));have ZN:s.heap.objs.size ∉ [(s.heap.push (eF w)).objs.size,l]:=by
     rw[aba];simp only[aa0,aa2,or_false,not_or];exact⟨aaL (ab0 _),abh X8⟩
    have len:its.size=zs.length:=(by rw[<- aaT];exact hi.length);have val:∀(i:Nat) (v:Value),its[i]?=some v->∃(x:Str) (t:Tok),zs[i]?=some x/\v=.str x t:=λi v e=>xK hi (by rw[abP];exact e);refine La ((Walks.list Lf _ l Y3 its).toS) s.heap.objs.size ZN zs len val hN hb (its.size-0) 0 _ (by lia) (abA _) ⟨⟨_,aaG _ rfl,rfl,rfl⟩,(hl1.push _)⟩ ?start ?fin
    case start=>
     rw[List.take_zero];exact IP (aaD _ hS)
    case fin=>
     intro s' m bu;obtain⟨h',g',d',db,kM⟩:=s';have Xw:g'=s.gens:=m.gens;have Yr:d'=s.drawn:=m.drawn;have Ys:kM=s.os:=m.os;subst Xw;subst Yr;subst Ys;refine aaE ?_;show wpAny _ _ (ret abB) _ _ _;refine aaE ⟨rfl,h',db,rfl,bu,λb o e=>?_⟩;have lb:=aaJ e;refine m.heap b o ?_ (aaD _ (aaD _ e));simp only[aa0,aa2,or_false,not_or];exact⟨aaL lb,by rw[aba];exact aaL (aa' lb)⟩
   ·cases r2 with
    |error e=>exact sw
    |ok f2=>
     cases f2 with
     |ret r=>
      obtain⟨rfl,h',tk,rfl,bu,k⟩:=sw
      repeat (any_goals (first |assumption |wp_step))
      exact h _ _ bu k
     |_=>exact sw.elim
  |_=>exact hr.elim
end
section
variable {X:Cx}
def Lg (te:TE):TE:=fun σ H Q=>te σ H λx H1=>∃(a:Addr) (zs:List Str),[x]=[V.ref a]/\H1 a=some (.lst (zs.map V.str))/\zs.length<=sizeLine/\(∃N:List Str,N.length<64/\∀x∈zs,x∈N) /\
 ∀(p:Addr) (ys:List Str),H1 p=none->ys.Nodup->(∀x,x∈ys ↔ x∈zs)->sortedS ys=true->Q (.ref p) (ag H1 p (.lst (ys.map V.str)))
theorem Lh {e:Expr}{te:TE}{p1 p2 iS dL:Pos} (hc:X.calm=true) (iT:Gl X "sorted") (fv:X.mg "sorted"=none) (eM:Gl X "set") (eO:X.mg "set"=none) (he:PE X e te) (hs:aY e=true) :
  PE X (.Call (.Name "sorted" p1) [.Call (.Name "set" p2) [e] [] dL] [] iS) (Lg te):=by
 intro pins s σ H Q I h;refine abF (fb I iT fv rA ?_ (by decide) (by decide));refine PyProof.Rows.callWith_builtin1 ?_ (cp rfl) rfl;rw[cp (e:=.Call (.Name "set" p2) [e] [] dL) rfl];show wpAny _ _ (spliced ((false,eval (.Call (.Name "set" p2) [e] [] dL) X.env)::backTo iS (starEach [] X.env))) _ _ s;refine Calls.spliced_cons ?_;refine abF (fb I eM eO Jf ?_ (by decide) (by decide));refine abu ?_ (cp hs) rfl;refine ar (fu he iq hs dL pins s σ H (λxs H1=>∃(a:Addr) (zs:List Str),xs=[.ref a]/\H1 a=some (.lst (zs.map V.str))/\zs.length<=sizeLine/\(∃N:List Str,N.length<64/\∀x∈zs,x∈N)/\∀(p:Addr) (ys:List Str),H1 p=none->ys.Nodup->(∀x,x∈ys ↔ x∈zs)->sortedS ys=true->Q (.ref p) (ag H1 p (.lst (ys.map V.str)))) I ?_) λus s1 ⟨vs,H1,I1,r1,a,zs,ea,hH,hz,⟨N,hN,hb⟩,q⟩=>?_
 ·exact h
 subst ea;obtain⟨u,rfl,ru⟩:=r1.one;cases ru;obtain⟨z,its,n,r,hl,e⟩:=I1.f7 hH;have iE:StrsAre its zs:=xX r;refine Lc (A:=X.A) (its:=its.toArray) (I1.ok.hd hc) ⟨_,e,rfl,n,rfl⟩ (by simpa using iE) (N:=N) (by lia) hb λh' tk S keep=>?_;refine Calls.spliced_nil ?_;refine Jo hc (I1.bD (t':=tk) keep) (S.mem (oq hb)) (aaP (List.length_filter_le _ _) hN) λp ys h1 h2 h3 h4=>q p ys h1 h2 (λx=>(h3 x).trans (oq hb x).symm) h4
end
end L2
end
section
namespace PL
open PySem L2
open PySem.W (kas_sort)
inductive Bi where
 |len |tuple |list |int |max |dict |sorted |all
inductive Ti where
 |tuple |bool |str |si
inductive Mt where
 |append |pop |extend
inductive G where
 |one (i:Nat)
 |many (is:List Nat)
mutual
inductive E where
 |v (i:Nat)
 |c (k:V)
 |g (i:Nat)
 |tup (es:L)
 |lst (es:L)
 |op (o:Operator) (a b:E)
 |cmp (o:CmpOp) (a b:E)
 |neg (a:E)
 |and (a b:E)
 |or (a b:E)
 |not (a:E)
 |ite (c a b:E)
 |ix (a b:E)
 |sl (a lo hi:E)
 |rev (a:E)
 |call (i:Nat) (es:L)
 |bi (b:Bi) (es:L)
 |mt (m:Mt) (o:E) (es:L)
 |lc (n:Nat) (fr:List Nat) (g:G) (it:I) (c e:E)
 |fld (e:E) (f:Str)
 |new (i:Nat) (es:L)
 |c6 (i:Nat) (o:E) (es:L)
 |app (f:E) (es:L)
 |sd (i:Nat) (e:E)
 |iU
 |ot (ks vs:L)
 |ou (o k:E)
 |sset (e:E)
 |iV (o:CmpOp) (a b:E)
 |ow (e:E)
 |gm (ts:Ti) (e:E)
 |split (o e:E)
 |gn (e:E)
 |rep (a b:E)
 |cf
inductive L where
 |nil
 |cons (e:E) (r:L)
inductive I where
 |seq (e:E)
 |dR (e:E)
 |zip (a b:E)
 |ox (a b:E)
 |oy (e:E)
 |txt (e:E)
end
mutual
inductive S where
 |set (i:Nat) (e:E)
 |gZ (is:List Nat) (e:E)
 |oz (is:List Nat) (e:E)
 |put (o i e:E)
 |lK (o:E) (f:Str) (e:E)
 |dead
 |ret (e:E)
 |ex (e:E)
 |cond (c:E) (a b:B)
 |loop (g:G) (it:I) (b:B)
 |lL (c:E) (b:B)
inductive B where
 |nil
 |cons (s:S) (r:B)
end
structure Wd where
 sp:Nat->QN
 gv:List D
 fl:Addr->Str->Prop
 ci:Nat->Option (Addr×QN)
 mt:Nat->Option (Addr×QN)
 ca:Addr->QN->Prop
 sd:Nat->Str->Option (Option V)
def eP (r:Q2) (ta tb:DE):DE:=fun τ M q=>ta τ M λx M1=>tb τ M1 λy M2=>r x y M2 q
def g6 (ta:DE) (tr:DA):DA:=fun τ M q=>ta τ M λx M1=>tr τ M1 λxs M2=>q (x::xs) M2
def sS (t:DA):DE:=fun τ M q=>t τ M λds M1=>ds.length<=sizeLine/\q (.tup ds) M1
def sT (t:DA):DE:=fun τ M q=>t τ M λds M1=>ds.length<=sizeLine/\∀p,M1 p=none->q (.ref p) (up M1 p (.lst ds))
def jN (i:Nat):DE:=fun τ M q=>match τ[i]? with
 |some (some d)=>q d M
 |_=>False
def iW (d:D) (k:Bool->Prop):Prop:=match d with
 |.bl b=>k b
 |_=>False
def jO (d:D) (k:Int->Prop):Prop:=match d with
 |.int b=>k b
 |_=>False
def gp (d:D) (k:List D->Prop):Prop:=match d with
 |.tup ds=>k ds
 |_=>False
def dM (d:D) (k:Addr->Prop):Prop:=match d with
 |.ref a=>k a
 |_=>False
def yG (ta tb:DE):DE:=fun τ M q=>ta τ M λx M1=>iW x λc=>if c=true then tb τ M1 q else q (.bl false) M1
def yH (ta tb:DE):DE:=fun τ M q=>ta τ M λx M1=>iW x λc=>if c=true then q (.bl true) M1 else tb τ M1 q
def yI (ta:DE):DE:=fun τ M q=>ta τ M λx M1=>iW x λc=>q (.bl (!c)) M1
def yJ (t u:DT):DT:=fun τ M q=>t τ M λc M1=>if c=true then u τ M1 q else q false M1
def yK (t u:DT):DT:=fun τ M q=>t τ M λc M1=>if c=true then q true M1 else u τ M1 q
def yL (t:DT):DT:=fun τ M q=>t τ M λc M1=>q (!c) M1
def yM (t:DT) (ta tb:DE):DE:=fun τ M q=>t τ M λc M1=>if c=true then ta τ M1 q else tb τ M1 q
def cU (ta:DE):DT:=fun τ M q=>ta τ M λx M1=>sy x M1 λb=>q b M1
def yN (o:CmpOp) (ta tb:DE):DT:=fun τ M q=>ta τ M λx M1=>tb τ M1 λy M2=>lG o x y M2 λb=>q b M2
def sU (ta:DE):DE:=fun τ M q=>ta τ M λx M1=>jO x λi=>q (.int (-i)) M1
abbrev DO:=bb->Mp->(Option Int->Mp->Prop)->Prop
def yO:DO:=λ_ M q=>q none M
def yP (t:DE):DO:=fun τ M q=>t τ M λx M1=>jO x λi=>q (some i) M1
def yQ (te:DE) (tl th:DO):DE:=fun τ M q=>te τ M λx M1=>tl τ M1 λl M2=>th τ M2 λh M3=>sH x l h M3 q
def yR (x:D) (M:Mp) (q:QK):Prop:=match x with
 |.tup ds=>q (.tup ds.reverse) M
 |.ref a=>∃xs,Ls M a xs/\∀p,M p=none->q (.ref p) (up M p (.lst xs.reverse))
 |_=>False
def yS (te:DE):DE:=fun τ M q=>te τ M λx M1=>yR x M1 q
def g7 (sp:QN) (t:DA):DE:=fun τ M q=>t τ M λds M1=>sp ds M1 q
def sV:QN:=λds M Q=>match ds with
 |[.ref a]=>∃bs:List Bool,Ls M a (bs.map D.bl)/\Q (.bl (bs.all id)) M
 |_=>False
def sW:Bi->QN
 |.len=>sJ
 |.tuple=>sL
 |.list=>sM
 |.int=>sN
 |.max=>sP
 |.dict=>sQ
 |.sorted=>λ_ _ _=>False
 |.all=>sV
def sX:QM:=λo ds M q=>match o,ds with
 |.ref l,[y]=>∃xs,M l=some (.lst xs)/\xs.length<sizeLine/\q .af (up M l (.lst (xs++[y])))
 |_,_=>False
def sY:QM:=λo ds M q=>match o,ds with
 |.ref l,[]=>∃xs y,M l=some (.lst xs)/\xs[xs.length-1]?=some y/\q y (up M l (.lst xs.dropLast))
 |_,_=>False
def sZ:QM:=λo ds M q=>match o,ds with
 |.ref l,[.tup ys]=>∃xs,M l=some (.lst xs)/\xs.length+ys.length<=sizeLine/\q .af (up M l (.lst (xs++ys)))
 |.ref l,[.ref b]=>∃xs ys,M l=some (.lst xs)/\M b=some (.lst ys)/\xs.length+ys.length<=sizeLine/\q .af (up M l (.lst (xs++ys)))
 |_,_=>False
def tf:Mt->QM
 |.append=>sX
 |.pop=>sY
 |.extend=>sZ
def tj (d:D) (M:Mp):Prop:=match d with
 |.ref a=>∃xs,Ls M a xs
 |_=>False
def jP (r:QM) (to:DE) (t:DA):DE:=fun τ M q=>to τ M λx M1=>tj x M1/\t τ M1 λds M2=>r x ds M2 q
noncomputable def oA:List Nat->List D->bb->bb
 |i::is,d::ds,τ=>oA is ds (τ.set i (some d))
 |_,_,τ=>τ
def g8:G->D->bb->(bb->Prop)->Prop
 |.one i=>λd τ k=>k (τ.set i (some d))
 |.many is=>λd τ k=>match d with
  |.tup ds=>ds.length=is.length/\k (oA is ds τ)
  |_=>False
abbrev DI:=bb->Mp->(List D->(Mp->Prop)->Mp->Prop)->Prop
def yT (d:D) (M:Mp) (k:List D->(Mp->Prop)->Mp->Prop):Prop:=match d with
 |.tup ds=>k ds (λ_=>True) M
 |.ref a=>∃xs,Ls M a xs/\k xs (λM'=>Ls M' a xs) M
 |_=>False
def yU (t:DE):DI:=fun τ M k=>t τ M λd M1=>yT d M1 k
noncomputable def dB (lo:Int) (n:Nat):List D:=(ab6 n).map λi:Nat=>.int (lo+(i:Int))
def yV (t:DE):DI:=fun τ M k=>t τ M λd M1=>jO d λn=>-(2 ^ 62)<=n/\n<2 ^ 62/\k (dB 0 n.toNat) (λ_=>True) M1
def yW (t u:DE):DI:=fun τ M k=>t τ M λd M1=>u τ M1 λe M2=>gp d λds=>gp e λes=>k (acf (λx y=>.tup [x,y]) ds es) (λ_=>True) M2
def yX (t u:DE):DI:=fun τ M k=>t τ M λd M1=>u τ M1 λe M2=>gp d λds=>dM e λb=>∃es,Ls M2 b es/\k (acf (λx y=>.tup [x,y]) ds es) (λM'=>Ls M' b es) M2
noncomputable def iX (ds:List D):List D:=ds.mapIdx λi d=>.tup [.int i,d]
def iY (ok:Mp->Prop) (g:G) (tc:DT) (te:DE) (τ:bb) (k:List D->Mp->Prop):List D->List D->Mp->Prop
 |[],ys,M=>ok M/\ys.length<sizeLine/\k ys M
 |x::xs,ys,M=>ok M/\ys.length<sizeLine/\g8 g x τ fun τ1=>tc τ1 M λb M1=>if b=true then te τ1 M1 λy M2=>iY ok g tc te τ k xs (ys++[y]) M2 else iY ok g tc te τ k xs ys M1
noncomputable def lM (n:Nat) (fr:List Nat) (τ:bb):bb:=aa5 n none++fr.map λi=>(τ[i]?).join
def tm (n:Nat) (fr:List Nat) (g:G) (ti:DI) (tc:DT) (te:DE):DE:=fun τ M q=>ti τ M λxs ok M1=>iY ok g tc te (lM n fr τ) (λys M2=>∀p,M2 p=none->q (.ref p) (up M2 p (.lst ys))) xs [] M1
def tq (fl:Addr->Str->Prop) (ta:DE) (f:Str):DE:=fun τ M q=>ta τ M λx M1=>dM x λa=>∃C fs d,M1 a=some (.ins C fs)/\fl C f/\fs.lookup f=some d/\q d M1
def tu (c:Option (Addr×QN)) (t:DA):DE:=match c with
 |some (C,sp)=>fun τ M q=>t τ M λds M1=>∀x,M1 x=none->sp (.ref x::ds) (up M1 x (.ins C [])) λd M2=>d=.af/\q (.ref x) M2
 |none=>λ_ _ _=>False
def oC (c:Option (Addr×QN)) (m:Str->Prop) (ta:DE) (t:DA):DE:=match c with
 |some (C,sp)=>fun τ M q=>ta τ M λx M1=>dM x λa=>∃fs,M1 a=some (.ins C fs)/\(∀p∈fs,¬m p.1)/\t τ M1 λds M2=>sp (x::ds) M2 q
 |none=>λ_ _ _=>False
def tw (ca:Addr->QN->Prop) (ta:DE) (t:DA):DE:=fun τ M q=>ta τ M λx M1=>dM x λf=>∃sp,ca f sp/\t τ M1 λds M2=>sp ds M2 q
def jQ (d:D) (k:Str->Prop):Prop:=match d with
 |.str b=>k b
 |_=>False
def yY (tab:Str->Option (Option V)) (ta:DE):DE:=fun τ M q=>ta τ M λx M1=>jQ x λz=>∃v,tab z=some (some v)/\q (.at v) M1
def yZ:DE:=λ_ M q=>∀p,M p=none->q (.ref p) (up M p (.ai []))
noncomputable def oD:List D->List D->Option (List (Key×D))
 |[],[]=>some []
 |k::ks,v::vs=>(iQ k).bind λk=>(oD ks vs).map λr=>(k,v)::r
 |_,_=>none
def tx:List (DE×DE)->bb->Mp->(List D->List D->Mp->Prop)->Prop
 |[],_,M,q=>q [] [] M
 |(tk,tv)::r,τ,M,q=>tk τ M λx M1=>tv τ M1 λy M2=>tx r τ M2 λks vs M3=>q (x::ks) (y::vs) M3
def y3 (ps:List (DE×DE)):DE:=fun τ M q=>∀p,M p=none->tx ps τ (up M p (.ai [])) λks vs M2=>M2 p=some (.ai [])/\∃kvs,oD ks vs=some kvs/\kvs.length<=15/\q (.ref p) (up M2 p (.ai (kvs.foldl (λam kv=>bJ am kv.1 kv.2) [])))
def y4 (to tk:DE):DE:=fun τ M q=>to τ M λx M1=>dM x λa=>∃kvs,M1 a=some (.ai kvs)/\tk τ M1 λy M2=>∃kvs k,M2 a=some (.ai kvs)/\iQ y=some k/\q ((bc kvs k).getD .af) M2
def y6 (ta:DE):DE:=fun τ M q=>ta τ M λx M1=>dM x λa=>∃zs N:List Str,M1 a=some (.lst (zs.map D.str))/\zs.length<=sizeLine/\N.length<64/\(∀x∈zs,x∈N) /\
 ∀(p:Addr) (ys:List Str),M1 p=none->ys.Nodup->(∀x,x∈ys ↔ x∈zs)->PyProof.Rows.sortedS ys=true->q (.ref p) (up M1 p (.lst (ys.map D.str)))
def y7 (ta:DE):DE:=fun τ M q=>ta τ M λx M1=>gp x λds=>ds.length<sizeLine/\∀p,M1 p=none->q (.ref p) (up M1 p (.lst (iX ds)))
def y8 (t:DE):DI:=fun τ M k=>t τ M λd M1=>dM d λa=>∃xs,Ls M1 a xs/\k xs.reverse (λM'=>Ls M' a xs) M1
def y9 (t:DE):DI:=fun τ M k=>t τ M λd M1=>jQ d λz=>z.cps.all (·<128)=true/\k (z.cps.toList.map λc=>.str ⟨#[c]⟩) (λ_=>True) M1
def oE (ka kb:List (Key×D)):Prop:=ka.length=kb.length/\∀p∈ka,∃e,bc kb p.1=some p.2/\bh p.2=some e/\e.bE<=60
def za (x y:D) (M:Mp) (k:Bool->Prop):Prop:=match x,y with
 | .ref a,.ref b=>(∃ ka kb,M a=some (.ai ka)/\M b=some (.ai kb)/\((kb=[]/\k (!ka.isEmpty))\/(oE ka kb/\k false))) \/
   ∃xs ys,M a=some (.lst xs)/\M b=some (.lst ys)/\xs.length=ys.length/\(∀i:Nat,i<xs.length->∃c d Yy kd,xs[i]?=some (.ref c)/\ys[i]?=some (.ref d)/\M c=some (.ai Yy)/\M d=some (.ai kd)/\oE Yy kd)/\k false
 |_,_=>False
def zb (x y:D) (M:Mp) (k:Bool->Prop):Prop:=match x,y with
 |.ref a,.tup [.ref b,.ref c]=>∃xs ys zs ds es fs,M a=some (.lst xs)/\M b=some (.lst ys)/\M c=some (.lst zs)/\aN xs=some ds/\aN ys=some es/\aN zs=some fs/\aV es<=60/\aV fs<=60/\k (decide (es=ds) ||decide (fs=ds))
 |_,_=>False
def zc (x y:D) (M:Mp) (k:Bool->Prop):Prop:=match x,y with
 |.ref a,.ref b=>∃xs,Ls M a xs/\M b=some (.lst [])/\k (decide (xs=[]))
 |_,_=>False
def lN:CmpOp->D->D->Mp->(Bool->Prop)->Prop
 |.Eq=>zc
 |.NotEq=>za
 |.In=>zb
 |_=>λ_ _ _ _=>False
def jR (o:CmpOp):Q2:=λx y M Q=>lN o x y M λb=>Q (.bl b) M
def zd (o:CmpOp) (ta tb:DE):DT:=fun τ M q=>ta τ M λx M1=>tb τ M1 λy M2=>lN o x y M2 λb=>q b M2
noncomputable def oF:D->Ti->Option Bool
 |.tup _,.tuple=>some true
 |.str _,.tuple=>some false
 |.str _,.bool=>some false
 |.str _,.str=>some true
 |.str _,.si=>some true
 |.int _,.tuple=>some false
 |.int _,.bool=>some false
 |.int _,.str=>some false
 |.int _,.si=>some true
 |_,_=>none
def lO (ts:Ti) (ta:DE):DE:=fun τ M q=>ta τ M λx M1=>∃b,oF x ts=some b/\q (.bl b) M1
def ze (ta tb:DE):DE:=fun τ M q=>ta τ M λx M1=>jQ x λa=>tb τ M1 λy M2=>jQ y λb=>(b.length == 0)=false/\a.length+2<=sizeLine/\∀p,M2 p=none->q (.ref p) (up M2 p (.lst ((Txt.split a b).map D.str)))
@[irreducible] def lP:QN:=λds M Q=>match ds with
  | [.ref a] => ∃ kvs : List (Key × D), M a = some (.ai kvs) ∧ (∀ kv ∈ kvs, ∃ s, kv.1 = abL s) ∧ kvs.length < 64 ∧
        ∀(l:Addr) (ys:List Str),M l=none->(ys.map (abL:Str->Key)).Perm (kvs.map (·.1))->PyProof.Rows.sortedS ys=true->Q (.ref l) (up M l (.lst (ys.map D.str)))
  |_=>False
def Li (sp:QN) (ta:DE):DE:=fun τ M q=>ta τ M λx M1=>sp [x] M1 q
def tB:Q2:=λx y M Q=>match x,y with
 |.ref a,.int k=>∃xs,M a=some (.lst xs)/\-(2 ^ 63)<=k/\k<2 ^ 63/\xs.length * k.toNat<=sizeLine/\∀p,M p=none->Q (.ref p) (up M p (.lst (aa5 k.toNat xs).flatten))
 |_,_=>False
def Lj:DT:=λ_ M q=>q true M
noncomputable def g9:E->Bool
 |.cf=>true
 |_=>false
def oW (e:E) (t:DE):DO:=cond (g9 e) yO (yP t)
def XD (e:E) (t:DT):DT:=cond (g9 e) Lj t
variable (W:Wd) (mn:List Str)
mutual
noncomputable def E.w:E->DE×DT
 |.v i=>(jN i,cU (jN i))
 |.c k=>(λ_ M q=>q (.at k) M,cU λ_ M q=>q (.at k) M)
 |.g i=>(λ_ M q=>q (W.gv.getD i .af) M,cU λ_ M q=>q (W.gv.getD i .af) M)
 |.tup es=>(sS es.w,cU (sS es.w))
 |.lst es=>(sT es.w,cU (sT es.w))
 |.op o a b=>(eP (sv o) a.w.1 b.w.1,cU (eP (sv o) a.w.1 b.w.1))
 |.cmp o a b=>(eP (sC o) a.w.1 b.w.1,yN o a.w.1 b.w.1)
 |.neg a=>(sU a.w.1,cU (sU a.w.1))
 |.and a b=>(yG a.w.1 b.w.1,yJ a.w.2 b.w.2)
 |.or a b=>(yH a.w.1 b.w.1,yK a.w.2 b.w.2)
 |.not a=>(yI a.w.1,yL a.w.2)
 |.ite c a b=>(yM c.w.2 a.w.1 b.w.1,λ_ _ _=>False)
 |.ix a b=>(eP ax a.w.1 b.w.1,cU (eP ax a.w.1 b.w.1))
 |.sl a lo hi=>(yQ a.w.1 (oW lo lo.w.1) (oW hi hi.w.1),λ_ _ _=>False)
 |.rev a=>(yS a.w.1,λ_ _ _=>False)
 |.call i es=>(g7 (W.sp i) es.w,cU (g7 (W.sp i) es.w))
 |.bi b es=>(g7 (sW b) es.w,cU (g7 (sW b) es.w))
 |.mt m o es=>(jP (tf m) o.w.1 es.w,cU (jP (tf m) o.w.1 es.w))
 |.lc n fr g it c e=>(tm n fr g it.w (XD c c.w.2) e.w.1,λ_ _ _=>False)
 |.fld e f=>(tq W.fl e.w.1 f,cU (tq W.fl e.w.1 f))
 |.new i es=>(tu (W.ci i) es.w,λ_ _ _=>False)
 |.c6 i o es=>(oC (W.mt i) (λy=>mn[i]?=some y) o.w.1 es.w,cU (oC (W.mt i) (λy=>mn[i]?=some y) o.w.1 es.w))
 |.app f es=>(tw W.ca f.w.1 es.w,cU (tw W.ca f.w.1 es.w))
 |.sd i e=>(yY (W.sd i) e.w.1,λ_ _ _=>False)
 |.iU=>(yZ,λ_ _ _=>False)
 |.ot ks vs=>(y3 (ks.wl.zip vs.wl),λ_ _ _=>False)
 |.ou o k=>(y4 o.w.1 k.w.1,λ_ _ _=>False)
 |.sset e=>(y6 e.w.1,λ_ _ _=>False)
 |.iV o a b=>(eP (jR o) a.w.1 b.w.1,zd o a.w.1 b.w.1)
 |.ow e=>(y7 e.w.1,λ_ _ _=>False)
 |.gm ts e=>(lO ts e.w.1,cU (lO ts e.w.1))
 |.split o e=>(ze o.w.1 e.w.1,λ_ _ _=>False)
 |.gn e=>(Li lP e.w.1,λ_ _ _=>False)
 |.rep a b=>(eP tB a.w.1 b.w.1,λ_ _ _=>False)
 |.cf=>(λ_ _ _=>False,λ_ _ _=>False)
noncomputable def L.w:L->DA
 |.nil=>λ_ M q=>q [] M
 |.cons e r=>g6 e.w.1 r.w
noncomputable def L.wl:L->List DE
 |.nil=>[]
 |.cons e r=>e.w.1::r.wl
noncomputable def I.w:I->DI
 |.seq e=>yU e.w.1
 |.dR e=>yV e.w.1
 |.zip a b=>yW a.w.1 b.w.1
 |.ox a b=>yX a.w.1 b.w.1
 |.oy e=>y8 e.w.1
 |.txt e=>y9 e.w.1
end
def zf (t u:DS):DS:=λe τ M=>t { e with nx:=u e } τ M
def jS (te:DE) (g:G):DS:=λe τ M=>te τ M λd M1=>g8 g d τ fun τ1=>e.nx τ1 M1
def Lk (te:DE) (is:List Nat):DS:=λe τ M=>te τ M λd M1=>dM d λa=>∃xs,Ls M1 a xs/\xs.length=is.length/\e.nx (oA is xs τ) M1
def tE (o i d:D) (M:Mp) (k:Mp->Prop):Prop:=match o with
 | .ref a=>(∃ xs n j,M a=some (.lst xs)/\i=.int n/\eB xs.length n=some j/\k (up M a (.lst (xs.set j d)))) \/
   ∃kvs x,M a=some (.ai kvs)/\iQ i=some x/\kvs.length<sizeLine/\k (up M a (.ai (bJ kvs x d)))
 |_=>False
def Ll (to ti te:DE):DS:=λe τ M=>te τ M λd M1=>to τ M1 λo M2=>ti τ M2 λi M3=>tE o i d M3 λM4=>e.nx τ M4
noncomputable def oG (f:Str) (v:D):List (Str×D)->List (Str×D)
 |[]=>[(f,v)]
 |(g,x)::r=>if g=f then (g,v)::r else (g,x)::oG f v r
def zg (fl:Addr->Str->Prop) (to te:DE) (f:Str):DS:=λe τ M=>te τ M λd M1=>to τ M1 λo M2=>dM o λa=>∃C fs,M2 a=some (.ins C fs)/\fl C f/\fs.length<1000/\e.nx τ (up M2 a (.ins C (oG f d fs)))
def tF (te:DE):DS:=λe τ M=>te τ M e.rt
def zh (te:DE):DS:=λe τ M=>te τ M λ_ M1=>e.nx τ M1
def zi (t:DT) (a b:DS):DS:=λe τ M=>t τ M λc M1=>if c=true then a e τ M1 else b e τ M1
def iZ (ok:Mp->Prop) (g:G) (tb:DS) (e:En):List D->bb->Mp->Prop
 |[],τ,M=>ok M/\e.nx τ M
 |x::xs,τ,M=>ok M/\g8 g x τ fun τ1=>tb { e with nx:=iZ ok g tb e xs,ct:=iZ ok g tb e xs,Xj:=e.nx } τ1 M
def zj (ti:DI) (g:G) (tb:DS):DS:=λe τ M=>ti τ M λxs ok M1=>iZ ok g tb e xs τ M1
def i0 (t:DT) (tb:DS) (e:En):Nat->bb->Mp->Prop
 | 0,_,_=>False
 |n+1,τ,M=>t τ M λc M1=>if c=true then tb { e with nx:=i0 t tb e n,ct:=i0 t tb e n,Xj:=e.nx } τ M1 else e.nx τ M1
def zk (t:DT) (tb:DS):DS:=λe τ M=>∃n,i0 t tb e n τ M
mutual
def S.w:S->DS
 |.set i e=>jS (e.w W mn).1 (.one i)
 |.gZ is e=>jS (e.w W mn).1 (.many is)
 |.oz is e=>Lk (e.w W mn).1 is
 |.put o i e=>Ll (o.w W mn).1 (i.w W mn).1 (e.w W mn).1
 |.lK o f e=>zg W.fl (o.w W mn).1 (e.w W mn).1 f
 |.dead=>λ_ _ _=>False
 |.ret e=>tF (e.w W mn).1
 |.ex e=>zh (e.w W mn).1
 |.cond c a b=>zi (c.w W mn).2 a.w b.w
 |.loop g it b=>zj (it.w W mn) g b.w
 |.lL c b=>zk (c.w W mn).2 b.w
def B.w:B->DS
 |.nil=>λe τ M=>e.nx τ M
 |.cons s .nil=>s.w
 |.cons s r=>zf s.w r.w
end
end PL
end
section
namespace PL
open PySem L2 PySem.Spec PyProof.Rows
section
variable {X:Cx}{T:Tp}{a b c e o:Expr}{es:List Expr}{pos:Pos}{ta tb:DE}{tc td:DT}{tA:DA}
theorem lQ {d:D}{k:Bool->Prop}{H:Hp}{v:V} (h:iW d k) (r:RD H d v):∃b,v=.bl b/\k b:=by
 unfold iW at h;split at h
 ·exact⟨_,au.mp r,h⟩
 ·exact h.elim
theorem tG {d:D}{k:Int->Prop}{H:Hp}{v:V} (h:jO d k) (r:RD H d v):∃b,v=.int b/\k b:=by
 unfold jO at h;split at h
 ·exact⟨_,au.mp r,h⟩
 ·exact h.elim
theorem tH {r:Q2} {σ:L2.St} {H:Hp}{Q:VK} (h:ak T (eP r ta tb) σ H Q):kG (cC T r) (ak T ta) (ak T tb) σ H Q:=by
 obtain⟨τ,M,q,rs,rm,h,po⟩:=h;exact⟨τ,M,_,rs,rm,h,λv d H1 M1 t1 ac al h1=>⟨τ,M1,_,rs.mono t1,ac,h1,λu e H2 M2 t2 aP bH h2=>⟨d,e,M2,q,aP,al.mono t2,bH,h2,po.tr (t1.trans t2)⟩⟩⟩
theorem zl {op:Operator}{r:Q2} (ho:aA X (binaryOp op) (cC T r)) (ha:PE X a (ak T ta)) (hb:PE X b (ak T tb)):PE X (.BinOp a op b pos) (ak T (eP r ta tb)):=aR (Em ho ha hb) λ_ _ _ h=>tH h
theorem zm {op:CmpOp}{r:Q2} (ho:aA X (compareOp op) (cC T r)) (ha:PE X a (ak T ta)) (hb:PE X b (ak T tb)) (hm:behindInMarks op b=false):PE X (.Compare a [op] [b] pos) (ak T (eP r ta tb)):=aR (EJ ho ha hb hm) λ_ _ _ h=>tH h
theorem Ln {op:CmpOp} (ho:aA X (compareOp op) (cC T (sC op))) (ha:PE X a (ak T ta)) (hb:PE X b (ak T tb)) (hm:behindInMarks op b=false):PT X (.Compare a [op] [b] pos) (bW T (yN op ta tb)):=nW (vT ho ha hb hm) fun σ H Q h=>by
 obtain⟨τ,M,q,rs,rm,h,po⟩:=h;refine⟨τ,M,_,rs,rm,h,λv d H1 M1 t1 ac al h1=>⟨τ,M1,_,rs.mono t1,ac,h1,λu e H2 M2 t2 aP bH h2=>⟨d,e,M2,λz M'=>iW z λb=>q b M',aP,al.mono t2,bH,h2,λv z H3 M3 t3 ec lR h3=>?_⟩⟩⟩;obtain⟨b,e,h4⟩:=lQ h3 lR;exact⟨b,e,po _ _ _ (t1.trans (t2.trans t3)) ec h4⟩
theorem Lo (hu:X.A.units+1<cLine) (ha:PE X a (ak T ta)) (hb:PE X b (ak T tb)) (hs:nv b):PE X (.Subscript a b pos) (ak T (eP ax ta tb)):=aR (wU (K3 hu) ha hb hs) λ_ _ _ h=>tH h
theorem Lq {i:Nat}{x:Str} (h:PE X (.Name x pos) (vr i)):PE X (.Name x pos) (ak T (jN i)):=aR h fun σ H Q h=>by
 obtain⟨τ,M,q,rs,rm,h,po⟩:=h;unfold jN at h;split at h
 ·rename_i d e;obtain⟨v,h1,h2⟩:=rs.aw i d e;exact⟨v,h1,po.same rm h2 h⟩
 ·exact h.elim
theorem Lr {k:V} (h:PE X e (tC k)):PE X e (ak T λ_ M q=>q (.at k) M):=aR h fun σ H Q h=>by
 obtain⟨τ,M,q,rs,rm,h,po⟩:=h;exact po.same rm (RD.aw _) h
theorem oH:PA X [] (cS T λ_ M q=>q [] M):=yh iq fun σ H Q h=>by
 obtain⟨τ,M,q,rs,rm,h,po⟩:=h;exact po _ _ _ _ (ay.refl H) rm .nil h
theorem i3 (ha:PE X e (ak T ta)) (hr:PA X es (cS T tA)) (hs:aY e=true):PA X (e::es) (cS T (g6 ta tA)):=yh (fu ha hr hs) fun σ H Q h=>by
 obtain⟨τ,M,q,rs,rm,h,po⟩:=h;exact⟨τ,M,_,rs,rm,h,λv d H1 M1 t1 ac al h1=>⟨τ,M1,_,rs.mono t1,ac,h1,λvs ds H2 M2 t2 aP bH h2=>po _ _ _ _ (t1.trans t2) aP (.cons (al.mono t2) bH) h2⟩⟩
theorem Lu {k:Nat} (h:PA X es (cS T tA)):PE X (.Tuple es k pos) (ak T (sS tA)):=aR (vZ h) fun σ H Q h=>by
 obtain⟨τ,M,q,rs,rm,h,po⟩:=h;exact⟨τ,M,_,rs,rm,h,λvs ds H1 M1 t1 ac al h1=>⟨by rw[<- al.length];exact h1.1,λp hp=>(po.tr t1).tup ac al hp h1.2⟩⟩
theorem Lv (h:PA X es (cS T tA)):PE X (.List es pos) (ak T (sT tA)):=aR (Fj h) fun σ H Q h=>by
 obtain⟨τ,M,q,rs,rm,h,po⟩:=h;exact⟨τ,M,_,rs,rm,h,λvs ds H1 M1 t1 ac al h1=>⟨by rw[<- al.length];exact h1.1,λp hp=>(po.tr t1).lst ac al hp h1.2⟩⟩
theorem Lx (ha:PE X a (ak T ta)):PE X (.UnaryOp .USub a pos) (ak T (sU ta)):=aR (vK vL ha) fun σ H Q h=>by
 obtain⟨τ,M,q,rs,rm,h,po⟩:=h;refine⟨τ,M,_,rs,rm,h,λv d H1 M1 t1 ac al h1=>?_⟩;obtain⟨i,rfl,h2⟩:=tG h1 al;exact⟨i,rfl,(po.tr t1).same ac (RD.aw _) h2⟩
theorem zo {more:List Expr} (ha:PE X a (ak T ta)) (hb:PE X (.BoolOp .And (b::more) pos) (ak T tb)):PE X (.BoolOp .And (a::b::more) pos) (ak T (yG ta tb)):=aR (DH ha hb) fun σ H Q h=>by
 obtain⟨τ,M,q,rs,rm,h,po⟩:=h;refine⟨τ,M,_,rs,rm,h,λv d H1 M1 t1 ac al h1=>?_⟩;obtain⟨i,rfl,h2⟩:=lQ h1 al;refine⟨i,rfl,?_⟩;cases i
 ·exact (po.tr t1).same ac (RD.aw _) h2
 ·exact⟨τ,M1,q,rs.mono t1,ac,h2,po.tr t1⟩
theorem zq {more:List Expr} (ha:PE X a (ak T ta)) (hb:PE X (.BoolOp .Or (b::more) pos) (ak T tb)):PE X (.BoolOp .Or (a::b::more) pos) (ak T (yH ta tb)):=aR (DJ ha hb) fun σ H Q h=>by
 obtain⟨τ,M,q,rs,rm,h,po⟩:=h;refine⟨τ,M,_,rs,rm,h,λv d H1 M1 t1 ac al h1=>?_⟩;obtain⟨i,rfl,h2⟩:=lQ h1 al;refine⟨i,rfl,?_⟩;cases i
 ·exact⟨τ,M1,q,rs.mono t1,ac,h2,po.tr t1⟩
 ·exact (po.tr t1).same ac (RD.aw _) h2
theorem Ly (ha:PE X a (ak T ta)):PE X (.UnaryOp .Not a pos) (ak T (yI ta)):=aR (DL ha) fun σ H Q h=>by
 obtain⟨τ,M,q,rs,rm,h,po⟩:=h;refine⟨τ,M,_,rs,rm,h,λv d H1 M1 t1 ac al h1=>?_⟩;obtain⟨i,rfl,h2⟩:=lQ h1 al;exact⟨i,rfl,(po.tr t1).same ac (RD.aw _) h2⟩
theorem Lz (ha:PE X a (ak T ta)) (he:∀e9,isTrue a X.env e9=(do let v <- e9;standAt a.pos;holding [v] (truthy v))):PT X a (bW T (cU ta)):=nW (EN ha he) fun σ H Q h=>by
 obtain⟨τ,M,q,rs,rm,h,po⟩:=h;refine⟨τ,M,_,rs,rm,h,λv d H1 M1 t1 ac al h1=>?_⟩;obtain⟨b,h2,h3⟩:=K2 (K:=X.K) ac al h1;exact⟨b,h2,po _ _ _ t1 ac h3⟩
theorem LA (ha:PT X a (bW T tc)):PT X (.UnaryOp .Not a pos) (bW T (yL tc)):=nW (DB ha) fun σ H Q h=>by
 obtain⟨τ,M,q,rs,rm,h,po⟩:=h;exact⟨τ,M,_,rs,rm,h,λb H1 M1 t1 ac h1=>po _ _ _ t1 ac h1⟩
theorem zt {more:List Expr} (ha:PT X a (bW T tc)) (hb:PW X (.BoolOp .And (b::more) pos) (bW T td)):PW X (.BoolOp .And (a::b::more) pos) (bW T (yJ tc td)):=nX (Dy ha hb) fun σ H Q h=>by
 obtain⟨τ,M,q,rs,rm,h,po⟩:=h;refine⟨τ,M,_,rs,rm,h,λb H1 M1 t1 ac h1=>?_⟩;cases b
 ·exact po _ _ _ t1 ac h1
 ·exact⟨τ,M1,q,rs.mono t1,ac,h1,λb H2 M2 t2=>po b H2 M2 (t1.trans t2)⟩
theorem zu {more:List Expr} (ha:PT X a (bW T tc)) (hb:PW X (.BoolOp .Or (b::more) pos) (bW T td)):PW X (.BoolOp .Or (a::b::more) pos) (bW T (yK tc td)):=nX (Dz ha hb) fun σ H Q h=>by
 obtain⟨τ,M,q,rs,rm,h,po⟩:=h;refine⟨τ,M,_,rs,rm,h,λb H1 M1 t1 ac h1=>?_⟩;cases b
 ·exact⟨τ,M1,q,rs.mono t1,ac,h1,λb H2 M2 t2=>po b H2 M2 (t1.trans t2)⟩
 ·exact po _ _ _ t1 ac h1
theorem LB (hc:PT X c (bW T tc)) (ha:PE X a (ak T ta)) (hb:PE X b (ak T tb)):PE X (.IfExp c a b pos) (ak T (yM tc ta tb)):=aR (DN hc ha hb) fun σ H Q h=>by
 obtain⟨τ,M,q,rs,rm,h,po⟩:=h;refine⟨τ,M,_,rs,rm,h,λb H1 M1 t1 ac h1=>?_⟩;cases b
 ·exact⟨τ,M1,q,rs.mono t1,ac,h1,po.tr t1⟩
 ·exact⟨τ,M1,q,rs.mono t1,ac,h1,po.tr t1⟩
def lS (T:Tp) (t:DO):TO:=fun σ H Q=>∃ τ M q,RS H τ σ/\RM T H M/\t τ M q/\∀b H' M',ay H H'->RM T H' M'->q b M'->Q b H'
theorem LC:PO X none (lS T yO):=λpins s σ H Q I h=>by
 obtain⟨τ,M,q,rs,rm,h,po⟩:=h;exact F4 pins s σ H Q I (po _ _ _ (ay.refl H) rm h)
theorem LD (ha:PE X a (ak T ta)):PO X (some a) (lS T (yP ta)):=λpins s σ H Q I h=>by
 obtain⟨τ,M,q,rs,rm,h,po⟩:=h;refine F5 ha pins s σ H Q I ⟨τ,M,_,rs,rm,h,λv d H1 M1 t1 ac al h1=>?_⟩;obtain⟨i,rfl,h2⟩:=tG h1 al;exact⟨i,rfl,po _ _ _ t1 ac h2⟩
theorem LF {lo hi:Option Expr}{tl th:DO}{p2:Pos} (ha:PE X a (ak T ta)) (hl:PO X lo (lS T tl)) (hh:PO X hi (lS T th)):PE X (.Subscript a (.Slice lo hi none p2) pos) (ak T (yQ ta tl th)):=aR (F7 Iq ha hl hh) fun σ H Q h=>by
 obtain⟨τ,M,q,rs,rm,h,po⟩:=h;exact⟨τ,M,_,rs,rm,h,λv d H1 M1 t1 ac al h1=>⟨τ,M1,_,rs.mono t1,ac,h1,λl H2 M2 t2 aP h2=>⟨τ,M2,_,rs.mono (t1.trans t2),aP,h2,λu H3 M3 t3 ec h3=>K4 ec (al.mono (t2.trans t3)) h3 (po.tr (t1.trans (t2.trans t3)))⟩⟩⟩
theorem LG {k:Nat}{p2 p3 p4:Pos} (he:PE X e (ak T ta)):PE X (.Subscript e (.Slice none none (some (.UnaryOp .USub (.Constant (.int 1) k p3) p4)) p2) pos) (ak T (yS ta)):=by
 intro pins s σ H Q I h;obtain⟨τ,M,q,rs,rm,h,po⟩:=h;have key:PE X e (fun σ' H' Q'=>σ'=σ/\H'=H/\∀v H1,(∃a xs,v=.ref a/\aT X.K H1 a xs/\∀p,H1 p=none->Q (.ref p) (ag H1 p (.lst xs.reverse)))\/(∃a xs,v=.ref a/\aI X.K H1 a xs/\∀p,H1 p=none->Q (.ref p) (ag H1 p (.tup xs.reverse)))->Q' v H1):=aR he fun σ' H' Q' ⟨e1,e2,g⟩=>by
  subst e1 e2;refine⟨τ,M,_,rs,rm,h,λv d H1 M1 t1 ac al h1=>g v H1 ?_⟩;unfold yR at h1;split at h1
  ·obtain⟨a,xs,rfl,ha,ra⟩:=bX.mp al;exact .inr ⟨a,xs,rfl,aI.of ha,λp hp=>(po.tr t1).tup ac (gg (rZ (bG ra))) hp h1⟩
  ·cases au.mp al;obtain⟨xs,h2,h3⟩:=h1;obtain⟨us,hs,ru⟩:=ac.ls (K:=X.K) h2;exact .inl ⟨_,us,rfl,hs,λp hp=>(po.tr t1).lst ac (gg (rZ (bG ru))) hp h3⟩
  ·exact h1.elim
 refine Subscript_ (ar (key pins s σ H _ I ⟨rfl,rfl,λv H1 z=>z⟩) λv s1 ⟨x,H1,I1,r1,q1⟩=>?_);rcases q1 with ⟨a,xs,rfl,hx,q⟩ |⟨a,xs,rfl,hx,q⟩
 all_goals cases r1
 all_goals refine wpAny_Slice ?_
 all_goals rw[evalPart_none]
 all_goals refine aaE (aaE ?_)
 all_goals rw[evalPart_some]
 all_goals refine ar (vK vL vt pins s1 σ H1 (λy H2=>y=.int (-1)/\H2=H1) I1 ⟨1,rfl,rfl,rfl⟩) λu s2 ⟨y,H2,I2,r2,e1,e2⟩=>?_
 all_goals subst e1 e2
 all_goals obtain⟨t,rfl⟩:=r2
 all_goals have I4:ab X pins σ H2 { s2 with heap:=s2.heap.push { cls:=.type "slice",data:=.fields #[.none,.none,.int (-1) t] } }:=I2.bD (t':=s2.toks) λb ob q=>aaD _ q
 ·obtain⟨its,r,ht,hz⟩:=I4.list hx;have hlen:=r.length;refine tail_any (ops:=[.ref a,.ref s2.heap.objs.size]) (T:="list") ht.isList.typeIs slot_list_getitem.lookup ?_ (by with_unfolding_all rfl)
  refine wpAny_getItem_list_slice ht.isList (Heap.IsSliceOf.new ..) .none .none (.int (-1) t) (by simp) ?_ (by rw[aaF] <;> lia);rw[PySem.W.krv_pick];refine⟨.ref _,_,I4.laid (t':=s2.toks) (o:=.lst xs.reverse) (λb ob q=>aaD _ q) (aaH _) ?_,rfl,q _ (I4.ae.fresh (aaH _))⟩;exact⟨by rw[acx];exact hz,_,0,r.reverse,aaG _ rfl⟩
 ·obtain⟨its,r,ht,hz⟩:=I4.tuple hx;have hlen:=r.length;refine tail_any (ops:=[.ref a,.ref s2.heap.objs.size]) (T:="tuple") ht.typeIs slot_tuple_getitem.lookup ?_ (by with_unfolding_all rfl)
  refine Km ht (Heap.IsSliceOf.new ..) ?_ (by rw[aaF];lia);refine⟨.ref _,_,I4.laid (t':=s2.toks) (o:=.tup xs.reverse) (λb ob q=>aaD _ q) (aaH _) ?_,rfl,q _ (I4.ae.fresh (aaH _))⟩;exact⟨kq (by rw[acx];exact hz),_,r.reverse,⟨_,aaG _ rfl,rfl,_,rfl⟩⟩
end
def bR (T:Tp) (sp:QN):Sp:=λvs H Q _=>dh T sp vs H Q
section
variable {X:Cx}{T:Tp}{a b c e o tg iter:Expr}{es:List Expr}{pos:Pos}{ta tb:DE}{tc td:DT}{tA:DA}
theorem zv {k:Nat}{f:Addr}{fd:FuncData}{ps:List Str}{sp:QN}{x:Str}{p:Pos}
  (F:a5 X.prog X.w X.K X.mg X.base a7 k f fd ps (bR T sp)) (hr:bf k X.A) (hg:Gl X x) (hm:X.mg x=some (.ref f)) (hk:PySem.W.keepIn X.K (.ref f)=true) (hb:b0 X.K fd ps [])
  (ha:PA X es (cS T tA)) (hs:bQ es=true) (b9:(x == ("__debug__" : Str))=false) (h0:es=[]->∀ τ M q,tA τ M q->q [] M):PE X (.Call (.Name x p) es [] pos) (ak T (g7 sp tA)):=by
 cases es with
 |nil=>
  refine aR (Fm F hr hg hm hk hb .nil iG b9) fun σ H Q h=>?_;obtain⟨τ,M,q,rs,rm,h,po⟩:=h;exact⟨[],M,q,rm,.nil,h0 rfl _ _ _ h,po⟩
 |cons e es=>
  refine aR (Iv F hr hg hm hk hb .nil iG ha hs b9) fun σ H Q h=>?_;obtain⟨τ,M,q,rs,rm,h,po⟩:=h;refine⟨τ,M,_,rs,rm,h,λvs ds H1 M1 t1 ac al h1=>?_⟩;show dh T sp (vs++[]) H1 Q;rw[aa4];exact⟨ds,M1,q,ac,al,h1,po.tr t1⟩
theorem gq {r:QN} {σ:L2.St} {H:Hp}{Q:VK} (h:ak T (g7 r tA) σ H Q):kP (dh T r) (cS T tA) σ H Q:=by
 obtain⟨τ,M,q,rs,rm,h,po⟩:=h;exact⟨τ,M,_,rs,rm,h,λvs ds H1 M1 t1 ac al h1=>⟨ds,M1,q,ac,al,h1,po.tr t1⟩⟩
theorem LH {r:QM} {σ:L2.St} {H:Hp}{Q:VK}{K:PySem.W.Frag} (h:ak T (jP r ta tA) σ H Q):qI K "list" (jK T r) (ak T ta) (cS T tA) σ H Q:=by
 obtain⟨τ,M,q,rs,rm,h,po⟩:=h;refine⟨τ,M,_,rs,rm,h,λv d H1 M1 t1 ac al h1=>⟨?_,τ,M1,_,rs.mono t1,ac,h1.2,λvs ds H2 M2 t2 aP bH h2=>⟨d,ds,M2,q,aP,al.mono t2,bH,h2,po.tr (t1.trans t2)⟩⟩⟩;have h2:=h1.1;unfold tj at h2;split at h2
 ·obtain⟨xs,h2⟩:=h2;cases au.mp al;obtain⟨us,hs,_⟩:=ac.ls (K:=K) h2;exact .inl ⟨rfl,us,hs⟩
 ·exact h2.elim
theorem LI {r:QM} {σ:L2.St} {H:Hp}{Q:VK}{K:PySem.W.Frag} (h:ak T (jP r ta λ_ M q=>q [] M) σ H Q):w4 K "list" (jK T r) (ak T ta) σ H Q:=by
 obtain⟨τ,M,q,rs,rm,h,po⟩:=h;refine⟨τ,M,_,rs,rm,h,λv d H1 M1 t1 ac al h1=>⟨?_,d,[],M1,q,ac,al,.nil,h1.2,po.tr t1⟩⟩;have h2:=h1.1;unfold tj at h2;split at h2
 ·obtain⟨xs,h2⟩:=h2;cases au.mp al;obtain⟨us,hs,_⟩:=ac.ls (K:=K) h2;exact .inl ⟨rfl,us,hs⟩
 ·exact h2.elim
theorem az.one {H:Hp}{d:D}{v:V} (h:RD H d v):az H [d] [v]:=.cons h .nil
theorem LJ:eC X "list.append" (jK T sX):=sm Gy λx vs H Q ⟨d,ds,M,q,rm,rd,rs,h,po⟩=>by
 unfold sX at h;split at h
 ·rename_i l y;obtain⟨xs,h1,h2,h3⟩:=h;cases au.mp rd;obtain⟨u,rfl,ru⟩:=cK rs;obtain⟨us,hs,rx⟩:=rm.lst h1;exact⟨l,us,u,rfl,rfl,hs,by rw[<- rx.length];exact h2,po.put rm (rx.app (.one ru)) h1 (RD.aw _) h3⟩
 ·exact h.elim
theorem LK:eC X "list.pop" (jK T sY):=sm GB λx vs H Q ⟨d,ds,M,q,rm,rd,rs,h,po⟩=>by
 unfold sY at h;split at h
 ·rename_i l;obtain⟨xs,y,h1,h2,h3⟩:=h;cases au.mp rd;cases eJ rs;obtain⟨us,hs,rx⟩:=rm.lst h1;obtain⟨u,hu,ru⟩:=eG (bG rx) h2;refine⟨l,us,u,rfl,rfl,hs,by rw[<- rx.length];exact hu,po.put rm ?_ h1 ru h3⟩;rw[List.dropLast_eq_take,List.dropLast_eq_take,rx.length];exact gg (rY _ (bG rx))
 ·exact h.elim
theorem LL:eC X "list.extend" (jK T sZ):=sm JJ λx vs H Q ⟨d,ds,M,q,rm,rd,rs,h,po⟩=>by
 unfold sZ at h;split at h
 ·rename_i l ys;obtain⟨xs,h1,h2,h3⟩:=h;cases au.mp rd;obtain⟨u,rfl,ru⟩:=cK rs;obtain⟨b,zs,rfl,hb,rb⟩:=bX.mp ru;obtain⟨us,hs,rx⟩:=rm.lst h1;exact .inr ⟨l,b,us,zs,rfl,rfl,hs,hb,by rw[<- rx.length,<- rb.length];exact h2,po.put rm (rx.app rb) h1 (RD.aw _) h3⟩
 ·rename_i l b;obtain⟨xs,ys,h1,h2,h3,h4⟩:=h;cases au.mp rd;obtain⟨u,rfl,ru⟩:=cK rs;cases au.mp ru;obtain⟨us,hs,rx⟩:=rm.lst h1;obtain⟨zs,hb,rb⟩:=rm.lst h2;exact .inl ⟨l,b,us,zs,rfl,rfl,hs,hb,by rw[<- rx.length,<- rb.length];exact h3,po.put rm (rx.app rb) h1 (RD.aw _) h4⟩
 ·exact h.elim
structure hB (T:Tp) (H0:Hp) (J:It) (xs:List D) (ok:Mp->Prop):Prop where
 go:∀(i:Nat) (d:D) (H:Hp) (M:Mp),xs[i]?=some d->ay H0 H->RM T H M->ok M->J.go i H/\∀x H',J.mV i H x H'->RD H' d x/\ay H H'/\RM T H' M
 stop:∀(H:Hp) (M:Mp),ay H0 H->RM T H M->ok M->J.stop xs.length H
def fD (T:Tp) (t:DI):TI:=fun σ H R=>∃ τ M k,RS H τ σ/\RM T H M/\t τ M k/\∀J xs ok H1 M1,ay H H1->RM T H1 M1->hB T H1 J xs ok->k xs ok M1->R J H1
theorem lT {t u:TI} (h:PI X tg iter t) (f:∀ σ H R,u σ H R->t σ H R):PI X tg iter u:=λpins s σ H R I q=>h pins s σ H R I (f σ H R q)
theorem LM {K:PySem.W.Frag}{H:Hp}{a:Addr}{xs:List D}:hB T H (qe K a) xs (λM=>Ls M a xs) where
 go:=λi d H M e _ rm ok=>by
  obtain⟨us,hs,ru⟩:=rm.ls (K:=K) ok;obtain⟨u,h1,h2⟩:=eG (bG ru) e;refine⟨⟨us,u,hs,h1⟩,λx H' ⟨e1,e2⟩=>?_⟩;subst e1;have:=e2 us hs;rw[h1]at this;cases this;exact⟨h2,ay.refl _,rm⟩
 stop:=λH M _ rm ok=>by
  obtain⟨us,hs,ru⟩:=rm.ls (K:=K) ok;exact⟨us,hs,by rw[ru.length];exact aaH _⟩
theorem LN {K:PySem.W.Frag}{H:Hp}{a:Addr}{us:List V}{xs:List D} (h:H a=some (.tup us)) (ru:az H xs us):hB T H (qf K a) xs (λ_=>True) where
 go:=λi d H' M e t rm _=>by
  have hs:aI K H' a us:=aI.of (t _ _ h);obtain⟨u,h1,h2⟩:=eG (bG (ru.mono t)) e;refine⟨⟨us,u,hs,h1⟩,λx H' ⟨e1,e2⟩=>?_⟩;subst e1;have:=e2 us hs;rw[h1]at this;cases this;exact⟨h2,ay.refl _,rm⟩
 stop:=λH' M t rm _=>⟨us,aI.of (t _ _ h),by rw[ru.length];exact aaH _⟩
theorem LO (hl:PE X iter (ak T ta)):PI X tg iter (fD T (yU ta)):=by
 intro pins s σ H R I h;obtain⟨τ,M,k,rs,rm,h,po⟩:=h;refine ar (hl pins s σ H (λv H1=>(∃a,v=.ref a/\(∃xs,aT X.K H1 a xs)/\R (qe X.K a) H1)\/(∃a,v=.ref a/\(∃xs,aI X.K H1 a xs)/\R (qf X.K a) H1)) I
  ⟨τ,M,_,rs,rm,h,λv d H1 M1 t1 ac al h1=>?_⟩) λv s1 ⟨x,H1,I1,r1,q1⟩=>?_
 ·unfold yT at h1;split at h1
  ·obtain⟨a,xs,rfl,ha,ra⟩:=bX.mp al;exact .inr ⟨a,rfl,⟨xs,aI.of ha⟩,po _ _ _ _ _ t1 ac (LN ha ra) h1⟩
  ·cases au.mp al;obtain⟨xs,h2,h3⟩:=h1;obtain⟨us,hs,ru⟩:=ac.ls (K:=X.K) h2;exact .inl ⟨_,rfl,⟨us,hs⟩,po _ _ _ _ _ t1 ac LM h3⟩
  ·exact h1.elim
 ·have fin:∀ b,b∈[s1.heap.objs.size]->ew X pins H1 b:=λb hb=>by
   have e:b=s1.heap.objs.size:=(by simpa using hb);subst e;exact I1.kC (aaH _) (I1.ae.fresh (aaH _))
  rcases q1 with ⟨a,e,⟨xs,hq⟩,q⟩ |⟨a,e,⟨xs,hq⟩,q⟩
  ·subst e;cases r1;obtain⟨its,rv,p,hz⟩:=I1.list hq;refine wpAny_pyIter_list p.isList ?_;exact⟨s1.heap.objs.size,[s1.heap.objs.size],_,_,H1,rfl,I1.bD (t':=s1.toks) λb o e=>aaD _ e,Ec a _,⟨_,aaG _ rfl,rfl,rfl⟩,fin,q⟩
  ·subst e;cases r1;obtain⟨its,rv,p,hz⟩:=I1.tuple hq;refine abQ (show s1.heap.IsTuple a its.toArray from p) ?_;exact⟨s1.heap.objs.size,[s1.heap.objs.size],_,_,H1,rfl,I1.bD (t':=s1.toks) λb o e=>aaD _ e,Ed a _,⟨_,aaG _ rfl,rfl,rfl⟩,fin,q⟩
theorem LP {H:Hp}{lo:Int}{n:Nat}:hB T H (mX lo n) (dB lo n) (λ_=>True) where
 go:=λi d H' M e t rm _=>by
  unfold dB at e;rw[aaU]at e;obtain⟨j,h1,rfl⟩:=Option.map_eq_some_iff.mp e;have h2:i<n:=by simpa using (List.getElem?_eq_some_iff.mp h1).1
  have h3:i=j:=by simpa using (List.getElem?_eq_some_iff.mp h1).2
  subst h3;refine⟨h2,λx H' ⟨e1,e2⟩=>?_⟩;subst e1 e2;exact⟨RD.aw _,ay.refl _,rm⟩
 stop:=λH' M t rm _=>by show n<=_;unfold dB;simp
theorem tI (ha:PE X a (ak T ta)) (hs:aY a=true):PA X [a] (cS T (g6 ta λ_ M q=>q [] M)):=i3 ha oH hs
theorem zw (ha:PE X a (ak T ta)) (hb:PE X b (ak T tb)) (hs:aY a=true) (bu:aY b=true):PA X [a,b] (cS T (g6 ta (g6 tb λ_ M q=>q [] M))):=i3 ha (i3 hb oH bu) hs
def p1 (f:D->Mp->Prop):List D->Mp->Prop:=λds M=>match ds with
 |[d]=>f d M
 |_=>False
def p2 (f:D->D->Mp->Prop):List D->Mp->Prop:=λds M=>match ds with
 |[d,e]=>f d e M
 |_=>False
theorem zx {f:D->Mp->Prop}{ds:List D}{M:Mp}{H:Hp}{vs:List V} (h:p1 f ds M) (r:az H ds vs):∃d v,vs=[v]/\RD H d v/\f d M:=by
 unfold p1 at h;split at h
 ·obtain⟨v,rfl,h1⟩:=cK r;exact⟨_,v,rfl,h1,h⟩
 ·exact h.elim
theorem zy {f:D->D->Mp->Prop}{ds:List D}{M:Mp}{H:Hp}{vs:List V} (h:p2 f ds M) (r:az H ds vs):∃d e v w,vs=[v,w]/\RD H d v/\RD H e w/\f d e M:=by
 unfold p2 at h;split at h
 ·obtain⟨v,w,rfl,h1,h2⟩:=so r;exact⟨_,_,v,w,rfl,h1,h2,h⟩
 ·exact h.elim
theorem oJ {d:D}{k:List D->Prop}{H:Hp}{v:V} (h:gp d k) (r:RD H d v):∃ds a xs,v=.ref a/\H a=some (.tup xs)/\az H ds xs/\k ds:=by
 unfold gp at h;split at h
 ·obtain⟨a,xs,e,h1,h2⟩:=bX.mp r;exact⟨_,a,xs,e,h1,h2,h⟩
 ·exact h.elim
theorem fE {d:D}{k:Addr->Prop}{H:Hp}{v:V} (h:dM d k) (r:RD H d v):∃a,v=.ref a/\k a:=by
 unfold dM at h;split at h
 ·exact⟨_,au.mp r,h⟩
 ·exact h.elim
theorem LQ {p:Pos} (hg:Gl X "range") (hm:X.mg "range"=none) (ha:PE X a (ak T ta)) (hs:aY a=true):PI X tg (.Call (.Name "range" p) [a] [] pos) (fD T (yV ta)):=lT (Iw hg hm (tI ha hs) hs) fun σ H R h=>by
 obtain⟨τ,M,k,rs,rm,h,po⟩:=h;refine⟨τ,M,p1 λd M1=>jO d λn=>-(2 ^ 62)<=n/\n<2 ^ 62/\k (dB 0 n.toNat) (λ_=>True) M1,rs,rm,h,λvs ds H1 M1 t1 ac al h1=>?_⟩;obtain⟨d,u,rfl,ru,h1⟩:=zx h1 al;obtain⟨n,rfl,h2,h3,h4⟩:=tG h1 ru;exact⟨n,rfl,h2,h3,po _ _ _ _ _ t1 ac LP h4⟩
theorem LR {H:Hp}{M:Mp}{p:Addr}{x y:V}{d e:D} (rm:RM T H M) (hp:H p=none) (rx:RD H d x) (ry:RD H e y):RD (ag H p (.tup [x,y])) (.tup [d,e]) (.ref p)/\ay H (ag H p (.tup [x,y]))/\RM T (ag H p (.tup [x,y])) M:=
 ⟨bX.mpr ⟨p,_,rfl,b7,.cons (rx.mono (ay.new hp _)) (.cons (ry.mono (ay.new hp _)) .nil)⟩,ay.new hp _,rm.lay hp _⟩
theorem LS {ds es:List D}{i:Nat}{d:D} (h:(acf (λx y=>D.tup [x,y]) ds es)[i]?=some d):∃x y,ds[i]?=some x/\es[i]?=some y/\d=.tup [x,y]:=by
 rw[List.getElem?_zipWith]at h;cases e1:ds[i]? with
 |none=>rw[e1]at h;cases h
 |some x=>
  cases e2:es[i]? with
  |none=>rw[e1,e2]at h;cases h
  |some y=>rw[e1,e2]at h;cases h;exact⟨x,y,rfl,rfl,rfl⟩
theorem zB {q:Bool}{K:PySem.W.Frag}{H:Hp}{a b:Addr}{us:List V}{xs ys:List D}{ok:Mp->Prop} (h:H a=some (.tup us)) (ru:az H xs us) (hb:∀H' M,ay H H'->RM T H' M->ok M->∃ws,gP q K H' b ws/\az H' ys ws):hB T H (rp q K a b) (acf (λx y=>.tup [x,y]) xs ys) ok where
 go:=λi d H' M e t rm k=>by
  have hs:aI K H' a us:=aI.of (t _ _ h);obtain⟨ws,bu,co⟩:=hb H' M t rm k;obtain⟨x,y,e1,e2,rfl⟩:=LS e;obtain⟨u,h1,h2⟩:=eG (bG (ru.mono t)) e1;obtain⟨w,h3,h4⟩:=eG (bG co) e2;refine⟨⟨us,ws,u,w,hs,bu,h1,h3⟩,λz H2 ⟨p,e3,hp,ZO,y',f1,f2,e4⟩=>?_⟩;have:=f1 us hs;rw[h1]at this;cases this;have:=f2 ws bu;rw[h3]at this;cases this;subst e3 e4;exact LR rm hp h2 h4
 stop:=λH' M t rm k=>by
  obtain⟨ws,bu,co⟩:=hb H' M t rm k;exact⟨us,ws,aI.of (t _ _ h),bu,by rw[List.length_zipWith,ru.length,co.length];lia⟩
variable {gQ:List Expr}{kk:Nat}{tp p:Pos}
theorem LU (hg:Gl X "zip") (hm:X.mg "zip"=none) (ha:PE X a (ak T ta)) (hb:PE X b (ak T tb)) (hs:aY a=true) (bu:aY b=true):PI X (.Tuple gQ kk tp) (.Call (.Name "zip" p) [a,b] [] pos) (fD T (yW ta tb)):=lT (xC (q:=true) hg hm (zw ha hb hs bu) hs bu) fun σ H R h=>by
 obtain⟨τ,M,k,rs,rm,h,po⟩:=h;refine⟨τ,M,p2 λd e M1=>gp d λds=>gp e λes=>k (acf (λx y=>.tup [x,y]) ds es) (λ_=>True) M1,rs,rm,h,λvs ds H1 M1 t1 ac al h1=>?_⟩;obtain⟨d,e,u,w,rfl,ru,rw,h1⟩:=zy h1 al;obtain⟨ds,x,xs,rfl,hx,rx,h2⟩:=oJ h1 ru;obtain⟨es,y,ys,rfl,hy,ry,h3⟩:=oJ h2 rw;exact⟨x,y,xs,ys,rfl,aI.of hx,aI.of hy,po _ _ _ _ _ t1 ac (zB hx rx λ_ _ t _ _=>⟨_,aI.of (t _ _ hy),ry.mono t⟩) h3⟩
theorem LV (hg:Gl X "zip") (hm:X.mg "zip"=none) (ha:PE X a (ak T ta)) (hb:PE X b (ak T tb)) (hs:aY a=true) (bu:aY b=true):PI X (.Tuple gQ kk tp) (.Call (.Name "zip" p) [a,b] [] pos) (fD T (yX ta tb)):=lT (xC (q:=false) hg hm (zw ha hb hs bu) hs bu) fun σ H R h=>by
 obtain⟨τ,M,k,rs,rm,h,po⟩:=h;refine⟨τ,M,p2 λd e M1=>gp d λds=>dM e λb=>∃es,Ls M1 b es/\k (acf (λx y=>.tup [x,y]) ds es) (λM'=>Ls M' b es) M1,rs,rm,h,λvs ds H1 M1 t1 ac al h1=>?_⟩;obtain⟨d,e,u,w,rfl,ru,rw,h1⟩:=zy h1 al;obtain⟨ds,x,xs,rfl,hx,rx,h2⟩:=oJ h1 ru;obtain⟨y,rfl,es,h3,h4⟩:=fE h2 rw;obtain⟨ys,hy,ry⟩:=ac.ls (K:=X.K) h3;exact⟨x,y,xs,ys,rfl,aI.of hx,hy,po _ _ _ _ _ t1 ac (zB hx rx λ_ _ _ r k=>r.ls k) h4⟩
end
end PL
end
section
namespace PL
open PySem L2
noncomputable def fF:Expr->Bool
 |.Call (.Name x _) [] [] _=>x == "super"
 |_=>false
theorem gr {o:Expr}{f:Str}{env:Env}{s:Sem Value} (h:fF o=false):attributeBase o f env s=s:=by
 unfold attributeBase;split
 ·rename_i id _ _;have h:(id == ("super" : Str))=false:=h;have h':(id != ("super" : Str))=true:=by rw[bne,h];rfl
  rw[h',Bool.true_or,Bool.true_or,Bool.true_or];rfl
 ·rfl
def jT:List Nat->fc
 |[]=>vA
 |i::is=>vB (kB i) (jT is)
def fG (K:PySem.W.Frag):G->TG
 |.one i=>kB i
 |.many is=>vC K is.length (jT is)
section
variable {X:Cx}{T:Tp}{K:PySem.W.Frag}{a b c e o tg iter:Expr}{es:List Expr}{pos:Pos}{ta tb:DE}{tc td:DT}{tA:DA}
theorem tJ {H:Hp}{R:St->Hp->Prop}:∀{is:List Nat}{ds:List D}{vs:List V} {τ:bb} {σ:St},ds.length=is.length->az H ds vs->RS H τ σ->(∀ σ1,RS H (oA is ds τ) σ1->R σ1 H)->jT is vs σ H R
 |[],[],vs,τ,σ,_,r,rs,k=>⟨eJ r,k σ rs⟩
 |i::is,d::ds,vs,τ,σ,hl,r,rs,k=>by
  rw[az]at r;obtain⟨y,ys,rfl,h1,h2⟩:=r;exact⟨y,ys,rfl,tJ (is:=is) (by simpa using hl) h2 (rs.set i h1) k⟩
theorem tK {H:Hp}{R:St->Hp->Prop}{g:G}{d:D}{v:V} {τ:bb} {σ:St} {k:bb->Prop} (h:g8 g d τ k) (r:RD H d v) (rs:RS H τ σ) (hk:∀ τ1 σ1,RS H τ1 σ1->k τ1->R σ1 H):fG K g v σ H R:=by
 cases g with
 |one i=>exact hk _ _ (rs.set i r) h
 |many is=>
  cases d with
  | «at» v=>exact h.elim
  |tup ds=>
   obtain⟨h1,h2⟩:=h;obtain⟨a,xs,rfl,ha,ra⟩:=bX.mp r;exact⟨a,xs,rfl,aI.of ha,by rw[<- ra.length];exact h1,tJ h1 ra rs fun σ1 r1=>hk _ _ r1 h2⟩
noncomputable def lU (n:Nat):G->Bool
 |.one i=>decide (i<n)
 |.many is=>is.all λi=>decide (i<n)
theorem zC {n:Nat}:∀{is:List Nat}{vs:List V} {σ:St} {H:Hp}{Q:St->Hp->Prop},(is.all λi=>decide (i<n))=true->jT is vs σ H Q->jT is vs σ H fun σ2 H2=>Q σ2 H2/\σ2.length=σ.length/\σ2.drop n=σ.drop n
 |[],vs,σ,H,Q,_,h=>⟨h.1,h.2,rfl,rfl⟩
 |i::is,vs,σ,H,Q,hi,h=>by
  rw[List.all_cons,aaW]at hi;obtain⟨v,r,rfl,h⟩:=h;refine⟨v,r,rfl,?_⟩;have h2:=zC hi.2 h;have e1:(σ.set i (some v)).length=σ.length:=List.length_set;have e2:(σ.set i (some v)).drop n=σ.drop n:=List.drop_set_of_lt (of_decide_eq_true hi.1);rw[e1,e2]at h2;exact h2
theorem zD {n:Nat}{g:G} (h:lU n g=true):lg n (fG K g):=by
 cases g with
 |one i=>exact Hy (of_decide_eq_true h)
 |many is=>
  rintro x σ H Q ⟨a,xs,e1,e2,e3,q⟩;exact⟨a,xs,e1,e2,e3,zC h q⟩
theorem LW {H:Hp} {τ:bb} {σ:St} (n:Nat) (fr:List (Str×Nat)) (r:RS H τ σ):RS H (lM n (fr.map (·.2)) τ) (d0 n fr σ):=by
 unfold lM d0;refine⟨by simp,λi d e=>?_⟩;by_cases hi:i<n
 ·rw[abt (by simpa using hi),ab7,if_pos hi]at e;cases e
 ·rw[abc (by simpa using hi),ab1,List.map_map,aaU]at e;rw[abc (by simpa using hi),ab1,aaU];cases q:fr[i-n]? with
  |none=>rw[q]at e;cases e
  |some p=>
   rw[q]at e;have e':(τ[p.2]?).join=some d:=abe e;have e2:τ[p.2]?=some (some d):=by
    cases z:τ[p.2]? with
    |none=>rw[z]at e';cases e'
    |some o=>rw[z]at e';exact congrArg some e'
   obtain⟨v,h1,h2⟩:=r.aw _ _ e2;exact⟨v,by show some ((σ[p.2]?).join)=_;rw[h1];rfl,h2⟩
theorem zG {α:Type} {xs:List α}{i:Nat}{x:α}{r:List α} (h:xs.drop i=x::r):xs[i]?=some x/\xs.drop (i+1)=r/\i<xs.length:=by
 have hi:i<xs.length:=by
  apply Classical.byContradiction;intro z;rw[List.drop_eq_nil_of_le (by lia)]at h;cases h
 rw[aco hi]at h;cases h;exact⟨aaI hi,rfl,hi⟩
theorem zH {J:It}{H1:Hp}{M1:Mp}{xs:List D}{ok:Mp->Prop}{n:Nat}{fr:List (Str×Nat)}{g:G} {τ:bb} {σ:St} {k:List D->Mp->Prop}{fin:List V->Hp->Prop} (it:hB T H1 J xs ok) (rs:RS H1 τ σ) (ac:RM T H1 M1)
  (h:iY ok g tc ta (lM n (fr.map (·.2)) τ) k xs [] M1) (hk:∀ys ds H M,ay H1 H->RM T H M->az H ds ys->k ds M->fin ys H) :
  ∃W:Nat->Nat->List V->Hp->Prop,(∃m,W 0 m [] H1)/\nB J n fr (λ_=>fG K g) (λ_=>bW T tc) (λ_=>ak T ta) σ W fin:=by
 refine⟨λi m ys H=>∃M ds,RM T H M/\ay H1 H/\az H ds ys/\i+m=xs.length/\iY ok g tc ta (lM n (fr.map (·.2)) τ) k (xs.drop i) ds M,⟨xs.length,M1,[],ac,ay.refl _,.nil,by lia,h⟩,?_⟩;rintro i m ys H ⟨M,ds,rm,t,rd,e,h⟩;cases hx:xs.drop i with
 |nil=>
  rw[hx]at h;obtain⟨h1,h2,h3⟩:=h;refine⟨by rw[<- rd.length];exact h2,.inl ⟨?_,hk _ _ _ _ t rm rd h3⟩⟩;have:=List.drop_eq_nil_iff.mp hx;have Yz:i=xs.length:=by lia
  rw[Yz];exact it.stop H M t rm h1
 |cons x r=>
  rw[hx]at h;obtain⟨h1,h2,h3⟩:=h;obtain⟨e1,e2,hi⟩:=zG hx;obtain⟨g1,g2⟩:=it.go i x H M e1 t rm h1;refine⟨by rw[<- rd.length];exact h2,.inr ⟨g1,λz v H2 hy=>?_⟩⟩;obtain⟨r1,t2,aP⟩:=g2 v H2 hy;refine tK h3 r1 ((LW n fr rs).mono (t.trans t2)) fun τ1 σ1 on h4=>?_;refine⟨τ1,M,_,on,aP,h4,λb H3 M3 t3 ec h5=>?_⟩;cases b with
  |false=>
   exact⟨m-1,by lia,M3,ds,ec,t.trans (t2.trans t3),rd.mono (t2.trans t3),by lia,by rw[e2];exact h5⟩
  |true=>
   refine⟨τ1,M3,_,on.mono t3,ec,h5,λy d H4 M4 t4 di LX h6=>⟨m-1,by lia,M4,ds++[d],di,t.trans (t2.trans (t3.trans t4)),(rd.mono (t2.trans (t3.trans t4))).app (.one LX),by lia,by rw[e2];exact h6⟩⟩
variable {ifs:List Expr}{scope:Scope}{Nt:List Str}{fr:List (Str×Nat)}{g:G}{ti:DI}
theorem LY (L:fo X scope Nt fr) (f8:X.calm=true) (hi:PI X tg iter (fD T ti)) (hg:∀ z,PG (cn X scope (Nt++fr.map (·.1)) z) tg (fG X.K g)) (d3:lU Nt.length g=true)
  (hc:∀z,fm (cn X scope (Nt++fr.map (·.1)) z) ifs (bW T tc)) (he:∀z,PE (cn X scope (Nt++fr.map (·.1)) z) e (ak T ta)) (hs:∀x,foldedSetIterable iter X.env x=pure x) :
  PE X (.ListComp e [⟨tg,iter,ifs,0⟩] scope pos) (ak T (tm Nt.length (fr.map (·.2)) g ti tc ta)):=aR (HL L f8 hi hg (λz=>zD d3) hc he hs) fun σ H Q h=>by
 obtain⟨τ,M,q,rs,rm,h,po⟩:=h;refine⟨τ,M,_,rs,rm,h,λJ xs ok H1 M1 t1 ac it h1=>zH it (rs.mono t1) ac h1 λys ds H2 M2 t2 aP bH h2 p hp=>?_⟩;exact (po.tr (t1.trans t2)).lst aP bH hp h2
theorem LZ {y:Str}{j:Nat}{py gb:Pos} (hN:X.N.Nodup) (hj:X.N[j]?=some y) (hy:dS X.env.scope y) (L:fo X scope Nt fr) (f8:X.calm=true) (hi:PI X tg iter (fD T ti)) (hg:∀ z,PG (cn X scope (Nt++fr.map (·.1)) z) tg (fG X.K g)) (d3:lU Nt.length g=true)
  (hc:∀z,fm (cn X scope (Nt++fr.map (·.1)) z) ifs (bW T tc)) (he:∀z,PE (cn X scope (Nt++fr.map (·.1)) z) e (ak T ta)) (hs:∀x,foldedSetIterable iter X.env x=pure x)
  (lm:swapsWith (.ListComp e [⟨tg,iter,ifs,0⟩] scope pos) (some (.Name y py)) gb.line X.env=pure true) (lp:X.fn y=true\/X.env.scope.names.lookup y=some .local) :
  PS X (.Assign [.Name y py] (.ListComp e [⟨tg,iter,ifs,0⟩] scope pos) gb) (cj T (jS (tm Nt.length (fr.map (·.2)) g ti tc ta) (.one j))):=eH (HN L f8 hN hj hy hi hg (λz=>zD d3) hc he hs lm lp) λD σ H h=>by
 obtain⟨τ,M,e,rs,rm,h,po⟩:=h;refine⟨τ,M,_,rs,rm,h,λJ xs ok H1 M1 t1 ac it h1=>zH it (rs.mono t1) ac h1 λys ds H2 M2 t2 aP bH h2 p hp=>?_⟩;have t3:=ay.new hp (.lst ys);exact po.nx _ _ _ _ (t1.trans (t2.trans t3)) (aP.new hp (n9 bH t3)) ((rs.mono (t1.trans (t2.trans t3))).set j (RD.aw _)) (h2 p (aP.free hp))
theorem zI {D:gB} {σ:St} {H:Hp} (h:cj T (jS ta g) D σ H):p' (ak T ta) (fG K g) D σ H:=by
 obtain⟨τ,M,e,rs,rm,h,po⟩:=h;exact⟨τ,M,_,rs,rm,h,λv d H1 M1 t1 ac al h1=>tK h1 al (rs.mono t1) fun τ1 σ1 r1 h2=>po.nx _ _ _ _ t1 ac r1 h2⟩
theorem zJ (he:PE X e (ak T ta)):PS X (.Return (some e) pos) (cj T (tF ta)):=eH (D0 he) λD σ H h=>by
 obtain⟨τ,M,e,rs,rm,h,po⟩:=h;exact⟨τ,M,_,rs,rm,h,po.rt⟩
theorem L0 (he:PE X e (ak T ta)) (hs:swapsWith e none pos.line X.env=pure false):PS X (.Expr e pos) (cj T (zh ta)):=eH (DY he hs) λD σ H h=>by
 obtain⟨τ,M,e,rs,rm,h,po⟩:=h;exact⟨τ,M,_,rs,rm,h,λv d H1 M1 t1 ac al h1=>po.nx _ _ _ _ t1 ac (rs.mono t1) h1⟩
theorem L3 {sa sb:List Stmt}{t u:DS} (hc:PT X c (bW T tc)) (ha:bP X sa (cj T t)) (hb:bP X sb (cj T u)):PS X (.If c sa sb pos) (cj T (zi tc t u)):=eH (D3 hc ha hb) λD σ H h=>by
 obtain⟨τ,M,e,rs,rm,h,po⟩:=h;refine⟨τ,M,_,rs,rm,h,λb H1 M1 t1 ac h1=>?_⟩;cases b with
 |true=>exact⟨τ,M1,e,rs.mono t1,ac,h1,po.tr t1⟩
 |false=>exact⟨τ,M1,e,rs.mono t1,ac,h1,po.tr t1⟩
theorem L4:bP X [] (cj T λe τ M=>e.nx τ M):=yi DU λD σ H h=>by
 obtain⟨τ,M,e,rs,rm,h,po⟩:=h;exact po.nx _ _ _ _ (ay.refl H) rm rs h
theorem L5 {st:Stmt}{rest:List Stmt}{t u:DS} (h1:PS X st (cj T t)) (h2:bP X rest (cj T u)):bP X (st::rest) (cj T (zf t u)):=yi (DV h1 h2) λD σ H h=>by
 obtain⟨τ,M,e,rs,rm,h,po⟩:=h;exact⟨τ,M,_,rs,rm,h,⟨fun τ1 σ1 H1 M1 t1 ac r1 h1=>⟨τ1,M1,e,r1,ac,h1,po.tr t1⟩,po.rt,po.Xj,po.ct⟩⟩
theorem L6 {body:List Stmt}{t:DS} (hp:PassesOwn (model X.prog X.w) X.A X.env X.xe) (hc:X.calm=true) (hi:PI X tg iter (fD T ti)) (hg:PG X tg (fG X.K g)) (hb:bP X body (cj T t)) (hs:∀ x,foldedSetIterable iter X.env x=pure x) :
  PS X (.For tg iter body [] pos) (cj T (zj ti g t)):=eH (Ej hp hc hi hg hb hs) λD σ H h=>by
 obtain⟨τ,M,e,rs,rm,h,po⟩:=h;refine⟨τ,M,_,rs,rm,h,λJ xs ok H1 M1 t1 ac it h1=>⟨λi m σ H=>∃ τ M,RS H τ σ/\RM T H M/\ay H1 H/\i+m=xs.length/\iZ ok g t e (xs.drop i) τ M,⟨xs.length,τ,M1,rs.mono t1,ac,ay.refl _,by lia,h1⟩,?_⟩⟩;rintro i m σ H ⟨τ,M,rs,rm,t2,e1,h⟩;cases hx:xs.drop i with
 |nil=>
  rw[hx]at h;refine .inl ⟨?_,po.nx _ _ _ _ (t1.trans t2) rm rs h.2⟩;have:=List.drop_eq_nil_iff.mp hx;have Yz:i=xs.length:=by lia
  rw[Yz];exact it.stop H M t2 rm h.1
 |cons x r=>
  rw[hx]at h;obtain⟨h1,h3⟩:=h;obtain⟨e2,e3,hi⟩:=zG hx;obtain⟨g1,g2⟩:=it.go i x H M e2 t2 rm h1;refine .inr ⟨g1,fun σ' H'=>∃ τ M,RS H' τ σ'/\RM T H' M/\ay H1 H'/\iZ ok g t e r τ M,fun σ' H' ⟨τ',M',q1,q2,q3,q4⟩=>⟨m-1,by lia,τ',M',q1,q2,q3,by lia,by rw[e3];exact q4⟩,λv H2 hy=>?_⟩;obtain⟨r1,t3,aP⟩:=g2 v H2 hy;refine tK h3 r1 (rs.mono t3) fun τ1 σ1 on h4=>⟨τ1,M,_,on,aP,h4,?_⟩;have tt:=t1.trans (t2.trans t3);exact⟨fun τ2 σ2 H4 M4 t4 di r4 h5=>⟨τ2,M4,r4,di,t2.trans (t3.trans t4),h5⟩,po.rt.tr tt,fun τ2 σ2 H4 M4 t4 di r4 h5=>po.nx _ _ _ _ (tt.trans t4) di r4 h5,fun τ2 σ2 H4 M4 t4 di r4 h5=>⟨τ2,M4,r4,di,t2.trans (t3.trans t4),h5⟩⟩
theorem L7 {body:List Stmt}{t:DS} (hp:PassesOwn (model X.prog X.w) X.A X.env X.xe) (hc:PT X c (bW T tc)) (hb:bP X body (cj T t)):PS X (.While c body [] pos) (cj T (zk tc t)):=eH (Eb hp hc hb) λD σ H h=>by
 obtain⟨τ,M,e,rs,rm,⟨n,h⟩,po⟩:=h;refine⟨λm σ H'=>∃ τ M,RS H' τ σ/\RM T H' M/\ay H H'/\i0 tc t e m τ M,⟨n,τ,M,rs,rm,ay.refl _,h⟩,?_⟩;rintro m σ H1 ⟨τ,M,rs,rm,t1,h⟩;cases m with
 |zero=>exact h.elim
 |succ m=>
  refine⟨τ,M,_,rs,rm,h,λb H2 M2 t2 aP h2=>?_⟩;cases b with
  |false=>exact po.nx _ _ _ _ (t1.trans t2) aP (rs.mono t2) h2
  |true=>
   refine⟨fun σ' H'=>∃ τ M,RS H' τ σ'/\RM T H' M/\ay H H'/\i0 tc t e m τ M,fun σ' H' q=>⟨m,by lia,q⟩,⟨τ,M2,_,rs.mono t2,aP,h2,?_⟩⟩;have tt:=t1.trans t2;exact⟨fun τ2 σ2 H4 M4 t4 di r4 h5=>⟨τ2,M4,r4,di,tt.trans t4,h5⟩,po.rt.tr tt,fun τ2 σ2 H4 M4 t4 di r4 h5=>po.nx _ _ _ _ (tt.trans t4) di r4 h5,fun τ2 σ2 H4 M4 t4 di r4 h5=>⟨τ2,M4,r4,di,tt.trans t4,h5⟩⟩
theorem L8 {H:Hp}{M:Mp}{x y z:V}{dx dy Y6:D}{k:Mp->Prop}{Q:Hp->Prop} (rm:RM T H M) (rx:RD H dx x) (ry:RD H dy y) (Y7:RD H Y6 z) (h:tE dx dy Y6 M k) (hk:∀ H' M',ay H H'->RM T H' M'->k M'->Q H') :
  qE x y z H Q\/qY x y z H Q:=by
 unfold tE at h;split at h
 ·rename_i a;cases au.mp rx;rcases h with ⟨xs,n,j,h1,rfl,h2,h3⟩ |⟨kvs,key,h1,h2,h3,h4⟩
  ·cases au.mp ry;obtain⟨us,hs,ru⟩:=rm.lst h1;refine .inl ⟨a,us,n,j,rfl,rfl,hs,by rw[<- ru.length];exact h2,hk _ _ (d9 rm h1) (rm.put h1 (n9 (gg (yf Y7 j (bG ru))) (d9 rm h1))) h3⟩
  ·obtain⟨vs,hv,rk⟩:=rm.ob _ _ h1;cases lH h2 ry;refine .inr ⟨a,_,rfl,.inl ⟨vs,key,hv,rfl,by rw[<- rk.length];exact h3,rfl⟩,hk _ _ (d9 rm h1) (rm.put h1 (iR (yD Y7 rk) (d9 rm h1))) h4⟩
 ·exact h.elim
end
end PL
end
section
namespace L2
open PySem PySem.Spec PyProof.Rows
section
variable {X:Cx}
end
end L2
end
section
namespace PL
open PySem L2
section
variable {X:Cx}{T:Tp}{K:PySem.W.Frag}{a b c e o tg iter:Expr}{es:List Expr}{pos p:Pos}{ta tb:DE}{tc td:DT}{tA:DA}
theorem tL {H:Hp}{f:Str}:∀{fs:List (Str×D)}{vs:List (Str×V)},bM H fs vs->(fs.lookup f=none/\vs.lookup f=none)\/∃d v,fs.lookup f=some d/\vs.lookup f=some v/\RD H d v
 |_,_,.nil=>.inl ⟨rfl,rfl⟩
 |(k,d)::fs,(k',v)::vs,.cons r t=>by
  obtain⟨e,rd⟩:=r;cases e;rw[abb,abb];cases f == k with
  |true=>exact .inr ⟨d,v,rfl,rfl,rd⟩
  |false=>exact tL t
theorem zN {H:Hp}{f:Str}{d:D}{v:V} (rv:RD H d v):∀{fs:List (Str×D)}{vs:List (Str×V)},bM H fs vs->bM H (oG f d fs) (cB f v vs)
 |_,_,.nil=>.cons ⟨rfl,rv⟩ .nil
 |(k,x)::fs,(k',y)::vs,.cons r t=>by
  obtain⟨e,rd⟩:=r;cases e;unfold oG cB;by_cases h:k=f
  ·rw[if_pos h,if_pos h];exact .cons ⟨rfl,rv⟩ t
  ·rw[if_neg h,if_neg h];exact .cons ⟨rfl,rd⟩ (zN rv t)
theorem L9 {H:Hp}{p C dx:Addr}{fs:List (Str×D)}{vs:List (Str×V)} (h:bM H fs vs) (t:ay H (ag H p (.ins C dx vs))):RO (ag H p (.ins C dx vs)) p (.ins C fs):=⟨dx,vs,b7,h.mono t⟩
theorem oK {d:D}{k:Str->Prop}{H:Hp}{v:V} (h:jQ d k) (r:RD H d v):∃b,v=.str b/\k b:=by
 unfold jQ at h;split at h
 ·exact⟨_,au.mp r,h⟩
 ·exact h.elim
theorem Ma {fl:Addr->Str->Prop}{f:Str} (lV:∀C,fl C f->cI X.K C/\dX X.K C f) (he:PE X e (ak T ta)) (hb:attributeBase e f X.env (eval e X.env)=eval e X.env):PE X (.Attribute e f pos) (ak T (tq fl ta f)):=aR (Fb he hb) fun σ H Q h=>by
 obtain⟨τ,M,q,rs,rm,h,po⟩:=h;refine⟨τ,M,_,rs,rm,h,λv d H1 M1 t1 ac al h1=>?_⟩;obtain⟨a,rfl,C,fs,d,h2,h3,h4,h5⟩:=fE h1 al;obtain⟨dx,vs,hv,rk⟩:=ac.ob _ _ h2;rcases tL (f:=f) rk with ⟨e1,_⟩ |⟨d',v,e1,e2,rd⟩
 ·rw[e1]at h4;cases h4
 ·rw[e1]at h4;cases h4;exact⟨a,C,dx,vs,v,rfl,hv,(lV C h3).1,(lV C h3).2,e2,(po.tr t1).same ac rd h5⟩
theorem Mb {fl:Addr->Str->Prop}{f:Str}{q:Pos}{v:Expr} (lV:∀ C,fl C f->cI X.K C/\dX X.K C f) (ho:PE X o (ak T ta)) (he:PE X v (ak T tb)) (hs:swapsWith v (some (.Attribute o f q)) pos.line X.env=pure false) :
  PS X (.Assign [.Attribute o f q] v pos) (cj T (zg fl ta tb f)):=eH (Fc ho he hs) λD σ H h=>by
 obtain⟨τ,M,e,rs,rm,h,po⟩:=h;refine⟨τ,M,_,rs,rm,h,λv d H1 M1 t1 ac al h1=>⟨τ,M1,_,rs.mono t1,ac,h1,λu d2 H2 M2 t2 aP bH h2=>?_⟩⟩;obtain⟨a,rfl,C,fs,h3,h4,h5,h6⟩:=fE h2 bH;obtain⟨dx,vs,hv,rk⟩:=aP.ob _ _ h3;have tt:=d9 (u:=.ins C dx (cB f v vs)) aP h3;refine⟨a,C,dx,vs,rfl,hv,(lV C h4).1,(lV C h4).2,by rw[<- rk.length];exact h5,po.nx _ _ _ _ (t1.trans (t2.trans tt)) (aP.put h3 (L9 (zN (al.mono t2) rk) tt)) (rs.mono (t1.trans (t2.trans tt))) h6⟩
theorem Mc {k:Nat}{f C:Addr}{fd:FuncData}{ps:List Str}{sp:QN}{x:Str} (M:Mk X.K C f) (F:a5 X.prog X.w X.K X.mg X.base a7 k f fd ps (bR T sp)) (hr:bf (k+1) X.A) (hg:Gl X x) (hm:X.mg x=some (.ref C)) (hb:b0 X.K fd ps [])
  (ha:PA X es (cS T tA)) (hs:bQ es=true) (b9:(x == ("__debug__" : Str))=false) (h0:es=[]->tA=λ_ M q=>q [] M):PE X (.Call (.Name x p) es [] pos) (ak T (tu (some (C,sp)) tA)):=by
 have key:∀ {H H1:Hp}{M1:Mp}{q:QK}{Q:VK}{vs:List V}{ds:List D},ay H H1->RM T H1 M1->az H1 ds vs->Po T H q Q->(∀ x,M1 x=none->sp (.ref x::ds) (up M1 x (.ins C [])) λd M2=>d=.af/\q (.ref x) M2) ->
   ∀x dx,H1 x=none->H1 dx=none->dx≠x->dh T sp (.ref x::vs) (ag (ag H1 dx (.own x)) x (.ins C dx [])) (λv H2=>v=.af/\Q (.ref x) H2):=λ{H H1 M1 q Q vs ds} t1 ac al po h1 x dx hx jU ne=>by
  have cr:ag H1 dx (.own x) x=none:=by rw[aD (abx ne)];exact hx
  have ta:=ay.new jU (.own x);have tb:=ay.new cr (.ins C dx []);refine⟨.ref x::ds,up M1 x (.ins C []),_,(ac.lay jU _).new cr ⟨dx,[],b7,.nil⟩,.cons (RD.aw _) (al.mono (ta.trans tb)),h1 x (ac.free hx),λv d H2 M2 t2 aP bH ⟨e1,e2⟩=>?_⟩;subst e1;exact⟨au.mp bH,po _ _ _ _ (t1.trans (ta.trans (tb.trans t2))) aP (RD.aw _) e2⟩
 cases es with
 |nil=>
  cases h0 rfl;refine aR (Ft M F hr hg hm hb .nil iG b9) fun σ H Q h=>?_;obtain⟨τ,M,q,rs,rm,h,po⟩:=h;exact λx dx hx jU ne=>key (ay.refl H) rm .nil po h x dx hx jU ne
 |cons e es=>
  have h':(aY e && bQ es)=true:=hs;rw[aaW]at h';refine aR (Fs M F hr hg hm hb .nil iG ha b9 (cp h'.1) (gf h'.2)) fun σ H Q h=>?_;obtain⟨τ,M,q,rs,rm,h,po⟩:=h;refine⟨τ,M,_,rs,rm,h,λvs ds H1 M1 t1 ac al h1 x dx hx jU ne=>?_⟩;show dh T sp (.ref x::(vs++[])) _ _;rw[aa4];exact key t1 ac al po h1 x dx hx jU ne
theorem zO {m : Str} {q : Pos} (hb : fF o = false) (hs : bQ es = true) (hl : es.length < 29) (b' : (q.endLine == pos.line) = true) : eval (.Call (.Attribute o m q) es [] pos) X.env = (do
      let ov <- eval o X.env
      standAt q.atName
      let (f,first) <- holding [ov] (getMethod ov m (do return (<- importBound o X.env).getD true))
      callWith pos f first (backTo pos (starEach es X.env)) (backToKw pos (keywordEach [] X.env))):=by
  have e1:eval (.Call (.Attribute o m q) es [] pos) X.env=(do
    let ov <- attributeBase o m X.env (eval o X.env)
    standAt q.atName
    methodCall o m q pos X.env ov (es.length+([]:List Keyword).length) (backTo pos (starEach es X.env)) (backToKw pos (keywordEach [] X.env))):=rfl
  rw[e1,gr hb];have e2:methodCallForm (es.length+([]:List Keyword).length) (backTo pos (starEach es X.env)) (backToKw pos (keywordEach [] X.env))=true:=by
    have:=rB (env:=X.env) (cpos:=pos) hs hl;exact this
  unfold methodCall;rw[e2];unfold calleeOf methodCallPos;rw[b'];rfl
theorem Md {k:Nat}{f C:Addr}{fd:FuncData}{ps:List Str}{sp:QN}{m:Str}{mp:Str->Prop}{q:Pos} (ho:PE X o (ak T ta)) (c:cI X.K C) (hm:ip X.K C m f) (F:a5 X.prog X.w X.K X.mg X.base a7 k f fd ps (bR T sp)) (hr:bf k X.A) (hb:b0 X.K fd ps [])
  (ha:PA X es (cS T tA)) (hs:bQ es=true) (hl:es.length<29) (k9:fF o=false) (b':(q.endLine == pos.line)=true) (h0:es=[]->tA=λ_ M q=>q [] M) (Me:mp m) :
  PE X (.Call (.Attribute o m q) es [] pos) (ak T (oC (some (C,sp)) mp ta tA)):=by
 have no:∀{H:Hp}{fs:List (Str×D)}{vs:List (Str×V)},bM H fs vs->(∀p∈fs,¬mp p.1)->vs.lookup m=none:=λ{H fs vs} r z=>by
  rcases tL (f:=m) r with ⟨_,e⟩ |⟨d,v,e,_,_⟩
  ·exact e
  ·exact absurd Me (z _ (PySem.mem_of_lookup e))
 cases es with
 |nil=>
  cases h0 rfl;refine aR (Fp ho c hm F hr hb .nil iG (zO k9 hs hl b')) fun σ H Q h=>?_;obtain⟨τ,M,q,rs,rm,h,po⟩:=h;refine⟨τ,M,_,rs,rm,h,λv d H1 M1 t1 ac al h1=>?_⟩;obtain⟨a,rfl,fs,h2,h3,h4⟩:=fE h1 al;obtain⟨dx,vs,hv,rk⟩:=ac.ob _ _ h2;exact⟨a,dx,vs,rfl,hv,no rk h3,[d],M1,q,ac,.one al,h4,po.tr t1⟩
 |cons e es=>
  have h':(aY e && bQ es)=true:=hs;rw[aaW]at h';refine aR (Fo ho c hm F hr hb .nil iG ha (cp h'.1) (gf h'.2) (zO k9 hs hl b')) fun σ H Q h=>?_;obtain⟨τ,M,q,rs,rm,h,po⟩:=h;refine⟨τ,M,_,rs,rm,h,λv d H1 M1 t1 ac al h1=>?_⟩;obtain⟨a,rfl,fs,h2,h3,h4⟩:=fE h1 al;obtain⟨dx,vs,hv,rk⟩:=ac.ob _ _ h2;refine⟨a,dx,vs,rfl,hv,no rk h3,τ,M1,_,rs.mono t1,ac,h4,λus ds H2 M2 t2 aP bH h5=>?_⟩;show dh T sp (.ref a::(us++[])) H2 Q;rw[aa4];exact⟨d::ds,M2,q,aP,.cons (al.mono t2) bH,h5,po.tr (t1.trans t2)⟩
def tM (K:PySem.W.Frag) (a:Addr) (tab:Str->Option (Option V)):Prop:=∀z r,tab z=some r->(r=none/\PySem.W.nsIn K a z=some none)\/∃v u,r=some v/\PySem.W.nsIn K a z=some (some u)/\av v u
theorem Mf {x:Str}{a:Addr}{q:Pos}{tab:Str->Option (Option V)} (hg:Gl X x) (hm:X.mg x=some (.ref a)) (hd:(x == ("__debug__" : Str))=false) (d:jD X.K X.w a) (S:tM X.K a tab) (hu:X.A.units+1<cLine) (he:PE X e (ak T ta)) (hs:nv e) :
  PE X (.Subscript (.Name x q) e pos) (ak T (yY tab ta)):=aR (wU (JM d hu) (vv hg hm (Iy a) hd) he hs) fun σ H Q h=>by
 obtain⟨τ,M,q,rs,rm,h,po⟩:=h;refine⟨τ,M,_,rs,rm,h,λv d H1 M1 t1 ac al h1=>?_⟩;obtain⟨z,rfl,w,h2,h3⟩:=oK h1 al;rcases S z _ h2 with ⟨e1,_⟩ |⟨v,u,e1,e2,e3⟩
 ·cases e1
 ·cases e1;exact⟨z,_,u,rfl,rfl,e2,e3,(po.tr t1).same ac (RD.aw _) h3⟩
theorem Mg:PE X (.Dict [] [] pos) (ak T yZ):=aR FF fun σ H Q h=>by
 obtain⟨τ,M,q,rs,rm,h,po⟩:=h;exact λp hp=>po.new rm hp (iR (kvs:=[]) (vs:=[]) .nil (ay.new hp _)) h
noncomputable def tN (T:Tp):List (DE×DE)->List (TE×TE):=List.map λp=>(ak T p.1,ak T p.2)
theorem zP:∀ {ps:List (DE×DE)} {σ:St} {H:Hp} {τ:bb} {M:Mp}{q:List D->List D->Mp->Prop}{Q:List (V×V)->Hp->Prop},RS H τ σ->RM T H M->tx ps τ M q ->
  (∀ks vs us ws H' M',ay H H'->RM T H' M'->az H' ks us->az H' vs ws->q ks vs M'->Q (us.zip ws) H')->nu (tN T ps) σ H Q
 |[],σ,H,τ,M,q,Q,rs,rm,h,k=>k [] [] [] [] H M (ay.refl H) rm .nil .nil h
 | (tk,tv)::r,σ,H,τ,M,q,Q,rs,rm,h,k=>⟨τ,M,_,rs,rm,h,λx d H1 M1 t1 ac al h1=>⟨τ,M1,_,rs.mono t1,ac,h1,λy d2 H2 M2 t2 aP bH h2=>
   zP (rs.mono (t1.trans t2)) aP h2 λks vs us ws H3 M3 t3 ec r1 r2 h3=>k (d::ks) (d2::vs) (x::us) (y::ws) H3 M3 (t1.trans (t2.trans t3)) ec (.cons (al.mono (t2.trans t3)) r1) (.cons (bH.mono t3) r2) h3⟩⟩
theorem zQ {H:Hp}:∀{ks vs:List D}{us ws:List V}{kvs:List (Key×D)},az H ks us->az H vs ws->oD ks vs=some kvs->∃xs:List (Key×V),us.zip ws=xs.map (λkv=>(kV kv.1,kv.2))/\bM H kvs xs
 |[],[],us,ws,kvs,r1,r2,h=>by cases h;rw[eJ r1];exact⟨[],rfl,.nil⟩
 |k::ks,v::vs,us,ws,kvs,r1,r2,h=>by
  rw[az]at r1 r2;obtain⟨u,us,rfl,a1,a2⟩:=r1;obtain⟨w,ws,rfl,b1,b2⟩:=r2;unfold oD at h;obtain⟨key,h1,h2⟩:=Option.bind_eq_some_iff.mp h;obtain⟨r,h3,rfl⟩:=Option.map_eq_some_iff.mp h2;obtain⟨xs,e,rk⟩:=zQ a2 b2 h3;refine⟨(key,w)::xs,?_,.cons ⟨rfl,b1⟩ rk⟩;rw[List.zip_cons_cons,e,lH h1 a1];rfl
theorem Mh {ps:List (DE×DE)}{c5:List (Option Expr)}{fW:List Expr} (h:js X pos c5 fW (tN T ps)) (iC:c5.all (·.isSome)=true) (hl:c5.length=fW.length) (h0:c5≠[]) (qz:c5.length<=15):PE X (.Dict c5 fW pos) (ak T (y3 ps)):=aR (FK h iC hl h0 qz) fun σ H Q h=>by
 obtain⟨τ,M,q,rs,rm,h,po⟩:=h;intro p hp;have t0:=ay.new hp (.dK []);refine zP (rs.mono t0) (rm.new hp (iR (kvs:=[]) (vs:=[]) .nil t0)) (h p (rm.free hp)) λks vs us ws H2 M2 t2 aP r1 r2 ⟨h1,kvs,h2,h3,h4⟩=>?_;obtain⟨xs,e,rk⟩:=zQ r1 r2 h2;obtain⟨WM,hv,Mi⟩:=aP.ob _ _ h1;cases Mi;refine⟨hv,xs,e,by rw[<- rk.length];exact h3,po _ _ _ _ (t0.trans (t2.trans (d9 aP h1))) (aP.put h1 (iR (oj rk .nil) (d9 aP h1))) (RD.aw _) h4⟩
theorem Mj {H:Hp}{k:Key}{kvs:List (Key×D)}{vs:List (Key×V)}{d:D}{v:V} (r:bM H kvs vs) (h:RD H d v):RD H ((bc kvs k).getD d) ((cw vs k).getD v):=by
 rcases lI (k:=k) r with ⟨h1,h2⟩ |⟨v',d',h1,h2,h3⟩
 ·rw[h1,h2];exact h
 ·rw[h1,h2];exact h3
theorem Ml {q:Pos} (hu:X.A.units+1<cLine) (ho:PE X o (ak T ta)) (hk:PE X e (ak T tb)) (hb:fF o=false) (h1:aY e=true) (b':(q.endLine == pos.line)=true):PE X (.Call (.Attribute o "get" q) [e] [] pos) (ak T (y4 ta tb)):=aR (FT hu ho hk (Ko (gr hb) h1 b')) fun σ H Q h=>by
 obtain⟨τ,M,q,rs,rm,h,po⟩:=h;refine⟨τ,M,_,rs,rm,h,λv d H1 M1 t1 ac al h1=>?_⟩;obtain⟨a,rfl,kvs,h2,h3⟩:=fE h1 al;obtain⟨vs,hv,rk⟩:=ac.ob _ _ h2;refine⟨a,rfl,.inl ⟨vs,.inl hv⟩,τ,M1,_,rs.mono t1,ac,h3,λu d2 H2 M2 t2 aP bH h4=>?_⟩;obtain⟨kvs,k,h5,h6,ZP⟩:=h4;obtain⟨vs,hv,rk⟩:=aP.ob _ _ h5;exact⟨_,.inl ⟨vs,k,.inl hv,lH h6 bH,rfl⟩,(po.tr (t1.trans t2)).same aP (Mj rk (RD.aw _)) ZP⟩
theorem zR {H:Hp}:∀{ns:List Str}{xs:List V},az H (ns.map D.str) xs->xs=ns.map V.str
 |[],xs,h=>eJ h
 |n::ns,xs,h=>by
  rw[aaR,az]at h;obtain⟨y,ys,rfl,h1,h2⟩:=h;rw[au.mp h1,zR h2];rfl
theorem Mm {p1 p2 iS dL:Pos} (hc:X.calm=true) (iT:Gl X "sorted") (fv:X.mg "sorted"=none) (eM:Gl X "set") (eO:X.mg "set"=none) (he:PE X e (ak T ta)) (hs:aY e=true) :
  PE X (.Call (.Name "sorted" p1) [.Call (.Name "set" p2) [e] [] dL] [] iS) (ak T (y6 ta)):=aR (Lh hc iT fv eM eO he hs) fun σ H Q h=>by
 obtain⟨τ,M,q,rs,rm,h,po⟩:=h;refine⟨τ,M,_,rs,rm,h,λv d H1 M1 t1 ac al h1=>?_⟩;obtain⟨a,rfl,zs,N,h2,h0,h4,h3,h5⟩:=fE h1 al;obtain⟨us,hv,ru⟩:=ac.lst h2;cases zR ru;exact⟨a,zs,rfl,hv,h0,⟨N,h4,h3⟩,λp ys hp k1 k2 k3=>(po.tr t1).lst ac (om λy _=>RD.aw _) hp λl hl=>h5 l ys hl k1 k2 k3⟩
theorem Mn {st:Stmt}:PS X st (cj T λ_ _ _=>False):=λ_ _ _ _ _ _ ⟨_,_,_,_,_,h,_⟩=>h.elim
end
section
variable {X:Cx}{T:Tp}{o:Expr}{pos p1 p2 q:Pos}{ta:DE}
end
end PL
end
section
namespace L2
open PySem PySem.Spec PyProof.Rows
def Mo (name qual:Str) (params:Arguments) (body:List Stmt) (scope:Scope) (dJ:lC) (a3 pm:Value) (c:Addr) (ap:Value) (f:Addr):Heap->Prop:=λh=>h.get? f=some (PySem.W.fnMade name qual params body scope dJ a3 pm c ap)
section
variable {X:Cx}
end
section
variable {X:Cx}
def oL (X:Cx) (CX:cJ) (k:Nat) (f:Addr) (sp:Sp):Prop:=∃(c:Addr) (name qual:Str) (params:Arguments) (body:List Stmt) (scope:Scope) (dJ:lC) (a3 pm ap:Value) (ps:List Str),
 a5 X.prog X.w X.K X.mg X.base CX k f (PySem.W.fnX name qual params body scope dJ .none .none a3 pm none (.ref c) ap) ps sp/\b0 X.K (PySem.W.fnX name qual params body scope dJ .none .none a3 pm none (.ref c) ap) ps []/\∀vs H Q E,sp vs H Q E->H f=some (.ext (Mo name qual params body scope dJ a3 pm c ap f))
end
end L2
end
section
namespace PL
open PySem L2 PySem.Spec PyProof.Rows
structure bN where
 T:Addr
 c0:Addr
 pos:Pos
 qual:Str
 params:Arguments
 body:Expr
 scope:Scope
 pm:Value
def zU (L:bN) (f c:Addr) (ap:Value) (H:Hp):Prop:=H f=some (.ext (iO L.qual L.params L.body L.scope L.pm c ap f))/\H c=some (.ext (fA c L.qual))
theorem zW {f:Addr} {φ:Heap->Prop}:gV λH=>H f=some (.ext φ) where
 lay:=λH p u hp h=>by show ag H p u f=_;rw[aD (bB h hp)];exact h
 put:=λH p u u0 hp hd h=>by
  show ag H p u f=_;rw[aD];exact h;rintro rfl;rw[h]at hp;cases hp;cases hd
 grow:=λH H' k h=>k f _ (λ_ z=>nomatch z) h
theorem gV.and {ψ χ:Hp->Prop} (a:gV ψ) (b:gV χ):gV λH=>ψ H/\χ H:=
 ⟨λH p u hp h=>⟨a.lay H p u hp h.1,b.lay H p u hp h.2⟩,λH p u u0 hp hd h=>⟨a.put H p u u0 hp hd h.1,b.put H p u u0 hp hd h.2⟩,λH H' k h=>⟨a.grow H H' k h.1,b.grow H H' k h.2⟩⟩
theorem Mq {L:bN}{f c:Addr}{ap:Value}:gV (zU L f c ap):=zW.and zW
noncomputable def lW (L:bN) (f c:Addr) (ap:Value):MO:=.ext (zU L f c ap) Mq
def oM (L:bN) (H:Hp):Prop:=yj H L.T L.pos L.qual
theorem tO {L:bN}:r6 (oM L) where
 lay:=λH p u hp h=>by
  rcases h with h |⟨c,h,h'⟩
  ·exact .inl (by rw[aD (bB h hp)];exact h)
  ·exact .inr ⟨c,by rw[aD (bB h hp)];exact h,by rw[aD (bB h' hp)];exact h'⟩
 put:=λH p u u0 hp hd h=>by
  have ne:∀b o,H b=some o->nU o=false->b≠p:=λb o e z y=>by subst y;rw[e]at hp;cases hp;rw[z]at hd;cases hd
  rcases h with h |⟨c,h,h'⟩
  ·exact .inl (by rw[aD (ne _ _ h rfl)];exact h)
  ·exact .inr ⟨c,by rw[aD (ne _ _ h rfl)];exact h,by rw[aD (ne _ _ h' rfl)];exact h'⟩
 grow:=λH H' k h=>by
  rcases h with h |⟨c,h,h'⟩
  ·exact .inl (k _ _ h)
  ·exact .inr ⟨c,k _ _ h,k _ _ h'⟩
def oN (Ls:List bN) (H:Hp):Prop:=∀L∈Ls,oM L H
theorem Mr {Ls:List bN}:r6 (oN Ls):=
 ⟨λH p u hp h L hL=>tO.lay H p u hp (h L hL),λH p u u0 hp hd h L hL=>tO.put H p u u0 hp hd (h L hL),λH H' k h L hL=>tO.grow H H' k (h L hL)⟩
theorem Ms {Ls:List bN}{L:bN}{H H':Hp}{c:Addr} (Yt:∀ L'∈Ls,L'.T=L.T->L'.pos=L.pos/\L'.qual=L.qual) (j:oN Ls H) (k:∀ b o,b≠L.T->H b=some o->H' b=some o) (hc:H' c=some (.ext (fA c L.qual))) (hT:H' L.T=some (.bj #[rawInt L.pos.line,rawInt L.pos.col,.ref c]))
  (Mu:∃qs,H L.T=some (.bj qs)):oN Ls H':=λL' oO=>by
 by_cases e:L'.T=L.T
 ·obtain⟨e1,e2⟩:=Yt L' oO e;refine .inr ⟨c,?_,?_⟩
  ·rw[e,e1];exact hT
  ·rw[e2];exact hc
 ·rcases j L' oO with h |⟨c',h,h'⟩
  ·exact .inl (k _ _ e h)
  ·refine .inr ⟨c',k _ _ e h,k _ _ (λz=>?_) h'⟩;obtain⟨qs,hq⟩:=Mu;rw[z,hq]at h';cases h'
section
variable {X:Cx}{T:Tp}
def zX (l:Option bN):DE:=match l with
 |some L=>λ_ M q=>∀f c ap,M f=none->q (.ref f) (up M f (lW L f c ap))
 |none=>λ_ _ _=>False
theorem Mv {L:bN} (hJ:∀ H,T.J H->oM L H) (hS:∀ (H H':Hp) (c:Addr),T.J H->(∀ b o,b≠L.T->H b=some o->H' b=some o)->H' c=some (.ext (fA c L.qual))->H' L.T=some (.bj #[rawInt L.pos.line,rawInt L.pos.col,.ref c])->(∃ qs,H L.T=some (.bj qs))->T.J H')
  (K:sh X.K X.mg L.c0 L.T) (hd:defaultsOf L.params X.env=([],[])) (cb:closureFor L.scope X.env=pure []) (jH:X.env.globals=mainGlobals) (jI:X.env.code=.ref L.c0) (hq:X.env.qual++"<lambda>"=L.qual) (hp:(X.mg "__name__").getD .none=L.pm) :
  PE X (.Lambda L.params L.body L.scope L.pos) (ak T (zX (some L))):=by
 have key:=(Kx (X:=X) (params:=L.params) (body:=L.body) (scope:=L.scope) (pos:=L.pos) K hd cb jH jI).out;rw[hq,hp]at key;refine aR key fun σ H Q h=>?_;obtain⟨τ,M,q,rs,rm,h,po⟩:=h;refine⟨hJ H rm.fz,λf c ap H' hf h1 h2 h3 h4=>?_⟩;have hT:∃qs,H L.T=some (.bj qs):=by
  rcases hJ H rm.fz with z |⟨_,z,_⟩ <;> exact⟨_,z⟩
 have kk:∀b o,(∀qs,o≠HO.bj qs)->H b=some o->H' b=some o:=λb o n e=>h4 b o (λz=>by
  obtain⟨qs,hq⟩:=hT;rw[z,hq]at e;cases e;exact n _ rfl) e
 have t1:ay H H':=λb xs e=>kk b _ (λ_ z=>nomatch z) e;have r1:=rm.tab kk (hS H H' c rm.fz h4 h2 h3 hT);refine po _ (.ref f) H' _ t1 ⟨r1.aa,r1.fz,λb o e=>?_⟩ (RD.aw _) (h f c ap (rm.free hf));by_cases hb:b=f
 ·subst hb;rw[ah]at e;cases e;exact⟨⟨h1,h2⟩,_,h1⟩
 ·rw[ao hb]at e;exact r1.ob b o e
theorem Mw {k:Nat}{C:Addr->Sp->Prop}{E:XK}{fe:Expr}{te:TE}{pos:Pos}{e:Expr}{es:List Expr}{t:TA}
  (hC:∀f sp,C f sp->nQ X a7 k f sp\/nZ X a7 k f sp\/oL X a7 k f sp) (room:bf k X.A) (sB:eA a7 X E) (ZQ:PE X fe te) (pa:PA X (e::es) t) (ns:bQ (e::es)=true)
  (call:eval (.Call fe (e::es) [] pos) X.env=(do callWith pos (<- eval fe X.env) [] (backTo pos (starEach (e::es) X.env)) (backToKw pos (keywordEach [] X.env)))) :
  PE X (.Call fe (e::es) [] pos) (JN C E te t):=by
 have n2:aY e=true/\bQ es=true:=Bool.and_eq_true_iff.mp ns;rintro pins s σ H Q I h;refine Call_ (ar (ZQ pins s σ H _ I h) λv s1 ⟨y,H1,I1,r1,f,sp,e1,hc,q1⟩=>?_) call;subst e1;cases r1;have st:=cp (env:=X.env) (es:=es) n2.1;have an:=gf (env:=X.env) (pos:=pos) n2.2;rcases hC f sp hc with ⟨fd,ps,F,hk,hb⟩ |⟨c,qual,params,body,scope,pm,ap,ps,F,hb,aw⟩ |⟨c,name,qual,params,body,scope,dJ,a3,pm,ap,ps,F,hb,aw⟩
 ·refine PySem.W.callWith_K (h₀:=X.base) I1.ok.b8.h8 hk (ar (pa pos pins s1 σ H1 _ I1 q1) λus s2 ⟨vs,H2,I2,r,q⟩=>⟨I2.bt,?_⟩) st an;exact iw F room hb .nil sB I2 r (by rw[aa4];exact q)
 ·have lX:=pa pos pins s1 σ H1 _ I1 q1;rw[st]at lX ⊢;refine PySem.W.callWith_of (P:=λh=>h.get? f=some (PySem.W.kla_obj "<lambda>" qual params body scope [] pm c ap)) (by show ((false ||(backTo pos (starEach es X.env)).any (·.1)) ||false)=false;rw[an];rfl) (λh hh=>PySem.W.keeps_K (K:=[(f,PySem.W.kla_obj "<lambda>" qual params body scope [] pm c ap)]) ?kp h λa o z=>?lk) (PySem.Calls.evalArgs_plain (ar lX λus s2 ⟨vs,H2,I2,r,q⟩=>⟨(I2.ae f _ (aw _ _ _ _ q)).1,iw F room hb .nil sB I2 r (by rw[aa4];exact q)⟩))
  case kp=>simp [PySem.W.keepIn,abG]
  case lk=>
   by_cases y:a=f
   ·subst y;simp [abG]at z;rw[<- z];exact hh
   ·have:(a == f)=false:=(by simpa using y);simp [abG,this]at z
 ·have lX:=pa pos pins s1 σ H1 _ I1 q1;rw[st]at lX ⊢;refine PySem.W.callWith_of (P:=λh=>h.get? f=some (PySem.W.fnMade name qual params body scope dJ a3 pm c ap)) (by show ((false ||(backTo pos (starEach es X.env)).any (·.1)) ||false)=false;rw[an];rfl) (λh hh=>PySem.W.keeps_K (K:=[(f,PySem.W.fnMade name qual params body scope dJ a3 pm c ap)]) ?Mx h λa o z=>?Mz) (PySem.Calls.evalArgs_plain (ar lX λus s2 ⟨vs,H2,I2,r,q⟩=>⟨(I2.ae f _ (aw _ _ _ _ q)).1,iw F room hb .nil sB I2 r (by rw[aa4];exact q)⟩))
  case Mx=>simp [PySem.W.keepIn,abG]
  case Mz=>
   by_cases y:a=f
   ·subst y;simp [abG]at z;rw[<- z];exact hh
   ·have:(a == f)=false:=(by simpa using y);simp [abG,this]at z
theorem MA {k:Nat}{ca:Addr->QN->Prop}{fe e:Expr}{es:List Expr}{ta:DE}{tA:DA}{pos:Pos} (hC:∀ f sp,ca f sp->nQ X a7 k f (bR T sp)\/nZ X a7 k f (bR T sp)\/oL X a7 k f (bR T sp)) (hr:bf k X.A) (hf:PE X fe (ak T ta))
  (ha:PA X (e::es) (cS T tA)) (hs:bQ (e::es)=true) (MB:eval (.Call fe (e::es) [] pos) X.env=(do callWith pos (<- eval fe X.env) [] (backTo pos (starEach (e::es) X.env)) (backToKw pos (keywordEach [] X.env)))) :
  PE X (.Call fe (e::es) [] pos) (ak T (tw ca ta tA)):=by
 refine aR (Mw (C:=λf s=>∃sp,ca f sp/\s=bR T sp) (E:=E0) (λf s ⟨sp,h,e⟩=>by subst e;exact hC f sp h) hr iG hf ha hs MB) fun σ H Q h=>?_;obtain⟨τ,M,q,rs,rm,h,po⟩:=h;refine⟨τ,M,_,rs,rm,h,λv d H1 M1 t1 ac al h1=>?_⟩;obtain⟨f,rfl,sp,h2,h3⟩:=fE h1 al;exact⟨f,_,rfl,⟨sp,h2,rfl⟩,τ,M1,_,rs.mono t1,ac,h3,λus ds H2 M2 t2 aP bH h4=>⟨ds,M2,q,aP,bH,h4,po.tr (t1.trans t2)⟩⟩
end
end PL
end
section
namespace L2
open PySem PySem.Spec PyProof.Rows PySem.W
section
variable {prog:Program}{w:World}{A:Around}{E:Value->Shared->Prop}{s:Shared}
theorem MC {M:Model}{a:Addr}{o:Obj}{Q:Option Obj->Shared->Prop} (ho:s.heap.get? a=some o) (h:Q (some o) s):wpAny M A (Sem.loadIfAlive a Sem.pure) Q E s:=fun Γ p x=>by
 rw[Sem.wp_loadIfAlive,ho];exact h
def tQ (h:Heap) (e it a:Addr) (b:Bool) (i:Nat):Prop:=∃f5,h.get? e=some { cls:=.type "enumerate",data:=.fields #[rawInt (a:Int),.bool b,.ref it,rawInt (i:Int),.none,f5] }
theorem MD {e it l a:Addr}{b:Bool}{i:Nat}{items:Array Value}{x:Value}{oa:Obj}{Q:Option Value->Shared->Prop} (he:tQ s.heap e it a b i) (ha:s.heap.get? a=some oa)
  (hit:s.heap.IsTupleIter it l i) (hl:s.heap.IsTuple l items) (hx:items[i]?=some x) (ne:e≠it) (nl:l≠e) (hE:l≠it) (na:a≠e) (jV:a≠it)
  (q:∀h' tk,tQ h' e it a true (i+1)->h'.IsTupleIter it l (i+1)->h'.get? s.heap.objs.size=some { cls:=.type "tuple",data:=.seq #[.int i tk,x] }->h'.objs.size=s.heap.objs.size+1 ->
   (∀c o,c≠e->c≠it->s.heap.get? c=some o->h'.get? c=some o)->Q (some (.ref s.heap.objs.size)) { s with heap:=h',toks:=tk+1 }):wpAny (model prog w) A (pyNext (.ref e)) Q E s:=by
 obtain⟨f5,he⟩:=he;have hT:s.TypeIs (.ref e) "enumerate":=⟨_,he,rfl⟩;unfold pyNext;refine aaC (wpAny_attempt (aa8 (name:=abz "__next__") hT ab3
  (abg ab3 hT F.entry_enumerate_next ?_ (F.args_enumerate_next_1 _))))
 show wpAny _ _ (field (.ref e) 2 >>= _) _ _ _;refine aaC (abn he rfl (x:=.ref it) rfl ?_);refine aaC (lq hit hl hx λh1 sK oP=>?_);have lY:h1.get? e=_:=oP.extBut _ _ ne he;obtain⟨Y8,oQ,tz⟩:=id sK;obtain⟨hp,g,d,tk,os⟩:=s;have tR:h1.get? a=some oa:=oP.extBut _ _ jV ha;have z1:h1.objs.size=hp.objs.size:=oP.1
 wp_walk using AutoSeq1.wpAny_loadPart' lY
 have zz:((h1.update e (abS λx=>x.setIfInBounds 3 (rawInt ((i:Int)+1)))).update e (abS λx=>x.setIfInBounds 4 abB)).objs.size=hp.objs.size:=by rw[ab9,ab9,z1]
 have b1:∀c o,c≠e->h1.get? c=some o->((h1.update e (abS λx=>x.setIfInBounds 3 (rawInt ((i:Int)+1)))).update e (abS λx=>x.setIfInBounds 4 abB)).get? c=some o:=λc o n q=>
  (abj ..).extBut c o n ((abj ..).extBut c o n q)
 have e3:((h1.update e (abS λx=>x.setIfInBounds 3 (rawInt ((i:Int)+1)))).update e (abS λx=>x.setIfInBounds 4 abB)).get? e=some { cls:=.type "enumerate",data:=.fields #[rawInt (a:Int),.bool b,.ref it,rawInt ((i:Int)+1),.none,f5] }:=
  aa7 (abS λx=>x.setIfInBounds 4 abB) (aa7 (abS λx=>x.setIfInBounds 3 (rawInt ((i:Int)+1))) lY rfl) rfl
 generalize ((h1.update e (abS λx=>x.setIfInBounds 3 (rawInt ((i:Int)+1)))).update e (abS λx=>x.setIfInBounds 4 abB))=h2 at *;have tp:=aaG h2 (o:={ cls:=.type "tuple",data:=.seq #[.int (i:Int) tk,x] }) rfl;have kp:∀c o,h2.get? c=some o->(h2.push { cls:=.type "tuple",data:=.seq #[.int (i:Int) tk,x] }).get? c=some o:=λc o q=>aaD _ q;have sz:(h2.push { cls:=.type "tuple",data:=.seq #[.int (i:Int) tk,x] }).objs.size=hp.objs.size+1:=by rw[aba,zz]
 rw[zz]at tp;refine MC (o:=oa) (kp _ _ (b1 _ _ na tR)) ?_;have e4:=kp _ _ e3;have k2:∀c o,c≠e->c≠it->hp.get? c=some o->(h2.push { cls:=.type "tuple",data:=.seq #[.int (i:Int) tk,x] }).get? c=some o:=λc o n n' q=>kp _ _ (b1 c o n (oP.extBut c o n' q));have zY:=kp _ _ (b1 it _ ne.symm oQ);dsimp only;generalize (h2.push { cls:=.type "tuple",data:=.seq #[.int (i:Int) tk,x] })=h3 at *;rw[zz];cases b with
 |true=>
  refine aaC (abn e4 rfl (x:=.bool true) rfl (aaE (aaE ⟨_,rfl,aaE (q h3 tk ⟨f5,e4⟩ ⟨_,zY,tz⟩ tp sz k2)⟩)))
 |false=>
  refine aaC (abn e4 rfl (x:=.bool false) rfl ?_);have n:e≠hp.objs.size:=aaL (aaJ he);refine aaC (wpAny_setField e4 rfl (by show 1<6;decide) (aaE (aaE ⟨_,rfl,aaE (q _ tk ⟨f5,aa7 _ e4 rfl⟩ ⟨Y8,(abj ..).extBut _ _ ne.symm zY,tz⟩ ((abj ..).extBut _ _ n.symm tp) (by rw[ab9];exact sz) λc o n1 n2 z=>(abj ..).extBut _ _ n1 (k2 c o n1 n2 z))⟩)))
theorem ME {e it l:Addr}{i:Nat}{items:Array Value}{f0 f1 f5:Value}{Q:Option Value->Shared->Prop} (hh:A.handled=none)
  (he:s.heap.get? e=some { cls:=.type "enumerate",data:=.fields #[f0,f1,.ref it,rawInt (i:Int),.none,f5] }) (hit:s.heap.IsTupleIter it l i) (hl:s.heap.IsTuple l items) (hx:items[i]?=none)
  (hQ:∀h',Heap.ExtBut it s.heap h'->Q none { s with heap:=h' }):wpAny (model prog w) A (pyNext (.ref e)) Q E s:=by
 have hT:s.TypeIs (.ref e) "enumerate":=⟨_,he,rfl⟩;unfold pyNext;refine aaC (wpAny_attempt (aa8 (name:=abz "__next__") hT ab3
  (abg ab3 hT F.entry_enumerate_next ?_ (F.args_enumerate_next_1 _))))
 show wpAny _ _ (field (.ref e) 2 >>= _) _ _ _;refine aaC (abn he rfl (x:=.ref it) rfl ?_);refine aaC (lr hh hit hl hx λh' x iI cr=>?_);obtain⟨o,ho,hc⟩:=cr;refine aaC (acd (T:="StopIteration") (b:=true) ⟨o,ho,hc⟩ isSubtype_stop ?_);exact aaE (hQ _ iI)
def tS (h:Heap) (e it:Addr) (i:Nat) (as:List Addr):Prop:=(as=[]/\∃bv,IsEnum h e it (i:Int) bv)\/∃a r b,as=a::r/\tQ h e it a b i
def oR (h:Heap) (items:Array Value) (as:List Addr):Prop:=∀(j:Nat) (b:Addr),as[j]?=some b->∃tk x,items[j]?=some x/\h.get? b=some { cls:=.type "tuple",data:=.seq #[.int (j:Int) tk,x] }
theorem MF {e it l:Addr}{i:Nat}{items:Array Value}{x:Value}{as:List Addr}{Q:Option Value->Shared->Prop} (hh:A.handled=none) (he:tS s.heap e it i as) (hA:oR s.heap items as)
  (hit:s.heap.IsTupleIter it l i) (hl:s.heap.IsTuple l items) (hx:items[i]?=some x) (ne:e≠it) (nl:l≠e) (hE:l≠it) (na:∀a∈as,a≠e/\a≠it)
  (q:∀h' tk,tS h' e it (i+1) (as++[s.heap.objs.size])->h'.IsTupleIter it l (i+1)->h'.get? s.heap.objs.size=some { cls:=.type "tuple",data:=.seq #[.int i tk,x] }->h'.objs.size=s.heap.objs.size+1 ->
   (∀c o,c≠e->c≠it->s.heap.get? c=some o->h'.get? c=some o)->Q (some (.ref s.heap.objs.size)) { s with heap:=h',toks:=tk+1 }):wpAny (model prog w) A (pyNext (.ref e)) Q E s:=by
 rcases he with ⟨rfl,bv,he⟩ |⟨a,r,b,rfl,he⟩
 ·refine wpAny_pyNext_enum_itemD (Draws.tuple (A:=A.in1) hh it l hE items) he ⟨hit,hl⟩ (Array.getElem?_eq_some_iff.mp hx).1 ne (by simp only[aa0,aa2,or_false,not_or];exact⟨ne,nl.symm⟩) λu h' tk hP Z' J T n k=>?_;have hP:items[i]?=some u:=hP;rw[hx]at hP;cases hP;exact q h' tk (.inr ⟨_,[],false,rfl,x,by have Z2:=Z';unfold IsEnumOut at Z2;rw[Int.natCast_add];exact Z2⟩) J.1 T n k
 ·obtain⟨tk,y,_,ha⟩:=hA 0 a rfl;obtain⟨n1,n2⟩:=na a (by simp);exact MD he ha hit hl hx ne nl hE n1 n2 λh' tk z1 z2 z3 z4 z5=>q h' tk (.inr ⟨a,r++[_],true,rfl,z1⟩) z2 z3 z4 z5
theorem MG {R:Result->Shared->Prop} (hh:A.handled=none) {e it l S:Addr}{items:Array Value} (hz:items.size<sizeLine) (ne:e≠it) (nl:l≠e) (hE:l≠it) (ns:S≠e) (tT:S≠it) (MH:l≠S) (res:Value) (n0:Nat) (le:e<n0) (li:it<n0) (X8:S<n0) :
  ∀(k i:Nat) (s:Shared) (as:List Addr) (c:Nat),items.size-i=k->i<=items.size->tS s.heap e it i as->s.heap.IsTupleIter it l i->s.heap.IsTuple l items->s.heap.get? S=some { cls:=.type "list",data:=.seq (as.map aaX).toArray c }->oR s.heap items as->as.length=i ->
   n0<=s.heap.objs.size->(∀a∈as,n0<=a)->as.Pairwise (· < ·) ->
   (∀h' tk i4 c',(∀b o,b≠e->b≠it->b≠S->s.heap.get? b=some o->h'.get? b=some o)->h'.get? S=some { cls:=.type "list",data:=.seq (i4.map aaX).toArray c' }->oR h' items i4->i4.length=items.size->(∀a∈i4,n0<=a)->i4.Pairwise (· < ·) ->
    R (.ok (.ret res)) { s with heap:=h',toks:=tk })->codeAny (model prog w) A (.builtin "list.extend.loop" ⟨[.ref S,.ref e,res],[]⟩) R s:=by
 intro k
 induction k with
 |zero=>
  intro i s as c hk hi he hit hl hS hA la hn h0 YA q;have em:i=items.size:=by lia
  subst em;refine abH F.entry_extend_loop ?_;rw[abm F.plain_extend_loop];unfold Builtin.«list.extend.loop»;have fin:∀h',Heap.ExtBut it s.heap h'->R (.ok (.ret res)) { s with heap:=h' }:=λh' eb=>q h' s.toks as c (λb o _ n2 _ z=>eb b o n2 z) (eb _ _ tT hS) (λj b z=>by
   obtain⟨tk,x,z1,z2⟩:=hA j b z;exact⟨tk,x,z1,eb _ _ (abh (aaM li (h0 b (abE z)))) z2⟩) la h0 YA
  have nx:items[items.size]?=none:=by simp
  rcases he with ⟨_,bv,he⟩ |⟨a,r,b,_,f5,he⟩
  ·exact aaC (Ki hh he hit hl nx λh' eb=>aaE (fin h' eb))
  ·exact aaC (ME hh he hit hl nx λh' eb=>aaE (fin h' eb))
 |succ k ih=>
  intro i s as c hk hi he hit hl hS hA la hn h0 YA q;have bV:i<items.size:=by lia
  obtain⟨x,hx⟩:∃x,items[i]?=some x:=⟨items[i],by simp [bV]⟩;refine abH F.entry_extend_loop ?_;rw[abm F.plain_extend_loop];unfold Builtin.«list.extend.loop»;refine aaC (MF hh he hA hit hl hx ne nl hE (λa ha=>⟨abh (aaM le (h0 a ha)),abh (aaM li (h0 a ha))⟩) λh' tk iI rV T' n' kp=>?_);have hS':=kp S _ ns tT hS;refine (show wpAny _ _ (updateSeq S (λy=>y.push (.ref s.heap.objs.size)) >>= _) _ _ _ from aaC (wpAny_updateSeq hS' rfl ?_ (by rw[aaF,aaN,la];lia) (by rw[Array.size_push,aaF,aaN,la];lia)));have MI:S<s.heap.objs.size:=aaJ hS;have sb:=abj h' S (abl λy=>y.push (.ref s.heap.objs.size));have MJ:=aa7 (abl λy=>y.push (.ref s.heap.objs.size)) hS' rfl;obtain⟨c',MK⟩:∃c',(h'.update S (abl λy=>y.push (.ref s.heap.objs.size))).get? S=some { cls:=.type "list",data:=.seq ((as++[s.heap.objs.size]).map aaX).toArray c' }:=by
   have ZR:((as++[s.heap.objs.size]).map aaX).toArray=((as.map aaX).toArray).push (.ref s.heap.objs.size):=(by simp);rw[ZR];exact⟨_,MJ⟩
  have ML:∀a∈as,a<s.heap.objs.size:=λa ha=>by
   obtain⟨j,hj⟩:=List.getElem?_of_mem ha;obtain⟨_,_,_,z⟩:=hA j a hj;exact aaJ z
  refine aaE ⟨abK F.plain_extend_loop _,ih (i+1) _ (as++[s.heap.objs.size]) c' (by lia) bV ?_ ?_ ?_ MK ?_ (by simp [la]) ?_ ?_ ?_ ?_⟩
  ·rcases iI with ⟨z,_⟩ |⟨a,r,b,z,f5,z'⟩
   ·simp at z
   ·exact .inr ⟨a,r,b,z,f5,sb.extBut _ _ ns.symm z'⟩
  ·exact rV.at λo z=>sb.extBut _ _ tT.symm z
  ·exact hl.at λo z=>sb.extBut _ _ MH (kp _ _ nl hE z)
  ·intro j b hj;by_cases hb:j<as.length
   ·rw[abt hb]at hj;obtain⟨tk,y,z1,z2⟩:=hA j b hj;have:=h0 b (abE hj);exact⟨tk,y,z1,sb.extBut _ _ (abh (aaM X8 this)) (kp _ _ (abh (aaM le this)) (abh (aaM li this)) z2)⟩
   ·rw[abc (by lia)]at hj;have MM:j-as.length=0:=by
     rcases Nat.eq_zero_or_pos (j-as.length) with z |z
     ·exact z
     ·rw[abp (by simp;lia)]at hj;cases hj
    rw[MM]at hj;cases hj;have:j=i:=(by lia);subst this;exact⟨tk,x,hx,sb.extBut _ _ (abh MI) T'⟩
  ·show n0<=(h'.update S _).objs.size;rw[ab9,n'];lia
  ·intro a ha;rcases List.mem_append.mp ha with z |z
   ·exact h0 a z
   ·rw[List.mem_singleton.mp z];exact hn
  ·rw[List.pairwise_append];exact⟨YA,List.pairwise_singleton _ _,λa ha b hb=>by rw[List.mem_singleton.mp hb];exact ML a ha⟩
  ·intro h'' MN MP MQ kk z2 z3 z4 z5 z6;exact q h'' MN MP MQ (λb o n1 n2 n3 z=>kk b o n1 n2 n3 (sb.extBut _ _ n3 (kp b o n1 n2 z))) z2 z3 z4 z5 z6
theorem MR:typeLookup (.type "enumerate") "__len__"=pure none:=by rw[typeLookup_type,ab4];kernel_rfl
theorem MS:typeLookup (.type "enumerate") "__length_hint__"=pure none:=by rw[typeLookup_type,ab4];kernel_rfl
theorem MT {Q:Value->Shared->Prop} (hh:A.handled=none) {e it l:Addr}{items:Array Value}{bv:Value} (hz:items.size<sizeLine) (he:IsEnum s.heap e it 0 bv) (hit:s.heap.IsTupleIter it l 0) (hl:s.heap.IsTuple l items) (ne:e≠it) (nl:l≠e) (hE:l≠it)
  (q:∀h' tk as c,(∀b o,b≠e->b≠it->s.heap.get? b=some o->h'.get? b=some o)->h'.get? s.heap.objs.size=some { cls:=.type "list",data:=.seq (as.map aaX).toArray c }->oR h' items as->as.length=items.size->(∀a∈as,s.heap.objs.size<a)->as.Pairwise (· < ·) ->
   Q (.ref s.heap.objs.size) { s with heap:=h',toks:=tk }):wpAny (model prog w) A (call (.type "list") [.ref e]) Q E s:=by
 have le:=aaJ he;obtain⟨Y8,oQ,tz⟩:=id hit;obtain⟨ol,hl1,hl2⟩:=id hl;have li:=aaJ oQ;have ll:=aaJ hl1;refine callType_codes F.called_list (F.typeCall_list_1 _) F.entry_list_init (code_list_new (Q₁:=λv s1=>v=.ref s.heap.objs.size/\s1={ s with heap:=s.heap.push { cls:=.type "list",data:=.seq #[] } }) _ ⟨rfl,rfl⟩) ?_;rintro obj s1 ⟨rfl,rfl⟩;have h0:=aaG s.heap (o:={ cls:=.type "list",data:=.seq #[] }) rfl;refine⟨⟨_,h0,rfl⟩,F.args_list_init_2 _ _,?_⟩;have kp:∀c o,s.heap.get? c=some o->(s.heap.push { cls:=.type "list",data:=.seq #[] }).get? c=some o:=λc o z=>aaD _ z;have lY:=kp _ _ he;have WN:=kp _ _ oQ;have WO:=kp _ _ hl1;have f1:=MR;have f2:=MS;have sz:(s.heap.push { cls:=.type "list",data:=.seq #[] }).objs.size=s.heap.objs.size+1:=aba ..;obtain⟨hp,g,d,tk,os⟩:=s;dsimp only at *
 wp_walk using AutoSeq1.wpAny_loadPart' h0
 obtain⟨c1,zn⟩:∃c,((hp.push { cls:=.type "list",data:=.seq #[] }).update hp.objs.size (abl λx=>#[])).get? hp.objs.size=some { cls:=.type "list",data:=.seq #[] c }:=⟨_,aa7 _ h0 rfl⟩;have k1:∀c o,hp.get? c=some o->((hp.push { cls:=.type "list",data:=.seq #[] }).update hp.objs.size (abl λx=>#[])).get? c=some o:=λc o z=>(abj ..).extBut _ _ (aaL (aaJ z)) (kp _ _ z);have ev:((hp.push { cls:=.type "list",data:=.seq #[] }).update hp.objs.size (abl λx=>#[])).objs.size=hp.objs.size+1:=by rw[ab9,sz]
 generalize ((hp.push { cls:=.type "list",data:=.seq #[] }).update hp.objs.size (abl λx=>#[]))=h1 at *;have tU:=k1 _ _ he;have hT:Shared.TypeIs (⟨h1,g,d,tk,os⟩:Shared) (.ref e) "enumerate":=⟨_,tU,rfl⟩;have ns:(Builtin.List.listSameRef (aaX hp.objs.size) (aaX e))=false:=by
  show (hp.objs.size == e)=false;simpa using abh le
 refine AutoSeq1.wpAny_loadPart' tU (aaE ?_);rw[ns];refine aaC (wpAny_pyIter_enum tU (aaC (abr ?_)));unfold Builtin.List.listLengthHint;refine aaC (wpAny_specialOf hT f1 ?_);refine (show wpAny _ _ (specialOf (.ref e) "__length_hint__" >>= _) _ _ _ from aaC (wpAny_specialOf hT f2 (aaE ?_)));refine (show wpAny _ _ (rule "list.extend.makes-room" >>= _) _ _ _ from aaC (wpAny_rule ?_));refine (show wpAny _ _ (Builtin.List.listTouch (.ref hp.objs.size) >>= _) _ _ _ from ?_);unfold Builtin.List.listTouch;obtain⟨c2,zZ⟩:∃c,(h1.update hp.objs.size (abl λx=>x.push .none)).get? hp.objs.size=some { cls:=.type "list",data:=.seq #[.none] c }:=⟨_,aa7 _ zn rfl⟩;obtain⟨c3,MU⟩:∃c,((h1.update hp.objs.size (abl λx=>x.push .none)).update hp.objs.size (abl λx=>x.pop)).get? hp.objs.size=some { cls:=.type "list",data:=.seq #[] c }:=⟨_,aa7 _ zZ rfl⟩;have k3:∀c o,hp.get? c=some o->((h1.update hp.objs.size (abl λx=>x.push .none)).update hp.objs.size (abl λx=>x.pop)).get? c=some o:=λc o z=>(abj ..).extBut _ _ (aaL (aaJ z)) ((abj ..).extBut _ _ (aaL (aaJ z)) (k1 _ _ z));have MV:((h1.update hp.objs.size (abl λx=>x.push .none)).update hp.objs.size (abl λx=>x.pop)).objs.size=hp.objs.size+1:=by rw[ab9,ab9,ev]
 refine aaC (aaC (show wpAny _ _ (updateSeq hp.objs.size λx=>x.push .none) _ _ _ from wpAny_updateSeq zn rfl ?_ (abA _) (by show 1<=sizeLine+1;lia)));refine (show wpAny _ _ (updateSeq hp.objs.size λx=>x.pop) _ _ _ from wpAny_updateSeq zZ rfl ?_ (by show 1<=sizeLine;decide) (abA _));dsimp only;generalize ((h1.update hp.objs.size (abl λx=>x.push .none)).update hp.objs.size (abl λx=>x.pop))=h3 at *;refine aaE ⟨abK F.plain_extend_loop _,MG (A:=A.in1) hh hz ne nl hE (abh le) (abh li) (aaL ll) _ (hp.objs.size+1) (aa' le) (aa' li) (ab0 _) _ 0 _ [] c3 rfl (abA _) (.inl ⟨rfl,bv,k3 _ _ he⟩) (hit.at λo z=>k3 _ _ z) (hl.at λo z=>k3 _ _ z) MU (λj b z=>by cases z) rfl (Nat.le_of_eq MV.symm) (λ_ z=>nomatch z) .nil
  λh' db i4 c' kk z2 z3 z4 z5 z6=>⟨rfl,q h' db i4 c' (λb o n1 n2 z=>kk b o n1 n2 (aaL (aaJ z)) (k3 _ _ z)) z2 z3 z4 z5 z6⟩⟩
end
theorem z9:∀{as:List Addr}{j:Nat}{b:Addr},as.Nodup->as[j]?=some b->as.idxOf b=j
 |[],_,_,_,h=>by simp at h
 |a::as,0,b,_,h=>by simp at h;subst h;simp
 |a::as,j+1,b,nd,h=>by
  rw[List.nodup_cons]at nd;have h':as[j]?=some b:=by simpa using h
  have ne:a≠b:=λz=>nd.1 (z ▸ abE h');rw[List.idxOf_cons,z9 nd.2 h'];have:(a == b)=false:=by simpa using ne
  rw[this];rfl
theorem Aa:∀as:List Addr,aq (as.map V.ref) (as.map aaX)
 |[]=>.nil
 |_::as=>.cons rfl (Aa as)
noncomputable def eQ (H:Hp) (as:List Addr) (xs:List V) (p:Addr):Hp:=λb=>if b=p then some (.lst (as.map V.ref)) else if b∈as then some (.tup [.int (as.idxOf b:Nat),xs.getD (as.idxOf b) .af]) else H b
section
variable {X:Cx}
def MW (K:PySem.W.Frag) (te:TE):TE:=fun σ H Q=>qt te kJ σ H λvs H1=>∃a xs,vs=[.ref a]/\aI K H1 a xs/\xs.length<sizeLine /\
 ∀(p:Addr) (H':Hp) (bs:List V),H1 p=none->(∀b u,H1 b=some u->H' b=some u)->H' p=some (.lst bs)->bs.length=xs.length->(∀(j:Nat) x,xs[j]?=some x->∃b,bs[j]?=some (.ref b)/\H' b=some (.tup [.int j,x]))->Q (.ref p) H'
theorem MX {e:Expr}{te:TE}{p1 p2 iS dL:Pos} (hc:X.calm=true) (iT:Gl X "list") (fv:X.mg "list"=none) (eM:Gl X "enumerate") (eO:X.mg "enumerate"=none) (he:PE X e te) (hs:aY e=true) :
  PE X (.Call (.Name "list" p1) [.Call (.Name "enumerate" p2) [e] [] dL] [] iS) (MW X.K te):=by
 intro pins s σ H Q I h;refine abF (fb I iT fv xB ?_ (by decide) (by decide));refine abu ?_ (cp rfl) rfl;rw[cp (e:=.Call (.Name "enumerate" p2) [e] [] dL) rfl];show wpAny _ _ (spliced ((false,eval (.Call (.Name "enumerate" p2) [e] [] dL) X.env)::backTo iS (starEach [] X.env))) _ _ s;refine Calls.spliced_cons ?_;refine abF (fb I eM eO boot_enumerate ?_ (by decide) (by decide));refine abu ?_ (cp hs) rfl;refine ar (fu he iq hs dL pins s σ H (λvs H1=>∃a xs,vs=[.ref a]/\aI X.K H1 a xs/\xs.length<sizeLine /\
  ∀(p:Addr) (H':Hp) (bs:List V),H1 p=none->(∀b u,H1 b=some u->H' b=some u)->H' p=some (.lst bs)->bs.length=xs.length->(∀(j:Nat) x,xs[j]?=some x->∃b,bs[j]?=some (.ref b)/\H' b=some (.tup [.int j,x]))->Q (.ref p) H') I ?_) λus s1 ⟨vs,H1,I1,r1,a,xs,ea,hq,hl,q⟩=>?_
 ·exact h
 subst ea;obtain⟨u,rfl,ru⟩:=r1.one;cases ru;obtain⟨its,rv,hp,hz⟩:=I1.tuple hq;have hlen:=rv.length;refine Kh hp λh1 lY sK n1 Ab=>Calls.spliced_nil ?_;have ha:a<s1.heap.objs.size:=by obtain⟨o,z,_⟩:=hp;exact aaJ z
 refine MT (s:={ s1 with heap:=h1 }) (I1.ok.hd hc) (by rw[aaF,<- hlen];exact hl) lY sK ((show s1.heap.IsTuple a its.toArray from hp).at λo z=>Ab _ _ z) (by show (_:Nat)≠_;lia) (aaL (aa' ha)) (aaL ha) λh2 tk as c Ac hL hA la gN MY=>?_;dsimp only at hL gN Ac ⊢;rw[n1]at hL gN ⊢;have keep:∀b o,s1.heap.get? b=some o->h2.get? b=some o:=λb o z=>Ac b o (aaL (aa' (aaJ z))) (aaL (aaJ z)) (Ab b o z);have fr:∀b,s1.heap.objs.size<=b->H1 b=none:=λb z=>I1.ae.fresh z;have nd:as.Nodup:=MY.imp λh=>aaL h;have bv:∀b u,H1 b=some u->eQ H1 as xs (s1.heap.objs.size+2) b=some u:=λb u e=>by
  have lb:@LT.lt Nat _ b s1.heap.objs.size:=by
   rcases Nat.lt_or_ge b s1.heap.objs.size with z |z
   ·exact z
   ·rw[fr b z]at e;cases e
  unfold eQ;rw[if_neg (aaL (aa' (aa' lb))),if_neg λz=>abT _ (abi (abi (aa' (ab0 _)) (gN b z)) lb)];exact e
 have Ad:∀(j:Nat) b x,as[j]?=some b->xs[j]?=some x->eQ H1 as xs (s1.heap.objs.size+2) b=some (.tup [.int j,x]):=λj b x h1 h2=>by
  have hb:=abE h1;unfold eQ;rw[if_neg (abh (gN b hb)),if_pos hb,z9 nd h1,abM,h2];rfl
 have Ae:eQ H1 as xs (s1.heap.objs.size+2) (s1.heap.objs.size+2)=some (.lst (as.map V.ref)):=by unfold eQ;rw[if_pos rfl]
 have Yb:its.toArray.size=xs.length:=by rw[aaF,hlen]
 have ok:aQ X.prog X.w (eQ H1 as xs (s1.heap.objs.size+2)) h2:=λb u e=>by
  by_cases e1:b=s1.heap.objs.size+2
  ·subst e1;rw[Ae]at e;cases e;refine⟨by rw[aaN,la,Yb];lia,as.map aaX,c,?_,hL⟩;exact Aa as
  ·by_cases e2:b∈as
   ·obtain⟨j,hj⟩:=List.getElem?_of_mem e2;obtain⟨db,x,z1,z2⟩:=hA j b hj;have oS:j<xs.length:=by have:=(List.getElem?_eq_some_iff.mp hj).1;lia
    have hx:xs[j]?=some xs[j]:=aaI oS;obtain⟨y,hy,ry⟩:=rv.get hx;rw[Ad j b _ hj hx]at e;cases e;have:its.toArray[j]?=some y:=(by simpa using hy);rw[this]at z1;cases z1;exact⟨mL (by show 2<=sizeLine;decide) z2 rfl,[.int j db,_],.cons ⟨_,rfl⟩ (.cons ry .nil),⟨_,z2,rfl,0,rfl⟩⟩
   ·unfold eQ at e;rw[if_neg e1,if_neg e2]at e;exact (I1.ae b u e).el (λc v _ q=>keep c v q) (λc q=>bv c _ q) λc xs q=>bv c _ q
 have un:Un X.fs [] H1 (eQ H1 as xs (s1.heap.objs.size+2)) s1.heap h2:={
  keep:=λb o' q n _ _=>keep b o' q
  slot:=λb o' q n _ _=>⟨o'.slots,keep b o' q⟩
  free:=λb o' q n _=>by
   have lb:=aaJ q;unfold eQ;rw[if_neg (aaL (aa' (aa' lb))),if_neg λz=>abT _ (abi (abi (aa' (ab0 _)) (gN b z)) lb)];exact n
  there:=λb o' q _=>⟨o',keep b o' q⟩
  tups:=λb xs e=>bv b _ e
  eo:=λb o' u e=>bv b _ e
  er:=λb ps e=>⟨#[],by simpa using bv b _ e⟩
  et:=λb xs o' _ e=>keep b o' e }
 have I2:ab X pins σ (eQ H1 as xs (s1.heap.objs.size+2)) { s1 with heap:=h2,toks:=tk }:=I1.un un ok;refine⟨.ref (s1.heap.objs.size+2),_,I2,rfl,q _ _ (as.map V.ref) (fr _ (acw _ _)) bv Ae (by rw[aaN,la,Yb]) λj x hx=>?_⟩;have hj:j<as.length:=by have:=(List.getElem?_eq_some_iff.mp hx).1;lia
 have hb:as[j]?=some as[j]:=aaI hj;exact⟨as[j],by rw[aaU,hb];rfl,Ad j _ x hb hx⟩
noncomputable def tV (K:PySem.W.Frag) (a:Addr) (n:Nat):It:=
 ⟨λi H=>i<n/\∃xs,aT K H a xs/\xs.length=n,λi H x H'=>H'=H/\∀xs,aT K H a xs->xs[n-1-i]?=some x,λi H=>n<=i⟩
theorem MZ {P:Program}{w:World}{K:PySem.W.Frag}{tg:Expr} (a it:Addr) (n:Nat):gD P w K tg (tV K a n) [it] it (λi h=>i<=n/\h.IsRevIter it a ((n:Int)-1-(i:Int))) where
 mem:=by simp
 obj:=λi h st b hb=>by
  have e:b=it:=by simpa using hb
  subst e;obtain⟨_,o,e,c,d⟩:=st;exact⟨o,e,λv z=>by rw[d]at z;cases z⟩
 keep:=λi h h' st k=>⟨st.1,st.2.at λo e=>k it (by simp) o e⟩
 item:=by
  intro X hP hw hK hc i pins s σ H E I hf st hg;subst hP hw hK;obtain⟨hi,xs,hq,hn⟩:=hg;obtain⟨its,rv,p,hz⟩:=I.list hq;have hx:xs[n-1-i]?=some (xs[n-1-i]'(by lia)):=aaI (by lia);obtain⟨u,hu,ru⟩:=rv.get hx;obtain⟨f0,f1,f2,f3,f4,f5⟩:=hf it (by simp);have st2:=st.2;rw[show (n:Int)-1-(i:Int)=((n-1-i:Nat):Int) by lia]at st2;refine wpAny_pyNext_rev_item st2 p.isList (x:=u) (by simpa using hu) λh' ce sb=>?_;have I1:ab X pins σ H { s with heap:=h',toks:=s.toks }:=I.dW (t':=s.toks) (λb o hb e=>(sb.2 b hb).trans e) f0 f1 f3 f4 f5;have M7:h'.IsRevIter it a ((n:Int)-1-((i+1:Nat):Int)):=by rw[show (n:Int)-1-((i+1:Nat):Int)=((n-1-i:Nat):Int)-1 by lia];exact ce
  obtain⟨o,e,c,d⟩:=id ce;exact⟨u,rfl,kE (s:={ s with heap:=h' }) e c d (by decide) ⟨_,H,I1,ru,⟨rfl,λys hy=>by rw[I.p8 hy hq];exact hx⟩,⟨hi,M7⟩,λb hb=>(hf b hb).1⟩⟩
 done:=by
  intro X hP hw hK hc i pins s σ H E I hf st hg;subst hP hw hK;have hi:i=n:=Nat.le_antisymm st.1 hg;obtain⟨f0,f1,f2,f3,f4,f5⟩:=hf it (by simp);have st2:=st.2;rw[show (n:Int)-1-(i:Int)=-1 by lia]at st2;exact wpAny_pyNext_rev_end (I.ok.hd hc) st2 λh' eb=>⟨rfl,I.dW (t':=s.toks) (λb o hb e=>eb b o hb e) f0 f1 f3 f4 f5⟩
 self:=λ_ _ _ _ _ st h=>wpAny_pyIter_revIter st.2 h
def M8 (K:PySem.W.Frag) (ta:TA):TI:=fun σ H R=>ta σ H λvs H1=>∃a xs,vs=[.ref a]/\aT K H1 a xs/\R (tV K a xs.length) H1
theorem M9 {a tg:Expr}{ta:TA}{p pos:Pos} (hg:Gl X "reversed") (hm:X.mg "reversed"=none) (ha:PA X [a] ta) (hs:starEach [a] X.env=[(false,eval a X.env)]:=by rfl) :
  PI X tg (.Call (.Name "reversed" p) [a] [] pos) (M8 X.K ta):=by
 intro pins s σ H R I h;refine Call_ (fb I hg hm JK (abu (ar (ha pos pins s σ H _ I h) λus s1 ⟨vs,H1,I1,r1,q1⟩=>?_) (by rw[hs];rfl) (by rfl)));obtain⟨x,xs,e,hx,q⟩:=q1;subst e;cases r1 with
 |cons r rr=>
  cases rr;cases r;obtain⟨its,v1,p1,WP⟩:=I1.list hx;have hl1:=v1.length;refine call_reversed_list p1.isList (wpAny_pyIter_revIter (l:=x) (i:=(its.toArray.size:Int)-1) ⟨_,aaG _ rfl,rfl,rfl⟩ ?_);have I2:ab X pins σ H1 { s1 with heap:=s1.heap.push (revObj x ((its.toArray.size:Int)-1)),toks:=s1.toks }:=I1.bD (t':=s1.toks) λb o z=>aaD _ z;refine⟨_,[s1.heap.objs.size],_,_,H1,rfl,I2,MZ x s1.heap.objs.size xs.length,⟨abA _,?_⟩,λc hc=>?_,q⟩
  ·have e0:((its.toArray.size:Nat):Int)-1=(xs.length:Int)-1-((0:Nat):Int):=(by rw[aaF,<- hl1];simp);rw[<- e0];exact⟨_,aaG _ rfl,rfl,rfl⟩
  ·have cN:s1.heap.objs.size<=c:=(by rw[List.mem_singleton.mp hc];exact aaH _);exact I1.kC cN (I1.ae.fresh cN)
end
end L2
end
section
namespace L2
open PySem PySem.Spec PyProof.Rows PySem.W Kn
section
variable {X:Cx}
def Na:R2:=λx y H Q=>∃a b ka,x=.ref a/\y=.ref b/\H a=some (.dK ka)/\H b=some (.dK [])/\Q (.bl (!ka.isEmpty)) H
theorem Nb (hu:X.A.units+110<cLine):aA X (compareOp .NotEq) Na:=by
 intro pins s σ H x y v u Q I rx ry h;obtain⟨a,b,ka,rfl,rfl,ha,hb,q⟩:=h;cases rx;cases ry;obtain⟨z1,lz,va,ra,Xl⟩:=dw I.ae (.inl ha);obtain⟨z2,lA,vb,rb,Xm⟩:=dw I.ae (.inl hb);cases rb;refine keq_ne (knd:=b6 X.prog X.w) lz lA Xl Xm (by lia) (r:=true) (λe=>?_) ⟨.bl (!ka.isEmpty),H,I,?_,q⟩
 ·cases va with
  |nil=>exact .nil
  |cons _ _=>cases e
 ·cases ra <;> rfl
def Nc:R2:=λx y H Q=>∃a t b c xs ys zs ds es fs,x=.ref a/\y=.ref t/\H t=some (.tup [.ref b,.ref c])/\H a=some (.lst xs)/\H b=some (.lst ys)/\H c=some (.lst zs)/\aX H ds xs/\aX H es ys/\aX H fs zs /\
 aV es<=60/\aV fs<=60/\(b=a->es=ds)/\(c=a->fs=ds)/\(b=c->es=fs)/\Q (.bl (decide (es=ds) ||decide (fs=ds))) H
theorem Af {A:Around}{pins:List (Addr×Obj)}{s:Shared} {σ:St} {H:Hp}{a b:Addr}{xs ys:List V}{ds es:List Dt} (I:ab X pins σ H s) (hu:A.units+70<cLine) (ha:H a=some (.lst xs)) (hb:H b=some (.lst ys)) (h2:aX H ds xs) (g2:aX H es ys) (hd:aV ds<=60) (hs:a=b->ds=es) :
  SeqAt.EqAt A s (.ref a) (.ref b) (decide (ds=es)):=by
 obtain⟨its,r,p,_⟩:=I.list (aT.of ha);obtain⟨aU,r2,p2,_⟩:=I.list (aT.of hb);have l1:its.toArray.size=ds.length:=by rw[aaF,<- r.length,h2.length]
 have l2:aU.toArray.size=es.length:=by rw[aaF,<- r2.length,g2.length]
 by_cases e:a=b
 ·rw[decide_eq_true (hs e),e];exact .same _
 refine .of_refs e ?_;by_cases hl:ds.length=es.length
 ·have key:=SeqAt.RcAt.lists (s:=s) (A:=A) (e:=λj=>decide (ds[j]?=es[j]?)) p.isList p2.isList (by rw[l1,l2,hl]) (by lia) (k8 (n:=60) (A:=A.in1) I.ae hd (by show A.units+1+60<cLine;lia) h2 g2 r r2);have:=k7 ds es;rw[<- hl,Nat.min_self]at this;simp only[beq_self_eq_true,Bool.and_true]at this;rw[<- this,<- l1];exact key
 ·rw[decide_eq_false (λz=>hl (by rw[z]))];exact acj (A:=A) p.isList p2.isList (by rw[l1,l2];simpa using hl) (by lia)
theorem Nd (hu:X.A.units+110<cLine):aA X (compareOp .In) Nc:=by
 intro pins s σ H x y v u Q I rx ry h;obtain⟨a,t,b,c,xs,ys,zs,ds,es,fs,rfl,rfl,ht,ha,hb,hc,h1,h2,h3,d1,d2,i1,i2,XM,q⟩:=h;cases rx;cases ry;obtain⟨its,r,p,_⟩:=I.tuple (aI.of ht);obtain⟨u1,u2,e0,q1,q2⟩:=r.gK;subst e0;cases q1;cases q2;have k1:=Af (A:=X.A.in1) I (by show X.A.units+1+70<cLine;lia) hb ha h2 h1 d1 i1;have k2:=Af (A:=X.A.in1) I (by show X.A.units+1+70<cLine;lia) hc ha h3 h1 d2 i2;refine SeqAt.in_tupleAt (λw=>if w=.ref b then decide (es=ds) else decide (fs=ds)) (show s.heap.IsTuple t _ from p) (λw hw=>?_) ⟨.bl (decide (es=ds) ||decide (fs=ds)),H,I,?_,q⟩
 ·have tW:w=.ref b\/w=.ref c:=by simpa using hw
  rcases tW with rfl |rfl
  ·rw[if_pos rfl];exact k1
  ·by_cases e:c=b
   ·subst e;rw[if_pos rfl];exact k1
   ·rw[if_neg (λz=>e (by cases z;rfl))];exact k2
 ·show Value.bool _=Value.bool _;by_cases e:c=b
  ·subst e;have:=XM rfl;subst this;simp
  ·have ne:¬(aaX c=aaX b):=λz=>e (by cases z;rfl);simp [ne]
end
end L2
end
section
namespace PL
open PySem L2
section
variable {X:Cx}{T:Tp}{a b e o:Expr}{ta tb:DE}{pos p:Pos}{tg:Expr}
theorem Nf {p2 dL:Pos} (hc:X.calm=true) (iT:Gl X "list") (fv:X.mg "list"=none) (eM:Gl X "enumerate") (eO:X.mg "enumerate"=none) (he:PE X e (ak T ta)) (hs:aY e=true) :
  PE X (.Call (.Name "list" p) [.Call (.Name "enumerate" p2) [e] [] dL] [] pos) (ak T (y7 ta)):=aR (MX hc iT fv eM eO he hs) fun σ H Q h=>by
 obtain⟨τ,M,q,rs,rm,h,po⟩:=h;refine⟨τ,M,_,rs,rm,h,λv d H1 M1 t1 ac al h1=>?_⟩;obtain⟨ds,x,xs,rfl,hx,rx,h2,h3⟩:=oJ h1 al;refine⟨x,xs,rfl,aI.of hx,by rw[<- rx.length];exact h2,λc H' bs cN keep hb lb hn=>?_⟩;have t2:ay H1 H':=λc xs e=>keep _ _ e;have rg:=ac.grow keep;refine po _ (.ref c) H' _ (t1.trans t2) ⟨rg.aa,rg.fz,λz oo e=>?_⟩ (RD.aw _) (h3 c (ac.free cN));by_cases hz:z=c
 ·subst hz;rw[ah]at e;cases e;refine⟨bs,hb,gg ?_⟩;have key:∀ (ds:List D) (xs bs:List V) (k:Nat),Paired (RD H') ds xs->bs.length=xs.length->(∀ (j:Nat) x,xs[j]?=some x->∃ b,bs[j]?=some (.ref b)/\H' b=some (.tup [.int ((k+j:Nat):Int),x]))->Paired (RD H') (ds.mapIdx λi d=>.tup [.int ((k+i:Nat):Int),d]) bs:=by
   intro ds
   induction ds with
   |nil=>intro xs bs k r l _;cases r;rw[List.length_eq_zero_iff.mp l];exact .nil
   |cons d ds ih=>
    intro xs bs k r l hn;cases r with
    |cons r0 r1=>
     cases bs with
     |nil=>cases l
     |cons Xy bs=>
      obtain⟨Zs,e1,e2⟩:=hn 0 _ rfl;cases e1;rw[List.mapIdx_cons];refine .cons (bX.mpr ⟨_,_,rfl,e2,.cons (RD.aw _) (.one r0)⟩) ?_;have:=ih _ bs (k+1) r1 (by simpa using l) λj x hx=>by
       obtain⟨b2,z1,z2⟩:=hn (j+1) x (by simpa using hx);exact⟨b2,by simpa using z1,by rw[show k+1+j=k+(j+1) by lia];exact z2⟩
      simpa [Nat.add_assoc,Nat.add_comm,Nat.add_left_comm] using this
  have:=key ds xs bs 0 (bG (rx.mono t2)) lb (by simpa using hn);simpa [iX] using this
 ·rw[ao hz]at e;exact rg.ob z oo e
theorem Ng {K:PySem.W.Frag}{H:Hp}{a:Addr}{xs:List D}:hB T H (tV K a xs.length) xs.reverse (λM=>Ls M a xs) where
 go:=λi d H' M e t rm ok=>by
  obtain⟨us,hs,ru⟩:=rm.ls (K:=K) ok;have hi:i<xs.length:=by simpa using (List.getElem?_eq_some_iff.mp e).1
  rw[List.getElem?_reverse hi]at e;obtain⟨u,h1,h2⟩:=eG (bG ru) e;refine⟨⟨hi,us,hs,ru.length.symm⟩,λx H' ⟨e1,e2⟩=>?_⟩;subst e1;have:=e2 us hs;rw[h1]at this;cases this;exact⟨h2,ay.refl _,rm⟩
 stop:=λH' M t rm _=>by show xs.length<=_;rw[acx];exact aaH _
theorem Nh (hg:Gl X "reversed") (hm:X.mg "reversed"=none) (ha:PE X a (ak T ta)) (hs:aY a=true):PI X tg (.Call (.Name "reversed" p) [a] [] pos) (fD T (y8 ta)):=lT (M9 hg hm (tI ha hs) (by rw[cp hs];rfl)) fun σ H R h=>by
 obtain⟨τ,M,k,rs,rm,h,po⟩:=h;refine⟨τ,M,p1 λd M1=>dM d λa=>∃xs,Ls M1 a xs/\k xs.reverse (λM'=>Ls M' a xs) M1,rs,rm,h,λvs ds H1 M1 t1 ac al h1=>?_⟩;obtain⟨d,u,rfl,ru,h1⟩:=zx h1 al;obtain⟨x,rfl,xs,h2,h3⟩:=fE h1 ru;obtain⟨us,hs,ru⟩:=ac.ls (K:=X.K) h2;refine⟨x,us,rfl,hs,?_⟩;rw[<- ru.length];exact po _ _ _ _ _ t1 ac Ng h3
theorem Ni {H:Hp}{z:Str}:hB T H (rC z) (z.cps.toList.map λc=>.str ⟨#[c]⟩) (λ_=>True) where
 go:=λi d H' M e t rm _=>by
  rw[aaU]at e;obtain⟨c,h1,rfl⟩:=Option.map_eq_some_iff.mp e;have nw:z.cps[i]?=some c:=by simpa using h1
  refine⟨(Array.getElem?_eq_some_iff.mp nw).1,λx H' ⟨e1,c',e2,e3⟩=>?_⟩;subst e1 e3;rw[nw]at e2;cases e2;exact⟨RD.aw _,ay.refl _,rm⟩
 stop:=λH' M t rm _=>by show z.cps.size<=_;simp
theorem Nj (hl:PE X e (ak T ta)):PI X tg e (fD T (y9 ta)):=lT (ID hl) fun σ H R h=>by
 obtain⟨τ,M,k,rs,rm,h,po⟩:=h;refine⟨τ,M,_,rs,rm,h,λv d H1 M1 t1 ac al h1=>?_⟩;obtain⟨z,rfl,h2,h3⟩:=oK h1 al;exact⟨z,rfl,h2,po _ _ _ _ _ t1 ac Ni h3⟩
theorem Ag {H:Hp}{ka kb:List (Key×D)}{va vb:List (Key×V)} (ra:bM H ka va) (rb:bM H kb vb) (h:oE ka kb):va.length=vb.length/\∀p∈va,∃y d,cw vb p.1=some y/\aF H d p.2/\aF H d y/\d.bE<=60:=by
 obtain⟨h1,h2⟩:=h;refine⟨by rw[<- ra.length,<- rb.length];exact h1,λp hp=>?_⟩;obtain⟨i,hi⟩:=List.getElem?_of_mem hp;obtain⟨q,e1,e2,e3⟩:=rW ra hi;obtain⟨e,g1,g2,g3⟩:=h2 q (abE e1);rcases lI (k:=q.1) rb with ⟨_,z⟩ |⟨v',d',z2,z1,z3⟩
 ·rw[z]at g1;cases g1
 ·rw[g1]at z1;cases z1;exact⟨v',e,by rw[<- e2];exact z2,gW g2 e3,gW g2 z3,g3⟩
theorem Ah (hu:X.A.units+110<cLine):∀o:CmpOp,aA X (compareOp o) (cC T (jR o))
 |.NotEq=>cc ((Nb hu).or ((JT hu).or (JV hu))) λx y H Q ⟨dx,dy,M,q,rm,rx,ry,h,po⟩=>by
  unfold jR lN at h;dsimp only at h;unfold za at h;split at h
  ·cases au.mp rx;cases au.mp ry;rcases h with ⟨ka,kb,h1,h2,h3⟩ |⟨xs,ys,h1,h2,h3,h4,h5⟩
   ·obtain⟨va,jW,ra⟩:=rm.ob _ _ h1;obtain⟨vb,jX,rb⟩:=rm.ob _ _ h2;rcases h3 with ⟨rfl,h3⟩ |⟨h3,h4⟩
    ·cases rb;refine .inl ⟨_,_,va,rfl,rfl,jW,jX,?_⟩;have:va.isEmpty=ka.isEmpty:=(by cases ra <;> rfl);rw[this];exact po.same rm (RD.aw _) h3
    ·exact .inr (.inl ⟨_,_,rfl,rfl,⟨va,vb,.inl jW,.inl jX,Ag ra rb h3⟩,po.same rm (RD.aw _) h4⟩)
   ·obtain⟨us,iF,ru⟩:=rm.lst h1;obtain⟨ws,jY,co⟩:=rm.lst h2;refine .inr (.inr ⟨_,_,us,ws,rfl,rfl,iF,jY,by rw[<- ru.length,<- co.length];exact h3,λi hi=>?_,po.same rm (RD.aw _) h5⟩);obtain⟨c,d,Yy,kd,g1,g2,g3,g4,g5⟩:=h4 i (by rw[ru.length];exact hi);obtain⟨u1,z1,z2⟩:=eG (bG ru) g1;obtain⟨u2,y1,y2⟩:=eG (bG co) g2;cases au.mp z2;cases au.mp y2;obtain⟨va,jW,ra⟩:=rm.ob _ _ g3;obtain⟨vb,jX,rb⟩:=rm.ob _ _ g4;exact⟨c,d,z1,y1,va,vb,.inl jW,.inl jX,Ag ra rb g5⟩
  ·exact h.elim
 |.In=>cc (Nd hu) λx y H Q ⟨dx,dy,M,q,rm,rx,ry,h,po⟩=>by
  unfold jR lN at h;dsimp only at h;unfold zb at h;split at h
  ·cases au.mp rx;obtain⟨xs,ys,zs,ds,es,fs,h1,h2,h3,g1,g2,g3,d1,d2,h4⟩:=h;obtain⟨t,us,rfl,ht,ru⟩:=bX.mp ry;rw[az]at ru;obtain⟨u1,WQ,rfl,r1,ru⟩:=ru;rw[az]at ru;obtain⟨u2,WR,rfl,r2,ru⟩:=ru;cases eJ ru;cases au.mp r1;cases au.mp r2;obtain⟨va,jW,ra⟩:=rm.lst h1;obtain⟨vb,jX,rb⟩:=rm.lst h2;obtain⟨ZS,Nk,ZT⟩:=rm.lst h3;refine⟨_,t,_,_,va,vb,ZS,ds,es,fs,rfl,rfl,ht,jW,jX,Nk,fB g1 ra,fB g2 rb,fB g3 ZT,d1,d2,λz=>?_,λz=>?_,λz=>?_,po.same rm (RD.aw _) h4⟩
   ·subst z;rw[h1]at h2;cases h2;rw[g1]at g2;cases g2;rfl
   ·subst z;rw[h1]at h3;cases h3;rw[g1]at g3;cases g3;rfl
   ·subst z;rw[h2]at h3;cases h3;rw[g2]at g3;cases g3;rfl
  ·exact h.elim
 |.Eq=>cc (Jq (by lia)) λx y H Q ⟨dx,dy,M,q,rm,rx,ry,h,po⟩=>by
  unfold jR lN at h;dsimp only at h;unfold zc at h;split at h
  ·cases au.mp rx;cases au.mp ry;obtain⟨xs,h1,h2,h3⟩:=h;obtain⟨us,iF,ru⟩:=rm.ls (K:=X.K) h1;obtain⟨ws,jY,co⟩:=rm.lst h2;cases eJ co;exact⟨_,_,us,rfl,rfl,iF,jY,po.same rm (d:=.bl (decide (xs=[]))) (by rw[au,<- sD ru]) h3⟩
  ·exact h.elim
 |.NotIn=>eL
 |.Lt=>eL
 |.LtE=>eL
 |.Gt=>eL
 |.GtE=>eL
 |.Is=>eL
 |.IsNot=>eL
theorem Nn {op:CmpOp} (ho:aA X (compareOp op) (cC T (jR op))) (ha:PE X a (ak T ta)) (hb:PE X b (ak T tb)) (hm:behindInMarks op b=false):PT X (.Compare a [op] [b] pos) (bW T (zd op ta tb)):=nW (vT ho ha hb hm) fun σ H Q h=>by
 obtain⟨τ,M,q,rs,rm,h,po⟩:=h;refine⟨τ,M,_,rs,rm,h,λv d H1 M1 t1 ac al h1=>⟨τ,M1,_,rs.mono t1,ac,h1,λu e H2 M2 t2 aP bH h2=>⟨d,e,M2,λz M'=>iW z λb=>q b M',aP,al.mono t2,bH,h2,λv z H3 M3 t3 ec lR h3=>?_⟩⟩⟩;obtain⟨b,e,h4⟩:=lQ h3 lR;exact⟨b,e,po _ _ _ (t1.trans (t2.trans t3)) ec h4⟩
theorem Ai {H:Hp}:∀{kvs:List (Key×D)}{vs:List (Key×V)},bM H kvs vs->kvs.map (·.1)=vs.map (·.1)
 |_,_,.nil=>rfl
 |_,_,.cons r t=>by rw[aaR,aaR,r.1,Ai t]
theorem Aj {H:Hp}:∀{ns:List Bool}{xs:List V},az H (ns.map D.bl) xs->xs=ns.map V.bl
 |[],xs,h=>eJ h
 |n::ns,xs,h=>by
  rw[aaR,az]at h;obtain⟨y,ys,rfl,h1,h2⟩:=h;rw[au.mp h1,Aj h2];rfl
theorem Np (hc:X.calm=true):bp X (.builtin "all") (dh T sV):=gj (Jy hc) λvs H Q ⟨ds,M,q,rm,rs,h,po⟩=>by
 unfold sV at h;split at h
 ·obtain⟨x,rfl,hx⟩:=cK rs;cases au.mp hx;obtain⟨ns,h1,h3⟩:=h;obtain⟨us,hs,ru⟩:=rm.ls (K:=X.K) h1;cases Aj ru;exact⟨_,ns,rfl,hs,po.same rm (RD.aw _) h3⟩
 ·exact h.elim
theorem Nq (hc:X.calm=true):bp X (.builtin "sorted") (dh T lP):=gj (xf hc) λvs H Q ⟨ds,M,q,rm,rs,h,po⟩=>by
 unfold lP at h;split at h
 ·obtain⟨x,rfl,hx⟩:=cK rs;cases au.mp hx;obtain⟨kvs,h1,h2,h3,h4⟩:=h;obtain⟨ws,hv,rk⟩:=rm.ob _ _ h1;refine⟨_,ws,rfl,hv,λkv hF=>?_,by rw[<- rk.length];exact h3,λp ys hp No hs=>po.lst rm (om λy _=>RD.aw _) hp λl hl=>h4 l ys hl ?_ hs⟩
  ·obtain⟨i,hi⟩:=List.getElem?_of_mem hF;obtain⟨q,e1,e2,e3⟩:=rW rk hi;rw[<- e2];exact h2 q (abE e1)
  ·rw[Ai rk];exact No
 ·exact h.elim
theorem Nu {H:Hp}{d:D}{v:V}{ti:Ti}{c:Bool}{K:PySem.W.Frag}{tn:String} (r:RD H d v) (h:oF d ti=some c) (ht:(ti=.tuple/\tn="tuple")\/(ti=.bool/\tn="bool")\/(ti=.str/\tn="str")):∃t,du K H v (.type t)/\gU t tn c:=by
 unfold oF at h;split at h
 ·obtain⟨a,xs,rfl,ha,_⟩:=bX.mp r;cases h;rcases ht with ⟨z,rfl⟩ |⟨z,rfl⟩ |⟨z,rfl⟩ <;> cases z;exact⟨"tuple",.tup ha,nP _⟩
 all_goals first |(cases au.mp r;cases h;rcases ht with ⟨z,rfl⟩ |⟨z,rfl⟩ |⟨z,rfl⟩ <;> cases z) |cases h
 ·exact⟨_,.str _,JA⟩
 ·exact⟨_,.str _,JC⟩
 ·exact⟨_,.str _,nP _⟩
 ·exact⟨_,.int _,Jz⟩
 ·exact⟨_,.int _,JB⟩
 ·exact⟨_,.int _,x4⟩
theorem Nv {ti:Ti}{ty:Str}{tn:String} (p1 p2:Pos) (hg:Gl X "isinstance") (hm:X.mg "isinstance"=none) (eM:Gl X ty) (eO:X.mg ty=none) (hb:bootBuiltins ty=some (.type tn)) (hn:ty≠"__name__") (hd:(ty == ("__debug__" : Str))=false) (he:PE X e (ak T ta)) (hs:aY e=true)
  (ht:(ti=.tuple/\tn="tuple")\/(ti=.bool/\tn="bool")\/(ti=.str/\tn="str")) :
  PE X (.Call (.Name "isinstance" p1) [e,.Name ty p2] [] pos) (ak T (lO ti ta)):=by
 refine aR (iK JE hg hm xw (fu he (fu (p7 (v:=.ty tn) eM eO hb rfl hn hd) iq rfl) hs) (by show (aY e && true)=true;rw[hs];rfl) (by decide) (by decide)) fun σ H Q h=>?_;obtain⟨τ,M,q,rs,rm,h,po⟩:=h;refine⟨τ,M,_,rs,rm,h,λv d H1 M1 t1 ac al h1=>?_⟩;obtain⟨c,h2,h3⟩:=h1;obtain⟨t,h4,h5⟩:=Nu (K:=X.K) al h2 ht;exact⟨v,tn,t,c,rfl,h4,h5,(po.tr t1).same ac (RD.aw _) h3⟩
theorem Ak {d:D}{c:Bool} (h:oF d .si=some c):((∃i,d=.int i)\/∃z,d=.str z)/\c=true:=by
 cases d with
 |tup ds=>cases h
 | «at» u=>cases u <;> first |(cases h;first |exact⟨.inl ⟨_,rfl⟩,rfl⟩ |exact⟨.inr ⟨_,rfl⟩,rfl⟩) |cases h
theorem Nw (p1 p2 p3 p4:Pos) (hg:Gl X "isinstance") (hm:X.mg "isinstance"=none) (eM:Gl X "str") (eO:X.mg "str"=none) (Nx:Gl X "int") (Ny:X.mg "int"=none) {kk:Nat} (he:PE X e (ak T ta)) (hs:aY e=true) :
  PE X (.Call (.Name "isinstance" p1) [e,.Tuple [.Name "str" p2,.Name "int" p3] kk p4] [] pos) (ak T (lO .si ta)):=by
 refine aR (iK JG hg hm xw (fu he (fu (vZ (fu (p7 (v:=.ty "str") eM eO xA rfl (by decide) (by decide)) (fu (p7 (v:=.ty "int") Nx Ny xx rfl (by decide) (by decide)) iq rfl) rfl)) iq rfl) hs) (by show (aY e && true)=true;rw[hs];rfl) (by decide) (by decide)) fun σ H Q h=>?_;obtain⟨τ,M,q,rs,rm,h,po⟩:=h;refine⟨τ,M,_,rs,rm,h,λv d H1 M1 t1 ac al h1=>?_⟩;obtain⟨c,h2,h3⟩:=h1;refine⟨by show 2<=sizeLine;decide,λt ht=>⟨v,t,rfl,b7,?_,?_⟩⟩
 ·rcases (Ak h2).1 with ⟨i,rfl⟩ |⟨i,rfl⟩ <;> cases au.mp al
  ·exact .inl ⟨_,rfl⟩
  ·exact .inr ⟨_,rfl⟩
 ·rw[(Ak h2).2]at h3;exact po _ _ _ _ (t1.trans (ay.new ht _)) (ac.lay ht _) (RD.aw _) h3
theorem Nz {q:Pos} (ho:PE X o (ak T ta)) (he:PE X e (ak T tb)) (hb:fF o=false) (hs:aY e=true) (b':(q.endLine == pos.line)=true):PE X (.Call (.Attribute o "split" q) [e] [] pos) (ak T (ze ta tb)):=by
 refine aR (xD PySem.F.plainAttrs_str PySem.F.slot_str_split PySem.F.type_str_split Jl ⟨ho⟩ ⟨fu he iq hs⟩ (gr hb) (by show (aY e && true)=true;rw[hs];rfl) (by show 1<29;decide) b').out fun σ H Q h=>?_;obtain⟨τ,M,q,rs,rm,h,po⟩:=h;refine⟨τ,M,_,rs,rm,h,λv d H1 M1 t1 ac al h1=>?_⟩;obtain⟨z,rfl,h2⟩:=oK h1 al;refine⟨rfl,τ,M1,_,rs.mono t1,ac,h2,λu d2 H2 M2 t2 aP bH h3=>?_⟩;obtain⟨y,rfl,h4,h5,h6⟩:=oK h3 bH;exact⟨z,y,rfl,rfl,h4,h5,λp hp=>(po.tr (t1.trans t2)).lst aP (om λy _=>RD.aw _) hp h6⟩
theorem NA:aA X (binaryOp .Mult) (cC T tB):=cc GH λx y H Q ⟨dx,dy,M,q,rm,rx,ry,h,po⟩=>by
 unfold tB at h;split at h
 ·cases au.mp rx;cases au.mp ry;obtain⟨xs,h1,h2,h3,h4,h5⟩:=h;obtain⟨us,iF,ru⟩:=rm.lst h1;refine⟨_,_,us,rfl,rfl,iF,h2,h3,by rw[<- ru.length];exact h4,λp hp=>po.lst rm ?_ hp h5⟩;clear h4 h5 h2 h3
  induction (_:Int).toNat with
  |zero=>exact .nil
  |succ k ih=>rw[abU,aci,abU,aci];exact ru.app ih
 ·exact h.elim
end
noncomputable def oB {α:Type} (o:Option α) (f:α->Bool):Bool:=match o with
 |some a=>f a
 |none=>false
theorem bY {α:Type} {o:Option α}{f:α->Bool} (h:oB o f=true):∃a,f a=true:=by
 cases o with
 |none=>cases h
 |some a=>exact⟨a,h⟩
theorem bz {a b:Bool} (h:(a && b)=true):a=true/\b=true:=by rw[aaW]at h;exact h
theorem c7 {a b c:Bool} (h:(a && b && c)=true):a=true/\b=true/\c=true:=let ⟨x,z⟩:=bz h;let ⟨x,y⟩:=bz x;⟨x,y,z⟩
theorem cL {a b c d:Bool} (h:(a && b && c && d)=true):a=true/\b=true/\c=true/\d=true:=let ⟨x,z⟩:=bz h;let ⟨x,y,w⟩:=c7 x;⟨x,y,w,z⟩
theorem oT {a b c d e:Bool} (h:(a && b && c && d && e)=true):a=true/\b=true/\c=true/\d=true/\e=true:=let ⟨x,z⟩:=bz h;let ⟨x,y,w,v⟩:=cL x;⟨x,y,w,v,z⟩
theorem Al {a b c d e f:Bool} (h:(a && b && c && d && e && f)=true):a=true/\b=true/\c=true/\d=true/\e=true/\f=true:=let ⟨x,z⟩:=bz h;let ⟨x,y,w,v,u⟩:=oT x;⟨x,y,w,v,u,z⟩
noncomputable def Am:(e:Expr)->Option {x:Str // ∃p,e=.Name x p}
 |.Name x p=>some ⟨x,p,rfl⟩
 |_=>none
noncomputable def NB:(e:Expr)->Option {c:Const // ∃k p,e=.Constant c k p}
 |.Constant c k p=>some ⟨c,k,p,rfl⟩
 |_=>none
noncomputable def NC:(e:Expr)->Option {t:Expr×Operator×Expr // ∃p,e=.BinOp t.1 t.2.1 t.2.2 p}
 |.BinOp a o b p=>some ⟨(a,o,b),p,rfl⟩
 |_=>none
noncomputable def ND:(e:Expr)->Option {t:Expr×CmpOp×Expr // ∃p,e=.Compare t.1 [t.2.1] [t.2.2] p}
 |.Compare a [o] [b] p=>some ⟨(a,o,b),p,rfl⟩
 |_=>none
noncomputable def NF:(e:Expr)->Option {t:BoolOp×List Expr×Pos // e=.BoolOp t.1 t.2.1 t.2.2}
 |.BoolOp o vs p=>some ⟨(o,vs,p),rfl⟩
 |_=>none
noncomputable def NG:(e:Expr)->Option {t:UnaryOp×Expr // ∃p,e=.UnaryOp t.1 t.2 p}
 |.UnaryOp o a p=>some ⟨(o,a),p,rfl⟩
 |_=>none
noncomputable def NH:(e:Expr)->Option {t:Expr×Expr×Expr // ∃p,e=.IfExp t.1 t.2.1 t.2.2 p}
 |.IfExp c a b p=>some ⟨(c,a,b),p,rfl⟩
 |_=>none
noncomputable def NI:(e:Expr)->Option {es:List Expr // ∃p,e=.List es p}
 |.List es p=>some ⟨es,p,rfl⟩
 |_=>none
noncomputable def NJ:(e:Expr)->Option {es:List Expr // ∃k p,e=.Tuple es k p}
 |.Tuple es k p=>some ⟨es,k,p,rfl⟩
 |_=>none
noncomputable def NK:(e:Expr)->Option {t:Expr×Expr // ∃p,e=.Subscript t.1 t.2 p}
 |.Subscript a b p=>some ⟨(a,b),p,rfl⟩
 |_=>none
noncomputable def NL:(e:Expr)->Option {t:Option Expr×Option Expr // ∃p,e=.Slice t.1 t.2 none p}
 |.Slice a b none p=>some ⟨(a,b),p,rfl⟩
 |_=>none
noncomputable def NM:(e:Expr)->Option {t:Expr×List Expr // ∃p,e=.Call t.1 t.2 [] p}
 |.Call f as [] p=>some ⟨(f,as),p,rfl⟩
 |_=>none
noncomputable def NN:(e:Expr)->Option {t:Expr×Str×Pos // e=.Attribute t.1 t.2.1 t.2.2}
 |.Attribute o f p=>some ⟨(o,f,p),rfl⟩
 |_=>none
noncomputable def NO:(e:Expr)->Option {t:Expr×Comprehension×Scope // ∃p,e=.ListComp t.1 [t.2.1] t.2.2 p}
 |.ListComp e [c] sc p=>some ⟨(e,c,sc),p,rfl⟩
 |_=>none
noncomputable def NP:(e:Expr)->Option {t:List (Option Expr)×List Expr // ∃p,e=.Dict t.1 t.2 p}
 |.Dict ks vs p=>some ⟨(ks,vs),p,rfl⟩
 |_=>none
noncomputable def dN (e:Expr) (f:Str->Bool):Bool:=oB (Am e) λt=>f t.1
theorem fH {e:Expr}{f:Str->Bool} (h:dN e f=true):∃a0 p,e=.Name a0 p/\f a0=true:=by
 obtain⟨⟨a0,p,rfl⟩,h⟩:=bY h;exact⟨a0,p,rfl,h⟩
noncomputable def An (e:Expr) (f:Const->Bool):Bool:=oB (NB e) λt=>f t.1
theorem NQ {e:Expr}{f:Const->Bool} (h:An e f=true):∃a0 k p,e=.Constant a0 k p/\f a0=true:=by
 obtain⟨⟨a0,k,p,rfl⟩,h⟩:=bY h;exact⟨a0,k,p,rfl,h⟩
noncomputable def tX (e:Expr) (f:Expr->Operator->Expr->Bool):Bool:=oB (NC e) λt=>f t.1.1 t.1.2.1 t.1.2.2
theorem Ao {e:Expr}{f:Expr->Operator->Expr->Bool} (h:tX e f=true):∃a0 a1 a2 p,e=.BinOp a0 a1 a2 p/\f a0 a1 a2=true:=by
 obtain⟨⟨⟨a0,a1,a2⟩,p,rfl⟩,h⟩:=bY h;exact⟨a0,a1,a2,p,rfl,h⟩
noncomputable def tY (e:Expr) (f:Expr->CmpOp->Expr->Bool):Bool:=oB (ND e) λt=>f t.1.1 t.1.2.1 t.1.2.2
theorem Ap {e:Expr}{f:Expr->CmpOp->Expr->Bool} (h:tY e f=true):∃a0 a1 a2 p,e=.Compare a0 [a1] [a2] p/\f a0 a1 a2=true:=by
 obtain⟨⟨⟨a0,a1,a2⟩,p,rfl⟩,h⟩:=bY h;exact⟨a0,a1,a2,p,rfl,h⟩
noncomputable def tZ (e:Expr) (f:BoolOp->(List Expr)->Pos->Bool):Bool:=oB (NF e) λt=>f t.1.1 t.1.2.1 t.1.2.2
theorem Aq {e:Expr}{f:BoolOp->(List Expr)->Pos->Bool} (h:tZ e f=true):∃a0 a1 a2,e=.BoolOp a0 a1 a2/\f a0 a1 a2=true:=by
 obtain⟨⟨⟨a0,a1,a2⟩,rfl⟩,h⟩:=bY h;exact⟨a0,a1,a2,rfl,h⟩
noncomputable def t5 (e:Expr) (f:UnaryOp->Expr->Bool):Bool:=oB (NG e) λt=>f t.1.1 t.1.2
theorem Ar {e:Expr}{f:UnaryOp->Expr->Bool} (h:t5 e f=true):∃a0 a1 p,e=.UnaryOp a0 a1 p/\f a0 a1=true:=by
 obtain⟨⟨⟨a0,a1⟩,p,rfl⟩,h⟩:=bY h;exact⟨a0,a1,p,rfl,h⟩
noncomputable def As (e:Expr) (f:Expr->Expr->Expr->Bool):Bool:=oB (NH e) λt=>f t.1.1 t.1.2.1 t.1.2.2
theorem NR {e:Expr}{f:Expr->Expr->Expr->Bool} (h:As e f=true):∃a0 a1 a2 p,e=.IfExp a0 a1 a2 p/\f a0 a1 a2=true:=by
 obtain⟨⟨⟨a0,a1,a2⟩,p,rfl⟩,h⟩:=bY h;exact⟨a0,a1,a2,p,rfl,h⟩
noncomputable def Au (e:Expr) (f:(List Expr)->Bool):Bool:=oB (NI e) λt=>f t.1
theorem NS {e:Expr}{f:(List Expr)->Bool} (h:Au e f=true):∃a0 p,e=.List a0 p/\f a0=true:=by
 obtain⟨⟨a0,p,rfl⟩,h⟩:=bY h;exact⟨a0,p,rfl,h⟩
noncomputable def jZ (e:Expr) (f:(List Expr)->Bool):Bool:=oB (NJ e) λt=>f t.1
theorem oU {e:Expr}{f:(List Expr)->Bool} (h:jZ e f=true):∃a0 k p,e=.Tuple a0 k p/\f a0=true:=by
 obtain⟨⟨a0,k,p,rfl⟩,h⟩:=bY h;exact⟨a0,k,p,rfl,h⟩
noncomputable def j0 (e:Expr) (f:Expr->Expr->Bool):Bool:=oB (NK e) λt=>f t.1.1 t.1.2
theorem lZ {e:Expr}{f:Expr->Expr->Bool} (h:j0 e f=true):∃a0 a1 p,e=.Subscript a0 a1 p/\f a0 a1=true:=by
 obtain⟨⟨⟨a0,a1⟩,p,rfl⟩,h⟩:=bY h;exact⟨a0,a1,p,rfl,h⟩
noncomputable def Av (e:Expr) (f:(Option Expr)->(Option Expr)->Bool):Bool:=oB (NL e) λt=>f t.1.1 t.1.2
theorem NT {e:Expr}{f:(Option Expr)->(Option Expr)->Bool} (h:Av e f=true):∃a0 a1 p,e=.Slice a0 a1 none p/\f a0 a1=true:=by
 obtain⟨⟨⟨a0,a1⟩,p,rfl⟩,h⟩:=bY h;exact⟨a0,a1,p,rfl,h⟩
noncomputable def t6 (e:Expr) (f:Expr->(List Expr)->Bool):Bool:=oB (NM e) λt=>f t.1.1 t.1.2
theorem Aw {e:Expr}{f:Expr->(List Expr)->Bool} (h:t6 e f=true):∃a0 a1 p,e=.Call a0 a1 [] p/\f a0 a1=true:=by
 obtain⟨⟨⟨a0,a1⟩,p,rfl⟩,h⟩:=bY h;exact⟨a0,a1,p,rfl,h⟩
noncomputable def oV (e:Expr) (f:Expr->Str->Pos->Bool):Bool:=oB (NN e) λt=>f t.1.1 t.1.2.1 t.1.2.2
theorem t7 {e:Expr}{f:Expr->Str->Pos->Bool} (h:oV e f=true):∃a0 a1 a2,e=.Attribute a0 a1 a2/\f a0 a1 a2=true:=by
 obtain⟨⟨⟨a0,a1,a2⟩,rfl⟩,h⟩:=bY h;exact⟨a0,a1,a2,rfl,h⟩
noncomputable def Ax (e:Expr) (f:Expr->Comprehension->Scope->Bool):Bool:=oB (NO e) λt=>f t.1.1 t.1.2.1 t.1.2.2
theorem NU {e:Expr}{f:Expr->Comprehension->Scope->Bool} (h:Ax e f=true):∃a0 a1 a2 p,e=.ListComp a0 [a1] a2 p/\f a0 a1 a2=true:=by
 obtain⟨⟨⟨a0,a1,a2⟩,p,rfl⟩,h⟩:=bY h;exact⟨a0,a1,a2,p,rfl,h⟩
noncomputable def t8 (e:Expr) (f:(List (Option Expr))->(List Expr)->Bool):Bool:=oB (NP e) λt=>f t.1.1 t.1.2
theorem Ay {e:Expr}{f:(List (Option Expr))->(List Expr)->Bool} (h:t8 e f=true):∃a0 a1 p,e=.Dict a0 a1 p/\f a0 a1=true:=by
 obtain⟨⟨⟨a0,a1⟩,p,rfl⟩,h⟩:=bY h;exact⟨a0,a1,p,rfl,h⟩
noncomputable def NV:(l:List Expr)->Option {a:Expr // l=[a]}
 |[a]=>some ⟨a,rfl⟩
 |_=>none
noncomputable def NW:(l:List Expr)->Option {t:Expr×Expr // l=[t.1,t.2]}
 |[a,b]=>some ⟨(a,b),rfl⟩
 |_=>none
noncomputable def oX (l:List Expr) (f:Expr->Bool):Bool:=oB (NV l) λt=>f t.1
theorem t9 {l:List Expr}{f:Expr->Bool} (h:oX l f=true):∃a,l=[a]/\f a=true:=by
 obtain⟨⟨a,rfl⟩,h⟩:=bY h;exact⟨a,rfl,h⟩
noncomputable def ub (l:List Expr) (f:Expr->Expr->Bool):Bool:=oB (NW l) λt=>f t.1.1 t.1.2
theorem Az {l:List Expr}{f:Expr->Expr->Bool} (h:ub l f=true):∃a b,l=[a,b]/\f a b=true:=by
 obtain⟨⟨⟨a,b⟩,rfl⟩,h⟩:=bY h;exact⟨a,b,rfl,h⟩
noncomputable def AA:Expr->Bool
 |.Attribute _ _ _=>false
 |_=>true
theorem NX {f:Expr}{as:List Expr}{pos:Pos}{env:Env} (h:AA f=true):eval (.Call f as [] pos) env=(do callWith pos (<- eval f env) [] (backTo pos (starEach as env)) (backToKw pos (keywordEach [] env))):=by cases f <;> first |rfl |cases h
noncomputable def bZ:Expr->Bool
 |.Set _ _ _=>false
 |.Slice _ _ _ _=>false
 |.Starred _ _=>false
 |_=>true
theorem c8 {e:Expr} (h:bZ e=true):aY e=true:=by cases e <;> first |rfl |cases h
theorem oY {e:Expr}{o:CmpOp} (h:bZ e=true):behindInMarks o e=false:=by cases e <;> first |rfl |cases h
theorem AB {e:Expr} (h:bZ e=true):nv e:=by cases e <;> first |exact λ_ _=>rfl |cases h
theorem uc {e:Expr}{env:Env} (h:bZ e=true):∀x,foldedSetIterable e env x=pure x:=by cases e <;> first |exact λ_=>rfl |cases h
theorem NY {o i : Expr} {pos : Pos} {env : Env} (h : bZ i = true) : ∀ v, assign (.Subscript o i pos) env v = (do
      let ov <- holding [v] (eval o env)
      let iv <- holding [v,ov] (eval i env)
      standAt pos
      holding [v,ov,iv] (setItem ov iv v)
      release [v,ov,iv] []):=by cases i <;> first |exact λ_=>rfl |cases h
noncomputable def eR:Expr->Bool
 |.ListComp _ _ _ _=>true
 |.SetComp _ _ _ _=>true
 |.DictComp _ _ _ _ _=>true
 |_=>false
theorem j1 {e:Expr}{t:Option Expr}{n:Nat}{env:Env} (h:eR e=false):swapsWith e t n env=pure false:=by cases e <;> first |rfl |cases h
def Bi.nm:Bi->Str
 |.len=>"len" |.tuple=>"tuple" |.list=>"list" |.int=>"int" |.max=>"max" |.dict=>"dict" |.sorted=>"sorted" |.all=>"all"
def Ti.nm:Ti->Str
 |.tuple=>"tuple" |.bool=>"bool" |.str=>"str" |.si=>"str"
def Mt.nm:Mt->Str
 |.append=>"append" |.pop=>"pop" |.extend=>"extend"
noncomputable def l0 (sc:Scope) (x:Str):Bool:=match sc.names.lookup x with
 |some .local=>true
 |some .cell=>true
 |some .free=>true
 |_=>false
noncomputable def a4 (sc:Scope) (x:Str):Bool:=match sc.names.lookup x with
 |some .globalImplicit=>true
 |_=>false
noncomputable def bL (sc:Scope) (x:Str):Bool:=match sc.names.lookup x with
 |some .local=>true
 |some .cell=>true
 |_=>false
noncomputable def ud (sc:Scope) (x:Str):Bool:=match sc.names.lookup x with
 |some .local=>true
 |_=>false
noncomputable def gu (x:Str):Bool:=!(x == ("__debug__" : Str)) && !(x == ("__classdict__" : Str))
noncomputable def j2 (e:Expr) (f:Str->List Expr->Bool):Bool:=t6 e λg as=>dN g λy=>f y as
theorem l5 {e:Expr}{f:Str->List Expr->Bool} (h:j2 e f=true):∃y as p q,e=.Call (.Name y p) as [] q/\f y as=true:=by
 obtain⟨g,as,q,rfl,u⟩:=Aw h;obtain⟨y,p,rfl,v⟩:=fH u;exact⟨y,as,p,q,rfl,v⟩
noncomputable def NZ:(e:Expr)->Option {t:Expr×List Expr×Pos // e=.Call t.1 t.2.1 [] t.2.2}
 |.Call f as [] p=>some ⟨(f,as,p),rfl⟩
 |_=>none
noncomputable def l6 (e:Expr) (f:Expr->Str->List Expr->Bool):Bool:=oB (NZ e) λt=>oV t.1.1 λo y q=>(q.endLine == t.1.2.2.line) && !fF o && f o y t.1.2.1
theorem ed {a:Bool} (h:(!a)=true):a=false:=by cases a <;> first |rfl |cases h
theorem oZ {e:Expr}{f:Expr->Str->List Expr->Bool} (h:l6 e f=true):∃o y as q p,e=.Call (.Attribute o y q) as [] p/\(q.endLine == p.line)=true/\fF o=false/\f o y as=true:=by
 obtain⟨⟨⟨g,as,p⟩,rfl⟩,u⟩:=bY h;obtain⟨o,y,q,e,v⟩:=t7 u;cases e;obtain⟨h1,h2,h3⟩:=c7 v;exact⟨o,y,as,q,p,rfl,h1,ed h2,h3⟩
noncomputable def hG (x:Str) (sc:Scope) (e:Expr) (f:Expr->Bool):Bool:=j2 e λy as=>decide (y=x) && a4 sc x && oX as f
theorem i5 {x:Str}{sc:Scope}{e:Expr}{f:Expr->Bool} (h:hG x sc e f=true):∃a p q,e=.Call (.Name x p) [a] [] q/\a4 sc x=true/\f a=true:=by
 obtain⟨y,as,p,q,rfl,u⟩:=l5 h;obtain⟨h1,h2,h3⟩:=c7 u;cases of_decide_eq_true h1;obtain⟨a,rfl,v⟩:=t9 h3;exact⟨a,p,q,rfl,h2,v⟩
noncomputable def o6 (x:Str) (sc:Scope) (e:Expr) (f:Expr->Expr->Bool):Bool:=j2 e λy as=>decide (y=x) && a4 sc x && ub as f
theorem ue {x:Str}{sc:Scope}{e:Expr}{f:Expr->Expr->Bool} (h:o6 x sc e f=true):∃a b p q,e=.Call (.Name x p) [a,b] [] q/\a4 sc x=true/\f a b=true:=by
 obtain⟨y,as,p,q,rfl,u⟩:=l5 h;obtain⟨h1,h2,h3⟩:=c7 u;cases of_decide_eq_true h1;obtain⟨a,b,rfl,v⟩:=Az h3;exact⟨a,b,p,q,rfl,h2,v⟩
theorem N0 {sc:Scope}{x:Str} (h:l0 sc x=true):mO sc x:=by
 unfold l0 at h;unfold mO;split at h <;> first |(rename_i e;rw[e];first |exact .inl rfl |exact .inr (.inl rfl) |exact .inr (.inr rfl)) |cases h
theorem N1 {sc:Scope}{x:Str} (h:a4 sc x=true):sc.names.lookup x=some .globalImplicit:=by
 unfold a4 at h;split at h <;> first |assumption |cases h
theorem uf {sc:Scope}{x:Str} (h:bL sc x=true):L2.dS sc x:=by
 unfold bL at h;unfold L2.dS;split at h <;> first |(rename_i e;rw[e];first |exact .inl rfl |exact .inr rfl) |cases h
theorem N2 {sc:Scope}{x:Str} (h:ud sc x=true):sc.names.lookup x=some .local:=by
 unfold ud at h;split at h <;> first |assumption |cases h
noncomputable def N3:Const->Option V
 |.int i=>some (.int i)
 |.str x=>some (.str x)
 |.bool b=>some (.bl b)
 |.none=>some .af
 |_=>none
noncomputable def l7 (sc scope:Scope):Scope:=
 { scope with names:=scope.names.map λ(n,k)=>if (k == .free && sc.kind == .function && sc.names.lookup n == some .cell) then (n,.cell) else (n,k) }
noncomputable def gw:Expr->List Str
 |.Name x _=>[x]
 |.Tuple es _ _=>es.filterMap λe=>(Am e).map (·.1)
 |_=>[]
noncomputable def l8 (N:List Str) (ok:Str->Bool):List Nat->List Expr->Bool
 |[],[]=>true
 |i::is,e::es=>(dN e λx=>decide (N[i]?=some x) && ok x) && l8 N ok is es
 |_,_=>false
noncomputable def G.ck (N:List Str) (ok:Str->Bool) (g:G) (e:Expr):Bool:=match g with
 |.one i=>dN e λx=>decide (N[i]?=some x) && ok x
 |.many is=>jZ e λes=>l8 N ok is es
structure Nm where
 cD:List Str
 gy:List Str
 cls:List Str
 aL:List Str
 i6:List Str
noncomputable def i7:Expr->Bool
 |.Tuple _ _ _=>true
 |_=>false
noncomputable def N4:(s:Expr)->Option {t:Nat×Pos×Pos×Pos // s=.Slice none none (some (.UnaryOp .USub (.Constant (.int 1) t.1 t.2.1) t.2.2.1)) t.2.2.2}
 |.Slice none none (some (.UnaryOp .USub (.Constant (.int 1) k p) q)) r=>some ⟨(k,p,q,r),rfl⟩
 |_=>none
noncomputable def AD (s:Expr):Bool:=oB (N4 s) λ_=>true
theorem N5 {s:Expr} (h:AD s=true):∃k p q r,s=.Slice none none (some (.UnaryOp .USub (.Constant (.int 1) k p) q)) r:=by
 obtain⟨⟨⟨k,p,q,r⟩,rfl⟩,_⟩:=bY h;exact⟨k,p,q,r,rfl⟩
noncomputable def i8 (N:List Str) (fr:List Nat) (cl:Comprehension):List Str:=gw cl.target++fr.map λi=>N.getD i ""
noncomputable def N6 (N:List Str) (sc:Scope) (n:Nat) (fr:List Nat) (g:G) (cl:Comprehension) (scope:Scope):Bool:=
 (cl.is_async == 0) && nL sc N scope (fr.map λi=>(N.getD i "",i)) && decide ((gw cl.target).length=n) && lU n g && decide ((i8 N fr cl).Nodup) && g.ck (i8 N fr cl) (ud (l7 sc scope)) cl.target && bZ cl.iter
noncomputable def ug (o:BoolOp) (p:Pos) (f g:Expr->Bool):List Expr->Bool
 |[x,y]=>f x && g y
 |x::y::z::r=>f x && g (.BoolOp o (y::z::r) p)
 |_=>false
noncomputable def YB (e:E) (f:Expr->Bool):Option Expr->Bool
 |none=>g9 e
 |some x=>!g9 e && f x
noncomputable def AE (e:E) (f:Expr->Bool):List Expr->Bool
 |[]=>g9 e
 |[x]=>!g9 e && f x
 |_=>false
noncomputable def AF (sc:Scope) (b:Expr):Ti->Bool
 |.si=>jZ b λes=>ub es λy z=>dN y λu=>dN z λv=>decide (u="str") && decide (v="int") && a4 sc u && a4 sc v
 |t=>dN b λy=>decide (y=t.nm) && a4 sc y
variable (m:Nm)
mutual
noncomputable def E.ck (N:List Str) (sc:Scope):E->Expr->Bool
 |.v i,e=>dN e λx=>decide (N[i]?=some x) && l0 sc x && gu x
 |.c k,e=>An e λc=>decide (N3 c=some k)
 |.g i,e=>dN e λx=>decide (m.gy[i]?=some x) && a4 sc x && gu x
 |.tup es,e=>jZ e λxs=>es.ck N sc xs
 |.lst es,e=>Au e λxs=>es.ck N sc xs
 |.op o a b,e=>tX e λl p r=>decide (p=o) && a.ck N sc l && b.ck N sc r
 |.cmp o a b,e=>tY e λl p r=>decide (p=o) && a.ck N sc l && b.ck N sc r && bZ r
 |.neg a,e=>t5 e λo x=>decide (o=.USub) && a.ck N sc x
 |.not a,e=>t5 e λo x=>decide (o=.Not) && a.ck N sc x
 |.and a b,e=>tZ e λo vs p=>decide (o=.And) && ug .And p (a.ck N sc) (b.ck N sc) vs
 |.or a b,e=>tZ e λo vs p=>decide (o=.Or) && ug .Or p (a.ck N sc) (b.ck N sc) vs
 |.ite c a b,e=>As e λx y z=>c.ck N sc x && a.ck N sc y && b.ck N sc z
 |.ix a b,e=>j0 e λl r=>a.ck N sc l && b.ck N sc r && bZ r
 |.sl a lo hi,e=>j0 e λl s=>Av s λx y=>a.ck N sc l && YB lo (lo.ck N sc) x && YB hi (hi.ck N sc) y
 |.rev a,e=>j0 e λl s=>a.ck N sc l && AD s
 |.call i es,e=>j2 e λx as=>decide (m.cD[i]?=some x) && a4 sc x && gu x && es.ck N sc as
 |.bi b es,e=>j2 e λx as=>decide (x=b.nm) && a4 sc x && !as.isEmpty && es.ck N sc as
 |.mt k o es,e=>l6 e λo' x as=>decide (x=k.nm) && decide (as.length<29) && o.ck N sc o' && es.ck N sc as
 |.lc n fr g it c e',e=>Ax e λcP cl scope=>N6 N sc n fr g cl scope && it.ck N sc cl.target cl.iter && AE c (c.ck (i8 N fr cl) (l7 sc scope)) cl.ifs && e'.ck (i8 N fr cl) (l7 sc scope) cP
 |.fld e' f,e=>oV e λo g _=>decide (g=f) && !fF o && e'.ck N sc o
 |.new i es,e=>j2 e λx as=>decide (m.cls[i]?=some x) && a4 sc x && gu x && es.ck N sc as
 |.c6 i o es,e=>l6 e λo' x as=>decide (m.aL[i]?=some x) && decide (as.length<29) && o.ck N sc o' && es.ck N sc as
 |.app f es,e=>t6 e λf' as=>f.ck N sc f' && AA f' && !as.isEmpty && es.ck N sc as
 |.sd i e',e=>j0 e λl r=>dN l λx=>decide (m.i6[i]?=some x) && a4 sc x && gu x && e'.ck N sc r && bZ r
 |.iU,e=>t8 e λks vs=>ks.isEmpty && vs.isEmpty
 |.ot ks vs,e=>t8 e λk v=>k.all (·.isSome) && decide (k.length=v.length) && !k.isEmpty && decide (k.length<=15) && ks.ck N sc (k.filterMap id) && vs.ck N sc v
 |.ou o k,e=>l6 e λo' x as=>oX as λa=>decide (x="get") && bZ a && o.ck N sc o' && k.ck N sc a
 |.sset e',e=>hG "sorted" sc e λc=>hG "set" sc c λa=>bZ a && e'.ck N sc a
 |.iV o a b,e=>tY e λl p r=>decide (p=o) && a.ck N sc l && b.ck N sc r && bZ r
 |.ow e',e=>hG "list" sc e λc=>hG "enumerate" sc c λa=>bZ a && e'.ck N sc a
 |.gm ts e',e=>o6 "isinstance" sc e λa b=>bZ a && e'.ck N sc a && AF sc b ts
 |.split o e',e=>l6 e λo' x as=>oX as λa=>decide (x="split") && bZ a && o.ck N sc o' && e'.ck N sc a
 |.gn e',e=>hG "sorted" sc e λa=>bZ a && e'.ck N sc a
 |.rep a b,e=>tX e λl p r=>decide (p=.Mult) && a.ck N sc l && b.ck N sc r
 |.cf,_=>false
noncomputable def L.ck (N:List Str) (sc:Scope):L->List Expr->Bool
 |.nil,es=>es.isEmpty
 |.cons e r,es=>(match es with |x::xs=>e.ck N sc x && bZ x && r.ck N sc xs |[]=>false)
noncomputable def I.ck (N:List Str) (sc:Scope) (tg:Expr):I->Expr->Bool
 |.seq e,x=>e.ck N sc x
 |.dR a,x=>hG "range" sc x λy=>a.ck N sc y && bZ y
 |.zip a b,x=>i7 tg && o6 "zip" sc x λy z=>a.ck N sc y && bZ y && b.ck N sc z && bZ z
 |.ox a b,x=>i7 tg && o6 "zip" sc x λy z=>a.ck N sc y && bZ y && b.ck N sc z && bZ z
 |.oy a,x=>hG "reversed" sc x λy=>a.ck N sc y && bZ y
 |.txt e,x=>e.ck N sc x
end
structure o7 (m:Nm) (W:Wd) (T:Tp) (k:Nat) (P:Program) (w:World) (K:PySem.W.Frag) (mg:Str->Option Value) (base:Heap):Prop where
 fn:∀i x,m.cD[i]?=some x->∃f fd ps,a5 P w K mg base a7 k f fd ps (bR T (W.sp i))/\mg x=some (.ref f)/\PySem.W.keepIn K (.ref f)=true/\b0 K fd ps []
 gv:∀i x,m.gy[i]?=some x->∃y v,mg x=some y/\av v y/\∀H M,RM T H M->RD H (W.gv.getD i .af) v
 bi:∀b:Bi,mg b.nm=none
 fl:∀C f,W.fl C f->cI K C/\dX K C f
 cl:∀i x C sp,m.cls[i]?=some x->W.ci i=some (C,sp)->∃j f fd ps,j+1<=k/\Mk K C f/\a5 P w K mg base a7 j f fd ps (bR T sp)/\mg x=some (.ref C)/\b0 K fd ps []
 mt:∀i x C sp,m.aL[i]?=some x->W.mt i=some (C,sp)->∃f fd ps,cI K C/\ip K C x f/\a5 P w K mg base a7 k f fd ps (bR T sp)/\b0 K fd ps []
 ca:∀X:Cx,X.prog=P->X.w=w->X.K=K->X.mg=mg->X.base=base->∀f sp,W.ca f sp->nQ X a7 k f (bR T sp)\/nZ X a7 k f (bR T sp)\/oL X a7 k f (bR T sp)
 sd:∀i x,m.i6[i]?=some x->∃a,mg x=some (.ref a)/\jD K w a/\tM K a (W.sd i)
 st:mg "set"=none
 rg:mg "range"=none
 zp:mg "zip"=none
 en:mg "enumerate"=none
 rv:mg "reversed"=none
 ii:mg "isinstance"=none
 bo:mg "bool"=none
 sr:mg "str"=none
structure bK (m:Nm) (W:Wd) (T:Tp) (k:Nat) (N:List Str) (sc:Scope) (X:Cx):Prop where
 hN:X.N=N
 d5:X.env.scope=sc
 nd:N.Nodup
 calm:X.calm=true
 xe:X.xe=λ_ _=>False
 room:bf k X.A
 en:o7 m W T k X.prog X.w X.K X.mg X.base
section
variable {m:Nm}{W:Wd}{T:Tp}{k:Nat}{N:List Str}{sc:Scope}{X:Cx}{x:Expr}
theorem bK.o8 (C:bK m W T k N sc X):X.A.units+110<cLine:=by have:=C.room.un;lia
theorem bK.u1 (C:bK m W T k N sc X):X.A.units+1<cLine:=by have:=C.room.un;lia
theorem bK.a4 (C:bK m W T k N sc X) {y:Str} (h:a4 sc y=true):Gl X y:=by
 show X.env.scope.names.lookup y=_;rw[C.d5];exact N1 h
theorem bK.lc (C:bK m W T k N sc X) {scope:Scope}{N':List Str}{z:ZC} (nd:N'.Nodup):bK m W T k N' (l7 sc scope) (cn X scope N' z):=
 ⟨rfl,by rw[<- C.d5];rfl,nd,C.calm,rfl,C.room,C.en⟩
theorem j3 {y:Str} (h:gu y=true):(y == ("__debug__" : Str))=false/\(y == ("__classdict__" : Str))=false:=by
 unfold gu at h;rw[aaW,Bool.not_eq_true',Bool.not_eq_true']at h;exact h
theorem AG:PT X x (bW T λ_ _ _=>False):=λ_ _ _ _ _ _ ⟨_,_,_,_,_,h,_⟩=>h.elim
theorem AH:PW X x (bW T λ_ _ _=>False):=λ_ _ _ _ _ _ _ ⟨_,_,_,_,_,h,_⟩=>h.elim
theorem AI:PE X x (ak T λ_ _ _=>False):=λ_ _ _ _ _ _ ⟨_,_,_,_,_,h,_⟩=>h.elim
theorem N7 (C:bK m W T k N sc X) {f:Pos}{as:List Expr}{pos:Pos}{tA:DA} (hA:PA X as (cS T tA)) (hs:bQ as=true) (hn:as.isEmpty=false):∀b:Bi,a4 sc b.nm=true->PE X (.Call (.Name b.nm f) as [] pos) (ak T (g7 (sW b) tA)):=by
 cases as with
 |nil=>cases hn
 |cons a as=>
  intro b hg;have g:=C.a4 hg;have z:=C.en.bi b;cases b with
  |len=>exact aR (iK K5 g z Ir hA hs (by decide) (by decide)) λ_ _ _ h=>gq h
  |tuple=>exact aR (nM K6 g z xy hA hs (by decide) (by decide)) λ_ _ _ h=>gq h
  |list=>exact aR (nM K7 g z xB hA hs (by decide) (by decide)) λ_ _ _ h=>gq h
  |int=>exact aR (nM K8 g z xx hA hs (by decide) (by decide)) λ_ _ _ h=>gq h
  |max=>exact aR (iK (K9 C.calm) g z Jh hA hs (by decide) (by decide)) λ_ _ _ h=>gq h
  |dict=>exact aR (nM (K' C.calm) g z Jg hA hs (by decide) (by decide)) λ_ _ _ h=>gq h
  |all=>exact aR (iK (Np C.calm) g z Ji hA hs (by decide) (by decide)) λ_ _ _ h=>gq h
  |sorted=>exact aR (iK (gj (r':=dh T λ_ _ _=>False) (xf C.calm) λ_ _ _ ⟨_,_,_,_,_,h,_⟩=>h.elim) g z rA hA hs (by decide) (by decide)) λ_ _ _ h=>gq h
theorem uh {id:String}{r:QM}{o:Expr}{y:Str}{as:List Expr}{q p:Pos}{ta:DE}{tA:DA} (slot:Slot "list" y id) (gJ:typeOf (.builtin id)=pure (.type "method_descriptor")) (hm:eC X id (jK T r))
  (ho:PE X o (ak T ta)) (hA:PA X as (cS T tA)) (hs:bQ as=true) (hl:as.length<29) (hb:fF o=false) (b':(q.endLine == p.line)=true) (h0:as=[]->tA=λ_ M q=>q [] M) :
  PE X (.Call (.Attribute o y q) as [] p) (ak T (jP r ta tA)):=by
 cases as with
 |nil=>
  cases h0 rfl;exact aR (Gu PySem.F.plainAttrs_list slot gJ hm ho (gr hb) b') λ_ _ _ h=>LI h
 |cons a as=>exact aR (xD PySem.F.plainAttrs_list slot gJ hm ⟨ho⟩ ⟨hA⟩ (gr hb) hs hl b').out λ_ _ _ h=>LH h
theorem N8 (C:bK m W T k N sc X) {o:Expr}{as:List Expr}{q p:Pos}{ta:DE}{tA:DA} (ho:PE X o (ak T ta)) (hA:PA X as (cS T tA)) (hs:bQ as=true) (hl:as.length<29) (hb:fF o=false) (b':(q.endLine == p.line)=true) (h0:as=[]->tA=λ_ M q=>q [] M) :
  ∀b:Mt,PE X (.Call (.Attribute o b.nm q) as [] p) (ak T (jP (tf b) ta tA))
 |.append=>uh PySem.F.slot_list_append PySem.F.type_list_append LJ ho hA hs hl hb b' h0
 |.pop=>uh PySem.F.slot_list_pop PySem.F.type_list_pop LK ho hA hs hl hb b' h0
 |.extend=>uh PySem.F.slot_list_extend PySem.F.type_list_extend LL ho hA hs hl hb b' h0
theorem AJ (C:bK m W T k N sc X) {ok:Str->Bool} (ae:∀y,ok y=true->L2.dS X.env.scope y/\(X.fn y=true\/X.env.scope.names.lookup y=some .local)):∀(is:List Nat) (es:List Expr),l8 N ok is es=true->jq X es (jT is)/\(assignEach es X.env).length=is.length/\(assignEach es X.env).findIdx? (·.1)=none:=by
 intro is
 induction is with
 |nil=>
  intro es h;cases es with
  |nil=>exact⟨D4,rfl,rfl⟩
  |cons a r=>cases h
 |cons i is ih=>
  intro es h;cases es with
  |nil=>cases h
  |cons a r=>
   obtain⟨ha,hr⟩:=bz h;obtain⟨i1,i2,XM⟩:=ih r hr;obtain⟨y,p,rfl,u⟩:=fH ha;obtain⟨ha,hb⟩:=bz u;obtain⟨h1,h2⟩:=ae y hb;refine⟨D5 (vz (by rw[C.hN];exact C.nd) (by rw[C.hN];exact of_decide_eq_true ha) h1 h2) i1,?_,?_⟩
   ·show (assignEach r X.env).length+1=_;rw[i2];rfl
   ·show List.findIdx? _ ((false,_)::assignEach r X.env)=none;rw[List.findIdx?_cons,XM];rfl
theorem AK (C:bK m W T k N sc X) {ok:Str->Bool} (ae:∀y,ok y=true->L2.dS X.env.scope y/\(X.fn y=true\/X.env.scope.names.lookup y=some .local)):∀{g:G}{e:Expr},g.ck N ok e=true->PG X e (fG X.K g)
 |.one i,e,h=>by
  obtain⟨y,p,rfl,u⟩:=fH (show dN e (λx=>decide (N[i]?=some x) && ok x)=true from h);obtain⟨ha,hb⟩:=bz u;obtain⟨h1,h2⟩:=ae y hb;exact vz (by rw[C.hN];exact C.nd) (by rw[C.hN];exact of_decide_eq_true ha) h1 h2
 |.many is,e,h=>by
  obtain⟨es,kk,p,rfl,u⟩:=oU (show jZ e (l8 N ok is)=true from h);obtain⟨k1,k2,k3⟩:=AJ C ae is es u;exact D6 C.calm k1 k2 k3
end
section
variable {m:Nm}{W:Wd}{T:Tp}{k:Nat}
structure i9 (X:Cx) (x:Expr) (te:DE) (u:DT) (T:Tp):Prop where
 e:PE X x (ak T te)
 t:PT X x (bW T u)
 w:∀o vs p,x=.BoolOp o vs p->PW X x (bW T u)
 s:eR x=true->∀(y:Str) (j:Nat) (py gb:Pos),X.N.Nodup->X.N[j]?=some y->L2.dS X.env.scope y->swapsWith x (some (.Name y py)) gb.line X.env=pure true->(X.fn y=true\/X.env.scope.names.lookup y=some .local) ->
  PS X (.Assign [.Name y py] x gb) (cj T (jS te (.one j)))
theorem i9.val {X:Cx}{x:Expr}{t:DE} (h:PE X x (ak T t)) (he:∀e9,isTrue x X.env e9=(do let v <- e9;standAt x.pos;holding [v] (truthy v)):=by exact λ_=>rfl) (hb:∀o vs p,x≠.BoolOp o vs p:=by exact λ_ _ _ z=>nomatch z) (hl:eR x=false:=by rfl):i9 X x t (cU t) T:=
 ⟨h,Lz h he,λo vs p e=>absurd e (hb o vs p),λz=>by rw[hl]at z;cases z⟩
theorem i9.no {X:Cx}{x:Expr}{t:DE} (h:PE X x (ak T t)) (hl:eR x=false:=by rfl):i9 X x t (λ_ _ _=>False) T:=⟨h,AG,λ_ _ _ _=>AH,λz=>by rw[hl]at z;cases z⟩
theorem i9.gK {X:Cx}{x:Expr}{t:DE}{u:DT} (h:PE X x (ak T t)) (h':PT X x (bW T u)) (hb:∀o vs p,x≠.BoolOp o vs p:=by exact λ_ _ _ z=>nomatch z) (hl:eR x=false:=by rfl):i9 X x t u T:=⟨h,h',λo vs p e=>absurd e (hb o vs p),λz=>by rw[hl]at z;cases z⟩
theorem AL {o:BoolOp}{p:Pos}{f g:Expr->Bool}{vs:List Expr} (h:ug o p f g vs=true):(∃x y,vs=[x,y]/\f x=true/\g y=true)\/∃x y z r,vs=x::y::z::r/\f x=true/\g (.BoolOp o (y::z::r) p)=true:=by
 cases vs with
 |nil=>cases h
 |cons x r=>cases r with
  |nil=>cases h
  |cons y r=>cases r with
   |nil=>exact .inl ⟨x,y,rfl,bz h⟩
   |cons z r=>exact .inr ⟨x,y,z,r,rfl,bz h⟩
theorem AM {X:Cx}{e:E}{f:Expr->Bool}{t:DE}{x:Option Expr} (h:YB e f x=true) (g:∀y,f y=true->PE X y (ak T t)):PO X x (lS T (oW e t)):=by
 unfold oW;cases x with
 |none=>rw[show g9 e=true from h];exact LC
 |some x=>
  obtain⟨h1,h2⟩:=bz h;rw[ed h1];exact LD (g x h2)
theorem N9 {X:Cx}{e:E}{f:Expr->Bool}{t:DT}{l:List Expr} (h:AE e f l=true) (g:∀y,f y=true->PT X y (bW T t)):fm X l (bW T (XD e t)):=by
 unfold XD;cases l with
 |nil=>rw[show g9 e=true from h];exact (λpins s σ H Q I h=>Hw pins s σ H Q I (by obtain⟨τ,M,q,rs,rm,h,po⟩:=h;exact po _ _ _ (ay.refl H) rm h))
 |cons x r=>cases r with
  |nil=>
   obtain⟨h1,h2⟩:=bz h;rw[ed h1];exact Hx (g x h2)
  |cons _ _=>cases h
theorem ui {e:Expr} (h:i7 e=true):∃a b c,e=.Tuple a b c:=by cases e <;> first |exact⟨_,_,_,rfl⟩ |cases h
theorem bK.sf {N:List Str}{sc:Scope}{X:Cx} (C:bK m W T k N sc X) {scope:Scope}{fr:List Nat} (h:nL sc N scope (fr.map λi=>(N.getD i "",i))=true) {cl:Comprehension}:fo X scope (gw cl.target) (fr.map λi=>(N.getD i "",i)):=fo.of C.d5 C.hN h
theorem AN {X:Cx}{pos:Pos}:∀{ks:List (Option Expr)}{vs:List Expr}{tk tv:List DE},ks.all (·.isSome)=true->ks.length=vs.length->Paired (λx t=>PE X x (ak T t)) (ks.filterMap id) tk->Paired (λx t=>PE X x (ak T t)) vs tv->js X pos ks vs (tN T (tk.zip tv))
 |[],[],tk,tv,_,_,h,h'=>by cases h;cases h';exact FG
 |none::ks,vs,tk,tv,ha,_,_,_=>by cases ha
 |some k::ks,v::vs,tk,tv,ha,hl,h,h'=>by
  cases h with
  |cons r t=>
   cases h' with
   |cons r' t'=>exact FH r r' (AN (by simpa using ha) (by simpa using hl) t t')
mutual
theorem E.ok:∀(e:E) {N:List Str}{sc:Scope}{X:Cx}{x:Expr},bK m W T k N sc X->e.ck m N sc x=true->i9 X x (e.w W m.aL).1 (e.w W m.aL).2 T
 |.v i,N,sc,X,x,C,h=>by
  obtain⟨y,p,rfl,u1⟩:=fH h;obtain⟨h1,h2,h3⟩:=c7 u1;exact .val (Lq (Dm (by rw[C.hN];exact of_decide_eq_true h1) (by rw[C.d5];exact N0 h2) (j3 h3).1 (j3 h3).2))
 |.c kk,N,sc,X,x,C,h=>by
  obtain⟨c,j,p,rfl,u1⟩:=NQ h;have h:=of_decide_eq_true u1;refine .val (Lr ?_);cases c <;> cases h
  ·exact Dp
  ·exact Dn
  ·exact vt
  ·exact Dq
 |.g i,N,sc,X,x,C,h=>by
  obtain⟨y,p,rfl,u1⟩:=fH h;obtain⟨h1,h2,h3⟩:=c7 u1;obtain⟨u,v,g1,g2,g3⟩:=C.en.gv i y (of_decide_eq_true h1);refine .val (aR (vv (C.a4 h2) g1 g2 (j3 h3).1) fun σ H Q h=>?_);obtain⟨τ,M,q,rs,rm,h,po⟩:=h;exact po.same rm (g3 H M rm) h
 |.tup es,N,sc,X,x,C,h=>by
  obtain⟨xs,j,p,rfl,u1⟩:=oU h;exact .val (Lu (L.ok es C u1).1)
 |.lst es,N,sc,X,x,C,h=>by
  obtain⟨xs,p,rfl,u1⟩:=NS h;exact .val (Lv (L.ok es C u1).1)
 |.op o a b,N,sc,X,x,C,h=>by
  obtain⟨l,o',r,q,rfl,u1⟩:=Ao h;obtain⟨h1,h2,h3⟩:=c7 u1;cases of_decide_eq_true h1;exact .val (zl (KN _) (E.ok a C h2).e (E.ok b C h3).e)
 |.cmp o a b,N,sc,X,x,C,h=>by
  obtain⟨l,o',r,q,rfl,u1⟩:=Ap h;obtain⟨h1,h2,h3,h4⟩:=cL u1;cases of_decide_eq_true h1;exact .gK (zm (yz C.o8 _) (E.ok a C h2).e (E.ok b C h3).e (oY h4)) (Ln (yz C.o8 _) (E.ok a C h2).e (E.ok b C h3).e (oY h4))
 |.neg a,N,sc,X,x,C,h=>by
  obtain⟨o,y,q,rfl,u1⟩:=Ar h;obtain⟨h1,h2⟩:=bz u1;cases of_decide_eq_true h1;exact .val (Lx (E.ok a C h2).e)
 |.not a,N,sc,X,x,C,h=>by
  obtain⟨o,y,q,rfl,u1⟩:=Ar h;obtain⟨h1,h2⟩:=bz u1;cases of_decide_eq_true h1;exact .gK (Ly (E.ok a C h2).e) (LA (E.ok a C h2).t)
 |.and a b,N,sc,X,x,C,h=>by
  obtain⟨o,vs,p,rfl,u1⟩:=Aq h;obtain⟨h1,v⟩:=bz u1;cases of_decide_eq_true h1;rcases AL v with ⟨y,z,rfl,h1,h2⟩ |⟨y,z,u,r,rfl,h1,h2⟩
  ·have w:=zt (pos:=p) (E.ok a C h1).t (nX (Dw (E.ok b C h2).t) λ_ _ _ z=>z);exact⟨zo (E.ok a C h1).e (vw (E.ok b C h2).e),w.pt,λ_ _ _ _=>w,λz=>nomatch z⟩
  ·have w:=zt (pos:=p) (E.ok a C h1).t ((E.ok b C h2).w _ _ _ rfl);exact⟨zo (E.ok a C h1).e (E.ok b C h2).e,w.pt,λ_ _ _ _=>w,λz=>nomatch z⟩
 |.or a b,N,sc,X,x,C,h=>by
  obtain⟨o,vs,p,rfl,u1⟩:=Aq h;obtain⟨h1,v⟩:=bz u1;cases of_decide_eq_true h1;rcases AL v with ⟨y,z,rfl,h1,h2⟩ |⟨y,z,u,r,rfl,h1,h2⟩
  ·have w:=zu (pos:=p) (E.ok a C h1).t (nX (Dx (E.ok b C h2).t) λ_ _ _ z=>z);exact⟨zq (E.ok a C h1).e (vw (E.ok b C h2).e),w.pt,λ_ _ _ _=>w,λz=>nomatch z⟩
  ·have w:=zu (pos:=p) (E.ok a C h1).t ((E.ok b C h2).w _ _ _ rfl);exact⟨zq (E.ok a C h1).e (E.ok b C h2).e,w.pt,λ_ _ _ _=>w,λz=>nomatch z⟩
 |.ite c a b,N,sc,X,x,C,h=>by
  obtain⟨y,z,u,q,rfl,u1⟩:=NR h;obtain⟨h1,h2,h3⟩:=c7 u1;exact .no (LB (E.ok c C h1).t (E.ok a C h2).e (E.ok b C h3).e)
 |.ix a b,N,sc,X,x,C,h=>by
  obtain⟨l,r,q,rfl,u1⟩:=lZ h;obtain⟨h1,h2,h3⟩:=c7 u1;exact .val (Lo C.u1 (E.ok a C h1).e (E.ok b C h2).e (AB h3))
 |.sl a lo hi,N,sc,X,x,C,h=>by
  obtain⟨l,s,q,rfl,u1⟩:=lZ h;obtain⟨y,z,q2,e2,u2⟩:=NT u1;cases e2;obtain⟨h1,h2,h3⟩:=c7 u2;exact .no (LF (E.ok a C h1).e (AM h2 λ_ g=>(E.ok lo C g).e) (AM h3 λ_ g=>(E.ok hi C g).e))
 |.rev a,N,sc,X,x,C,h=>by
  obtain⟨l,s,q,rfl,u1⟩:=lZ h;obtain⟨h1,h2⟩:=bz u1;obtain⟨p1,p2,p3,p4,e⟩:=N5 h2;cases e;exact .no (LG (E.ok a C h1).e)
 |.call i es,N,sc,X,x,C,h=>by
  obtain⟨y,as,p,q,rfl,u1⟩:=l5 h;obtain⟨h1,h2,h3,h4⟩:=cL u1;obtain⟨f,fd,ps,g1,g2,g3,g4⟩:=C.en.fn i y (of_decide_eq_true h1);obtain⟨l1,l2,l3,_⟩:=L.ok es C h4;exact .val (zv g1 C.room (C.a4 h2) g2 g3 g4 l1 l2 (j3 h3).1 λe τ M q z=>by rw[l3 e]at z;exact z)
 |.bi b es,N,sc,X,x,C,h=>by
  obtain⟨y,as,p,q,rfl,u1⟩:=l5 h;obtain⟨h1,h2,h3,h4⟩:=cL u1;cases of_decide_eq_true h1;obtain⟨l1,l2,l3,_⟩:=L.ok es C h4;exact .val (N7 C l1 l2 (ed h3) b h2)
 |.mt b o es,N,sc,X,x,C,h=>by
  obtain⟨o',y,as,q,p,rfl,k1,k2,u1⟩:=oZ h;obtain⟨h1,h2,h3,h4⟩:=cL u1;cases of_decide_eq_true h1;obtain⟨l1,l2,l3,_⟩:=L.ok es C h4;exact .val (N8 C (E.ok o C h3).e l1 l2 (of_decide_eq_true h2) k2 k1 l3 b)
 |.lc n fr g it c e',N,sc,X,x,C,h=>by
  obtain⟨cP,⟨tg,iter,ifs,WS⟩,scope,q,rfl,u1⟩:=NU h;obtain⟨h1,h2,h3,h4⟩:=cL u1;obtain⟨h1,XY⟩:=bz h1;obtain⟨a1,a2,Xh,Xi,Xu,Yn⟩:=Al h1;cases eq_of_beq a1;have en:(gw tg).length=n:=of_decide_eq_true Xh;have eN:i8 N fr ⟨tg,iter,ifs,0⟩=gw tg++(fr.map λi=>(N.getD i "",i)).map (·.1):=by unfold i8;rw[List.map_map];rfl
  have Xs:(fr.map λi=>(N.getD i "",i)).map (·.2)=fr:=by rw[List.map_map];exact List.map_id' fr
  have nd:=of_decide_eq_true Xu;have C':∀z,bK m W T k (i8 N fr ⟨tg,iter,ifs,0⟩) (l7 sc scope) (cn X scope (gw tg++(fr.map λi=>(N.getD i "",i)).map (·.1)) z):=λz=>by
   rw[<- eN];exact C.lc nd
  have L1:=C.sf a2 (cl:=⟨tg,iter,ifs,0⟩);have hg:∀ z,PG (cn X scope (gw tg++(fr.map λi=>(N.getD i "",i)).map (·.1)) z) tg (fG X.K g):=λz=>AK (C' z) (λy hy=>by
    have hl:=N2 hy;rw[(C' z).d5];exact⟨.inl hl,.inr hl⟩) Yn
  have d3:lU (gw tg).length g=true:=by rw[en];exact Xi
  have hc:∀z,fm (cn X scope (gw tg++(fr.map λi=>(N.getD i "",i)).map (·.1)) z) ifs (bW T (XD c (c.w W m.aL).2)):=λz=>N9 h3 λ_ g=>(E.ok c (C' z) g).t;have k1:=LY (T:=T) (pos:=q) L1 C.calm (I.ok it C h2) hg d3 hc (λz=>(E.ok e' (C' z) h4).e) (uc XY);refine⟨?_,AG,λ_ _ _ _=>AH,λ_ y j py gb hN hj hy lm lp=>?_⟩
  ·rw[en,Xs]at k1;exact k1
  ·have k2:=LZ (T:=T) hN hj hy L1 C.calm (I.ok it C h2) hg d3 hc (λz=>(E.ok e' (C' z) h4).e) (uc XY) lm lp;rw[en,Xs]at k2;exact k2
 |.fld e f,N,sc,X,x,C,h=>by
  obtain⟨o,g,p,rfl,u1⟩:=t7 h;obtain⟨h1,h2,h3⟩:=c7 u1;cases of_decide_eq_true h1;exact .val (Ma (λC' z=>C.en.fl C' _ z) (E.ok e C h3).e (gr (ed h2)))
 |.new i es,N,sc,X,x,C,h=>by
  obtain⟨y,as,p,q,rfl,u1⟩:=l5 h;obtain⟨h1,h2,h3,h4⟩:=cL u1;obtain⟨l1,l2,l3,_⟩:=L.ok es C h4;refine .no ?_;show PE X _ (ak T (tu (W.ci i) (es.w W m.aL)));cases hc:W.ci i with
  |none=>exact AI
  |some cs=>
   obtain⟨C',sp⟩:=cs;obtain⟨j,f,fd,ps,g0,g1,g2,g3,g4⟩:=C.en.cl i y C' sp (of_decide_eq_true h1) hc;exact Mc g1 g2 (C.room.mono g0) (C.a4 h2) g3 g4 l1 l2 (j3 h3).1 l3
 |.c6 i o es,N,sc,X,x,C,h=>by
  obtain⟨o',y,as,q,p,rfl,k1,k2,u1⟩:=oZ h;obtain⟨h1,h2,h3,h4⟩:=cL u1;obtain⟨l1,l2,l3,_⟩:=L.ok es C h4;refine .val ?_;show PE X _ (ak T (oC (W.mt i) (λy=>m.aL[i]?=some y) (o.w W m.aL).1 (es.w W m.aL)));cases hc:W.mt i with
  |none=>exact AI
  |some cs=>
   obtain⟨C',sp⟩:=cs;obtain⟨f,fd,ps,g1,g2,g3,g4⟩:=C.en.mt i y C' sp (of_decide_eq_true h1) hc;exact Md (mp:=λy=>m.aL[i]?=some y) (E.ok o C h3).e g1 g2 g3 C.room g4 l1 l2 (of_decide_eq_true h2) k2 k1 l3 (of_decide_eq_true h1)
 |.app f es,N,sc,X,x,C,h=>by
  obtain⟨f',as,p,rfl,u1⟩:=Aw h;obtain⟨h1,h2,h3,h4⟩:=cL u1;obtain⟨l1,l2,l3,_⟩:=L.ok es C h4;cases as with
  |nil=>cases h3
  |cons a as=>exact .val (MA (C.en.ca X rfl rfl rfl rfl rfl) C.room (E.ok f C h1).e l1 l2 (NX h2))
 |.sd i e,N,sc,X,x,C,h=>by
  obtain⟨l,r,p,rfl,u1⟩:=lZ h;obtain⟨y,q,e1,u2⟩:=fH u1;cases e1;obtain⟨h1,h2,h3,h4,h5⟩:=oT u2;obtain⟨a,g1,g2,g3⟩:=C.en.sd i y (of_decide_eq_true h1);exact .no (Mf (C.a4 h2) g1 (j3 h3).1 g2 g3 C.u1 (E.ok e C h4).e (AB h5))
 |.iU,N,sc,X,x,C,h=>by
  obtain⟨ks,vs,q,rfl,u1⟩:=Ay h;obtain⟨h1,h2⟩:=bz u1;cases List.isEmpty_iff.mp h1;cases List.isEmpty_iff.mp h2;exact .no Mg
 |.ot ks vs,N,sc,X,x,C,h=>by
  obtain⟨k',v',q,rfl,u1⟩:=Ay h;obtain⟨h1,h2,h3,h4,h5,h6⟩:=Al u1;have hl:=of_decide_eq_true h2;exact .no (Mh (AN h1 hl (L.ok ks C h5).2.2.2 (L.ok vs C h6).2.2.2) h1 hl (by rintro rfl;cases h3) (of_decide_eq_true h4))
 |.ou o kk,N,sc,X,x,C,h=>by
  obtain⟨o',y,as,q,p,rfl,k1,k2,u1⟩:=oZ h;obtain⟨a,e1,u2⟩:=t9 u1;cases e1;obtain⟨h1,h2,h3,h4⟩:=cL u2;cases of_decide_eq_true h1;exact .no (Ml C.u1 (E.ok o C h3).e (E.ok kk C h4).e k2 (c8 h2) k1)
 |.sset e,N,sc,X,x,C,h=>by
  obtain⟨c,p,q,rfl,g1,u1⟩:=i5 h;obtain⟨a,p2,q2,e1,g2,u2⟩:=i5 u1;cases e1;obtain⟨h1,h2⟩:=bz u2;exact .no (Mm C.calm (C.a4 g1) (C.en.bi .sorted) (C.a4 g2) C.en.st (E.ok e C h2).e (c8 h1))
 |.iV o a b,N,sc,X,x,C,h=>by
  obtain⟨l,o',r,q,rfl,u1⟩:=Ap h;obtain⟨h1,h2,h3,h4⟩:=cL u1;cases of_decide_eq_true h1;exact .gK (zm (Ah C.o8 _) (E.ok a C h2).e (E.ok b C h3).e (oY h4)) (Nn (Ah C.o8 _) (E.ok a C h2).e (E.ok b C h3).e (oY h4))
 |.ow e,N,sc,X,x,C,h=>by
  obtain⟨c,p,q,rfl,g1,u1⟩:=i5 h;obtain⟨a,p2,q2,e1,g2,u2⟩:=i5 u1;cases e1;obtain⟨h1,h2⟩:=bz u2;exact .no (Nf C.calm (C.a4 g1) (C.en.bi .list) (C.a4 g2) C.en.en (E.ok e C h2).e (c8 h1))
 |.gm ts e,N,sc,X,x,C,h=>by
  obtain⟨a,b,q,p,rfl,h2,u1⟩:=ue h;obtain⟨h3,h4,h5⟩:=c7 u1;have he:=(E.ok e C h4).e;have one:∀ (ti:Ti) (tn:String),(dN b λy=>decide (y=ti.nm) && PL.a4 sc y)=true->X.mg ti.nm=none->bootBuiltins ti.nm=some (.type tn)->ti.nm≠"__name__"->(ti.nm == ("__debug__" : Str))=false->((ti=.tuple/\tn="tuple")\/(ti=.bool/\tn="bool")\/(ti=.str/\tn="str")) ->
    PE X (.Call (.Name "isinstance" q) [a,b] [] p) (ak T (lO ti (e.w W m.aL).1)):=λti tn hb z1 z2 z3 z4 z5=>by
   obtain⟨y,q2,rfl,u2⟩:=fH hb;obtain⟨jB,rG⟩:=bz u2;cases of_decide_eq_true jB;exact Nv q q2 (C.a4 h2) C.en.ii (C.a4 rG) z1 z2 z3 z4 he (c8 h3) z5
  refine .val ?_;cases ts with
  |tuple=>exact one .tuple "tuple" h5 (C.en.bi .tuple) xy (by decide) (by decide) (.inl ⟨rfl,rfl⟩)
  |bool=>exact one .bool "bool" h5 C.en.bo Iu (by decide) (by decide) (.inr (.inl ⟨rfl,rfl⟩))
  |str=>exact one .str "str" h5 C.en.sr xA (by decide) (by decide) (.inr (.inr ⟨rfl,rfl⟩))
  |si=>
   rw[AF]at h5;obtain⟨es,kk,q2,e1,u3⟩:=oU h5;cases e1;obtain⟨y,z,e1,u4⟩:=Az u3;cases e1;obtain⟨u,q3,e1,u5⟩:=fH u4;cases e1;obtain⟨v,q4,e1,u6⟩:=fH u5;cases e1;obtain⟨g1,g2,g3,g4⟩:=cL u6;cases of_decide_eq_true g1;cases of_decide_eq_true g2;exact Nw q q3 q4 q2 (C.a4 h2) C.en.ii (C.a4 g3) C.en.sr (C.a4 g4) (C.en.bi .int) he (c8 h3)
 |.split o e,N,sc,X,x,C,h=>by
  obtain⟨o',y,as,q,p,rfl,k1,k2,u1⟩:=oZ h;obtain⟨a,e1,u2⟩:=t9 u1;cases e1;obtain⟨h1,h2,h3,h4⟩:=cL u2;cases of_decide_eq_true h1;exact .no (Nz (E.ok o C h3).e (E.ok e C h4).e k2 (c8 h2) k1)
 |.gn e,N,sc,X,x,C,h=>by
  obtain⟨a,p,q,rfl,g1,u1⟩:=i5 h;obtain⟨h1,h2⟩:=bz u1;exact .no (aR (iK (Nq C.calm) (C.a4 g1) (C.en.bi .sorted) rA (tI (E.ok e C h2).e (c8 h1)) (by show (aY a && true)=true;rw[c8 h1];rfl) (by decide) (by decide)) λ_ _ _ h=>gq h)
 |.rep a b,N,sc,X,x,C,h=>by
  obtain⟨l,o',r,q,rfl,u1⟩:=Ao h;obtain⟨h1,h2,h3⟩:=c7 u1;cases of_decide_eq_true h1;exact .no (zl NA (E.ok a C h2).e (E.ok b C h3).e)
 |.cf,N,sc,X,x,C,h=>by cases h
theorem L.ok:∀(e:L) {N:List Str}{sc:Scope}{X:Cx}{xs:List Expr},bK m W T k N sc X->e.ck m N sc xs=true->PA X xs (cS T (e.w W m.aL))/\bQ xs=true/\(xs=[]->e.w W m.aL=λ_ M q=>q [] M)/\Paired (λx t=>PE X x (ak T t)) xs (e.wl W m.aL)
 |.nil,N,sc,X,xs,C,h=>by
  cases xs with
  |nil=>exact⟨oH,rfl,λ_=>rfl,.nil⟩
  |cons a r=>cases h
 |.cons e r,N,sc,X,xs,C,h=>by
  cases xs with
  |nil=>cases h
  |cons x xs=>
   obtain⟨h1,h2,h3⟩:=c7 h;obtain⟨l1,l2,_,l4⟩:=L.ok r C h3;exact⟨i3 (E.ok e C h1).e l1 (c8 h2),by show (aY x && bQ xs)=true;rw[c8 h2,l2];rfl,λz=>(nomatch z),.cons (E.ok e C h1).e l4⟩
theorem I.ok:∀(e:I) {N:List Str}{sc:Scope}{X:Cx}{tg x:Expr},bK m W T k N sc X->e.ck m N sc tg x=true->PI X tg x (fD T (e.w W m.aL))
 |.seq e,N,sc,X,tg,x,C,h=>LO (E.ok e C h).e
 |.dR a,N,sc,X,tg,x,C,h=>by
  obtain⟨y,p,q,rfl,g,u1⟩:=i5 h;obtain⟨h1,h2⟩:=bz u1;exact LQ (C.a4 g) C.en.rg (E.ok a C h1).e (c8 h2)
 |.zip a b,N,sc,X,tg,x,C,h=>by
  obtain⟨h0,h⟩:=bz h;obtain⟨_,_,_,rfl⟩:=ui h0;obtain⟨y,y',p,q,rfl,g,u1⟩:=ue h;obtain⟨h1,h2,h3,h4⟩:=cL u1;exact LU (C.a4 g) C.en.zp (E.ok a C h1).e (E.ok b C h3).e (c8 h2) (c8 h4)
 |.ox a b,N,sc,X,tg,x,C,h=>by
  obtain⟨h0,h⟩:=bz h;obtain⟨_,_,_,rfl⟩:=ui h0;obtain⟨y,y',p,q,rfl,g,u1⟩:=ue h;obtain⟨h1,h2,h3,h4⟩:=cL u1;exact LV (C.a4 g) C.en.zp (E.ok a C h1).e (E.ok b C h3).e (c8 h2) (c8 h4)
 |.txt e,N,sc,X,tg,x,C,h=>Nj (E.ok e C h).e
 |.oy a,N,sc,X,tg,x,C,h=>by
  obtain⟨y,p,q,rfl,g,u1⟩:=i5 h;obtain⟨h1,h2⟩:=bz u1;exact Nh (C.a4 g) C.en.rv (E.ok a C h1).e (c8 h2)
end
end
noncomputable def Oa:(s:Stmt)->Option {t:Expr×Expr×Pos // s=.Assign [t.1] t.2.1 t.2.2}
 |.Assign [t] v p=>some ⟨(t,v,p),rfl⟩
 |_=>none
noncomputable def Ob:(s:Stmt)->Option {v:Expr // ∃p,s=.Return (some v) p}
 |.Return (some v) p=>some ⟨v,p,rfl⟩
 |_=>none
noncomputable def Oc:(s:Stmt)->Option {v:Expr // ∃p,s=.Expr v p}
 |.Expr v p=>some ⟨v,p,rfl⟩
 |_=>none
noncomputable def Od:(s:Stmt)->Option {t:Expr×List Stmt×List Stmt // ∃p,s=.If t.1 t.2.1 t.2.2 p}
 |.If c a b p=>some ⟨(c,a,b),p,rfl⟩
 |_=>none
noncomputable def Oe:(s:Stmt)->Option {t:Expr×Expr×List Stmt // ∃p,s=.For t.1 t.2.1 t.2.2 [] p}
 |.For t i b [] p=>some ⟨(t,i,b),p,rfl⟩
 |_=>none
noncomputable def Of:(s:Stmt)->Option {t:Expr×List Stmt // ∃p,s=.While t.1 t.2 [] p}
 |.While c b [] p=>some ⟨(c,b),p,rfl⟩
 |_=>none
noncomputable def j4 (s:Stmt) (f:Expr->Expr->Pos->Bool):Bool:=oB (Oa s) λt=>f t.1.1 t.1.2.1 t.1.2.2
theorem l9 {s:Stmt}{f:Expr->Expr->Pos->Bool} (h:j4 s f=true):∃a0 a1 a2,s=.Assign [a0] a1 a2/\f a0 a1 a2=true:=by
 obtain⟨⟨⟨a0,a1,a2⟩,rfl⟩,h⟩:=bY h;exact⟨a0,a1,a2,rfl,h⟩
noncomputable def AO (s:Stmt) (f:Expr->Bool):Bool:=oB (Ob s) λt=>f t.1
theorem Og {s:Stmt}{f:Expr->Bool} (h:AO s f=true):∃a0 p,s=.Return (some a0) p/\f a0=true:=by
 obtain⟨⟨a0,p,rfl⟩,h⟩:=bY h;exact⟨a0,p,rfl,h⟩
noncomputable def AP (s:Stmt) (f:Expr->Bool):Bool:=oB (Oc s) λt=>f t.1
theorem Oh {s:Stmt}{f:Expr->Bool} (h:AP s f=true):∃a0 p,s=.Expr a0 p/\f a0=true:=by
 obtain⟨⟨a0,p,rfl⟩,h⟩:=bY h;exact⟨a0,p,rfl,h⟩
noncomputable def AQ (s:Stmt) (f:Expr->(List Stmt)->(List Stmt)->Bool):Bool:=oB (Od s) λt=>f t.1.1 t.1.2.1 t.1.2.2
theorem Oi {s:Stmt}{f:Expr->(List Stmt)->(List Stmt)->Bool} (h:AQ s f=true):∃a0 a1 a2 p,s=.If a0 a1 a2 p/\f a0 a1 a2=true:=by
 obtain⟨⟨⟨a0,a1,a2⟩,p,rfl⟩,h⟩:=bY h;exact⟨a0,a1,a2,p,rfl,h⟩
noncomputable def AR (s:Stmt) (f:Expr->Expr->(List Stmt)->Bool):Bool:=oB (Oe s) λt=>f t.1.1 t.1.2.1 t.1.2.2
theorem Oj {s:Stmt}{f:Expr->Expr->(List Stmt)->Bool} (h:AR s f=true):∃a0 a1 a2 p,s=.For a0 a1 a2 [] p/\f a0 a1 a2=true:=by
 obtain⟨⟨⟨a0,a1,a2⟩,p,rfl⟩,h⟩:=bY h;exact⟨a0,a1,a2,p,rfl,h⟩
noncomputable def AS (s:Stmt) (f:Expr->(List Stmt)->Bool):Bool:=oB (Of s) λt=>f t.1.1 t.1.2
theorem Ol {s:Stmt}{f:Expr->(List Stmt)->Bool} (h:AS s f=true):∃a0 a1 p,s=.While a0 a1 [] p/\f a0 a1=true:=by
 obtain⟨⟨⟨a0,a1⟩,p,rfl⟩,h⟩:=bY h;exact⟨a0,a1,p,rfl,h⟩
theorem AU {t v:Expr}{env:Env} (h:i7 v=false):swappedStores [t] v env=pure none:=by
 cases t <;> first |rfl |(cases v <;> first |rfl |cases h)
section
variable (m:Nm) (N:List Str) (sc:Scope)
mutual
noncomputable def S.ck:S->Stmt->Bool
 |.set i e,s=>j4 s λt v _=>dN t λx=>decide (N[i]?=some x) && bL sc x && e.ck m N sc v
 |.gZ is e,s=>j4 s λt v _=>i7 t && (G.many is).ck N (bL sc) t && !i7 v && !eR v && e.ck m N sc v
 |.oz is e,s=>j4 s λt v _=>jZ t λes=>l8 N (bL sc) is es && !i7 v && !eR v && e.ck m N sc v
 |.put o i e,s=>j4 s λt v _=>j0 t λo' i'=>o.ck m N sc o' && i.ck m N sc i' && bZ i' && !eR v && e.ck m N sc v
 |.lK o f e,s=>j4 s λt v _=>oV t λo' g _=>decide (g=f) && o.ck m N sc o' && !eR v && e.ck m N sc v
 |.dead,_=>true
 |.ret e,s=>AO s λv=>e.ck m N sc v
 |.ex e,s=>AP s λv=>!eR v && e.ck m N sc v
 |.cond c a b,s=>AQ s λx y z=>c.ck m N sc x && a.ck y && b.ck z
 |.loop g it b,s=>AR s λt i y=>g.ck N (bL sc) t && it.ck m N sc t i && bZ i && b.ck y
 |.lL c b,s=>AS s λx y=>c.ck m N sc x && b.ck y
noncomputable def B.ck:B->List Stmt->Bool
 |.nil,ss=>ss.isEmpty
 |.cons s r,ss=>(match ss with |x::xs=>s.ck x && r.ck xs |[]=>false)
end
end
section
variable {m:Nm}{W:Wd}{T:Tp}{k:Nat}{N:List Str}{sc:Scope}{X:Cx}
theorem bK.own (C:bK m W T k N sc X):PassesOwn (model X.prog X.w) X.A X.env X.xe:=by rw[C.xe];exact PassesOwn.never
theorem bK.gk (C:bK m W T k N sc X) (hf:∀y,X.fn y=true) {g:G}{e:Expr} (h:g.ck N (bL sc) e=true):PG X e (fG X.K g):=AK C (λy hy=>⟨by rw[C.d5];exact uf hy,.inl (hf y)⟩) h
mutual
theorem S.ok (C:bK m W T k N sc X) (hf:∀y,X.fn y=true):∀(s:S) {x:Stmt},s.ck m N sc x=true->PS X x (cj T (s.w W m.aL))
 |.set i e,x,h=>by
  rw[S.ck]at h;obtain⟨t,v,p,rfl,u1⟩:=l9 h;obtain⟨y,q,e1,u2⟩:=fH u1;cases e1;obtain⟨h1,h2,h3⟩:=c7 u2;have hN:X.N.Nodup:=by rw[C.hN];exact C.nd
  have hi:X.N[i]?=some y:=by rw[C.hN];exact of_decide_eq_true h1
  have hl:L2.dS X.env.scope y:=by rw[C.d5];exact uf h2
  have E1:=E.ok e C h3;have no:swapsWith v (some (.Name y q)) p.line X.env=pure false->PS X (.Assign [.Name y q] v p) (cj T (jS (e.w W m.aL).1 (.one i))):=λz=>eH (D9 hN hi hl E1.e z (.inl (hf y))) λD σ H h=>zI (K:=X.K) h;cases hc:eR v with
  |false=>exact no (j1 hc)
  |true=>
   have key:∃b:Bool,swapsWith v (some (.Name y q)) p.line X.env=pure b:=by
    cases v <;> first |exact⟨_,rfl⟩ |cases hc
   obtain⟨b,hb⟩:=key;cases b with
   |false=>exact no hb
   |true=>exact E1.s hc y i q p hN hi hl hb (.inl (hf y))
 |.gZ is e,x,h=>by
  rw[S.ck]at h;obtain⟨t,v,p,rfl,u1⟩:=l9 h;obtain⟨h0,h1,h2,h3,h4⟩:=oT u1;obtain⟨es,kk,q,e1⟩:=ui h0;cases e1;exact eH (qc (E.ok e C h4).e (C.gk hf h1) (show swapsWith v (some (.Tuple es kk q)) p.line X.env=pure false from j1 (ed h3)) (AU (ed h2)) rfl) λD σ H h=>zI h
 |.oz is e,x,h=>by
  rw[S.ck]at h;obtain⟨t,v,p,rfl,u1⟩:=l9 h;obtain⟨es,kk,q,e1,u2⟩:=oU u1;cases e1;obtain⟨h1,h2,h3,h4⟩:=cL u2;obtain⟨k1,k2,k3⟩:=AJ C (ok:=bL sc) (λy hy=>⟨by rw[C.d5];exact uf hy,.inl (hf y)⟩) is es h1;refine eH (qc (E.ok e C h4).e (Jt C.calm k1 k2 k3) (show swapsWith v (some (.Tuple es kk q)) p.line X.env=pure false from j1 (ed h3)) (AU (ed h2)) rfl) λD σ H h=>?_;obtain⟨τ,M,e,rs,rm,h,po⟩:=h;refine⟨τ,M,_,rs,rm,h,λv d H1 M1 t1 ac al h1=>?_⟩;obtain⟨a,rfl,xs,h2,h3,h4⟩:=fE h1 al;obtain⟨us,hs,ru⟩:=ac.ls (K:=X.K) h2;exact⟨a,us,rfl,hs,by rw[<- ru.length];exact h3,tJ h3 ru (rs.mono t1) fun σ1 r1=>po.nx _ _ _ _ t1 ac r1 h4⟩
 |.put o i e,x,h=>by
  rw[S.ck]at h;obtain⟨t,v,p,rfl,u1⟩:=l9 h;obtain⟨o',i',q,e1,u2⟩:=lZ u1;cases e1;obtain⟨h0,h1,h2,h3,h4⟩:=oT u2;refine eH (qc (E.ok e C h4).e (D8 (E.ok o C h0).e (E.ok i C h1).e (Hr C.u1) (NY h2)) (show swapsWith v (some (o'.Subscript i' q)) p.line X.env=pure false from j1 (ed h3)) (by unfold swappedStores;cases v <;> rfl) rfl) λD σ H h=>?_;obtain⟨τ,M,e,rs,rm,h,po⟩:=h;exact⟨τ,M,_,rs,rm,h,λv d H1 M1 t1 ac al h1=>⟨τ,M1,_,rs.mono t1,ac,h1,λu d2 H2 M2 t2 aP bH h2=>⟨τ,M2,_,rs.mono (t1.trans t2),aP,h2,λw Y9 H3 M3 t3 ec lR h3=>
   L8 ec (bH.mono t3) lR (al.mono (t2.trans t3)) h3 λH4 M4 t4 di h4=>po.nx _ _ _ _ (t1.trans (t2.trans (t3.trans t4))) di (rs.mono (t1.trans (t2.trans (t3.trans t4)))) h4⟩⟩⟩
 |.lK o f e,x,h=>by
  rw[S.ck]at h;obtain⟨t,v,p,rfl,u1⟩:=l9 h;obtain⟨o',g,q,e1,u2⟩:=t7 u1;cases e1;obtain⟨h0,h1,h2,h3⟩:=cL u2;cases of_decide_eq_true h0;exact Mb (λC' z=>C.en.fl C' _ z) (E.ok o C h1).e (E.ok e C h3).e (j1 (ed h2))
 |.dead,x,h=>Mn
 |.ret e,x,h=>by
  rw[S.ck]at h;obtain⟨v,p,rfl,u1⟩:=Og h;exact zJ (E.ok e C u1).e
 |.ex e,x,h=>by
  rw[S.ck]at h;obtain⟨v,p,rfl,u1⟩:=Oh h;obtain⟨h1,h2⟩:=bz u1;exact L0 (E.ok e C h2).e (j1 (ed h1))
 |.cond c a b,x,h=>by
  rw[S.ck]at h;obtain⟨y,z,u,p,rfl,u1⟩:=Oi h;obtain⟨h1,h2,h3⟩:=c7 u1;exact L3 (E.ok c C h1).t (B.ok C hf a h2) (B.ok C hf b h3)
 |.loop g it b,x,h=>by
  rw[S.ck]at h;obtain⟨y,z,u,p,rfl,u1⟩:=Oj h;obtain⟨h1,h2,h3,h4⟩:=cL u1;exact L6 C.own C.calm (I.ok it C h2) (C.gk hf h1) (B.ok C hf b h4) (uc h3)
 |.lL c b,x,h=>by
  rw[S.ck]at h;obtain⟨y,z,p,rfl,u1⟩:=Ol h;obtain⟨h1,h2⟩:=bz u1;exact L7 C.own (E.ok c C h1).t (B.ok C hf b h2)
theorem B.ok (C:bK m W T k N sc X) (hf:∀y,X.fn y=true):∀(b:B) {xs:List Stmt},b.ck m N sc xs=true->bP X xs (cj T (b.w W m.aL))
 |.nil,xs,h=>by
  cases xs with
  |nil=>exact L4
  |cons a r=>cases h
 |.cons s .nil,xs,h=>by
  cases xs with
  |nil=>cases h
  |cons x r=>
   obtain⟨h1,h2⟩:=bz h;cases r with
   |nil=>exact vy (S.ok C hf s h1)
   |cons _ _=>cases h2
 |.cons s (.cons s' r'),xs,h=>by
  cases xs with
  |nil=>cases h
  |cons x xs=>
   obtain⟨h1,h2⟩:=bz h;exact L5 (S.ok C hf s h1) (B.ok C hf (.cons s' r') h2)
end
theorem uk {H:Hp}{N:List Str}{ds:List D}{vs:List V} (r:az H ds vs):RS H (ds.map some++aa5 (N.length-ds.length) none) (L2.start N vs):=by
 unfold L2.start;refine⟨by simp [r.length],λi d e=>?_⟩;by_cases hi:i<ds.length
 ·rw[abt (by simpa using hi),aaU]at e;rw[abt (by simpa [<- r.length] using hi),aaU];cases q:ds[i]? with
  |none=>rw[q]at e;cases e
  |some d'=>
   rw[q]at e;cases e;obtain⟨v,h1,h2⟩:=eG (bG r) q;exact⟨v,by rw[h1];rfl,h2⟩
 ·rw[abc (by simpa using hi),ab7]at e;split at e <;> cases e
noncomputable def ja (n:Nat) (ds:List D):bb:=ds.map some++aa5 (n-ds.length) none
theorem AV {P:Program}{w:World}{K:PySem.W.Frag}{mg:Str->Option Value}{base:Heap}{x:Str}{st:Stmt}{f:Addr}{fd:FuncData}{ps:List Str}{sp:QN}{b:B}
  {qual:Str} (F:dg K x qual st f fd) (S:aK N ps (aj st)) (En:o7 m W T k P w K mg base) (hc:b.ck m N (aj st) (aH st)=true)
  (h:∀ds M Q,sp ds M Q->ds.length=ps.length/\b.w W m.aL { nx:=λ_ M'=>∃bd,Sub bd M'/\Q .af bd,rt:=λd M'=>∃bd,Sub bd M'/\Q d bd } (ja N.length ds) M):a5 P w K mg base a7 (k+1) f fd ps (bR T sp):=by
 refine F.ok S (λvs H Q E ⟨ds,M,q,rm,rd,h1,po⟩=>by rw[<- rd.length];exact (h ds M q h1).1) λaW A outer s H vs Q E hr ⟨ds,M,q,rm,rd,h1,po⟩=>?_;have C:bK m W T k N (aj st) (dY a7 P w K mg base N qual (aj st) f aW A outer s H E).dG:=⟨rfl,rfl,S.nd,rfl,rfl,hr,En⟩;refine⟨_,B.ok C (λ_=>rfl) b hc,_,M,_,uk rd,rm,(h ds M q h1).2,?_⟩;have fin:∀v d H' M',ay H H'->RM T H' M'->RD H' d v->(∃bd,Sub bd M'/\q d bd)->Q v H':=λv d H' M' t gl md ⟨bd,s1,q1⟩=>po v d H' bd t (gl.sub s1) md q1;exact⟨fun τ σ H' M' t gl _ h2=>fin .af .af H' M' t gl (RD.aw _) h2,fin,λ_ _ _ _ _ _ _ z=>z.elim,λ_ _ _ _ _ _ _ z=>z.elim⟩
theorem Om {P:Program}{w:World}{K:PySem.W.Frag}{mg:Str->Option Value}{base:Heap}{x:Str}{st:Stmt}{f c:Addr}{fd:FuncData}{ps:List Str}{sp:QN}{t:DS}
  {qual:Str} (F:dg K x qual st f fd) (hc:fd.code=.ref c) (S:aK N ps (aj st))
  (hb:∀(A:Around) (outer:List Env) (s:Shared) (H:Hp) (E:XK),bf k (A.deeper (PyProof.Rows.envOfC qual (aj st) s.heap.objs.size f (.ref c)))->bP (dY a7 P w K mg base N qual (aj st) f (.ref c) A outer s H E).dG (aH st) (cj T t))
  (h:∀ds M Q,sp ds M Q->ds.length=ps.length/\t { nx:=λ_ M'=>∃bd,Sub bd M'/\Q .af bd,rt:=λd M'=>∃bd,Sub bd M'/\Q d bd } (ja N.length ds) M):a5 P w K mg base a7 (k+1) f fd ps (bR T sp):=by
 refine F.Ky hc S (λvs H Q E ⟨ds,M,q,rm,rd,h1,po⟩=>by rw[<- rd.length];exact (h ds M q h1).1) λA outer s H vs Q E hr ⟨ds,M,q,rm,rd,h1,po⟩=>?_;refine⟨_,⟨hb A outer s H E hr⟩,_,M,_,uk rd,rm,(h ds M q h1).2,?_⟩;have fin:∀v d H' M',ay H H'->RM T H' M'->RD H' d v->(∃bd,Sub bd M'/\q d bd)->Q v H':=λv d H' M' t gl md ⟨bd,s1,q1⟩=>po v d H' bd t (gl.sub s1) md q1;exact⟨fun τ σ H' M' t gl _ h2=>fin .af .af H' M' t gl (RD.aw _) h2,fin,λ_ _ _ _ _ _ _ z=>z.elim,λ_ _ _ _ _ _ _ z=>z.elim⟩
theorem Oo {P:Program}{w:World}{K:PySem.W.Frag}{mg:Str->Option Value}{base:Heap}{L:bN}{f c:Addr}{ap:Value}{ps:List Str}{sp:QN}{e:E}
  (S:aK N ps L.scope) (En:o7 m W T k P w K mg base) (hc:e.ck m N L.scope L.body=true) (aw:∀ds M Q,sp ds M Q->M f=some (lW L f c ap))
  (h:∀ds M Q,sp ds M Q->ds.length=ps.length/\(e.w W m.aL).1 (ja N.length ds) M λd M'=>∃bd,Sub bd M'/\Q d bd) :
  a5 P w K mg base a7 (k+1) f (PySem.W.kla_fn "<lambda>" L.qual L.params L.body L.scope [] L.pm (.ref c) ap) ps (bR T sp):=by
 refine Kv S (λvs H Q E ⟨ds,M,q,rm,rd,h1,po⟩=>by rw[<- rd.length];exact (h ds M q h1).1) (λvs H Q E ⟨ds,M,q,rm,rd,h1,po⟩=>?_) λA outer s H vs Q Ex hr ⟨ds,M,q,rm,rd,h1,po⟩=>?_
 ·obtain⟨h2,_⟩:=rm.ob _ _ (aw _ _ _ h1);exact h2
 ·have C:bK m W T k N L.scope (dY a7 P w K mg base N L.qual L.scope f (.ref c) A outer s H Ex).dG:=⟨rfl,rfl,S.nd,rfl,rfl,hr,En⟩;refine⟨_,(E.ok e C hc).e.dG,_,M,_,uk rd,rm,(h ds M q h1).2,λv d H' M' t gl md ⟨bd,s1,q1⟩=>po v d H' bd t (gl.sub s1) md q1⟩
end
structure Ds where
 x:Str
 st:Stmt
 ps:List Str
def um:QN:=λ_ _ _=>False
def o9:List (Nat×QN)->Nat->QN
 |[],_=>um
 |(j,sp)::r,i=>if i=j then sp else o9 r i
structure j5 (K:PySem.W.Frag) (mg:Str->Option Value) (x:Str) (st:Stmt) (f:Addr) (fd:FuncData) (ps:List Str):Prop where
 fn:∃n,dg K n n st f fd
 b:b0 K fd ps []
 mg:mg x=some (.ref f)
theorem j5.kp {K:PySem.W.Frag}{mg:Str->Option Value}{x:Str}{st:Stmt}{f:Addr}{fd:FuncData}{ps:List Str} (D:j5 K mg x st f fd ps):PySem.W.keepIn K (.ref f)=true:=D.fn.elim λ_ h=>h.kp
structure Wo where
 P:Program
 w:World
 K:PySem.W.Frag
 mg:Str->Option Value
 base:Heap
 T:Tp
 ds:List Ds
 gy:List Str
 gv:List D
 fl:Addr->Str->Prop
 cls:List Str
 ca:Nat->Addr
 ms:List Ds
 mc:Nat->Addr
 i6:List Str
 sd:Nat->Str->Option (Option V)
def Wo.nm (w:Wo):Nm:=⟨w.ds.map (·.x),w.gy,w.cls,w.ms.map (·.x),w.i6⟩
structure uo (K:PySem.W.Frag) (C:Addr) (d:Ds) (f:Addr) (fd:FuncData):Prop where
 fn:∃q:Str,dg K d.x q d.st f fd
 b:b0 K fd d.ps []
 m:ip K C d.x f
 c:cI K C
structure Wo.Ok (w:Wo):Prop where
 df:∀(i:Nat) (d:Ds),w.ds[i]?=some d->∃f fd,j5 w.K w.mg d.x d.st f fd d.ps
 gv:∀i x,w.gy[i]?=some x->∃y v,w.mg x=some y/\av v y/\∀H M,RM w.T H M->RD H (w.gv.getD i .af) v
 bi:∀b:Bi,w.mg b.nm=none
 fl:∀C f,w.fl C f->cI w.K C/\dX w.K C f
 mt:∀(i:Nat) (d:Ds),w.ms[i]?=some d->∃f fd,uo w.K (w.mc i) d f fd
 cl:∀(i:Nat) (x:Str),w.cls[i]?=some x->w.mg x=some (.ref (w.ca i))/\∀f,PySem.W.findIn w.K (.ref (w.ca i)) "__init__"=some (some (.ref f))->PySem.W.isFn w.K (.ref f)=true->Mk w.K (w.ca i) f
 sd:∀i x,w.i6[i]?=some x->∃a,w.mg x=some (.ref a)/\jD w.K w.w a/\tM w.K a (w.sd i)
 rg:w.mg "range"=none
 zp:w.mg "zip"=none
 en:w.mg "enumerate"=none
 rv:w.mg "reversed"=none
 ii:w.mg "isinstance"=none
 bo:w.mg "bool"=none
 sr:w.mg "str"=none
 st:w.mg "set"=none
def FO (w:Wo) (i k:Nat) (sp:QN):Prop:=∃d f fd,w.ds[i]?=some d/\j5 w.K w.mg d.x d.st f fd d.ps/\a5 w.P w.w w.K w.mg w.base a7 k f fd d.ps (bR w.T sp)
theorem FO.mono {w:Wo}{i j k:Nat}{sp:QN} (h:FO w i j sp) (hk:j<=k):FO w i k sp:=let ⟨d,f,fd,a,b,c⟩:=h;⟨d,f,fd,a,b,c.mono hk⟩
theorem FO.imp {w:Wo}{i k:Nat}{sp kL:QN} (h:FO w i k sp) (g:∀ds M Q,kL ds M Q->sp ds M Q):FO w i k kL:=
 let ⟨d,f,fd,a,b,c⟩:=h
 ⟨d,f,fd,a,b,c.imp λvs H Q E ⟨ds,M,q,rm,rd,h1,po⟩=>⟨ds,M,q,rm,rd,g _ _ _ h1,po⟩⟩
theorem Oq {P:Program}{w:World}{K:PySem.W.Frag}{mg:Str->Option Value}{base:Heap}{k:Nat}{f:Addr}{fd:FuncData}{ps:List Str}{T:Tp}:a5 P w K mg base a7 k f fd ps (bR T um):=
 ⟨λ_ _ _ _ ⟨_,_,_,_,_,h,_⟩=>h.elim,λ_ _ _ _ _ _ _ _ _ _ _ _ _ ⟨_,_,_,_,_,h,_⟩=>h.elim⟩
def uq (w:Wo) (k:Nat):List (Nat×QN)->Prop
 |[]=>True
 |(i,sp)::r=>(∃j,j<=k/\FO w i j sp)/\uq w k r
theorem me {w:Wo} (O:w.Ok) {k i:Nat}{d:Ds} (hd:w.ds[i]?=some d):∀{cs:List (Nat×QN)},uq w k cs->FO w i k (o9 cs i)
 |[],_=>let ⟨f,fd,h⟩:=O.df i d hd;⟨d,f,fd,hd,h,Oq⟩
 |(j,sp)::r,h=>by
  unfold o9;by_cases e:i=j
  ·subst e;rw[if_pos rfl];obtain⟨⟨l,hl,h⟩,_⟩:=h;exact h.mono hl
  ·rw[if_neg e];exact me O hd h.2
def dO (w:Wo) (i k:Nat) (sp:QN):Prop:=∃d f fd,w.ms[i]?=some d/\uo w.K (w.mc i) d f fd/\a5 w.P w.w w.K w.mg w.base a7 k f fd d.ps (bR w.T sp)
theorem dO.mono {w:Wo}{i j k:Nat}{sp:QN} (h:dO w i j sp) (hk:j<=k):dO w i k sp:=let ⟨d,f,fd,a,b,c⟩:=h;⟨d,f,fd,a,b,c.mono hk⟩
noncomputable def mf:List (Nat×QN)->Nat->Option QN
 |[],_=>none
 |(j,sp)::r,i=>if i=j then some sp else mf r i
def ur (w:Wo) (k:Nat):List (Nat×QN)->Prop
 |[]=>True
 |(i,sp)::r=>(∃j,j<=k/\dO w i j sp)/\ur w k r
theorem AW {w:Wo}{k i:Nat}{sp:QN}:∀{cs:List (Nat×QN)},ur w k cs->mf cs i=some sp->dO w i k sp
 |[],_,h=>by cases h
 |(j,s)::r,h,e=>by
  unfold mf at e;by_cases z:i=j
  ·subst z;rw[if_pos rfl]at e;cases e;obtain⟨⟨l,hl,h⟩,_⟩:=h;exact h.mono hl
  ·rw[if_neg z]at e;exact AW h.2 e
def mh (w:Wo) (k:Nat) (f:Addr) (sp:QN):Prop:=∀X:Cx,X.prog=w.P->X.w=w.w->X.K=w.K->X.mg=w.mg->X.base=w.base->nQ X a7 k f (bR w.T sp)\/nZ X a7 k f (bR w.T sp)\/oL X a7 k f (bR w.T sp)
structure a' (w:Wo) where
 cs:List (Nat×QN):=[]
 ms:List (Nat×QN):=[]
 ci:List (Nat×Nat×QN):=[]
 ca:Addr->QN->Prop:=λ_ _=>False
noncomputable def pb (w:Wo):List (Nat×Nat×QN)->Nat->Option (Addr×QN)
 |[],_=>none
 |(j,_,sp)::r,i=>if i=j then some (w.ca j,sp) else pb w r i
noncomputable def a'.wd {w:Wo} (l:a' w):Wd:=⟨o9 l.cs,w.gv,w.fl,pb w l.ci,λi=>(mf l.ms i).map λsp=>(w.mc i,sp),l.ca,w.sd⟩
def uu (w:Wo) (k:Nat):List (Nat×Nat×QN)->Prop
 |[]=>True
 |(i,m,sp)::r=>(w.mc m=w.ca i/\w.ms[m]?.map (·.x)=some "__init__"/\∃j,j+1<=k/\dO w m j sp)/\uu w k r
theorem AX {w:Wo}{k i:Nat}{C:Addr}{sp:QN}:∀{cs:List (Nat×Nat×QN)},uu w k cs->pb w cs i=some (C,sp)->C=w.ca i/\∃m j,w.mc m=w.ca i/\w.ms[m]?.map (·.x)=some "__init__"/\j+1<=k/\dO w m j sp
 |[],_,h=>by cases h
 |(j,m,s)::r,h,e=>by
  unfold pb at e;by_cases z:i=j
  ·subst z;rw[if_pos rfl]at e;cases e;obtain⟨⟨h1,h0,l,hl,h⟩,_⟩:=h;exact⟨rfl,m,l,h1,h0,hl,h⟩
  ·rw[if_neg z]at e;exact AX h.2 e
structure a'.Ok {w:Wo} (l:a' w) (k:Nat):Prop where
 cs:uq w k l.cs
 ms:ur w k l.ms:=by exact trivial
 ci:uu w k l.ci:=by exact trivial
 ca:∀f sp,l.ca f sp->mh w k f sp:=by exact λ_ _ z=>z.elim
theorem a'.Ok.env {w:Wo} (O:w.Ok) {l:a' w}{k:Nat} (h:l.Ok k):o7 w.nm l.wd w.T k w.P w.w w.K w.mg w.base where
 fn:=λj x hj=>by
  have oS:(w.ds.map (·.x))[j]?=some x:=hj;rw[aaU]at oS;obtain⟨e,he,rfl⟩:=Option.map_eq_some_iff.mp oS;obtain⟨e',f',At,h1,h2,h3⟩:=me O he h.cs;rw[he]at h1;cases h1;exact⟨f',At,e.ps,h3,h2.mg,h2.kp,h2.b⟩
 gv:=O.gv
 bi:=O.bi
 fl:=O.fl
 cl:=λi x C sp hi hc=>by
  obtain⟨e,m,j,h1,h0,h2,d,f,fd,h3,h4,h5⟩:=AX h.ci hc;subst e;obtain⟨g1,g2⟩:=O.cl i x hi;rw[h3]at h0;have hx:d.x="__init__":=abe h0;have hm:=h4.m;rw[hx,h1]at hm;exact⟨j,f,fd,d.ps,h2,g2 f hm.aw hm.fn,h5,g1,h4.b⟩
 mt:=λi x C sp hi hc=>by
  have cN:(mf l.ms i).map (λsp=>(w.mc i,sp))=some (C,sp):=hc;obtain⟨s,e1,e2⟩:=Option.map_eq_some_iff.mp cN;cases e2;obtain⟨d,f,fd,h3,h4,h5⟩:=AW h.ms e1;have em:(w.ms.map (·.x))[i]?=some x:=hi;rw[aaU,h3]at em;cases em;exact⟨f,fd,d.ps,h4.c,h4.m,h5,h4.b⟩
 ca:=λX h1 h2 h3 h4 h5 f sp z=>h.ca f sp z X h1 h2 h3 h4 h5
 sd:=O.sd
 rg:=O.rg
 zp:=O.zp
 en:=O.en
 rv:=O.rv
 ii:=O.ii
 bo:=O.bo
 sr:=O.sr
 st:=O.st
noncomputable abbrev bS (Q:QK):En:={ nx:=λ_ M'=>∃bd,Sub bd M'/\Q .af bd,rt:=λd M'=>∃bd,Sub bd M'/\Q d bd }
theorem a6 {w:Wo} (O:w.Ok) {nm:Nm} (hn:w.nm=nm) {k:Nat}{N:List Str}{b:B}{sp:QN} (i:Nat) (d:Ds) (hd:w.ds[i]?=some d) (l:a' w) (hl:l.Ok k) (S:aK N d.ps (aj d.st)) (hc:b.ck nm N (aj d.st) (aH d.st)=true)
  (h:∀ds M Q,sp ds M Q->ds.length=d.ps.length/\b.w l.wd nm.aL (bS Q) (ja N.length ds) M):FO w i (k+1) sp:=by
 subst hn;obtain⟨f,fd,F⟩:=O.df i d hd;obtain⟨n,Fn⟩:=F.fn;exact⟨d,f,fd,hd,F,AV (m:=w.nm) Fn S (hl.env O) hc h⟩
theorem mi {w:Wo} (O:w.Ok) {nm:Nm} (hn:w.nm=nm) {k:Nat}{N:List Str}{b:B}{sp:QN} (i:Nat) (d:Ds) (hd:w.ms[i]?=some d) (l:a' w) (hl:l.Ok k) (S:aK N d.ps (aj d.st)) (hc:b.ck nm N (aj d.st) (aH d.st)=true)
  (h:∀ds M Q,sp ds M Q->ds.length=d.ps.length/\b.w l.wd nm.aL (bS Q) (ja N.length ds) M):dO w i (k+1) sp:=by
 subst hn;obtain⟨f,fd,F⟩:=O.mt i d hd;obtain⟨q,Fn⟩:=F.fn;exact⟨d,f,fd,hd,F,AV (m:=w.nm) Fn S (hl.env O) hc h⟩
theorem aG {M:Mp}:Sub M M:=λ_ _ h=>h
end PL
end
section
namespace QG
open PySem L2 PL
inductive Kd where
 |num |word
 |row (fs:List (Str×Kd))
 |aB (k:Kd)
mutual
noncomputable def kD:Kd->D
 |.num=>.tup [.str "num"]
 |.word=>.tup [.str "word"]
 |.row fs=>.tup [.str "row",.tup (aM fs)]
 |.aB k=>.tup [.str "bag",kD k]
noncomputable def aM:List (Str×Kd)->List D
 |[]=>[]
 |(f,k)::r=>.tup [.str f,kD k]::aM r
end
inductive Qn where
 |num (i:Int) |word (s:Str) |var (x:Str) |tab (x:Str) |none (k:Kd)
 |row (fs:List (Str×Qn))
 |at (f:Str) (q:Qn)
 |add (a b:Qn) |mul (a b:Qn) |one (q:Qn) |both (a b:Qn)
 |times (i:Int) (q:Qn)
 |for (x:Str) (a b:Qn) |jb (c q:Qn) |let (x:Str) (a b:Qn)
 |same (a b:Qn) |under (a b:Qn) |and (a b:Qn) |or (a b:Qn) |not (a:Qn)
mutual
noncomputable def qD:Qn->D
 |.num i=>.tup [.str "num",.int i]
 |.word s=>.tup [.str "word",.str s]
 |.var s=>.tup [.str "var",.str s]
 |.tab s=>.tup [.str "table",.str s]
 |.none k=>.tup [.str "none",kD k]
 |.row fs=>.tup [.str "row",.tup (cz fs)]
 |.at f q=>.tup [.str "at",.str f,qD q]
 |.add a b=>.tup [.str "add",qD a,qD b]
 |.mul a b=>.tup [.str "mul",qD a,qD b]
 |.one a=>.tup [.str "one",qD a]
 |.both a b=>.tup [.str "both",qD a,qD b]
 |.times i a=>.tup [.str "times",.int i,qD a]
 |.for x a b=>.tup [.str "for",.str x,qD a,qD b]
 |.jb a b=>.tup [.str "when",qD a,qD b]
 |.let x a b=>.tup [.str "let",.str x,qD a,qD b]
 |.same a b=>.tup [.str "same",qD a,qD b]
 |.under a b=>.tup [.str "under",qD a,qD b]
 |.and a b=>.tup [.str "and",qD a,qD b]
 |.or a b=>.tup [.str "or",qD a,qD b]
 |.not a=>.tup [.str "not",qD a]
noncomputable def cz:List (Str×Qn)->List D
 |[]=>[]
 |(f,q)::r=>.tup [.str f,qD q]::cz r
end
mutual
noncomputable def kz:Kd->Nat
 |.num=>1
 |.word=>1
 |.row fs=>c9 fs+1
 |.aB k=>kz k+1
noncomputable def c9:List (Str×Kd)->Nat
 |[]=>0
 |(_,k)::r=>kz k+c9 r+1
end
abbrev Sc:=List (Str×Kd)
noncomputable def lk (x:Str):Sc->Option Kd
 |[]=>.none
 |(y,k)::r=>if x=y then some k else lk x r
theorem AY {M:Mp}{p:Addr}{o o':MO}:up (up M p o) p o'=up M p o':=by
 funext b;unfold up;split <;> rfl
theorem aJ {M:Mp}{p r:Addr}{o:MO} (h:M p=some o) (h':M r=none):p≠r:=by rintro rfl;rw[h]at h';cases h'
theorem cM {M:Mp}{r:Addr}{o:MO} (h:M r=none):PL.Sub M (up M r o):=λa u e=>by rw[ao (aJ e h)];exact e
theorem l1:1<=sizeLine:=by decide
theorem l2:2<=sizeLine:=by decide
theorem l3:3<=sizeLine:=by decide
theorem l4:4<=sizeLine:=by decide
mutual
noncomputable def kT:Kd->Dt
 |.num=>.tup [.str "num"]
 |.word=>.tup [.str "word"]
 |.row fs=>.tup [.str "row",.tup (hM fs)]
 |.aB k=>.tup [.str "bag",kT k]
noncomputable def hM:List (Str×Kd)->List Dt
 |[]=>[]
 |(f,k)::r=>.tup [.str f,kT k]::hM r
end
mutual
theorem jc:∀k,bh (kD k)=some (kT k)
 |.num=>by rw[kD,kT];rfl
 |.word=>by rw[kD,kT];rfl
 |.row fs=>by rw[kD,kT,bh,aN,aN,aN,bh,bh,AZ fs];rfl
 |.aB k=>by rw[kD,kT,bh,aN,aN,aN,bh,jc k];rfl
theorem AZ:∀fs,aN (aM fs)=some (hM fs)
 |[]=>by rw[aM,hM,aN]
 |(f,k)::r=>by rw[aM,hM,aN,bh,aN,aN,aN,bh,jc k,AZ r];rfl
end
mutual
noncomputable def kd:Kd->Nat
 |.num=>1
 |.word=>1
 |.row fs=>cV fs+3
 |.aB k=>kd k+1
noncomputable def cV:List (Str×Kd)->Nat
 |[]=>0
 |(_,k)::r=>max (kd k) (cV r)
end
mutual
theorem pd:∀k,(kT k).bE<=kd k
 |.num=>by rw[kT,Dt.bE,aV,aV,kd];simp [Dt.bE]
 |.word=>by rw[kT,Dt.bE,aV,aV,kd];simp [Dt.bE]
 |.row fs=>by have:=A0 fs;rw[kT,Dt.bE,aV,aV,aV,kd,Dt.bE,Dt.bE];lia
 |.aB k=>by have:=pd k;rw[kT,Dt.bE,aV,aV,aV,kd,Dt.bE];lia
theorem A0:∀fs,aV (hM fs)<=cV fs+1
 |[]=>by rw[hM,aV];lia
 |(f,k)::r=>by have:=pd k;have:=A0 r;rw[hM,aV,Dt.bE,aV,aV,aV,Dt.bE,cV];lia
end
mutual
theorem pe:∀{a b:Kd},kD a=kD b->a=b
 |.num,b,h=>by cases b <;> simp only[kD,D.tup.injEq,acs,D.at.injEq,V.str.injEq]at h <;> first |rfl |exact absurd h.1 (by decide +kernel)
 |.word,b,h=>by cases b <;> simp only[kD,D.tup.injEq,acs,D.at.injEq,V.str.injEq]at h <;> first |rfl |exact absurd h.1 (by decide +kernel)
 |.row fs,b,h=>by
  cases b <;> simp only[kD,D.tup.injEq,acs,D.at.injEq,V.str.injEq]at h <;> first |exact absurd h.1 (by decide +kernel) |skip
  rw[A5 h.2.1]
 |.aB k,b,h=>by
  cases b <;> simp only[kD,D.tup.injEq,acs,D.at.injEq,V.str.injEq]at h <;> first |exact absurd h.1 (by decide +kernel) |skip
  rw[pe h.2.1]
theorem A5:∀{a b:List (Str×Kd)},aM a=aM b->a=b
 |[],[],_=>rfl
 |[],(_,_)::_,h=>by simp [aM]at h
 |(_,_)::_,[],h=>by simp [aM]at h
 |(f,k)::r,(g,l)::s,h=>by
  simp only[aM,D.tup.injEq,acs,D.at.injEq,V.str.injEq]at h;rw[h.1.1,pe h.1.2.1,A5 h.2]
end
noncomputable instance:DecidableEq Kd:=λa b=>decidable_of_iff (kD a=kD b) ⟨pe,congrArg _⟩
theorem mj {a b:Kd}{M:Mp}{k:Bool->Prop} (h:kd a<=50) (q:k (decide (a=b))):cT (kD a) (kD b) M k:=by
 have key:∀x y,kD a=.tup x->kD b=.tup y->cT (.tup x) (.tup y) M k:=λx y hx hy=>by
  have h1:=jc a;have h2:=jc b;rw[hx,bh]at h1;rw[hy,bh]at h2;obtain⟨d,e1,e2⟩:=Option.map_eq_some_iff.mp h1;obtain⟨e,f1,f2⟩:=Option.map_eq_some_iff.mp h2;refine KO e1 f1 ?_ ?_
  ·have:=pd a;rw[<- e2,Dt.bE]at this;show aV d<100;lia
  ·have:decide (x=y)=decide (a=b):=by
    by_cases z:a=b
    ·subst z;rw[hx]at hy;cases hy;simp
    ·rw[decide_eq_false z,decide_eq_false λy'=>z (pe (by rw[hx,hy,y']))]
   rw[this];exact q
 cases a <;> cases b <;> exact key _ _ rfl rfl
noncomputable def aE (ms:Sc):List (Key×D):=ms.map λm=>(.inr m.1,kD m.2)
local macro_rules | `(tactic|trivial)=>`(tactic|first |exact l1 |exact l2 |exact l3 |exact l4)
theorem A6 {g:G}{d:D} {τ:bb} {k k':bb->Prop} (h:g8 g d τ k) (m:∀ τ,k τ->k' τ):g8 g d τ k':=by
 cases g with
 |one i=>exact m _ h
 |many is=>cases d with
  | «at» v=>exact h.elim
  |tup ds=>exact⟨h.1,m _ h.2⟩
theorem hO {ok:Mp->Prop}{g:G}{tb:DS}{e:En} (I:List D->bb->Mp->Prop) (hn:∀ τ M,I [] τ M->ok M/\e.nx τ M)
  (hc:∀x xs τ M,I (x::xs) τ M->ok M/\g8 g x τ fun τ1=>∀N:bb->Mp->Prop,(∀ τ M,I xs τ M->N τ M)->tb { e with nx:=N,ct:=N,Xj:=e.nx } τ1 M):∀xs τ M,I xs τ M->iZ ok g tb e xs τ M
 |[],τ,M,h=>hn τ M h
 |x::xs,τ,M,h=>⟨(hc x xs τ M h).1,A6 (hc x xs τ M h).2 fun τ1 z=>z _ fun τ M h=>hO I hn hc xs τ M h⟩
theorem dj {ok:Mp->Prop}{g:G}{tc:DT}{te:DE} {τ:bb} {k:List D->Mp->Prop} (I:List D->List D->Mp->Prop) (hn:∀ ys M,I [] ys M->ok M/\ys.length<sizeLine/\k ys M)
  (hc:∀x xs ys M,I (x::xs) ys M->ok M/\ys.length<sizeLine/\g8 g x τ fun τ1=>∀N:List D->Mp->Prop,(∀ys M,I xs ys M->N ys M)->tc τ1 M λb M1=>if b=true then te τ1 M1 λy M2=>N (ys++[y]) M2 else N ys M1):∀xs ys M,I xs ys M->iY ok g tc te τ k xs ys M
 |[],ys,M,h=>hn ys M h
 |x::xs,ys,M,h=>⟨(hc x xs ys M h).1,(hc x xs ys M h).2.1,A6 (hc x xs ys M h).2.2 fun τ1 z=>z _ λys M h=>dj I hn hc xs ys M h⟩
theorem cm {M:Mp}{p l:Addr}{o:MO} (h:up M p o l=none):l≠p/\M l=none:=by
 unfold up at h;split at h
 ·cases h
 ·rename_i z;exact⟨z,h⟩
theorem Ot {ms:Sc}{x:Str}:(bc (aE ms) (.inr x)).isSome=decide (x∈ms.map (·.1)):=by
 induction ms with
 |nil=>rfl
 |cons m ms ih=>
  unfold bc aE at *;rw[aaR,aby];by_cases e:m.1=x
  ·simp [e]
  ·have e':¬(abL m.1:Key)=abL x:=λz=>e (Sum.inr.inj z);simp only[e',decide_false];rw[ih,aaR];simp [abx e]
theorem A7 {ms:Sc}{x:Str}{k:Kd} (h:x ∉ ms.map (·.1)):bJ (aE ms) (.inr x) (kD k)=aE (ms++[(x,k)]):=by
 unfold bJ;rw[if_neg]
 ·unfold aE;simp
 ·intro z;obtain⟨kv,h1,h2⟩:=List.any_eq_true.mp z;unfold aE at h1;obtain⟨m,hm,rfl⟩:=List.mem_map.mp h1;exact h (List.mem_map.mpr ⟨m,hm,Sum.inr.inj (of_decide_eq_true h2)⟩)
def Up (p:Addr) (M X:Mp):Prop:=∀a u,a≠p->M a=some u->X a=some u
theorem Up.rfl {p:Addr}{M:Mp}:Up p M M:=λ_ _ _ h=>h
theorem Up.new {p l:Addr}{M X:Mp}{o:MO} (h:Up p M X) (hl:X l=none):Up p M (up X l o):=λa u n e=>by rw[ao (aJ (h a u n e) hl)];exact h a u n e
theorem Up.put {p:Addr}{M X:Mp}{o:MO} (h:Up p M X):Up p M (up X p o):=λa u n e=>by rw[ao n];exact h a u n e
theorem Up.trans {p:Addr}{A B C:Mp} (h:Up p A B) (g:Up p B C):Up p A C:=λa u n e=>g a u n (h a u n e)
theorem Up.ag {p l:Addr}{M X:Mp}{o:MO} (h:Up p M X) (e:M l=none):Up p M (up X l o):=λa u n z=>by rw[ao (aJ z e)];exact h a u n z
theorem dP {x:Str}{k:Kd}:∀{ms:Sc},lk x ms=some k->bc (aE ms) (.inr x)=some (kD k)
 |(y,l)::r,h=>by
  rw[lk]at h;unfold bc aE;rw[aaR,aby];split at h
  ·rename_i e;subst e;cases h;simp
  ·rename_i e;have e':¬(abL y:Key)=abL x:=λz=>e (Sum.inr.inj z).symm;simp only[e',decide_false];exact dP h
end QG
end
section
namespace Q16
open PySem PL QG
open L2
def aa (i:Nat):Stmt:=PySem.Challenge.pw_keptnest_k16_kinds_told.main.body.getD i (.Pass ⟨0,0,0,0⟩)
def eS:List Ds:=([⟨"under",aa 5,["question"]⟩,⟨"bound",aa 8,["names","name","meaning"]⟩,⟨"fields_of",aa 10,["row"]⟩,⟨"alike",aa 11,["one","other"]⟩,⟨"fits",aa 12,["whole","kind","rows_of"]⟩,⟨"kind_of",aa 17,["question","kinds","stock"]⟩,⟨"begin",aa 18,["walk","question","around"]⟩,⟨"found_kind",aa 19,["kinds","name","path"]⟩,⟨"bind",aa 20,["walk","question","around"]⟩,⟨"finish",aa 21,["walk","question","around"]⟩,⟨"plain_kind",aa 22,["question","below"]⟩,⟨"row_kind",aa 23,["question","below"]⟩,⟨"part_kind",aa 24,["question","below"]⟩,⟨"number_kind",aa 25,["question","below"]⟩,⟨"none_kind",aa 26,["question","below"]⟩,⟨"one_kind",aa 27,["question","below"]⟩,⟨"both_kind",aa 28,["question","below"]⟩,⟨"last_bag_kind",aa 29,["question","below"]⟩,⟨"same_kind",aa 30,["question","below"]⟩,⟨"under_kind",aa 31,["question","below"]⟩,⟨"truth_kind",aa 32,["question","below"]⟩,⟨"_law_hand",aa 35,["script"]⟩,⟨"_law_draw",aa 36,["hand","limit"]⟩,⟨"_law_name",aa 37,["hand"]⟩,⟨"_law_number",aa 38,["hand"]⟩,⟨"_law_fields",aa 39,["hand","many"]⟩,⟨"_law_kind",aa 40,["hand","deep"]⟩,⟨"_law_dict",aa 41,["hand","many"]⟩,⟨"_law_with_wide",aa 42,["hand","kinds"]⟩,⟨"_law_claim",aa 43,["hand","kinds","stock","deep"]⟩]:List Ds)++([⟨"_law_bound",aa 44,["hand","word","kind","kinds","stock","deep"]⟩,⟨"_law_field",aa 45,["hand","kind","kinds","stock","deep"]⟩,⟨"_law_bag",aa 46,["hand","kind","kinds","stock","deep"]⟩,⟨"_law_asked",aa 47,["hand","kind","kinds","stock","deep"]⟩,⟨"_law_setting",aa 48,["hand"]⟩,⟨"_law_same",aa 49,["found","due"]⟩,⟨"_law_right",aa 50,["question","kind","kinds","stock"]⟩,⟨"law",aa 51,["script"]⟩]:List Ds)
def nm:Nm:=⟨((["under","bound","fields_of","alike","fits","kind_of","begin","found_kind","bind","finish","plain_kind","row_kind","part_kind","number_kind","none_kind","one_kind","both_kind","last_bag_kind","same_kind","under_kind","truth_kind","_law_hand","_law_draw","_law_name","_law_number","_law_fields","_law_kind","_law_dict","_law_with_wide","_law_claim"]:List Str)++(["_law_bound","_law_field","_law_bag","_law_asked","_law_setting","_law_same","_law_right","law"]:List Str)),((["HAVE_MORE","NUMBER","WORD","TRUTH","under","bound","fields_of","alike","fits","kind_of","begin","found_kind","bind","finish","plain_kind","row_kind","part_kind","number_kind","none_kind","one_kind","both_kind","last_bag_kind","same_kind","under_kind","truth_kind","_law_hand","_law_draw","_law_name","_law_number","_law_fields"]:List Str)++(["_law_kind","_law_dict","_law_with_wide","_law_claim","_law_bound","_law_field","_law_bag","_law_asked","_law_setting","_law_same","_law_right","law"]:List Str)),((["Walk"]:List Str)),((["__init__","later","tell","take","run"]:List Str)),((["FINISHED"]:List Str))⟩
def uv:List Ds:=[⟨"__init__",(bC (aa 7) 0),["self"]⟩,⟨"later",(bC (aa 7) 1),["self","step","question","around"]⟩,⟨"tell",(bC (aa 7) 2),["self","result"]⟩,⟨"take",(bC (aa 7) 3),["self","many"]⟩,⟨"run",(bC (aa 7) 4),["self"]⟩]
def fI:List Str:=["num","word","var","table","none","at","times","for","let"]
def da (w:Wo) (x:Str):Addr:=match w.mg x with
 |some (.ref f)=>f
 |_=>0
def ee:List (Str×Str):=[("num","plain_kind"),("word","plain_kind"),("row","row_kind"),("at","part_kind"),("add","number_kind"),("mul","number_kind"),("none","none_kind"),("one","one_kind"),("both","both_kind"),("times","last_bag_kind"),("for","last_bag_kind"),("when","last_bag_kind"),("same","same_kind"),("under","under_kind"),("and","truth_kind"),("or","truth_kind"),("not","truth_kind")]
structure Lw (w:Wo):Prop where
 ok:w.Ok
 hn:w.nm=nm
 hd:w.ds=eS
 hm:w.ms=uv
 g0:w.gv.getD 0 .af=.tup (fI.map D.str)
 g1:w.gv.getD 1 .af=kD .num
 g2:w.gv.getD 2 .af=kD .word
 g3:w.gv.getD 3 .af=.tup [.str "truth"]
 sd:∀p∈ee,w.sd 0 p.1=some (some (.ref (da w p.2)))
 XE:w.gv.getD 10 .af=.ref (da w "begin")
 gd:w.gv.getD 12 .af=.ref (da w "bind")
 Yc:w.gv.getD 13 .af=.ref (da w "finish")
 fw:w.fl (w.ca 0) "waiting"
 XN:w.fl (w.ca 0) "found"
 mc:∀i,0<=i->i<=4->w.mc i=w.ca 0
end Q16
end
section
namespace Q16
open PySem PL QG
open L2
local macro_rules | `(tactic|trivial)=>`(tactic|first |exact l1 |exact l2 |exact l3 |exact l4)
variable {w:Wo}
noncomputable def us:Qn->List Qn
 |.row fs=>fs.map (·.2)
 |.at _ q=>[q]
 |.add a b=>[a,b] |.mul a b=>[a,b]
 |.one q=>[q]
 |.both a b=>[a,b]
 |.times _ q=>[q]
 |.for _ a b=>[a,b] |.jb a b=>[a,b] |.let _ a b=>[a,b]
 |.same a b=>[a,b] |.under a b=>[a,b] |.and a b=>[a,b] |.or a b=>[a,b]
 |.not q=>[q]
 |_=>[]
theorem A8 (O:Lw w) {s:Str}{b:Bool}{M:Mp}{k:Bool->Prop} (hb:((fI.map D.str).any λy=>jM y (.str s))=b) (h:k b):lE (.str s) (w.gv.getD 0 .af) M k:=by
 rw[O.g0];refine⟨rfl,by decide +kernel,?_⟩;rw[hb];exact h
noncomputable def Ou:B:=.cons (.ret (.ite (.cmp .In (.ix (.v 0) (.c (.int 0))) (.g 0)) (.sl (.v 0) (.c (.int 2)) .cf) (.sl (.v 0) (.c (.int 1)) .cf))) .nil
noncomputable def Ov:B:=.cons (.ret (.bi .tuple (.cons (.lc 2 [] (.many [0,1]) (.seq (.ix (.v 0) (.c (.int 1)))) .cf (.v 1)) .nil))) .nil
noncomputable def Ow:B:=.cons (.cond (.cmp .Eq (.ix (.v 0) (.c (.int 0))) (.c (.str "row"))) Ov .nil) Ou
noncomputable def Ox:B:=Ow
theorem Oy:aK ["question"] ["question"] (aj (aa 5)):=⟨rfl,rfl,rfl,by decide +kernel,rfl,by decide +kernel,by decide +kernel⟩
theorem Oz:Ox.ck nm ["question"] (aj (aa 5)) (aH (aa 5))=true:=by decide +kernel
def uw:QN:=λds M Q=>∃q,ds=[qD q]/\(us q).length<100/\Q (.tup ((us q).map qD)) M
theorem A9 (O:Lw w):FO w 0 1 uw:=by
 refine a6 O.ok O.hn _ ⟨"under",aa 5,["question"]⟩ (by rw[O.hd];rfl) {} { cs:=trivial } Oy Oz λds M Q h=>?_;obtain⟨q,rfl,hl,h⟩:=h;cases q with
 |row fs=>
  refine⟨rfl,_,rfl,aC rfl (cy ⟨_,rfl,?_⟩)⟩;refine dj (λxs ys M'=>M'=M/\∃rest pre,xs=cz rest/\fs=pre++rest/\ys=pre.map λp=>qD p.2) ?_ ?_ _ _ _ ⟨rfl,fs,[],rfl,rfl,rfl⟩
  ·rintro ys M' ⟨rfl,rest,pre,e1,e2,rfl⟩;cases rest with
   |cons g r=>obtain⟨x,y⟩:=g;rw[cz]at e1;cases e1
   |nil=>
    rw[aa4]at e2;subst e2;have bn:(fs.map λp=>qD p.2).length<100:=by have:=hl;simp [us]at this ⊢;exact this
    refine⟨aaV,abi bn (by decide),λl hm=>⟨_,.inl ah,_,cM hm,?_⟩⟩;have e:(us (.row fs)).map qD=fs.map λp=>qD p.2:=(by rw[us,List.map_map];rfl);rw[e]at h;exact h
  ·rintro x xs ys M' ⟨rfl,rest,pre,e1,e2,rfl⟩;cases rest with
   |nil=>cases e1
   |cons g r=>
    obtain⟨gx,Yd⟩:=g;rw[cz]at e1;cases e1;have bn:(pre.map λp=>qD p.2).length<100:=by have:=hl;rw[us,e2]at this;simp at this ⊢;lia
    refine⟨aaV,abi bn (by decide),rfl,λN hN=>hN _ _ ⟨rfl,r,pre++[(gx,Yd)],rfl,by rw[e2];simp,by rw[abo];rfl⟩⟩
 |_=>
  refine⟨rfl,_,rfl,aC rfl (aO ⟨_,rfl,?_⟩)⟩;dsimp only[E.w,lG]
  first
  |exact A8 O (b:=true) (by decide +kernel) (cy ⟨_,aG,h⟩)
  |exact A8 O (b:=false) (by decide +kernel) (aO ⟨_,aG,h⟩)
noncomputable def OA:B:=.cons (.ret (.tup (.cons (.c (.str "bag")) (.cons (.ix (.v 0) (.c (.int 1))) .nil)))) .nil
noncomputable def OB:B:=OA
theorem OC:aK ["question","below"] ["question","below"] (aj (aa 26)):=⟨rfl,rfl,rfl,by decide +kernel,rfl,by decide +kernel,by decide +kernel⟩
theorem OD:OB.ck nm ["question","below"] (aj (aa 26)) (aH (aa 26))=true:=by decide +kernel
noncomputable def OE:B:=.cons (.ret (.tup (.cons (.ix (.v 0) (.c (.int 0))) .nil))) .nil
noncomputable def OF:B:=OE
theorem OG:aK ["question","below"] ["question","below"] (aj (aa 22)):=⟨rfl,rfl,rfl,by decide +kernel,rfl,by decide +kernel,by decide +kernel⟩
theorem OH:OF.ck nm ["question","below"] (aj (aa 22)) (aH (aa 22))=true:=by decide +kernel
noncomputable def OI:B:=.cons (.ret (.tup (.cons (.c (.str "bag")) (.cons (.ix (.v 1) (.c (.int 0))) .nil)))) .nil
noncomputable def OJ:B:=OI
theorem OL:aK ["question","below"] ["question","below"] (aj (aa 27)):=⟨rfl,rfl,rfl,by decide +kernel,rfl,by decide +kernel,by decide +kernel⟩
theorem OM:OJ.ck nm ["question","below"] (aj (aa 27)) (aH (aa 27))=true:=by decide +kernel
noncomputable def ON:B:=(.cons (.ret (.g 3)) .nil)
theorem OO:aK ["question","below"] ["question","below"] (aj (aa 32)):=⟨rfl,rfl,rfl,by decide +kernel,rfl,by decide +kernel,by decide +kernel⟩
theorem OP:ON.ck nm ["question","below"] (aj (aa 32)) (aH (aa 32))=true:=by decide +kernel
def dk (f:Qn->List D->D->Prop):QN:=λds M Q=>∃q a ks d,ds=[qD q,.ref a]/\M a=some (.lst ks)/\f q ks d/\Q d M
theorem OQ (O:Lw w):FO w 14 1 (dk λq _ d=>∃k,q=.none k/\d=kD (.aB k)):=by
 refine a6 O.ok O.hn _ ⟨"none_kind",aa 26,["question","below"]⟩ (by rw[O.hd];rfl) {} { cs:=trivial } OC OD λds M Q h=>?_;obtain⟨q,a,ks,d,rfl,ha,⟨k,rfl,rfl⟩,h⟩:=h;exact⟨rfl,_,rfl,l2,_,aG,h⟩
theorem OR (O:Lw w):FO w 10 1 (dk λq _ d=>(∃i,q=.num i)/\d=kD .num\/(∃s,q=.word s)/\d=kD .word):=by
 refine a6 O.ok O.hn _ ⟨"plain_kind",aa 22,["question","below"]⟩ (by rw[O.hd];rfl) {} { cs:=trivial } OG OH λds M Q h=>?_;obtain⟨q,a,ks,d,rfl,ha,⟨⟨i,rfl⟩,rfl⟩ |⟨⟨i,rfl⟩,rfl⟩,h⟩:=h
 ·exact⟨rfl,_,rfl,l1,_,aG,h⟩
 ·exact⟨rfl,_,rfl,l1,_,aG,h⟩
theorem OS (O:Lw w):FO w 15 1 (dk λ_ ks d=>∃k,ks=[kD k]/\d=kD (.aB k)):=by
 refine a6 O.ok O.hn _ ⟨"one_kind",aa 27,["question","below"]⟩ (by rw[O.hd];rfl) {} { cs:=trivial } OL OM λds M Q h=>?_;obtain⟨q,a,ks,d,rfl,ha,⟨k,rfl,rfl⟩,h⟩:=h;exact⟨rfl,.inl ⟨_,_,_,.inl ha,rfl,rfl,l2,_,aG,h⟩⟩
theorem OT (O:Lw w):FO w 20 1 (dk λ_ _ d=>d=.tup [.str "truth"]):=by
 refine a6 O.ok O.hn _ ⟨"truth_kind",aa 32,["question","below"]⟩ (by rw[O.hd];rfl) {} { cs:=trivial } OO OP λds M Q h=>?_;obtain⟨q,a,ks,d,rfl,ha,rfl,h⟩:=h;refine⟨rfl,_,aG,?_⟩;show Q (w.gv.getD 3 .af) M;rw[O.g3];exact h
variable {w:Wo}
theorem Ba {pre:List D}{d:D}:cg (pre++[d]) (-1)=some d:=by
 unfold cg eB;rw[if_neg (by decide)];have:(pre++[d]).length=pre.length+1:=by simp
 rw[this,if_pos (by lia)];show (pre++[d])[((pre.length+1:Nat)+(-1:Int)).toNat]?=some d;rw[show ((pre.length+1:Nat)+(-1:Int)).toNat=pre.length by lia];simp
theorem ux {a b:Addr}{xs ys:List D}{M:Mp}{k:Bool->Prop}{d e:List Dt}{c:Bool} (h1:M a=some (.lst xs)) (h2:M b=some (.lst ys)) (h3:aN xs=some d) (h4:aN ys=some e) (h5:aV d<bF) (hb:decide (xs=ys)=c) (q:k c):cT (.ref a) (.ref b) M k:=
 KP h1 h2 h3 h4 h5 (hb ▸ q)
theorem fJ {a b:Kd}:aN [kD a,kD b]=some [kT a,kT b]:=by rw[aN,aN,aN,jc,jc];rfl
noncomputable def OU:B:=.cons (.ret (.ite (.cmp .Eq (.ix (.ix (.v 1) (.neg (.c (.int 1)))) (.c (.int 0))) (.c (.str "bag"))) (.ix (.v 1) (.neg (.c (.int 1)))) (.c .af))) .nil
noncomputable def OV:B:=OU
theorem OW:aK ["question","below"] ["question","below"] (aj (aa 29)):=⟨rfl,rfl,rfl,by decide +kernel,rfl,by decide +kernel,by decide +kernel⟩
theorem OX:OV.ck nm ["question","below"] (aj (aa 29)) (aH (aa 29))=true:=by decide +kernel
noncomputable def OY:B:=.cons (.ret (.ite (.cmp .Eq (.v 1) (.lst (.cons (.g 1) (.cons (.g 1) .nil)))) (.g 1) (.c .af))) .nil
noncomputable def OZ:B:=OY
theorem O0:aK ["question","below"] ["question","below"] (aj (aa 25)):=⟨rfl,rfl,rfl,by decide +kernel,rfl,by decide +kernel,by decide +kernel⟩
theorem O1:OZ.ck nm ["question","below"] (aj (aa 25)) (aH (aa 25))=true:=by decide +kernel
noncomputable def O2:B:=.cons (.ret (.ite (.cmp .Eq (.v 1) (.lst (.cons (.g 1) (.cons (.g 1) .nil)))) (.g 3) (.c .af))) .nil
noncomputable def O3:B:=O2
theorem O4:aK ["question","below"] ["question","below"] (aj (aa 31)):=⟨rfl,rfl,rfl,by decide +kernel,rfl,by decide +kernel,by decide +kernel⟩
theorem O5:O3.ck nm ["question","below"] (aj (aa 31)) (aH (aa 31))=true:=by decide +kernel
noncomputable def O6:B:=.cons (.put (.v 3) (.v 1) (.v 2)) (.cons (.ret (.v 3)) .nil)
noncomputable def O7:B:=(.cons (.set 3 (.bi .dict (.cons (.v 0) .nil))) O6)
theorem O8:aK ["names","name","meaning","more"] ["names","name","meaning"] (aj (aa 8)):=⟨rfl,rfl,rfl,by decide +kernel,rfl,by decide +kernel,by decide +kernel⟩
theorem O9:O7.ck nm ["names","name","meaning","more"] (aj (aa 8)) (aH (aa 8))=true:=by decide +kernel
noncomputable def Pa:B:=.cons (.ret (.lc 2 [] (.many [0,1]) (.seq (.ix (.v 0) (.c (.int 1)))) .cf (.v 0))) .nil
noncomputable def Pb:B:=Pa
theorem Pc:aK ["row"] ["row"] (aj (aa 10)):=⟨rfl,rfl,rfl,by decide +kernel,rfl,by decide +kernel,by decide +kernel⟩
theorem Pd:Pb.ck nm ["row"] (aj (aa 10)) (aH (aa 10))=true:=by decide +kernel
noncomputable def Pe:B:=.cons (.ret (.tup (.cons (.c (.str "row")) (.cons (.bi .tuple (.cons (.lc 2 [] (.many [0,1]) (.ox (.ix (.v 0) (.c (.int 1))) (.v 1)) .cf (.tup (.cons (.ix (.v 0) (.c (.int 0))) (.cons (.v 1) .nil)))) .nil)) .nil)))) .nil
noncomputable def Pf:B:=Pe
theorem Pg:aK ["question","below"] ["question","below"] (aj (aa 23)):=⟨rfl,rfl,rfl,by decide +kernel,rfl,by decide +kernel,by decide +kernel⟩
theorem Ph:Pf.ck nm ["question","below"] (aj (aa 23)) (aH (aa 23))=true:=by decide +kernel
noncomputable def Pj:B:=.cons (.ret (.ou (.bi .dict (.cons (.ix (.ix (.v 1) (.c (.int 0))) (.c (.int 1))) .nil)) (.ix (.v 0) (.c (.int 1))))) .nil
noncomputable def Pk:B:=.cons (.cond (.cmp .NotEq (.ix (.ix (.v 1) (.c (.int 0))) (.c (.int 0))) (.c (.str "row"))) (.cons (.ret (.c .af)) .nil) .nil) Pj
noncomputable def Pm:B:=Pk
theorem Pn:aK ["question","below"] ["question","below"] (aj (aa 24)):=⟨rfl,rfl,rfl,by decide +kernel,rfl,by decide +kernel,by decide +kernel⟩
theorem Pp:Pm.ck nm ["question","below"] (aj (aa 24)) (aH (aa 24))=true:=by decide +kernel
theorem Bb (O:Lw w):FO w 17 1 (dk λ_ ks d=>∃pre k,ks=pre++[kD (.aB k)]/\d=kD (.aB k)):=by
 refine a6 O.ok O.hn _ ⟨"last_bag_kind",aa 29,["question","below"]⟩ (by rw[O.hd];rfl) {} { cs:=trivial } OW OX λds M Q h=>?_;obtain⟨q,a,ks,d,rfl,ha,⟨pre,k,rfl,rfl⟩,h⟩:=h;exact⟨rfl,.inl ⟨_,_,_,.inl ha,rfl,Ba,_,rfl,aC rfl (cy (.inl ⟨_,_,_,.inl ha,rfl,Ba,_,aG,h⟩))⟩⟩
theorem pf (O:Lw w):[w.gv.getD 1 .af,w.gv.getD 1 .af]=[kD .num,kD .num]:=by rw[O.g1]
theorem Pq (O:Lw w):FO w 13 1 (dk λ_ ks d=>ks=[kD .num,kD .num]/\d=kD .num):=by
 refine a6 O.ok O.hn _ ⟨"number_kind",aa 25,["question","below"]⟩ (by rw[O.hd];rfl) {} { cs:=trivial } O0 O1 λds M Q h=>?_;obtain⟨q,a,ks,d,rfl,ha,⟨rfl,rfl⟩,h⟩:=h;refine⟨rfl,l2,λl hl=>ux (c:=true) (d:=[kT .num,kT .num]) (e:=[kT .num,kT .num]) (by rw[ao (aJ ha hl)];exact ha) ah fJ ?_ (by decide +kernel) ?_ (cy ⟨_,cM hl,?_⟩)⟩
 ·show aN [w.gv.getD 1 .af,w.gv.getD 1 .af]=_;rw[pf O];exact fJ
 ·show decide ([kD .num,kD .num]=[w.gv.getD 1 .af,w.gv.getD 1 .af])=_;rw[pf O];simp
 ·show Q (w.gv.getD 1 .af) M;rw[O.g1];exact h
theorem Pr (O:Lw w):FO w 19 1 (dk λ_ ks d=>ks=[kD .num,kD .num]/\d=.tup [.str "truth"]):=by
 refine a6 O.ok O.hn _ ⟨"under_kind",aa 31,["question","below"]⟩ (by rw[O.hd];rfl) {} { cs:=trivial } O4 O5 λds M Q h=>?_;obtain⟨q,a,ks,d,rfl,ha,⟨rfl,rfl⟩,h⟩:=h;refine⟨rfl,l2,λl hl=>ux (c:=true) (d:=[kT .num,kT .num]) (e:=[kT .num,kT .num]) (by rw[ao (aJ ha hl)];exact ha) ah fJ ?_ (by decide +kernel) ?_ (cy ⟨_,cM hl,?_⟩)⟩
 ·show aN [w.gv.getD 1 .af,w.gv.getD 1 .af]=_;rw[pf O];exact fJ
 ·show decide ([kD .num,kD .num]=[w.gv.getD 1 .af,w.gv.getD 1 .af])=_;rw[pf O];simp
 ·show Q (w.gv.getD 3 .af) M;rw[O.g3];exact h
def Bc:QN:=λds M Q=>∃a kvs x d,ds=[.ref a,.str x,d]/\M a=some (.ai kvs)/\kvs.length<1000/\∀p,M p=none->Q (.ref p) (up M p (.ai (bJ kvs (.inr x) d)))
theorem Pt (O:Lw w):FO w 1 1 Bc:=by
 refine a6 O.ok O.hn _ ⟨"bound",aa 8,["names","name","meaning"]⟩ (by rw[O.hd];rfl) {} { cs:=trivial } O8 O9 λds M Q h=>?_;obtain⟨a,kvs,x,d,rfl,ha,hl,h⟩:=h;refine⟨rfl,.inl ⟨kvs,ha,λp hp=>.inr ⟨_,_,ah,rfl,abi hl (by decide),_,aG,?_⟩⟩⟩;rw[AY];exact h p hp
def Bd:QN:=λds M Q=>∃fs,ds=[kD (.row fs)]/\fs.length<1000/\∀l,M l=none->Q (.ref l) (up M l (.lst (fs.map λp=>.str p.1)))
theorem Pu (O:Lw w):FO w 2 1 Bd:=by
 refine a6 O.ok O.hn _ ⟨"fields_of",aa 10,["row"]⟩ (by rw[O.hd];rfl) {} { cs:=trivial } Pc Pd λds M Q h=>?_;obtain⟨fs,rfl,hl,h⟩:=h;refine⟨rfl,_,rfl,?_⟩;refine dj (λxs ys M'=>M'=M/\∃rest pre,xs=aM rest/\fs=pre++rest/\ys=pre.map λp=>.str p.1) ?_ ?_ _ _ _ ⟨rfl,fs,[],rfl,rfl,rfl⟩
 ·rintro ys M' ⟨rfl,rest,pre,e1,e2,rfl⟩;cases rest with
  |cons g r=>obtain⟨x,y⟩:=g;rw[aM]at e1;cases e1
  |nil=>
   rw[aa4]at e2;subst e2;exact⟨aaV,abi (by rw[aaN];exact hl) (by decide),λl hm=>⟨_,aG,h l hm⟩⟩
 ·rintro x xs ys M' ⟨rfl,rest,pre,e1,e2,rfl⟩;cases rest with
  |nil=>cases e1
  |cons g r=>
   obtain⟨gx,Yd⟩:=g;rw[aM]at e1;cases e1;have bn:(pre.map λp=>D.str p.1).length<1000:=(by rw[e2]at hl;simp at hl ⊢;lia);exact⟨aaV,abi bn (by decide),rfl,λN hN=>hN _ _ ⟨rfl,r,pre++[(gx,Yd)],rfl,by rw[e2];simp,by rw[abo];rfl⟩⟩
variable {w:Wo}
theorem mm {x:Str}{k:Kd}:∀{a:List (Str×Kd)},aM (a++[(x,k)])=aM a++[.tup [.str x,kD k]]
 |[]=>by rw[List.nil_append,aM,aM];rfl
 |(y,l)::r=>by rw[List.cons_append,aM,aM,mm];rfl
theorem fK:∀{a:List (Str×Kd)},(aM a).length=a.length
 |[]=>by rw[aM];rfl
 |(_,_)::r=>by rw[aM,aaS,aaS,fK]
theorem Pw (O:Lw w):FO w 11 1 (dk λq ks d=>∃fs κs,q=.row fs/\ks=κs.map kD/\κs.length=fs.length/\fs.length<100/\d=kD (.row ((fs.map (·.1)).zip κs))):=by
 refine a6 O.ok O.hn _ ⟨"row_kind",aa 23,["question","below"]⟩ (by rw[O.hd];rfl) {} { cs:=trivial } Pg Ph λds M Q h=>?_;obtain⟨q,a,ks,d,rfl,ha,⟨fs,κs,rfl,rfl,hl,hf,rfl⟩,h⟩:=h;refine⟨rfl,_,rfl,_,.inl ha,?_⟩;refine dj (λxs ys M'=>M'=M/\∃gt κ2 pre,xs=acf (λx y=>D.tup [x,y]) (cz gt) (κ2.map kD)/\κ2.length=gt.length/\(fs.map (·.1)).zip κs=pre++(gt.map (·.1)).zip κ2/\ys=aM pre/\pre.length+gt.length<100) ?_ ?_ _ _ _ ⟨rfl,fs,κs,[],rfl,hl,rfl,rfl,by simpa using hf⟩
 ·rintro ys M' ⟨rfl,gt,κ2,pre,e1,e2,e3,rfl,e4⟩;have:gt=[]:=by
   cases gt with
   |nil=>rfl
   |cons g r=>cases κ2 with
    |nil=>cases e2
    |cons k r2=>obtain⟨x,y⟩:=g;rw[cz]at e1;cases e1
  subst this;rw[List.map_nil,List.zip_nil_left,aa4]at e3;refine⟨.inl ha,abi (by rw[fK];simpa using e4) (by decide:100<sizeLine),λl hl=>⟨_,.inl ah,l2,_,cM hl,?_⟩⟩;rw[e3]at h;exact h
 ·rintro x xs ys M' ⟨rfl,gt,κ2,pre,e1,e2,e3,rfl,e4⟩;cases gt with
  |nil=>rw[cz]at e1;cases e1
  |cons g r=>
   cases κ2 with
   |nil=>cases e2
   |cons k r2=>
    obtain⟨gx,Yd⟩:=g;rw[cz]at e1;cases e1;rw[aaS]at e4;refine⟨.inl ha,abi (by rw[fK];lia:_<100) (by decide),rfl,λN hN=>⟨_,rfl,l2,?_⟩⟩;have:=hN (aM pre++[.tup [.str gx,kD k]]) _ ⟨rfl,r,r2,pre++[(gx,k)],rfl,by simpa using e2,by rw[e3];simp,by rw[mm],by simp;lia⟩;exact this
theorem Be:∀{fs pre:Sc},((pre++fs).map (·.1)).Nodup->(aE fs).foldl (λam kv=>bJ am kv.1 kv.2) (aE pre)=aE (pre++fs)
 |[],pre,_=>by rw[aa4];rfl
 |(x,k)::r,pre,nd=>by
  have nx:x ∉ pre.map (·.1):=by
   rw[abo,aaR]at nd;exact λz=>(List.nodup_append.mp nd).2.2 x z x aaO rfl
  show (aE r).foldl _ (bJ (aE pre) (.inr x) (kD k))=_;rw[A7 nx,Be (by simpa using nd)];simp
theorem Bf:∀{fs:Sc},aM fs=(aE fs).map λkv=>.tup [.at (kV kv.1),kv.2]
 |[]=>by rw[aM];rfl
 |(x,k)::r=>by rw[aM,Bf];rfl
theorem Px (O:Lw w):FO w 12 1 (dk λq ks d=>∃f q' fs κ,q=.at f q'/\ks=[kD (.row fs)]/\(fs.map (·.1)).Nodup/\lk f fs=some κ/\d=kD κ):=by
 refine a6 O.ok O.hn _ ⟨"part_kind",aa 24,["question","below"]⟩ (by rw[O.hd];rfl) {} { cs:=trivial } Pn Pp λds M Q h=>?_;obtain⟨q,a,ks,d,rfl,ha,⟨f,q',fs,κ,rfl,rfl,nd,hk,rfl⟩,h⟩:=h;refine⟨rfl,.inl ⟨_,_,_,.inl ha,rfl,rfl,_,rfl,aC rfl (aO (.inl ⟨_,_,_,.inl ha,rfl,rfl,_,rfl,aE fs,Bf,λp hp=>?_⟩))⟩⟩;refine⟨_,ah,_,rfl,_,_,ah,rfl,_,cM hp,?_⟩;have e:=Be (fs:=fs) (pre:=[]) nd;have e':(aE fs).foldl (λam kv=>bJ am kv.1 kv.2) []=aE fs:=e;rw[e',dP hk];exact h
variable {w:Wo}
noncomputable def j6 (w:Wo) (a b:Addr):MO:=.ins (w.ca 0) [("waiting",.ref a),("found",.ref b)]
theorem Py {M:Mp}{b:Addr}{o:MO} (h:M b=some o):up M b o=M:=by
 funext a;unfold up;split
 ·rename_i e;rw[e,h]
 ·rfl
noncomputable def Pz:B:=.cons (.ex (.mt .append (.fld (.v 0) "waiting") (.cons (.tup (.cons (.v 1) (.cons (.v 2) (.cons (.v 3) .nil)))) .nil))) .nil
noncomputable def PB:B:=Pz
theorem PC:aK ["self","step","question","around"] ["self","step","question","around"] (aj (bC (aa 7) 1)):=⟨rfl,rfl,rfl,by decide +kernel,rfl,by decide +kernel,by decide +kernel⟩
theorem PD:PB.ck nm ["self","step","question","around"] (aj (bC (aa 7) 1)) (aH (bC (aa 7) 1))=true:=by decide +kernel
noncomputable def PF:B:=.cons (.ex (.mt .append (.fld (.v 0) "found") (.cons (.v 1) .nil))) .nil
noncomputable def PH:B:=PF
theorem PJ:aK ["self","result"] ["self","result"] (aj (bC (aa 7) 2)):=⟨rfl,rfl,rfl,by decide +kernel,rfl,by decide +kernel,by decide +kernel⟩
theorem PK:PH.ck nm ["self","result"] (aj (bC (aa 7) 2)) (aH (bC (aa 7) 2))=true:=by decide +kernel
noncomputable def PM:B:=.cons (.set 2 (.lc 1 [0] (.one 0) (.dR (.v 1)) .cf (.mt .pop (.fld (.v 1) "found") .nil))) (.cons (.ret (.rev (.v 2))) .nil)
noncomputable def PN:B:=PM
theorem PQ:aK ["self","many","taken"] ["self","many"] (aj (bC (aa 7) 3)):=⟨rfl,rfl,rfl,by decide +kernel,rfl,by decide +kernel,by decide +kernel⟩
theorem PR:PN.ck nm ["self","many","taken"] (aj (bC (aa 7) 3)) (aH (bC (aa 7) 3))=true:=by decide +kernel
noncomputable def PU:B:=.cons (.lK (.v 0) "waiting" (.lst .nil)) (.cons (.lK (.v 0) "found" (.lst .nil)) .nil)
noncomputable def PV:B:=PU
theorem PX:aK ["self"] ["self"] (aj (bC (aa 7) 0)):=⟨rfl,rfl,rfl,by decide +kernel,rfl,by decide +kernel,by decide +kernel⟩
theorem PY:PV.ck nm ["self"] (aj (bC (aa 7) 0)) (aH (bC (aa 7) 0))=true:=by decide +kernel
def pg (w:Wo):QN:=λds M Q=>∃x a b s q r xs,ds=[.ref x,s,q,r]/\M x=some (j6 w a b)/\M a=some (.lst xs)/\xs.length<sizeLine/\Q .af (up M a (.lst (xs++[.tup [s,q,r]])))
theorem uy (O:Lw w):dO w 1 1 (pg w):=by
 refine mi O.ok O.hn _ ⟨"later",(bC (aa 7) 1),["self","step","question","around"]⟩ (by rw[O.hm];rfl) {} { cs:=trivial } PC PD λds M Q h=>?_;obtain⟨x,a,b,s,q,r,xs,rfl,hx,ha,hl,h⟩:=h;exact⟨rfl,_,_,_,hx,O.fw,rfl,⟨_,.inl ha⟩,l3,_,ha,hl,_,aG,h⟩
def uz (w:Wo):QN:=λds M Q=>∃x a b d xs,ds=[.ref x,d]/\M x=some (j6 w a b)/\M b=some (.lst xs)/\xs.length<sizeLine/\Q .af (up M b (.lst (xs++[d])))
theorem Bg (O:Lw w):dO w 2 1 (uz w):=by
 refine mi O.ok O.hn _ ⟨"tell",(bC (aa 7) 2),["self","result"]⟩ (by rw[O.hm];rfl) {} { cs:=trivial } PJ PK λds M Q h=>?_;obtain⟨x,a,b,d,xs,rfl,hx,hb,hl,h⟩:=h;exact⟨rfl,_,_,_,hx,O.XN,rfl,⟨_,.inl hb⟩,_,hb,hl,_,aG,h⟩
def uA (w:Wo):QN:=λds M Q=>∃x a b n fs ks,ds=[.ref x,.int n]/\M x=some (j6 w a b)/\M b=some (.lst (fs++ks))/\(ks.length:Int)=n/\n<1000/\∀l,M l=none->Q (.ref l) (up (up M b (.lst fs)) l (.lst ks))
theorem Bh (O:Lw w):dO w 3 1 (uA w):=by
 refine mi O.ok O.hn _ ⟨"take",(bC (aa 7) 3),["self","many"]⟩ (by rw[O.hm];rfl) {} { cs:=trivial } PQ PR λds M Q h=>?_;obtain⟨x,a,b,n,fs,ks,rfl,hx,hb,hn,hl,h⟩:=h;have o0:x≠b:=by rintro rfl;rw[hx]at hb;cases hb
 refine⟨rfl,Int.le_trans (by decide) (by lia:0<=n),Int.lt_trans hl (by decide),?_⟩;refine dj (λxs ys M'=>xs.length<=ks.length/\M'=up M b (.lst (fs++ks.take xs.length))/\ys=(ks.drop xs.length).reverse) ?_ ?_ _ _ _ ⟨?_,?_,?_⟩
 ·rintro ys M' ⟨_,rfl,rfl⟩;refine⟨aaV,aaP (by simp;lia:_<=1000) (by decide),λl hl=>⟨_,.inl ah,λl' bn=>?_⟩⟩;obtain⟨n1,n2⟩:=cm hl;obtain⟨n3,n4⟩:=cm bn;obtain⟨n5,ZU⟩:=cm n4;refine⟨_,?_,h l' ZU⟩;intro c u e;by_cases z:c=l'
  ·subst z;rw[ah]at e ⊢;rw[<- e];simp
  ·rw[ao z]at e ⊢;by_cases z2:c=b
   ·subst z2;rw[ah]at e;rw[ao (abx n1),ah,<- e];simp
   ·rw[ao z2]at e;rw[ao (aJ e n2),ao z2];exact e
 ·rintro d xs ys M' ⟨h1,rfl,rfl⟩;rw[aaS]at h1 ⊢;refine⟨aaV,aaP (by simp;lia:_<=1000) (by decide),λN hN=>?_⟩;have bV:xs.length<ks.length:=by lia
  refine⟨_,_,.ref b,by rw[ao o0];exact hx,O.XN,rfl,⟨_,.inl ah⟩,_,ks[xs.length],ah,?_,?_⟩
  ·have:(fs++ks.take (xs.length+1)).length-1=fs.length+xs.length:=(by simp;lia);rw[this,abc (by lia),Nat.add_sub_cancel_left,List.getElem?_take,if_pos (by lia),aaI bV]
  ·have e1:(fs++ks.take (xs.length+1)).dropLast=fs++ks.take xs.length:=by
    rw[List.take_succ,aaI bV,Option.toList_some,<- abD,List.dropLast_concat]
   rw[e1,AY];refine hN _ _ ⟨by lia,rfl,?_⟩;rw[aco bV,ab5]
 ·unfold dB;simp;lia
 ·have:(dB 0 n.toNat).length=ks.length:=by unfold dB;simp;lia
  rw[this,List.take_length,Py hb]
 ·have:(dB 0 n.toNat).length=ks.length:=by unfold dB;simp;lia
  rw[this,List.drop_length];rfl
def Bj (w:Wo):QN:=λds M Q=>∃x,ds=[.ref x]/\M x=some (.ins (w.ca 0) [])/\∀a b M',Up x M M'->M a=none->M b=none->a≠b->M' x=some (j6 w a b)->M' a=some (.lst [])->M' b=some (.lst [])->Q .af M'
theorem PZ (O:Lw w):dO w 0 1 (Bj w):=by
 refine mi O.ok O.hn _ ⟨"__init__",(bC (aa 7) 0),["self"]⟩ (by rw[O.hm];rfl) {} { cs:=trivial } PX PY λds M Q h=>?_;obtain⟨x,rfl,hx,h⟩:=h;refine⟨rfl,abA _,λa ha=>?_⟩;have na:x≠a:=aJ hx ha;refine⟨_,_,by rw[ao na];exact hx,O.fw,by decide,abA _,λb hb=>?_⟩;obtain⟨n1,n2⟩:=cm hb;obtain⟨n3,n4⟩:=cm n2;refine⟨_,[("waiting",.ref a)],by rw[ao (abx n1)];exact ah,O.XN,(show 1<1000 by decide),_,aG,h a b _ ?_ ha n4 (abx n3) ah ?_ ?_⟩
 ·exact (((Up.rfl.new ha).put).new hb).put
 ·rw[ao (abx na),ao (abx n3),ao (abx na)];exact ah
 ·rw[ao n1];exact ah
variable {w:Wo}
theorem FO.dC {i k:Nat}{sp:QN}{d:Ds} (h:FO w i k sp) (hd:w.ds[i]?=some d):mh w k (da w d.x) sp:=by
 obtain⟨d',f,fd,h1,D,F⟩:=h;rw[hd]at h1;cases h1;have e:da w d.x=f:=by unfold da;rw[D.mg]
 rw[e];intro X e1 e2 e3 e4 e5;exact .inl ⟨fd,d.ps,by rw[e1,e2,e3,e4,e5];exact F,by rw[e3];exact D.kp,by rw[e3];exact D.b⟩
noncomputable def wd:Qn->Str
 |.num _=>"num" |.word _=>"word" |.var _=>"var" |.tab _=>"table" |.none _=>"none" |.row _=>"row" |.at _ _=>"at"
 |.add _ _=>"add" |.mul _ _=>"mul" |.one _=>"one" |.both _ _=>"both" |.times _ _=>"times" |.for _ _ _=>"for"
 |.jb _ _=>"when" |.let _ _ _=>"let" |.same _ _=>"same" |.under _ _=>"under" |.and _ _=>"and" |.or _ _=>"or" |.not _=>"not"
theorem Bk (q:Qn):∃r,qD q=.tup (.str (wd q)::r):=by cases q <;> exact⟨_,rfl⟩
theorem ph {d:D}{r:List D}:cg (d::r) 0=some d:=by
 unfold cg eB;rw[if_pos (by decide),if_pos (by rw[aaS];lia)];rfl
noncomputable def fL:List (Str×(Qn->List D->D->Prop)):=[
 ("plain_kind",λq _ d=>(∃i,q=.num i)/\d=kD .num\/(∃s,q=.word s)/\d=kD .word),
 ("row_kind",λq ks d=>∃fs κs,q=.row fs/\ks=κs.map kD/\κs.length=fs.length/\fs.length<100/\d=kD (.row ((fs.map (·.1)).zip κs))),
 ("part_kind",λq ks d=>∃f q' fs κ,q=.at f q'/\ks=[kD (.row fs)]/\(fs.map (·.1)).Nodup/\lk f fs=some κ/\d=kD κ),
 ("number_kind",λ_ ks d=>ks=[kD .num,kD .num]/\d=kD .num),
 ("none_kind",λq _ d=>∃k,q=.none k/\d=kD (.aB k)),
 ("one_kind",λ_ ks d=>∃k,ks=[kD k]/\d=kD (.aB k)),
 ("both_kind",λ_ ks d=>∃k,kz k<900/\ks=[kD (.aB k),kD (.aB k)]/\d=kD (.aB k)),
 ("last_bag_kind",λ_ ks d=>∃pre k,ks=pre++[kD (.aB k)]/\d=kD (.aB k)),
 ("same_kind",λ_ ks d=>(ks=[kD .num,kD .num]\/ks=[kD .word,kD .word])/\d=.tup [.str "truth"]),
 ("under_kind",λ_ ks d=>ks=[kD .num,kD .num]/\d=.tup [.str "truth"]),
 ("truth_kind",λ_ _ d=>d=.tup [.str "truth"])]
theorem dD {i:Nat}{a b:D} (h1:nm.aL[i]?≠some "waiting") (h2:nm.aL[i]?≠some "found"):∀p∈[(("waiting" : Str),a),("found",b)],¬nm.aL[i]?=some p.1:=by
 intro p hp;simp only[aa0,aa2,or_false]at hp;rcases hp with rfl |rfl
 ·exact h1
 ·exact h2
def P0 (w:Wo) (f:Addr) (sp:QN):Prop:=∃p∈fL,f=da w p.1/\sp=dk p.2
def mq (q:Qn) (ks:List D) (d:D):Prop:=(∃ds,d=.tup ds)/\∃p∈fL,(wd q,p.1)∈ee/\p.2 q ks d
def pj (w:Wo):QN:=λds M Q=>∃x a b q r fs ks d,ds=[.ref x,qD q,r]/\M x=some (j6 w a b)/\M b=some (.lst (fs++ks))/\ks.length=(if wd q="for" then 1 else (us q).length)/\(us q).length<100/\fs.length<1000000/\mq q ks d /\
 ∀M',Up b M M'->M' b=some (.lst (fs++[d]))->Q .af M'
noncomputable def P1:B:=.cons (.cond (.cmp .Is (.v 5) (.c .af)) (.cons .dead .nil) .nil) (.cons (.ex (.c6 2 (.v 0) (.cons (.v 5) .nil))) .nil)
noncomputable def Bl:B:=.cons (.set 5 (.app (.sd 0 (.v 3)) (.cons (.v 1) (.cons (.c6 3 (.v 0) (.cons (.v 4) .nil)) .nil)))) P1
noncomputable def P2:B:=.cons (.set 4 (.ite (.cmp .Eq (.v 3) (.c (.str "for"))) (.c (.int 1)) (.bi .len (.cons (.call 0 (.cons (.v 1) .nil)) .nil)))) Bl
noncomputable def P4:B:=(.cons (.set 3 (.ix (.v 1) (.c (.int 0)))) P2)
theorem P5:aK ["walk","question","around","word","many","kind"] ["walk","question","around"] (aj (aa 21)):=⟨rfl,rfl,rfl,by decide +kernel,rfl,by decide +kernel,by decide +kernel⟩
theorem P6:P4.ck nm ["walk","question","around","word","many","kind"] (aj (aa 21)) (aH (aa 21))=true:=by decide +kernel
noncomputable abbrev Y' (w:Wo):a' w:={ cs:=[(0,uw)],ms:=[(2,uz w),(3,uA w)],ca:=P0 w }
theorem P7 (O:Lw w) (YC:∀p∈fL,mh w 5 (da w p.1) (dk p.2)):FO w 9 6 (pj w):=by
 refine a6 O.ok O.hn _ ⟨"finish",aa 21,["walk","question","around"]⟩ (by rw[O.hd];rfl) (Y' w) { cs:=⟨⟨1,by decide,A9 O⟩,trivial⟩,ms:=⟨⟨1,by decide,Bg O⟩,⟨1,by decide,Bh O⟩,trivial⟩,ca:=?_ } P5 P6 λds M Q h=>?_
 ·rintro f sp ⟨p,hp,rfl,rfl⟩;exact YC p hp
 obtain⟨x,a,b,q,r,fs,ks,d,rfl,hx,hb,hl,hu,pc,⟨⟨dd,NE⟩,p,hp,ht,hd⟩,h⟩:=h;obtain⟨rr,e⟩:=Bk q;have WT:ks.length<100:=by rw[hl];split <;> lia
 have o0:x≠b:=by rintro rfl;rw[hx]at hb;cases hb
 refine⟨rfl,?_⟩;rw[e];refine⟨_,ph,?_⟩;have go:∀n:Int,(ks.length:Int)=n->B.w (Y' w).wd nm.aL Bl (bS Q) [some (.ref x),some (.tup (.str (wd q)::rr)),some r,some (.str (wd q)),some (.int n),none] M:=by
  intro n hn;refine⟨_,O.sd _ ht,_,⟨p,hp,rfl,rfl⟩,[("waiting",.ref a),("found",.ref b)],?_,?_,x,a,b,n,fs,ks,rfl,hx,hb,hn,by lia,λl hl=>?_⟩
  ·rw[O.mc _ (by decide) (by decide)];exact hx
  ·exact dD (by decide +kernel) (by decide +kernel)
  refine⟨q,l,ks,d,by rw[e],ah,hd,?_⟩;have AC:b≠l:=aJ hb hl;have AT:x≠l:=aJ hx hl;subst NE;refine⟨[("waiting",.ref a),("found",.ref b)],?_,?_,x,a,b,_,fs,rfl,?_,?_,abi pc (by decide),?_⟩
  ·rw[O.mc _ (by decide) (by decide),ao AT,ao o0];exact hx
  ·exact dD (by decide +kernel) (by decide +kernel)
  ·rw[ao AT,ao o0];exact hx
  ·rw[ao AC];exact ah
  ·exact⟨_,aG,h _ ((Up.rfl.put.new (by rw[ao (abx AC)];exact hl)).put) ah⟩
 refine aC rfl (a9 (λz=>go 1 ?_) λz=>?_)
 ·have z:=V.str.inj (of_decide_eq_true z);rw[hl,if_pos z];rfl
 ·refine⟨q,by rw[e],hu,go _ ?_⟩;have z:¬wd q="for":=λy=>z (decide_eq_true (congrArg V.str y));rw[hl,if_neg z,aaN]
variable {w:Wo}
noncomputable def P8:B:=.cons (.cond (.cmp .NotIn (.v 1) (.v 0)) (.cons .dead .nil) .nil) (.cons (.ret (.ix (.v 0) (.v 1))) .nil)
noncomputable def P9:B:=P8
theorem P':aK ["kinds","name","path"] ["kinds","name","path"] (aj (aa 19)):=⟨rfl,rfl,rfl,by decide +kernel,rfl,by decide +kernel,by decide +kernel⟩
theorem Qa:P9.ck nm ["kinds","name","path"] (aj (aa 19)) (aH (aa 19))=true:=by decide +kernel
def Bm:QN:=λds M Q=>∃a kvs x p d,ds=[.ref a,.str x,p]/\M a=some (.ai kvs)/\bc kvs (.inr x)=some d/\Q d M
theorem Qb (O:Lw w):FO w 7 1 Bm:=by
 refine a6 O.ok O.hn _ ⟨"found_kind",aa 19,["kinds","name","path"]⟩ (by rw[O.hd];rfl) {} { cs:=trivial } P' Qa λds M Q h=>?_;obtain⟨a,kvs,x,p,d,rfl,ha,hv,h⟩:=h;refine⟨rfl,.inr (.inl ⟨_,_,ha,rfl,?_⟩)⟩;rw[hv];exact .inr ⟨_,_,_,ha,rfl,hv,_,aG,h⟩
def aS (a b:Addr) (M X:Mp):Prop:=∀c u,c≠a->c≠b->M c=some u->X c=some u
theorem aS.rfl {a b:Addr}{M:Mp}:aS a b M M:=λ_ _ _ _ h=>h
theorem aS.new {a b l:Addr}{M X:Mp}{o:MO} (h:aS a b M X) (hl:X l=none):aS a b M (up X l o):=λc u n m e=>by rw[ao (aJ (h c u n m e) hl)];exact h c u n m e
theorem aS.a {a b:Addr}{M X:Mp}{o:MO} (h:aS a b M X):aS a b M (up X a o):=λc u n m e=>by rw[ao n];exact h c u n m e
theorem aS.b {a b:Addr}{M X:Mp}{o:MO} (h:aS a b M X):aS a b M (up X b o):=λc u n m e=>by rw[ao m];exact h c u n m e
theorem aS.trans {a b:Addr}{A B C:Mp} (h:aS a b A B) (g:aS a b B C):aS a b A C:=λc u n m e=>g c u n m (h c u n m e)
structure Wk (w:Wo) (M:Mp) (x a b:Addr) (ws fs:List D):Prop where
 hx:M x=some (j6 w a b)
 ha:M a=some (.lst ws)
 hb:M b=some (.lst fs)
 ne:a≠b
theorem Wk.ZV {M:Mp}{x a b:Addr}{ws fs:List D} (h:Wk w M x a b ws fs):x≠a:=by rintro rfl;have:=h.hx;rw[h.ha]at this;cases this
theorem Wk.Za {M:Mp}{x a b:Addr}{ws fs:List D} (h:Wk w M x a b ws fs):x≠b:=by rintro rfl;have:=h.hx;rw[h.hb]at this;cases this
theorem Wk.new {M:Mp}{x a b l:Addr}{ws fs:List D}{o:MO} (h:Wk w M x a b ws fs) (hl:M l=none):Wk w (up M l o) x a b ws fs:=
 ⟨by rw[ao (aJ h.hx hl)];exact h.hx,by rw[ao (aJ h.ha hl)];exact h.ha,by rw[ao (aJ h.hb hl)];exact h.hb,h.ne⟩
theorem Wk.pa {M:Mp}{x a b:Addr}{ws fs ws':List D} (h:Wk w M x a b ws fs):Wk w (up M a (.lst ws')) x a b ws' fs:=
 ⟨by rw[ao h.ZV];exact h.hx,ah,by rw[ao (abx h.ne)];exact h.hb,h.ne⟩
theorem Wk.Ye {M:Mp}{x a b:Addr}{ws fs fs':List D} (h:Wk w M x a b ws fs):Wk w (up M b (.lst fs')) x a b ws fs':=
 ⟨by rw[ao h.Za];exact h.hx,by rw[ao h.ne];exact h.ha,ah,h.ne⟩
noncomputable def bA (w:Wo) (i:Nat) (q:Qn) (r:D):D:=.tup [w.gv.getD i .af,qD q,r]
noncomputable def ba (k s:Addr) (ps:List D):D:=.tup [.ref k,.ref s,.tup ps]
noncomputable def Bn:B:=.cons (.ex (.c6 1 (.v 0) (.cons (.g 10) (.cons (.ix (.v 1) (.c (.int 3))) (.cons (.tup (.cons (.call 1 (.cons (.v 3) (.cons (.ix (.v 1) (.c (.int 1))) (.cons (.v 6) .nil)))) (.cons (.v 4) (.cons (.op .Add (.v 5) (.tup (.cons (.c (.int 1)) .nil))) .nil)))) .nil))))) .nil
noncomputable def Qc:B:=.cons (.ex (.c6 1 (.v 0) (.cons (.g 13) (.cons (.v 1) (.cons (.v 2) .nil))))) .nil
noncomputable def Qd:B:=.cons (.cond (.cmp .NotEq (.ix (.v 6) (.c (.int 0))) (.c (.str "bag"))) (.cons .dead .nil) .nil) (.cons (.set 6 (.ix (.v 6) (.c (.int 1)))) Qc)
noncomputable def Qe:B:=.cons (.cond (.cmp .Eq (.ix (.v 1) (.c (.int 0))) (.c (.str "for"))) Qd .nil) Bn
noncomputable def Qf:B:=.cons (.set 6 (.ix (.c6 3 (.v 0) (.cons (.c (.int 1)) .nil)) (.c (.int 0)))) Qe
noncomputable def Qg:B:=(.cons (.gZ [3,4,5] (.v 2)) Qf)
theorem Qh:aK ["walk","question","around","kinds","stock","path","kind"] ["walk","question","around"] (aj (aa 20)):=⟨rfl,rfl,rfl,by decide +kernel,rfl,by decide +kernel,by decide +kernel⟩
theorem Qi:Qg.ck nm ["walk","question","around","kinds","stock","path","kind"] (aj (aa 20)) (aH (aa 20))=true:=by decide +kernel
def Bo (w:Wo):QN:=λds M Q=>∃ x a b ws fs ka sa ps kvs q y qa qb k,ds=[.ref x,qD q,ba ka sa ps]/\ps.length<1000000/\ws.length<1000000/\kvs.length<1000/\M ka=some (.ai kvs)/\ka≠a/\ka≠b /\
  ((q=.for y qa qb/\Wk w M x a b ws (fs++[kD (.aB k)])/\∀M' kb,aS a b M M'->Wk w M' x a b (ws++[bA w 13 q (ba ka sa ps),bA w 10 qb (ba kb sa (ps++[.int 1]))]) fs->M' kb=some (.ai (bJ kvs (.inr y) (kD k)))->M kb=none->Q .af M') \/
   (q=.let y qa qb/\Wk w M x a b ws (fs++[kD k])/\∀M' kb,aS a b M M'->Wk w M' x a b (ws++[bA w 10 qb (ba kb sa (ps++[.int 1]))]) fs->M' kb=some (.ai (bJ kvs (.inr y) (kD k)))->M kb=none->Q .af M'))
noncomputable abbrev XR (w:Wo):a' w:={ cs:=[(1,Bc)],ms:=[(1,pg w),(3,uA w)] }
theorem Qj (O:Lw w):FO w 8 2 (Bo w):=by
 refine a6 O.ok O.hn _ ⟨"bind",aa 20,["walk","question","around"]⟩ (by rw[O.hd];rfl) (XR w) { cs:=⟨⟨1,by decide,Pt O⟩,trivial⟩,ms:=⟨⟨1,by decide,uy O⟩,⟨1,by decide,Bh O⟩,trivial⟩ } Qh Qi λds M Q h=>?_;obtain⟨x,a,b,ws,fs,ka,sa,ps,kvs,q,y,qa,qb,k,rfl,hp,hw,hF,be,n1,n2,h⟩:=h;have m4:w.mc 3=w.ca 0:=O.mc _ (by decide) (by decide);have m2:w.mc 1=w.ca 0:=O.mc _ (by decide) (by decide);have tail:∀ (X:Mp) (d:D) (ws':List D),aS a b M X->Wk w X x a b ws' fs->ws'.length<1000001->(∀ M' kb,aS a b M M'->Wk w M' x a b (ws'++[bA w 10 qb (ba kb sa (ps++[.int 1]))]) fs->M' kb=some (.ai (bJ kvs (.inr y) d))->M kb=none->Q .af M')->∀ z z2 q', q'=.tup [z,.str y,z2,qD qb] ->
   B.w (XR w).wd nm.aL Bn (bS Q) [some (.ref x),some q',some (ba ka sa ps),some (.ref ka),some (.ref sa),some (.tup ps),some d] X:=by
  rintro X d ws' u W tW h z z2 q' rfl;refine⟨[("waiting",.ref a),("found",.ref b)],by rw[m2];exact W.hx,dD (by decide +kernel) (by decide +kernel),_,rfl,_,rfl,?_⟩;refine⟨ka,kvs,y,d,rfl,u _ _ n1 n2 be,hF,λkb gz=>⟨l1,aaZ (by simp;lia:_<=1000001) (by decide),l3,?_⟩⟩;have W':=W.new (o:=.ai (bJ kvs (.inr y) d)) gz;refine⟨x,a,b,_,_,_,ws',rfl,W'.hx,W'.ha,aaM tW (by decide),?_⟩;refine⟨_,aG,h _ kb ((u.new gz).a) W'.pa ?_ ?_⟩
  ·rw[ao (abx (aJ W.ha gz))];exact ah
  ·cases e:M kb with
   |none=>rfl
   |some o=>
    by_cases z1:kb=a
    ·subst z1;rw[W.ha]at gz;cases gz
    by_cases z2:kb=b
    ·subst z2;rw[W.hb]at gz;cases gz
    rw[u _ _ z1 z2 e]at gz;cases gz
 rcases h with ⟨rfl,W,h⟩ |⟨rfl,W,h⟩
 ·refine⟨rfl,rfl,[("waiting",.ref a),("found",.ref b)],by rw[m4];exact W.hx,dD (by decide +kernel) (by decide +kernel),?_⟩;refine⟨x,a,b,1,fs,[kD (.aB k)],rfl,W.hx,W.hb,rfl,by decide,λl hl=>.inl ⟨_,_,_,.inl ah,rfl,rfl,_,rfl,aC rfl (cy ⟨_,rfl,aC rfl (aO ⟨_,rfl,?_⟩)⟩)⟩⟩;have bn:up M b (.lst fs) l=none:=by rw[ao (abx (aJ W.hb hl))];exact hl
  have W2:=(W.Ye (fs':=fs)).new (o:=.lst [kD (.aB k)]) bn;refine⟨[("waiting",.ref a),("found",.ref b)],by rw[m2];exact W2.hx,dD (by decide +kernel) (by decide +kernel),?_⟩;refine⟨x,a,b,_,_,_,ws,rfl,W2.hx,W2.ha,aaM hw (by decide),?_⟩;refine tail _ (kD k) _ ((aS.rfl.b.new bn).a) W2.pa (by simp;lia) (λM' kb g1 g2 g3 g4=>h M' kb g1 ?_ g3 g4) _ _ _ rfl;rw[abD]at g2;exact g2
 ·refine⟨rfl,rfl,[("waiting",.ref a),("found",.ref b)],by rw[m4];exact W.hx,dD (by decide +kernel) (by decide +kernel),?_⟩;refine⟨x,a,b,1,fs,[kD k],rfl,W.hx,W.hb,rfl,by decide,λl hl=>.inl ⟨_,_,_,.inl ah,rfl,rfl,_,rfl,aC rfl (aO ?_)⟩⟩;have bn:up M b (.lst fs) l=none:=by rw[ao (abx (aJ W.hb hl))];exact hl
  exact tail _ (kD k) ws (aS.rfl.b.new bn) ((W.Ye (fs':=fs)).new (o:=.lst [kD k]) bn) (by lia) h _ _ _ rfl
variable {w:Wo}
noncomputable def dm (w:Wo) (ka sa:Addr) (ps:List D):Nat->List Qn->List D
 |_,[]=>[]
 |i,q::r=>bA w 10 q (ba ka sa (ps++[.int i]))::dm w ka sa ps (i+1) r
def pk (w:Wo):QN:=λds M Q=>∃ x a b ws fs ka sa ps kvs aZ q,ds=[.ref x,qD q,ba ka sa ps]/\Wk w M x a b ws fs/\ps.length<1000000/\ws.length<1000000/\fs.length<1000000/\(us q).length<100/\M ka=some (.ai kvs)/\M sa=some (.ai aZ) /\
  ((∃y d,q=.var y/\bc kvs (.inr y)=some d/\∀M',aS a b M M'->Wk w M' x a b ws (fs++[d])->Q .af M') \/
   (∃y d,q=.tab y/\bc aZ (.inr y)=some d/\∀M',aS a b M M'->Wk w M' x a b ws (fs++[.tup [.str "bag",d]])->Q .af M') \/
   (∃y qa qb,(q=.for y qa qb\/q=.let y qa qb)/\∀M',aS a b M M'->Wk w M' x a b (ws++[bA w 12 q (ba ka sa ps),bA w 10 qa (ba ka sa (ps++[.int 0]))]) fs->Q .af M') \/
   ((∀y,q≠.var y)/\(∀y,q≠.tab y)/\wd q≠"for"/\wd q≠"let"/\∀M',aS a b M M'->Wk w M' x a b (ws++[bA w 13 q (ba ka sa ps)]++(dm w ka sa ps 0 (us q)).reverse) fs->Q .af M'))
def Bp (w:Wo) (f:Addr) (sp:QN):Prop:=(f=da w "begin"/\sp=pk w)\/(f=da w "bind"/\sp=Bo w)\/(f=da w "finish"/\sp=pj w)
noncomputable def Qk:B:=.cons (.ex (.app (.v 1) (.cons (.v 0) (.cons (.v 2) (.cons (.v 3) .nil))))) .nil
noncomputable def Bq:B:=.cons (.gZ [1,2,3] (.mt .pop (.fld (.v 0) "waiting") .nil)) Qk
noncomputable def Ql:B:=.cons (.lL (.fld (.v 0) "waiting") Bq) (.cons (.ret (.mt .pop (.fld (.v 0) "found") .nil)) .nil)
noncomputable def Qm:B:=Ql
theorem Qo:aK ["self","step","question","around"] ["self"] (aj (bC (aa 7) 4)):=⟨rfl,rfl,rfl,by decide +kernel,rfl,by decide +kernel,by decide +kernel⟩
theorem Qp:Qm.ck nm ["self","step","question","around"] (aj (bC (aa 7) 4)) (aH (bC (aa 7) 4))=true:=by decide +kernel
noncomputable abbrev YD (w:Wo):a' w:={ ca:=Bp w }
def Lp (w:Wo) (e:En) (n:Nat) (x:Addr) (M:Mp):Prop:=∀u v z,i0 (E.w (YD w).wd nm.aL (.fld (.v 0) "waiting")).2 (B.w (YD w).wd nm.aL Bq) e n [some (.ref x),u,v,z] M
theorem cu (O:Lw w) {e:En}{n:Nat}{x a b:Addr}{ws fs:List D}{M:Mp}{f:Addr}{sp:QN}{qd r:D} (hc:Bp w f sp) (W:Wk w M x a b (ws++[.tup [.ref f,qd,r]]) fs)
  (h:∀Q:QK,(∀d M',Lp w e n x M'->Q d M')->sp [.ref x,qd,r] (up M a (.lst ws)) Q):Lp w e (n+1) x M:=by
 intro u v z;refine⟨_,_,.ref a,W.hx,O.fw,rfl,.inl ⟨_,.inl W.ha,?_⟩⟩;have d7:(!(ws++[D.tup [.ref f,qd,r]]).isEmpty)=true:=by simp
 rw[d7];refine⟨_,_,.ref a,W.hx,O.fw,rfl,⟨_,.inl W.ha⟩,_,.tup [.ref f,qd,r],W.ha,by simp,rfl,sp,hc,?_⟩;rw[List.dropLast_concat];exact h _ λd M' z=>z _ _ _
theorem w9 (O:Lw w) {e:En}{n:Nat}{x a b:Addr}{fs:List D}{M:Mp} (W:Wk w M x a b [] fs) (h:∀u v z,e.nx [some (.ref x),u,v,z] M):Lp w e (n+1) x M:=by
 intro u v z;exact⟨_,_,.ref a,W.hx,O.fw,rfl,.inl ⟨_,.inl W.ha,h u v z⟩⟩
mutual
noncomputable def N:Qn->Nat
 |.var _=>1 |.tab _=>1
 |.for _ a b=>3+N a+N b
 |.let _ a b=>2+N a+N b
 |.row fs=>2+Nr fs
 |.at _ q=>2+N q
 |.add a b=>2+N a+N b
 |.mul a b=>2+N a+N b
 |.one q=>2+N q
 |.both a b=>2+N a+N b
 |.times _ q=>2+N q
 |.jb a b=>2+N a+N b
 |.same a b=>2+N a+N b
 |.under a b=>2+N a+N b
 |.and a b=>2+N a+N b
 |.or a b=>2+N a+N b
 |.not q=>2+N q
 |.num _=>2 |.word _=>2 |.none _=>2
noncomputable def Nr:List (Str×Qn)->Nat
 |[]=>0
 |(_,q)::r=>N q+Nr r
end
noncomputable def Nl:List Qn->Nat
 |[]=>0
 |q::r=>N q+Nl r
theorem Br:∀fs:List (Str×Qn),Nl (fs.map (·.2))=Nr fs
 |[]=>by rw[Nr];rfl
 |(x,q)::r=>by rw[Nr,<- Br r];rfl
theorem Qq {q:Qn} (h1:∀y,q≠.var y) (h2:∀y,q≠.tab y) (h3:wd q≠"for") (h4:wd q≠"let"):N q=2+Nl (us q):=by
 cases q with
 |var y=>exact absurd rfl (h1 y)
 |tab y=>exact absurd rfl (h2 y)
 | «for»=>exact absurd rfl h3
 | «let»=>exact absurd rfl h4
 |row fs=>rw[N,us,Br]
 |_=>simp [N,us,Nl] <;> lia
theorem b5 {a k:Key}{v:D}{r:List (Key×D)}:bc ((a,v)::r) k=if a=k then some v else bc r k:=by
 unfold bc;rw[aby];by_cases h:a=k
 ·simp [h]
 ·simp [h]
theorem uB {k k':Key}{d:D} (h:k'≠k):∀r:List (Key×D),bc (r.map λkv=>if kv.1=k then (kv.1,d) else kv) k'=bc r k'
 |[]=>rfl
 |(a,v)::r=>by
  rw[aaR];by_cases e:a=k
  ·rw[if_pos e,b5,b5,if_neg (λz=>h (by rw[<- z,e])),if_neg (λz=>h (by rw[<- z,e])),uB h r]
  ·rw[if_neg e,b5,b5,uB h r]
theorem Bs {k:Key}{d:D}:∀r:List (Key×D),(r.any λkv=>decide (kv.1=k))=true->bc (r.map λkv=>if kv.1=k then (kv.1,d) else kv) k=some d
 |[],h=>by cases h
 |(a,v)::r,h=>by
  rw[aaR];by_cases e:a=k
  ·rw[if_pos e,b5,if_pos e]
  ·rw[if_neg e,b5,if_neg e];rw[abR,decide_eq_false e,Bool.false_or]at h;exact Bs r h
theorem Qr {kvs:List (Key×D)}{k k':Key}{d:D}:bc (bJ kvs k d) k'=if k'=k then some d else bc kvs k':=by
 unfold bJ;by_cases h:(kvs.any λkv=>decide (kv.1=k))=true
 ·rw[if_pos h];by_cases e:k'=k
  ·subst e;rw[if_pos rfl,Bs kvs h]
  ·rw[if_neg e,uB e]
 ·rw[if_neg h]
  induction kvs with
  |nil=>
   rw[List.nil_append,b5];by_cases e:k'=k
   ·rw[if_pos e,if_pos e.symm]
   ·rw[if_neg e,if_neg (abx e)]
  |cons p r ih=>
   obtain⟨a,v⟩:=p;have h':¬a=k/\¬(r.any λkv=>decide (kv.1=k))=true:=by
    rw[abR]at h;exact⟨λz=>h (by simp [z]),λz=>h (by rw[z,Bool.or_true])⟩
   rw[List.cons_append,b5,b5,ih h'.2];by_cases e:k'=k
   ·subst e;rw[if_neg h'.1,if_pos rfl,if_pos rfl]
   ·rw[if_neg e,if_neg e]
theorem Bt {kvs:List (Key×D)}{k:Key}{d:D}:(bJ kvs k d).length<=kvs.length+1:=by
 unfold bJ;split <;> simp
end Q16
end
section
namespace Q16
open PySem PL QG
open L2
variable {w:Wo}
mutual
noncomputable def dq:Qn->Nat
 |.var _=>1 |.tab _=>1 |.num _=>1 |.word _=>1 |.none _=>1
 |.for _ a b=>1+max (dq a) (dq b)
 |.let _ a b=>1+max (dq a) (dq b)
 |.row fs=>1+ef fs
 |.at _ q=>1+dq q
 |.add a b=>1+max (dq a) (dq b)
 |.mul a b=>1+max (dq a) (dq b)
 |.one q=>1+dq q
 |.both a b=>1+max (dq a) (dq b)
 |.times _ q=>1+dq q
 |.jb a b=>1+max (dq a) (dq b)
 |.same a b=>1+max (dq a) (dq b)
 |.under a b=>1+max (dq a) (dq b)
 |.and a b=>1+max (dq a) (dq b)
 |.or a b=>1+max (dq a) (dq b)
 |.not q=>1+dq q
noncomputable def ef:List (Str×Qn)->Nat
 |[]=>0
 |(_,q)::r=>max (dq q) (ef r)
end
noncomputable def jd:List Qn->Nat
 |[]=>0
 |q::r=>max (dq q) (jd r)
theorem Bu:∀fs:List (Str×Qn),jd (fs.map (·.2))=ef fs
 |[]=>by rw[ef];rfl
 |(x,q)::r=>by rw[ef,<- Bu r];rfl
structure Pl (q:Qn):Prop where
 v:∀y,q≠.var y
 t:∀y,q≠.tab y
 f:wd q≠"for"
 l:wd q≠"let"
theorem Qs (q:Qn):dq q=1+jd (us q):=by
 cases q with
 |row fs=>rw[dq,us,Bu]
 |_=>simp [dq,us,jd]
mutual
inductive Tk (S:Str->Option Kd):Sc->Qn->D->Prop
 |var {G y k}:lk y G=some k->Tk S G (.var y) (kD k)
 |tab {G y k}:S y=some k->Tk S G (.tab y) (kD (.aB k))
 |for {G y a b k l}:Tk S G a (kD (.aB l))->Tk S ((y,l)::G) b (kD (.aB k))->Tk S G (.for y a b) (kD (.aB k))
 |let {G y a b l d}:Tk S G a (kD l)->Tk S ((y,l)::G) b d->Tk S G (.let y a b) d
 |cE {G q ks d}:Pl q->cF S G (us q) ks->mq q ks d->(us q).length<100->Tk S G q d
inductive cF (S:Str->Option Kd):Sc->List Qn->List D->Prop
 |nil {G}:cF S G [] []
 |cons {G q r d s}:Tk S G q d->cF S G r s->cF S G (q::r) (d::s)
end
theorem cF.len {S:Str->Option Kd}{G:Sc}:∀{qs:List Qn}{ks:List D},cF S G qs ks->qs.length=ks.length
 |_,_,.nil=>rfl
 |_,_,.cons _ r=>by rw[aaS,aaS,r.len]
def je (kvs:List (Key×D)) (G:Sc):Prop:=∀y k,lk y G=some k->bc kvs (.inr y)=some (kD k)
def pq (aZ:List (Key×D)) (S:Str->Option Kd):Prop:=∀y k,S y=some k->bc aZ (.inr y)=some (kD k)
theorem je.put {kvs:List (Key×D)}{G:Sc}{y:Str}{l:Kd} (h:je kvs G):je (bJ kvs (.inr y) (kD l)) ((y,l)::G):=λz k e=>by
 rw[Qr];rw[lk]at e;by_cases c:z=y
 ·rw[if_pos c]at e;cases e;rw[if_pos (by rw[c])]
 ·rw[if_neg c]at e;rw[if_neg (λx=>c (Sum.inr.inj x))];exact h z k e
structure Zb (n m:Nat) (ps ws fs:List D) (kvs:List (Key×D)):Prop where
 p:ps.length+(n+103 * m)<1000000
 w:ws.length+(n+103 * m)<1000000
 f:fs.length+(n+103 * m)<1000000
 k:kvs.length+m<1000
theorem mr (O:Lw w) {q:Qn}{r:D}:bA w 10 q r=.tup [.ref (da w "begin"),qD q,r]:=by unfold bA;rw[O.XE]
theorem lu (O:Lw w) {q:Qn}{r:D}:bA w 12 q r=.tup [.ref (da w "bind"),qD q,r]:=by unfold bA;rw[O.gd]
theorem Qt (O:Lw w) {q:Qn}{r:D}:bA w 13 q r=.tup [.ref (da w "finish"),qD q,r]:=by unfold bA;rw[O.Yc]
theorem dn {M:Mp}{c a:Addr}{kvs:List (Key×D)}{ws:List D} (h:M c=some (.ai kvs)) (h':M a=some (.lst ws)):c≠a:=by rintro rfl;rw[h]at h';cases h'
theorem uC {ka sa:Addr}{ps:List D}:∀{r:List Qn}{i:Nat},(dm w ka sa ps i r).length=r.length
 |[],_=>by rw[dm];rfl
 |q::r,i=>by rw[dm,aaS,aaS,uC]
theorem Qu {y:Str}{a b:Qn}{k:Kd}:mq (.for y a b) [kD (.aB k)] (kD (.aB k)):=by
 have hm:((("last_bag_kind" : Str),λ(_:Qn) (ks:List D) (d:D)=>∃pre k,ks=pre++[kD (.aB k)]/\d=kD (.aB k)):Str×(Qn->List D->D->Prop))∈fL:=by
  unfold fL
  iterate 7 refine aaK _ ?_
  exact aaO
 exact⟨⟨_,rfl⟩,_,hm,(by decide +kernel:(("for" : Str),("last_bag_kind" : Str))∈ee),[],k,rfl,rfl⟩
theorem Bv (O:Lw w) {e:En}{n:Nat}{x a b:Addr}{ws fs ks:List D}{M:Mp}{q:Qn}{r d:D} (W:Wk w M x a b (ws++[bA w 13 q r]) (fs++ks)) (hk:ks.length=if wd q="for" then 1 else (us q).length) (hu:(us q).length<100) (hf:fs.length<1000000) (F:mq q ks d)
  (K:∀M',aS a b M M'->Wk w M' x a b ws (fs++[d])->Lp w e n x M'):Lp w e (n+1) x M:=by
 rw[Qt O]at W;refine cu O (.inr (.inr ⟨rfl,rfl⟩)) W λQ hQ=>⟨x,a,b,q,r,fs,ks,d,rfl,W.pa.hx,W.pa.hb,hk,hu,hf,F,λM' u hb=>hQ _ _ (K M' (λc o n1 n2 e=>u c o n2 (by rw[ao n1];exact e)) ⟨u _ _ W.Za W.pa.hx,u _ _ W.ne W.pa.ha,hb,W.ne⟩)⟩
mutual
theorem j7 (O:Lw w) {S:Str->Option Kd}:∀ {G:Sc}{q:Qn}{d:D},Tk S G q d->∀ {e:En}{n:Nat}{x a b:Addr}{ws fs:List D}{M:Mp}{ka sa:Addr}{ps:List D}{kvs aZ:List (Key×D)},Wk w M x a b (ws++[bA w 10 q (ba ka sa ps)]) fs->M ka=some (.ai kvs)->M sa=some (.ai aZ)->je kvs G->pq aZ S->Zb 0 (dq q) ps ws fs kvs ->
  (∀M',aS a b M M'->Wk w M' x a b ws (fs++[d])->Lp w e n x M')->Lp w e (n+N q) x M
 |G,_,_,.var (y:=y) (k:=k) h,e,n,x,a,b,ws,fs,M,ka,sa,ps,kvs,aZ,W,be,br,rg,rs,B,K=>by
  rw[N];have b1:=B.p;have b2:=B.w;have Xk:=B.f
  have dI:up M a (.lst ws) ka=some (.ai kvs):=by rw[ao (dn be W.ha)];exact be
  have bu:up M a (.lst ws) sa=some (.ai aZ):=by rw[ao (dn br W.ha)];exact br
  rw[mr O]at W;exact cu O (.inl ⟨rfl,rfl⟩) W λQ hQ=>⟨x,a,b,ws,fs,ka,sa,ps,kvs,aZ,_,rfl,W.pa,by lia,by lia,by lia,(by decide:0<100),dI,bu,.inl ⟨y,_,rfl,rg _ _ h,λM' u W'=>hQ _ _ (K M' (aS.rfl.a.trans u) W')⟩⟩
 |G,_,_,.tab (y:=y) (k:=k) h,e,n,x,a,b,ws,fs,M,ka,sa,ps,kvs,aZ,W,be,br,rg,rs,B,K=>by
  rw[N];have b1:=B.p;have b2:=B.w;have Xk:=B.f
  have dI:up M a (.lst ws) ka=some (.ai kvs):=by rw[ao (dn be W.ha)];exact be
  have bu:up M a (.lst ws) sa=some (.ai aZ):=by rw[ao (dn br W.ha)];exact br
  rw[mr O]at W;exact cu O (.inl ⟨rfl,rfl⟩) W λQ hQ=>⟨x,a,b,ws,fs,ka,sa,ps,kvs,aZ,_,rfl,W.pa,by lia,by lia,by lia,(by decide:0<100),dI,bu,.inr (.inl ⟨y,_,rfl,rs _ _ h,λM' u W'=>hQ _ _ (K M' (aS.rfl.a.trans u) W')⟩)⟩
 |G,_,_,.for (y:=y) (a:=qa) (b:=qb) (k:=k) (l:=l) t1 t2,e,n,x,a,b,ws,fs,M,ka,sa,ps,kvs,aZ,W,be,br,rg,rs,B,K=>by
  have b1:=B.p;have b2:=B.w;have Xk:=B.f;have b4:=B.k
  rw[N];rw[dq]at b1 b2 Xk b4;have dI:up M a (.lst ws) ka=some (.ai kvs):=by rw[ao (dn be W.ha)];exact be
  have bu:up M a (.lst ws) sa=some (.ai aZ):=by rw[ao (dn br W.ha)];exact br
  have na:=dn be W.ha;have nb:=dn be W.hb;have ma:=dn br W.ha;have mb:=dn br W.hb;rw[mr O]at W;rw[show n+(3+N qa+N qb)=(n+1+N qb+1+N qa)+1 by lia];refine cu O (.inl ⟨rfl,rfl⟩) W λQ hQ=>⟨x,a,b,ws,fs,ka,sa,ps,kvs,aZ,_,rfl,W.pa,by lia,by lia,by lia,(by decide:2<100),dI,bu,.inr (.inr (.inl ⟨y,qa,qb,.inl rfl,λM1 u1 W1=>hQ _ _ ?_⟩))⟩;have hk1:=u1 _ _ na nb dI;have hs1:=u1 _ _ ma mb bu;have ul:Wk w M1 x a b ((ws++[bA w 12 (.for y qa qb) (ba ka sa ps)])++[bA w 10 qa (ba ka sa (ps++[.int 0]))]) fs:=by rw[abD];exact W1
  refine j7 O t1 ul hk1 hs1 rg rs ⟨by simp;lia,by simp;lia,by lia,by lia⟩ λM2 u2 W2=>?_;rw[lu O]at W2;have hk2:=u2 _ _ na nb hk1;have hs2:=u2 _ _ ma mb hs1;have ut:up M2 a (.lst ws) ka=some (.ai kvs):=by rw[ao na];exact hk2
  have lJ:up M2 a (.lst ws) sa=some (.ai aZ):=by rw[ao ma];exact hs2
  refine cu O (.inr (.inl ⟨rfl,rfl⟩)) W2 λQ hQ=>⟨x,a,b,ws,fs,ka,sa,ps,kvs,_,y,qa,qb,l,rfl,by lia,by lia,by lia,ut,na,nb,.inl ⟨rfl,W2.pa,λM3 kb u3 W3 h3 _=>hQ _ _ ?_⟩⟩;have uD:=u3 _ _ ma mb lJ;have pl:=@Bt kvs (.inr y) (kD l);have Op:Wk w M3 x a b ((ws++[bA w 13 (.for y qa qb) (ba ka sa ps)])++[bA w 10 qb (ba kb sa (ps++[.int 1]))]) fs:=by rw[abD];exact W3
  refine j7 O t2 Op h3 uD rg.put rs ⟨by simp;lia,by simp;lia,by lia,by lia⟩ λM4 u4 W4=>?_;exact Bv O W4 (by rw[if_pos (show wd (.for y qa qb)="for" from rfl)];rfl) (by decide:2<100) (by lia) (Qu) λM5 u5 W5=>K M5 ((((((aS.rfl.a.trans u1).trans u2).trans aS.rfl.a).trans u3).trans u4).trans u5) W5
 |G,_,d,.let (y:=y) (a:=qa) (b:=qb) (l:=l) t1 t2,e,n,x,a,b,ws,fs,M,ka,sa,ps,kvs,aZ,W,be,br,rg,rs,B,K=>by
  have b1:=B.p;have b2:=B.w;have Xk:=B.f;have b4:=B.k
  rw[N];rw[dq]at b1 b2 Xk b4;have dI:up M a (.lst ws) ka=some (.ai kvs):=by rw[ao (dn be W.ha)];exact be
  have bu:up M a (.lst ws) sa=some (.ai aZ):=by rw[ao (dn br W.ha)];exact br
  have na:=dn be W.ha;have nb:=dn be W.hb;have ma:=dn br W.ha;have mb:=dn br W.hb;rw[mr O]at W;rw[show n+(2+N qa+N qb)=(n+N qb+1+N qa)+1 by lia];refine cu O (.inl ⟨rfl,rfl⟩) W λQ hQ=>⟨x,a,b,ws,fs,ka,sa,ps,kvs,aZ,_,rfl,W.pa,by lia,by lia,by lia,(by decide:2<100),dI,bu,.inr (.inr (.inl ⟨y,qa,qb,.inr rfl,λM1 u1 W1=>hQ _ _ ?_⟩))⟩;have hk1:=u1 _ _ na nb dI;have hs1:=u1 _ _ ma mb bu;have ul:Wk w M1 x a b ((ws++[bA w 12 (.let y qa qb) (ba ka sa ps)])++[bA w 10 qa (ba ka sa (ps++[.int 0]))]) fs:=by rw[abD];exact W1
  refine j7 O t1 ul hk1 hs1 rg rs ⟨by simp;lia,by simp;lia,by lia,by lia⟩ λM2 u2 W2=>?_;rw[lu O]at W2;have hk2:=u2 _ _ na nb hk1;have hs2:=u2 _ _ ma mb hs1;have ut:up M2 a (.lst ws) ka=some (.ai kvs):=by rw[ao na];exact hk2
  have lJ:up M2 a (.lst ws) sa=some (.ai aZ):=by rw[ao ma];exact hs2
  refine cu O (.inr (.inl ⟨rfl,rfl⟩)) W2 λQ hQ=>⟨x,a,b,ws,fs,ka,sa,ps,kvs,_,y,qa,qb,l,rfl,by lia,by lia,by lia,ut,na,nb,.inr ⟨rfl,W2.pa,λM3 kb u3 W3 h3 _=>hQ _ _ ?_⟩⟩;have uD:=u3 _ _ ma mb lJ;have pl:=@Bt kvs (.inr y) (kD l);exact j7 O t2 W3 h3 uD rg.put rs ⟨by simp;lia,by lia,by lia,by lia⟩ λM4 u4 W4=>K M4 (((((aS.rfl.a.trans u1).trans u2).trans aS.rfl.a).trans u3).trans u4) W4
 |G,q,d,.cE (ks:=ks) p t F hu,e,n,x,a,b,ws,fs,M,ka,sa,ps,kvs,aZ,W,be,br,rg,rs,B,K=>by
  have hN:=Qq p.v p.t p.f p.l;have hb:=Qs q;have b1:=B.p;have b2:=B.w;have Xk:=B.f;have b4:=B.k
  rw[hN];rw[hb]at b1 b2 Xk b4;have dI:up M a (.lst ws) ka=some (.ai kvs):=by rw[ao (dn be W.ha)];exact be
  have bu:up M a (.lst ws) sa=some (.ai aZ):=by rw[ao (dn br W.ha)];exact br
  rw[mr O]at W;rw[show n+(2+Nl (us q))=(n+1+Nl (us q))+1 by lia];refine cu O (.inl ⟨rfl,rfl⟩) W λQ hQ=>⟨x,a,b,ws,fs,ka,sa,ps,kvs,aZ,q,rfl,W.pa,by lia,by lia,by lia,hu,dI,bu,.inr (.inr (.inr ⟨p.v,p.t,p.f,p.l,λM1 u1 W1=>hQ _ _ ?_⟩))⟩;have Ps:ka≠b:=dn be W.hb;have PP:sa≠b:=dn br W.hb;refine Bw O t W1 (u1 _ _ (dn be W.ha) Ps dI) (u1 _ _ (dn br W.ha) PP bu) rg rs ⟨by lia,by simp;lia,by lia,by lia⟩ λM2 u2 W2=>?_;exact Bv O W2 (by rw[if_neg p.f,t.len]) hu (by lia) F λM3 u3 W3=>K M3 (((aS.rfl.a.trans u1).trans u2).trans u3) W3
theorem Bw (O:Lw w) {S:Str->Option Kd}:∀ {G:Sc}{qs:List Qn}{ks:List D},cF S G qs ks->∀ {e:En}{n i:Nat}{x a b:Addr}{ws fs:List D}{M:Mp}{ka sa:Addr}{ps:List D}{kvs aZ:List (Key×D)},Wk w M x a b (ws++(dm w ka sa ps i qs).reverse) fs->M ka=some (.ai kvs)->M sa=some (.ai aZ)->je kvs G->pq aZ S->Zb (1+qs.length) (jd qs) ps ws fs kvs ->
  (∀M',aS a b M M'->Wk w M' x a b ws (fs++ks)->Lp w e n x M')->Lp w e (n+Nl qs) x M
 |G,_,_,.nil,e,n,i,x,a,b,ws,fs,M,ka,sa,ps,kvs,aZ,W,be,br,rg,rs,B,K=>by
  rw[dm,List.reverse_nil,aa4]at W;exact K M aS.rfl (by rw[aa4];exact W)
 |G,_,_,.cons (q:=q) (r:=r) (d:=d) (s:=s) t ts,e,n,i,x,a,b,ws,fs,M,ka,sa,ps,kvs,aZ,W,be,br,rg,rs,B,K=>by
  have b1:=B.p;have b2:=B.w;have Xk:=B.f;have b4:=B.k
  rw[Nl];rw[jd,aaS]at b1 b2 Xk;rw[jd]at b4;have WU:(dm w ka sa ps (i+1) r).length=r.length:=uC;rw[dm,ab5,<- abD]at W;rw[show n+(N q+Nl r)=n+Nl r+N q by lia];refine j7 O t W be br rg rs ⟨by simp;lia,by simp;lia,by lia,by lia⟩ λM1 u1 W1=>?_;refine Bw O ts W1 (u1 _ _ (dn be W.ha) (dn be W.hb) be) (u1 _ _ (dn br W.ha) (dn br W.hb) br) rg rs ⟨by lia,by lia,by simp;lia,by lia⟩ λM2 u2 W2=>K M2 (u1.trans u2) ?_;rw[abD]at W2;exact W2
end
end Q16
end
section
namespace Q16
open PySem PL QG
open L2
local macro_rules | `(tactic|trivial)=>`(tactic|first |exact l1 |exact l2 |exact l3 |exact l4)
variable {w:Wo}
def Bx (w:Wo):QN:=λds M Q=>∃x a b ka sa kvs aZ S G q d,ds=[.ref x]/\Wk w M x a b [bA w 10 q (ba ka sa [])] []/\M ka=some (.ai kvs)/\M sa=some (.ai aZ)/\je kvs G/\pq aZ S/\Tk S G q d/\dq q<500/\kvs.length<500/\∀M',aS a b M M'->Q d M'
theorem Qv (O:Lw w) {k:Nat} (hk:6<=k) (hb:FO w 6 k (pk w)) (hf:FO w 9 k (pj w)):dO w 4 (k+1) (Bx w):=by
 refine mi O.ok O.hn _ ⟨"run",(bC (aa 7) 4),["self"]⟩ (by rw[O.hm];rfl) (YD w) { cs:=trivial,ca:=?_ } Qo Qp λds M Q h=>?_
 ·rintro f sp (⟨rfl,rfl⟩ |⟨rfl,rfl⟩ |⟨rfl,rfl⟩)
  ·exact FO.dC hb (d:=⟨"begin",aa 18,["walk","question","around"]⟩) (by rw[O.hd];rfl)
  ·exact FO.dC ((Qj O).mono (by lia)) (d:=⟨"bind",aa 20,["walk","question","around"]⟩) (by rw[O.hd];rfl)
  ·exact FO.dC hf (d:=⟨"finish",aa 21,["walk","question","around"]⟩) (by rw[O.hd];rfl)
 obtain⟨x,a,b,ka,sa,kvs,aZ,S,G,q,d,rfl,W,be,br,rg,rs,t,hn,hF,h⟩:=h;refine⟨rfl,1+N q,?_⟩;refine j7 O t (ws:=[]) (n:=1) W be br rg rs ⟨by simp;lia,by simp;lia,by simp;lia,by lia⟩ (λM' u W'=>w9 O W' λ_ _ _=>?_) _ _ _;exact⟨_,_,.ref b,W'.hx,O.XN,rfl,⟨_,.inl W'.hb⟩,_,d,W'.hb,rfl,_,aG,h _ u.b⟩
noncomputable def Qw:B:=.cons (.ex (.c6 1 (.v 3) (.cons (.g 10) (.cons (.v 0) (.cons (.tup (.cons (.v 1) (.cons (.v 2) (.cons (.tup .nil) .nil)))) .nil))))) (.cons (.ret (.c6 4 (.v 3) .nil)) .nil)
noncomputable def Qx:B:=(.cons (.set 3 (.new 0 .nil)) Qw)
theorem Qy:aK ["question","kinds","stock","walk"] ["question","kinds","stock"] (aj (aa 17)):=⟨rfl,rfl,rfl,by decide +kernel,rfl,by decide +kernel,by decide +kernel⟩
theorem Qz:Qx.ck nm ["question","kinds","stock","walk"] (aj (aa 17)) (aH (aa 17))=true:=by decide +kernel
def uE:QN:=λds M Q=>∃ka sa kvs aZ S G q d,ds=[qD q,.ref ka,.ref sa]/\M ka=some (.ai kvs)/\M sa=some (.ai aZ)/\je kvs G/\pq aZ S/\Tk S G q d/\dq q<500/\kvs.length<500/\Q d M
noncomputable abbrev ZW (w:Wo):a' w:={ ms:=[(1,pg w),(4,Bx w)],ci:=[(0,0,Bj w)] }
theorem QA (O:Lw w) {k:Nat} (hk:6<=k) (hb:FO w 6 k (pk w)) (hf:FO w 9 k (pj w)):FO w 5 (k+2) uE:=by
 refine a6 O.ok O.hn _ ⟨"kind_of",aa 17,["question","kinds","stock"]⟩ (by rw[O.hd];rfl) (ZW w) { cs:=trivial,ms:=⟨⟨1,by lia,uy O⟩,⟨k+1,aaH _,Qv O hk hb hf⟩,trivial⟩,ci:=⟨⟨O.mc _ (by decide) (by decide),by rw[O.hm];rfl,1,by lia,PZ O⟩,trivial⟩ } Qy Qz λds M Q h=>?_;obtain⟨ka,sa,kvs,aZ,S,G,q,d,rfl,be,br,rg,rs,t,hn,hF,h⟩:=h;have m2:w.mc 1=w.ca 0:=O.mc _ (by decide) (by decide);have m5:w.mc 4=w.ca 0:=O.mc _ (by decide) (by decide);refine⟨rfl,λx hx=>⟨x,rfl,ah,λa b M1 u na nb ne QB tR jB=>⟨rfl,?_⟩⟩⟩;have W:Wk w M1 x a b [] []:=⟨QB,tR,jB,ne⟩;have jV:=(cm na).2;have QC:=(cm nb).2;have kp:∀c o,M c=some o->M1 c=some o:=λc o e=>u c o (aJ e hx) (by rw[ao (aJ e hx)];exact e);refine⟨[("waiting",.ref a),("found",.ref b)],by rw[m2];exact W.hx,dD (by decide +kernel) (by decide +kernel),abA _,l3,?_⟩;refine⟨x,a,b,_,_,_,[],rfl,W.hx,W.ha,by decide,?_⟩;have W2:=W.pa (ws':=[bA w 10 q (ba ka sa [])]);refine⟨[("waiting",.ref a),("found",.ref b)],by rw[m5];exact W2.hx,dD (by decide +kernel) (by decide +kernel),?_⟩;refine⟨x,a,b,ka,sa,kvs,aZ,S,G,q,d,rfl,W2,by rw[ao (aJ be jV)];exact kp _ _ be,by rw[ao (aJ br jV)];exact kp _ _ br,rg,rs,t,hn,hF,λM2 u2=>⟨M,λc o e=>u2 c o (aJ e jV) (aJ e QC) (by rw[ao (aJ e jV)];exact kp c o e),h⟩⟩
variable {w:Wo}
theorem QD {q:Qn} (h:∀y,q≠.var y):wd q≠"var":=by cases q <;> first |exact absurd rfl (h _) |(rw[wd];decide)
theorem QE {q:Qn} (h:∀y,q≠.tab y):wd q≠"table":=by cases q <;> first |exact absurd rfl (h _) |(rw[wd];decide)
theorem QF {q:Qn} (h1:wd q≠"for") (h2:wd q≠"let"):([D.str "for",D.str "let"].any λy=>jM y (.str (wd q)))=false:=by
 cases q <;> first |exact absurd rfl h1 |exact absurd rfl h2 |(rw[wd];decide +kernel)
theorem pv {z y:Str}{p r:Prop} (n:z≠y) (h:r):if decide (V.str z=V.str y)=true then p else r:=by
 rw[if_neg];exact h;exact λe=>n (V.str.inj (of_decide_eq_true e))
theorem By {ds:List D}{d:D}:iX (ds++[d])=iX ds++[.tup [.int ds.length,d]]:=by
 unfold iX;rw[List.mapIdx_append];simp
theorem Wk.uF {M:Mp}{x a b:Addr}{ws ws' fs:List D} (h:Wk w M x a b ws fs) (e:ws=ws'):Wk w M x a b ws' fs:=e ▸ h
noncomputable def QH:B:=.cons (.ex (.c6 2 (.v 0) (.cons (.call 7 (.cons (.v 3) (.cons (.ix (.v 1) (.c (.int 1))) (.cons (.v 5) .nil)))) .nil))) .nil
noncomputable def QI:B:=.cons (.ex (.c6 2 (.v 0) (.cons (.tup (.cons (.c (.str "bag")) (.cons (.call 7 (.cons (.v 4) (.cons (.ix (.v 1) (.c (.int 1))) (.cons (.v 5) .nil)))) .nil))) .nil))) .nil
noncomputable def QJ:B:=.cons (.ex (.c6 1 (.v 0) (.cons (.g 10) (.cons (.ix (.v 1) (.c (.int 2))) (.cons (.tup (.cons (.v 3) (.cons (.v 4) (.cons (.op .Add (.v 5) (.tup (.cons (.c (.int 0)) .nil))) .nil)))) .nil))))) .nil
noncomputable def QL:B:=.cons (.ex (.c6 1 (.v 0) (.cons (.g 12) (.cons (.v 1) (.cons (.v 2) .nil))))) QJ
noncomputable def QO:B:=.cons (.ex (.c6 1 (.v 0) (.cons (.g 10) (.cons (.v 7) (.cons (.tup (.cons (.v 3) (.cons (.v 4) (.cons (.op .Add (.v 5) (.tup (.cons (.v 6) .nil))) .nil)))) .nil))))) .nil
noncomputable def QP:B:=.cons (.loop (.many [6,7]) (.oy (.ow (.call 0 (.cons (.v 1) .nil)))) QO) .nil
noncomputable def QQ:B:=.cons (.ex (.c6 1 (.v 0) (.cons (.g 13) (.cons (.v 1) (.cons (.v 2) .nil))))) QP
noncomputable def QR:B:=.cons (.cond (.cmp .In (.ix (.v 1) (.c (.int 0))) (.tup (.cons (.c (.str "for")) (.cons (.c (.str "let")) .nil)))) QL QQ) .nil
noncomputable def QS:B:=.cons (.cond (.cmp .Eq (.ix (.v 1) (.c (.int 0))) (.c (.str "table"))) QI QR) .nil
noncomputable def QT:B:=.cons (.cond (.cmp .Eq (.ix (.v 1) (.c (.int 0))) (.c (.str "var"))) QH QS) .nil
noncomputable def uG:B:=(.cons (.gZ [3,4,5] (.v 2)) QT)
theorem QU:aK ["walk","question","around","kinds","stock","path","place","part"] ["walk","question","around"] (aj (aa 18)):=⟨rfl,rfl,rfl,by decide +kernel,rfl,by decide +kernel,by decide +kernel⟩
theorem QV:uG.ck nm ["walk","question","around","kinds","stock","path","place","part"] (aj (aa 18)) (aH (aa 18))=true:=by decide +kernel
noncomputable abbrev YE (w:Wo):a' w:={ cs:=[(0,uw),(7,Bm)],ms:=[(1,pg w),(2,uz w)] }
theorem QW (O:Lw w):FO w 6 2 (pk w):=by
  refine a6 O.ok O.hn _ ⟨"begin",aa 18,["walk","question","around"]⟩ (by rw[O.hd];rfl) (YE w) { cs:=⟨⟨1,by decide,A9 O⟩,⟨1,by decide,Qb O⟩,trivial⟩,ms:=⟨⟨1,by decide,uy O⟩,⟨1,by decide,Bg O⟩,trivial⟩ } QU QV λds M Q h=>?_;obtain⟨x,a,b,ws,fs,ka,sa,ps,kvs,aZ,q,rfl,W,rD,jY,pc,hu,be,br,h⟩:=h;have m3:w.mc 2=w.ca 0:=O.mc _ (by decide) (by decide);have m2:w.mc 1=w.ca 0:=O.mc _ (by decide) (by decide);rcases h with ⟨y,d,rfl,hv,h⟩ |⟨y,d,rfl,hv,h⟩ |⟨y,qa,qb,hq,h⟩ |⟨n1,n2,n3,n4,h⟩
  · refine⟨rfl,rfl,_,rfl,aC rfl (cy ⟨[("waiting",.ref a),("found",.ref b)],by rw[m3];exact W.hx,dD (by decide +kernel) (by decide +kernel),_,rfl,ka,kvs,y,_,d,rfl,be,hv,?_⟩)⟩;exact⟨x,a,b,d,fs,rfl,W.hx,W.hb,abi pc (by decide),_,aG,h _ aS.rfl.b W.Ye⟩
  · refine⟨rfl,rfl,_,rfl,aC rfl (aO ⟨_,rfl,aC rfl (cy ⟨[("waiting",.ref a),("found",.ref b)],by rw[m3];exact W.hx,dD (by decide +kernel) (by decide +kernel),_,rfl,sa,aZ,y,_,d,rfl,br,hv,l2,?_⟩)⟩)⟩;exact⟨x,a,b,_,fs,rfl,W.hx,W.hb,abi pc (by decide),_,aG,h _ aS.rfl.b W.Ye⟩
  · have go : ∀ z, z = .tup [.str (wd q), .str y, qD qa, qD qb] → (wd q = "for" ∨ wd q = "let") → (∀ M', aS a b M M' → Wk w M' x a b (ws ++ [.tup [w.gv.getD 12 .af, z, ba ka sa ps], bA w 10 qa (ba ka sa (ps ++ [.int 0]))]) fs → Q .af M') →
        ([D.ref x,z,ba ka sa ps]).length=3/\B.w (YE w).wd nm.aL uG (bS Q) (ja 8 [.ref x,z,ba ka sa ps]) M:=by
      rintro z rfl hz h;have ZX:wd q≠"var":=(by rcases hz with e |e <;> rw[e] <;> decide);have Yl:wd q≠"table":=(by rcases hz with e |e <;> rw[e] <;> decide);have ZY:([D.str "for",D.str "let"].any λy=>jM y (.str (wd q)))=true:=(by rcases hz with e |e <;> rw[e] <;> decide +kernel);refine⟨rfl,rfl,_,rfl,aC rfl (pv ZX ⟨_,rfl,aC rfl (pv Yl ⟨_,rfl,l2,rfl,rfl,?_⟩)⟩)⟩;rw[ZY];refine⟨[("waiting",.ref a),("found",.ref b)],by rw[m2];exact W.hx,dD (by decide +kernel) (by decide +kernel),?_⟩;refine⟨x,a,b,_,_,_,ws,rfl,W.hx,W.ha,abi jY (by decide),?_⟩;have W2:=W.pa (ws':=ws++[.tup [w.gv.getD 12 .af,.tup [.str (wd q),.str y,qD qa,qD qb],ba ka sa ps]]);refine⟨[("waiting",.ref a),("found",.ref b)],by rw[m2];exact W2.hx,dD (by decide +kernel) (by decide +kernel),_,rfl,l1,aaZ (by simp;lia:_<=1000001) (by decide),l3,?_⟩;refine⟨x,a,b,_,_,_,_,rfl,W2.hx,W2.ha,aaP (by simp;lia:_<=1000001) (by decide),_,aG,h _ aS.rfl.a.a ?_⟩;have W3:=W2.pa (ws':=ws++[.tup [w.gv.getD 12 .af,.tup [.str (wd q),.str y,qD qa,qD qb],ba ka sa ps]]++[bA w 10 qa (ba ka sa (ps++[.int 0]))]);exact W3.uF (by rw[abD];rfl)
    rcases hq with rfl |rfl
    · exact go _ rfl (.inl rfl) h
    · exact go _ rfl (.inr rfl) h
  · obtain⟨r,e⟩:=Bk q;have nf:=QF n3 n4;have nl:(us q).length<sizeLine:=abi hu (by decide);have go:∀ z,z=qD q->([D.ref x,z,ba ka sa ps]).length=3/\B.w (YE w).wd nm.aL uG (bS Q) (ja 8 [.ref x,z,ba ka sa ps]) M:=by
      intro z hz;have uH:z=.tup (.str (wd q)::r):=hz.trans e;subst uH;refine⟨rfl,rfl,_,ph,aC rfl (pv (QD n1) ⟨_,ph,aC rfl (pv (QE n2) ⟨_,ph,l2,rfl,rfl,?_⟩)⟩)⟩;rw[nf];refine⟨[("waiting",.ref a),("found",.ref b)],by rw[m2];exact W.hx,dD (by decide +kernel) (by decide +kernel),?_⟩;refine⟨x,a,b,_,_,_,ws,rfl,W.hx,W.ha,abi jY (by decide),?_⟩;have QX:ws++[.tup [w.gv.getD 13 .af,.tup (.str (wd q)::r),ba ka sa ps]]=ws++[bA w 13 q (ba ka sa ps)]:=(by unfold bA;rw[e]);have W2:=W.pa (ws':=ws++[.tup [w.gv.getD 13 .af,.tup (.str (wd q)::r),ba ka sa ps]]);refine⟨q,by rw[e],hu,by simpa using nl,λl hl=>⟨_,.inl ah,?_⟩⟩;have bn:l≠a/\M l=none:=cm hl;have lb:l≠b:=(aJ W2.hb hl).symm;refine hO (λxs τ M'=>∃ rest done v6 v7,us q=rest++done/\xs=(iX (rest.map qD)).reverse/\τ=[some (.ref x),some (.tup (.str (wd q)::r)),some (ba ka sa ps),some (.ref ka),some (.ref sa),some (.tup ps),v6,v7] /\
        aS a b M M'/\M' l=some (.lst (iX ((us q).map qD)))/\Wk w M' x a b (ws++[bA w 13 q (ba ka sa ps)]++(dm w ka sa ps rest.length done).reverse) fs/\done.length<100) ?_ ?_ _ _ _ ⟨us q,[],none,none,by simp,rfl,rfl,aS.rfl.a.new hl,ah,(W2.new hl).uF (by rw[dm,QX];simp),by simp⟩
      · rintro τ M' ⟨rest,done,v6,v7,e1,e2,rfl,u,hl2,W3,_⟩;have:rest=[]:=by
          rcases List.eq_nil_or_concat rest with z |⟨r',q',z⟩
          · exact z
          · subst z;rw[List.concat_eq_append,abo,aaR,List.map_nil,By,List.reverse_append]at e2;simp at e2
        subst this;rw[List.nil_append]at e1;rw[<- e1]at W3;exact⟨.inl hl2,_,aG,h _ u W3⟩
      · rintro y xs τ M' ⟨rest,done,v6,v7,e1,e2,rfl,u,hl2,W3,hd⟩;refine⟨.inl hl2,?_⟩;rcases List.eq_nil_or_concat rest with z | ⟨r',q',z⟩
        · subst z;cases e2
        subst z;rw[List.concat_eq_append]at e1 e2 W3;rw[abo,aaR,List.map_nil,By,List.reverse_append]at e2;cases e2;have hlen:(us q).length=r'.length+1+done.length:=(by rw[e1];simp;lia);refine⟨rfl,λN hN=>?_⟩;refine⟨[("waiting",.ref a),("found",.ref b)],by rw[m2];exact W3.hx,dD (by decide +kernel) (by decide +kernel),l1,aaZ (by simp;lia:_<=1000001) (by decide),l3,?_⟩;refine⟨x,a,b,_,_,_,_,rfl,W3.hx,W3.ha,aaP (?_:_<=2000000) (by decide),hN _ _ ⟨r',q'::done,_,_,by rw[e1];simp,rfl,rfl,u.a,by rw[ao bn.1];exact hl2,?_,by rw[aaS];lia⟩⟩
        · rw[abk,abk,acx,uC];simp;lia
        · refine (W3.pa (ws':=ws++[bA w 13 q (ba ka sa ps)]++(dm w ka sa ps (r'++[q']).length done).reverse++[.tup [w.gv.getD 10 .af,qD q',.tup [.ref ka,.ref sa,.tup (ps++[.int ((r'.map qD).length:Nat)])]]])).uF ?_;have Xn:dm w ka sa ps r'.length (q'::done)=bA w 10 q' (ba ka sa (ps++[.int r'.length]))::dm w ka sa ps (r'.length+1) done:=(by rw[dm]);rw[Xn,ab5,<- abD,abk,aaN];rfl
    exact go _ rfl
variable {w:Wo}
noncomputable def QY:Option (Arguments×Expr×Scope×Pos):=match aH (aa 11) with
 |[.Return (some (.Call _ [_,_,.Lambda p b s q] _ _)) _]=>some (p,b,s,q)
 |_=>none
noncomputable def eT:Arguments×Expr×Scope×Pos:=QY.get (by decide +kernel)
noncomputable def dp (T c:Addr) (pm:Value):bN:=⟨T,c,eT.2.2.2,"alike.<locals>.<lambda>",eT.1,eT.2.1,eT.2.2.1,pm⟩
noncomputable def QZ:E:=.lst (.cons (.ix (.v 0) (.c (.int 1))) .nil)
theorem Q0:aK ["bag"] ["bag"] eT.2.2.1:=⟨rfl,rfl,rfl,by decide +kernel,rfl,by decide +kernel,by decide +kernel⟩
theorem Q1:QZ.ck nm ["bag"] eT.2.2.1 eT.2.1=true:=by decide +kernel
structure Lm (w:Wo) (L:bN):Prop where
 k:sh w.K w.mg L.c0 L.T
 j:∀H,w.T.J H->oM L H
 s:∀(H H':Hp) (c:Addr),w.T.J H->(∀b o,b≠L.T->H b=some o->H' b=some o)->H' c=some (.ext (fA c L.qual))->H' L.T=some (.bj #[rawInt L.pos.line,rawInt L.pos.col,.ref c])->(∃qs,H L.T=some (.bj qs))->w.T.J H'
 e:∃T c pm,L=dp T c pm
 p:(w.mg "__name__").getD .none=L.pm
 c:∀f fd,j5 w.K w.mg "alike" (aa 11) f fd ["one","other"]->fd.code=.ref L.c0/\dg w.K "alike" "alike" (aa 11) f fd
def Bz (L:bN) (f c:Addr) (ap:Value):QN:=λds M Q=>∃k,ds=[kD (.aB k)]/\M f=some (lW L f c ap)/\∀l,M l=none->Q (.ref l) (up M l (.lst [kD k]))
theorem Q3 (O:Lw w) {L:bN} (hL:Lm w L) {f c:Addr}{ap:Value}:mh w 1 f (Bz L f c ap):=by
 obtain⟨T,c0,pm,rfl⟩:=hL.e;intro X e1 e2 e3 e4 e5;refine .inr (.inl ⟨c,(dp T c0 pm).qual,(dp T c0 pm).params,(dp T c0 pm).body,(dp T c0 pm).scope,(dp T c0 pm).pm,ap,["bag"],?_,?_,?_⟩)
 ·rw[e1,e2,e3,e4,e5];refine Oo (m:=nm) (W:=({}:a' w).wd) (L:=dp T c0 pm) (N:=["bag"]) Q0 ?_ Q1 (λds M Q ⟨k,_,h,_⟩=>h) λds M Q h=>?_
  ·have:=a'.Ok.env O.ok (l:=({}:a' w)) (k:=0) { cs:=trivial };rw[O.hn]at this;exact this
  ·obtain⟨k,rfl,_,h⟩:=h;exact⟨rfl,_,rfl,l1,λl hl=>⟨_,aG,h l hl⟩⟩
 ·exact .all λus hl=>match us,hl with |[_],_=>rfl
 ·rintro vs H Q E ⟨ds,M,q,rm,rd,⟨k,_,h,_⟩,po⟩;exact (rm.ob _ _ h).1.1
noncomputable def Q4:B:=.cons (.ex (.mt .extend (.v 3) (.cons (.lc 1 [5] (.one 0) (.seq (.app (.v 2) (.cons (.v 4) .nil))) .cf (.tup (.cons (.v 0) (.cons (.ix (.v 1) (.c (.int 1))) .nil)))) .nil))) .nil
noncomputable def Q5:B:=.cons (.cond (.cmp .Eq (.ix (.v 4) (.c (.int 0))) (.c (.str "bag"))) Q4 .nil) .nil
noncomputable def Q6:B:=.cons (.ex (.mt .extend (.v 3) (.cons (.lc 2 [] (.many [0,1]) (.zip (.ix (.v 4) (.c (.int 1))) (.ix (.v 5) (.c (.int 1)))) .cf (.tup (.cons (.ix (.v 0) (.c (.int 1))) (.cons (.ix (.v 1) (.c (.int 1))) .nil)))) .nil))) .nil
noncomputable def Q7:B:=.cons (.cond (.cmp .NotEq (.call 2 (.cons (.v 4) .nil)) (.call 2 (.cons (.v 5) .nil))) (.cons (.ret (.c (.bl false))) .nil) .nil) Q6
noncomputable def Q8:B:=.cons (.cond (.cmp .Eq (.ix (.v 4) (.c (.int 0))) (.c (.str "row"))) Q7 .nil) Q5
noncomputable def BA:B:=.cons (.cond (.cmp .NotEq (.ix (.v 4) (.c (.int 0))) (.ix (.v 5) (.c (.int 0)))) (.cons (.ret (.c (.bl false))) .nil) .nil) Q8
noncomputable def Q9:B:=.cons (.lL (.v 3) (.cons (.gZ [4,5] (.mt .pop (.v 3) .nil)) BA)) (.cons (.ret (.c (.bl true))) .nil)
noncomputable def Ra:B:=.cons (.set 3 (.lst (.cons (.tup (.cons (.v 0) (.cons (.v 1) .nil))) .nil))) Q9
noncomputable def Rb:B:=Ra
theorem Rc:aK ["whole","kind","rows_of","waiting","part","wanted"] ["whole","kind","rows_of"] (aj (aa 12)):=⟨rfl,rfl,rfl,by decide +kernel,rfl,by decide +kernel,by decide +kernel⟩
theorem Rf:Rb.ck nm ["whole","kind","rows_of","waiting","part","wanted"] (aj (aa 12)) (aH (aa 12))=true:=by decide +kernel
def Rg (L:bN) (f:Addr) (sp:QN):Prop:=∃c ap,sp=Bz L f c ap
def pw (L:bN):QN:=λds M Q=>∃k f c ap,ds=[kD k,kD k,.ref f]/\kz k<1000/\M f=some (lW L f c ap)/\Q (.bl true) M
noncomputable abbrev YF (w:Wo) (L:bN):a' w:={ cs:=[(2,Bd)],ca:=Rg L }
noncomputable def pr (k:Kd):D:=.tup [kD k,kD k]
noncomputable def bO:List Kd->Nat
 |[]=>0
 |k::r=>kz k+bO r
theorem mw:∀{a b:List Kd},bO (a++b)=bO a+bO b
 |[],b=>by rw[List.nil_append,bO];lia
 |k::a,b=>by rw[List.cons_append,bO,bO,mw];lia
theorem Rh (k:Kd):1<=kz k:=by cases k <;> (rw[kz];try lia)
theorem uI:∀a:List Kd,a.length<=bO a
 |[]=>abA _
 |k::r=>by have:=Rh k;have:=uI r;rw[bO,aaS];lia
theorem jf:∀fs:List (Str×Kd),bO (fs.map (·.2))+fs.length=c9 fs
 |[]=>by rw[c9];rfl
 |(_,k)::r=>by have:=jf r;rw[aaR,bO,c9,aaS];show kz k+_+_=_;lia
noncomputable abbrev ZZ:B:=.cons (.gZ [4,5] (.mt .pop (.v 3) .nil)) BA
theorem Ri {fs:List (Str×Kd)} (h:kz (.row fs)<1000):fs.length<1000:=by
 have:=jf fs;rw[kz]at h;lia
theorem BB:∀fs:List (Str×Kd),∃e,aN (fs.map λp=>D.str p.1)=some e/\aV e<=1
 |[]=>⟨[],rfl,by decide⟩
 |(x,k)::r=>by
  obtain⟨e,h1,h2⟩:=BB r;exact⟨.str x::e,by rw[aaR,aN,h1];rfl,by rw[aV,Dt.bE];lia⟩
theorem BC (O:Lw w) {L:bN}{e:En}{wa f c:Addr}{ap:Value}{Xx d1:D}{M0:Mp} (hn:∀ v4 v5 M,Up wa M0 M->e.nx [some Xx,some d1,some (.ref f),some (.ref wa),v4,v5] M) (hf:M0 f=some (lW L f c ap)) (nf:f≠wa) :
  ∀(n:Nat) (ws:List Kd) (M:Mp) v4 v5,bO ws<n->bO ws<1000->M wa=some (.lst (ws.map pr))->Up wa M0 M->i0 (E.w (YF w L).wd nm.aL (.v 3)).2 (B.w (YF w L).wd nm.aL ZZ) e n [some Xx,some d1,some (.ref f),some (.ref wa),v4,v5] M
 | 0,ws,M,v4,v5,h,_,_,_=>by lia
 |n+1,ws,M,v4,v5,h,hz,hw,u=>by
  rcases List.eq_nil_or_concat ws with z |⟨r,k,z⟩
  ·subst z;exact .inl ⟨_,.inl hw,hn _ _ _ u⟩
  subst z;rw[List.concat_eq_append]at h hz hw;rw[abo]at hw;rw[mw,bO,bO]at h hz;have d7:(!(r.map pr++[k].map pr).isEmpty)=true:=by simp
  refine .inl ⟨_,.inl hw,?_⟩;rw[d7];refine⟨⟨_,.inl hw⟩,_,pr k,hw,by simp,rfl,?_⟩;rw[aaR,List.map_nil,List.dropLast_concat];have w1:up M wa (.lst (r.map pr)) wa=some (.lst (r.map pr)):=ah;have u1:Up wa M0 (up M wa (.lst (r.map pr))):=u.put;have fin:=λM' (rr:List Kd) v4 v5 (h1:bO rr+1<=kz k+bO r) (h2:M' wa=some (.lst (rr.map pr))) (h3:Up wa M0 M')=>BC O hn hf nf n rr M' v4 v5 (by lia) (by lia) h2 h3;generalize up M wa (.lst (r.map pr))=X at w1 u1;cases k with
  |num=>exact⟨_,rfl,_,rfl,aC rfl (aO ⟨_,rfl,aC rfl (aO ⟨_,rfl,aC rfl (aO (fin _ r _ _ (by rw[kz];lia) w1 u1))⟩)⟩)⟩
  |word=>exact⟨_,rfl,_,rfl,aC rfl (aO ⟨_,rfl,aC rfl (aO ⟨_,rfl,aC rfl (aO (fin _ r _ _ (by rw[kz];lia) w1 u1))⟩)⟩)⟩
  |aB k'=>
   refine⟨_,rfl,_,rfl,aC rfl (aO ⟨_,rfl,aC rfl (aO ⟨_,rfl,aC rfl (cy ?_)⟩)⟩)⟩;refine⟨⟨_,.inl w1⟩,_,⟨c,ap,rfl⟩,k',rfl,u1 _ _ nf hf,λl hl=>⟨_,.inl ah,.inl ah,by decide,_,rfl,l2,.inl ah,(by show 1<sizeLine;decide),λcW hl2=>?_⟩⟩;obtain⟨n1,n2⟩:=cm hl2;refine⟨_,_,by rw[ao (aJ w1 n2),ao (aJ w1 hl)];exact w1,ah,?_,?_⟩
   ·have:=uI r;refine aaZ (?_:_<=2000) (by decide);simp;lia
   ·refine fin _ (r++[k']) _ _ (by rw[mw,bO,bO,kz];lia) ?_ ?_
    ·rw[abo];exact ah
    ·exact ((u1.new hl).new hl2).put
  |row fs=>
   have hl:=Ri (fs:=fs) (by lia);obtain⟨es,g1,g2⟩:=BB fs;refine⟨_,rfl,_,rfl,aC rfl (aO ⟨_,rfl,aC rfl (cy ?_)⟩)⟩;refine⟨fs,rfl,hl,λl hl1=>⟨fs,rfl,hl,λcW hl2=>ux (c:=true) (d:=es) (e:=es) (by rw[ao (abx (cm hl2).1)];exact ah) ah g1 g1 (aaP g2 (by decide)) (by simp) (aO ?_)⟩⟩;have w2:up (up X l (.lst (fs.map λp=>D.str p.1))) cW (.lst (fs.map λp=>D.str p.1)) wa=some (.lst (r.map pr)):=(by rw[ao (aJ w1 (cm hl2).2),ao (aJ w1 hl1)];exact w1);have u2:=(u1.new (o:=.lst (fs.map λp=>D.str p.1)) hl1).new (o:=.lst (fs.map λp=>D.str p.1)) hl2;generalize up (up X l (.lst (fs.map λp=>D.str p.1))) cW (.lst (fs.map λp=>D.str p.1))=Y at w2 u2;refine⟨⟨_,.inl w2⟩,_,rfl,_,rfl,?_⟩;refine dj (λxs ys M'=>M'=Y/\∃rest pre,xs=acf (λx y=>D.tup [x,y]) (aM rest) (aM rest)/\fs=pre++rest/\ys=(pre.map (·.2)).map pr) ?_ ?_ _ _ _ ⟨rfl,fs,[],rfl,rfl,rfl⟩
   ·rintro ys M' ⟨rfl,rest,pre,e1,e2,rfl⟩;cases rest with
    |cons g r=>obtain⟨x,y⟩:=g;rw[aM]at e1;cases e1
    |nil=>
     rw[aa4]at e2;subst e2;refine⟨aaV,abi (by simpa using hl) (by decide:1000<sizeLine),λl3 j8=>?_⟩;refine⟨_,_,by rw[ao (aJ w2 j8)];exact w2,ah,?_,?_⟩
     ·have:=uI r;refine aaZ (?_:_<=2000) (by decide);simp;lia
     ·have kk:=jf fs;exact⟨_,rfl,aC rfl (aO (fin _ (r++fs.map (·.2)) _ _ (by rw[mw,kz];lia) (by rw[abo];exact ah) (u2.new j8).put))⟩
   ·rintro x xs ys M' ⟨rfl,rest,pre,e1,e2,rfl⟩;cases rest with
    |nil=>rw[aM]at e1;cases e1
    |cons g rs=>
     obtain⟨gx,gk⟩:=g;rw[aM]at e1;cases e1;have Re:((pre.map (·.2)).map pr).length<1000:=(by rw[e2]at hl;simp at hl ⊢;lia);refine⟨aaV,abi Re (by decide),rfl,λN hN=>⟨_,rfl,_,rfl,l2,hN _ _ ⟨rfl,rs,pre++[(gx,gk)],rfl,by rw[e2];simp,by simp [pr]⟩⟩⟩
theorem Rj (O:Lw w) {L:bN} (hL:Lm w L):FO w 4 2 (pw L):=by
 refine a6 O.ok O.hn _ ⟨"fits",aa 12,["whole","kind","rows_of"]⟩ (by rw[O.hd];rfl) (YF w L) { cs:=⟨⟨1,by decide,Pu O⟩,trivial⟩,ca:=?_ } Rc Rf λds M Q h=>?_
 ·rintro f sp ⟨c,ap,rfl⟩;exact Q3 O hL
 obtain⟨k,f,c,ap,rfl,hk,hf,h⟩:=h;refine⟨rfl,l2,l1,λwa pi=>⟨1001,?_⟩⟩;refine BC O (M0:=up M wa (.lst [pr k])) ?_ (by rw[ao (aJ hf pi)];exact hf) (aJ hf pi) 1001 [k] _ _ _ (by rw[bO,bO];lia) (by rw[bO,bO];lia) ah Up.rfl;intro v4 v5 M' u;exact⟨M,λa o e=>u a o (aJ e pi) (by rw[ao (aJ e pi)];exact e),h⟩
variable {w:Wo}
theorem uJ {c:Bool}{A B:Prop} (h:c=true) (a:A):if c=true then A else B:=by rw[if_pos h];exact a
def BD:QN:=λds M Q=>∃k,ds=[kD k,kD k]/\kz k<1000/\Q (.bl true) M
theorem BE:aK ["one","other"] ["one","other"] (aj (aa 11)):=⟨rfl,rfl,rfl,by decide +kernel,rfl,by decide +kernel,by decide +kernel⟩
theorem Rk:∃p p1 p2 pos ff,aH (aa 11)=[.Return (some (.Call (.Name "fits" p) [.Name "one" p1,.Name "other" p2,.Lambda eT.1 eT.2.1 eT.2.2.1 eT.2.2.2] [] pos)) ff]:=⟨_,_,_,_,_,rfl⟩
theorem Rl:(∀p,E.ck nm ["one","other"] (aj (aa 11)) (.v 0) (.Name "one" p)=true)/\(∀p,E.ck nm ["one","other"] (aj (aa 11)) (.v 1) (.Name "other" p)=true)/\a4 (aj (aa 11)) "fits"=true:=by
 refine⟨λp=>?_,λp=>?_,by decide +kernel⟩
 ·rw[E.ck];show (decide ((["one","other"]:List Str)[0]?=some ("one" : Str)) && l0 (aj (aa 11)) "one" && gu "one")=true;decide +kernel
 ·rw[E.ck];show (decide ((["one","other"]:List Str)[1]?=some ("other" : Str)) && l0 (aj (aa 11)) "other" && gu "other")=true;decide +kernel
theorem Rm (O:Lw w) {L:bN} (hL:Lm w L):FO w 3 3 BD:=by
 obtain⟨f,fd,F⟩:=O.ok.df 3 ⟨"alike",aa 11,["one","other"]⟩ (by rw[O.hd];rfl);obtain⟨T,c0,pm,rfl⟩:=hL.e;refine⟨_,f,fd,by rw[O.hd];rfl,F,Om (t:=tF (g7 (pw (dp T c0 pm)) (g6 (jN 0) (g6 (jN 1) (g6 (zX (some (dp T c0 pm))) λ_ M q=>q [] M))))) (hL.c f fd F).2 (hL.c f fd F).1 BE (λA outer s H Ex hr=>?_) λds M Q h=>?_⟩
 ·obtain⟨v1,v2,v3⟩:=Rl;have C:bK nm ({ cs:=[(4,pw (dp T c0 pm))] }:a' w).wd w.T 2 ["one","other"] (aj (aa 11)) (dY a7 w.P w.w w.K w.mg w.base ["one","other"] "alike" (aj (aa 11)) f (.ref c0) A outer s H Ex).dG:=
   ⟨rfl,rfl,BE.nd,rfl,rfl,hr,by
    have:=a'.Ok.env O.ok (l:=({ cs:=[(4,pw (dp T c0 pm))] }:a' w)) (k:=2) { cs:=⟨⟨2,by decide,Rj O hL⟩,trivial⟩ };rw[O.hn]at this;exact this⟩
  obtain⟨p,p1,p2,pos,ff,e⟩:=Rk;obtain⟨g,gd,WV,g1,g2,g3,g4⟩:=C.en.fn 4 "fits" (by decide +kernel);show bP _ (aH (aa 11)) _;rw[e];refine vy (zJ (zv g1 C.room (C.a4 v3) g2 g3 g4 (i3 (E.ok (.v 0) C (v1 p1)).e (i3 (E.ok (.v 1) C (v2 p2)).e (i3 (Mv hL.j hL.s hL.k rfl rfl rfl rfl rfl hL.p) oH rfl) rfl) rfl) rfl (by decide) λz=>nomatch z))
 ·obtain⟨k,rfl,hk,h⟩:=h;exact⟨rfl,λf c ap hf=>⟨k,f,c,ap,rfl,hk,ah,_,cM hf,h⟩⟩
noncomputable def Rn:B:=.cons (.ret (.ite (.call 3 (.cons (.ix (.v 1) (.c (.int 0))) (.cons (.ix (.v 1) (.c (.int 1))) .nil))) (.call 17 (.cons (.v 0) (.cons (.v 1) .nil))) (.c .af))) .nil
noncomputable def Ro:B:=Rn
theorem Rp:aK ["question","below"] ["question","below"] (aj (aa 28)):=⟨rfl,rfl,rfl,by decide +kernel,rfl,by decide +kernel,by decide +kernel⟩
theorem Rq:Ro.ck nm ["question","below"] (aj (aa 28)) (aH (aa 28))=true:=by decide +kernel
noncomputable def Rr:B:=.cons (.ret (.ite (.iV .In (.v 1) (.tup (.cons (.lst (.cons (.g 1) (.cons (.g 1) .nil))) (.cons (.lst (.cons (.g 2) (.cons (.g 2) .nil))) .nil)))) (.g 3) (.c .af))) .nil
noncomputable def Rt:B:=Rr
theorem Ru:aK ["question","below"] ["question","below"] (aj (aa 30)):=⟨rfl,rfl,rfl,by decide +kernel,rfl,by decide +kernel,by decide +kernel⟩
theorem Rv:Rt.ck nm ["question","below"] (aj (aa 30)) (aH (aa 30))=true:=by decide +kernel
theorem Rw (O:Lw w) {L:bN} (hL:Lm w L):FO w 16 4 (dk λ_ ks d=>∃k,kz k<900/\ks=[kD (.aB k),kD (.aB k)]/\d=kD (.aB k)):=by
 refine a6 O.ok O.hn _ ⟨"both_kind",aa 28,["question","below"]⟩ (by rw[O.hd];rfl) { cs:=[(3,BD),(17,dk λ_ ks d=>∃pre k,ks=pre++[kD (.aB k)]/\d=kD (.aB k))] } { cs:=⟨⟨3,by decide,Rm O hL⟩,⟨1,by decide,Bb O⟩,trivial⟩ } Rp Rq λds M Q h=>?_;obtain⟨q,a,ks,d,rfl,ha,⟨k,hk,rfl,rfl⟩,h⟩:=h;exact⟨rfl,.inl ⟨_,_,_,.inl ha,rfl,rfl,.inl ⟨_,_,_,.inl ha,rfl,rfl,.aB k,rfl,by rw[kz];lia,q,a,_,_,rfl,ha,⟨[kD (.aB k)],k,rfl,rfl⟩,_,aG,h⟩⟩⟩
theorem Rx (O:Lw w):FO w 18 1 (dk λ_ ks d=>(ks=[kD .num,kD .num]\/ks=[kD .word,kD .word])/\d=.tup [.str "truth"]):=by
 refine a6 O.ok O.hn _ ⟨"same_kind",aa 30,["question","below"]⟩ (by rw[O.hd];rfl) {} { cs:=trivial } Ru Rv λds M Q h=>?_;obtain⟨q,a,ks,d,rfl,ha,⟨hk,rfl⟩,h⟩:=h;have e1:[w.gv.getD 1 .af,w.gv.getD 1 .af]=[kD .num,kD .num]:=by rw[O.g1]
 have e2:[w.gv.getD 2 .af,w.gv.getD 2 .af]=[kD .word,kD .word]:=by rw[O.g2]
 have h':Q (w.gv.getD 3 .af) M:=by rw[O.g3];exact h
 refine⟨rfl,l2,λl hl=>⟨l2,λl' bn=>⟨l2,?_⟩⟩⟩;have n1:a≠l:=aJ ha hl;have n2:a≠l':=aJ ha (cm bn).2;have n3:l≠l':=abx (cm bn).1;have s2:PL.Sub M (up (up M l (.lst [w.gv.getD 1 .af,w.gv.getD 1 .af])) l' (.lst [w.gv.getD 2 .af,w.gv.getD 2 .af])):=λc u e=>by rw[ao (aJ e (cm bn).2),ao (aJ e hl)];exact e
 rcases hk with rfl |rfl
 ·exact⟨_,_,_,[kT .num,kT .num],[kT .num,kT .num],[kT .word,kT .word],by rw[ao n2,ao n1];exact ha,by rw[ao n3];exact ah,ah,fJ,(congrArg aN e1).trans fJ,(congrArg aN e2).trans fJ,by decide +kernel,by decide +kernel,uJ (by simp) ⟨_,s2,h'⟩⟩
 ·exact⟨_,_,_,[kT .word,kT .word],[kT .num,kT .num],[kT .word,kT .word],by rw[ao n2,ao n1];exact ha,by rw[ao n3];exact ah,ah,fJ,(congrArg aN e1).trans fJ,(congrArg aN e2).trans fJ,by decide +kernel,by decide +kernel,uJ (by simp) ⟨_,s2,h'⟩⟩
theorem Ry (O:Lw w) {L:bN} (hL:Lm w L):∀p∈fL,mh w 5 (da w p.1) (dk p.2):=by
 intro p hp;unfold fL at hp;simp only[aa0,aa2,or_false]at hp;rcases hp with rfl |rfl |rfl |rfl |rfl |rfl |rfl |rfl |rfl |rfl |rfl
 ·exact FO.dC ((OR O).mono (by decide)) (d:=⟨"plain_kind",aa 22,["question","below"]⟩) (by rw[O.hd];rfl)
 ·exact FO.dC ((Pw O).mono (by decide)) (d:=⟨"row_kind",aa 23,["question","below"]⟩) (by rw[O.hd];rfl)
 ·exact FO.dC ((Px O).mono (by decide)) (d:=⟨"part_kind",aa 24,["question","below"]⟩) (by rw[O.hd];rfl)
 ·exact FO.dC ((Pq O).mono (by decide)) (d:=⟨"number_kind",aa 25,["question","below"]⟩) (by rw[O.hd];rfl)
 ·exact FO.dC ((OQ O).mono (by decide)) (d:=⟨"none_kind",aa 26,["question","below"]⟩) (by rw[O.hd];rfl)
 ·exact FO.dC ((OS O).mono (by decide)) (d:=⟨"one_kind",aa 27,["question","below"]⟩) (by rw[O.hd];rfl)
 ·exact FO.dC ((Rw O hL).mono (by decide)) (d:=⟨"both_kind",aa 28,["question","below"]⟩) (by rw[O.hd];rfl)
 ·exact FO.dC ((Bb O).mono (by decide)) (d:=⟨"last_bag_kind",aa 29,["question","below"]⟩) (by rw[O.hd];rfl)
 ·exact FO.dC ((Rx O).mono (by decide)) (d:=⟨"same_kind",aa 30,["question","below"]⟩) (by rw[O.hd];rfl)
 ·exact FO.dC ((Pr O).mono (by decide)) (d:=⟨"under_kind",aa 31,["question","below"]⟩) (by rw[O.hd];rfl)
 ·exact FO.dC ((OT O).mono (by decide)) (d:=⟨"truth_kind",aa 32,["question","below"]⟩) (by rw[O.hd];rfl)
theorem Rz (O:Lw w) {L:bN} (hL:Lm w L):FO w 5 8 uE:=QA O (by decide) ((QW O).mono (by decide)) (P7 O (Ry O hL))
variable {w:Wo}
noncomputable def a8 (c:Addr) (n r t:Int) (kn:Option Int):List (Key×D):=(.inr "cells",.ref c)::(.inr "next",.int n)::(.inr "rest",.int r)::(.inr "count",.int t)::(match kn with |none=>[] |some k=>[(.inr "knots",.int k)])
section
variable {c:Addr}{n r t x:Int}{kn:Option Int}
theorem hC:bc (a8 c n r t kn) (.inr "cells")=some (.ref c):=by unfold a8;rw[b5,if_pos rfl]
theorem hN:bc (a8 c n r t kn) (.inr "next")=some (.int n):=by unfold a8;rw[b5,if_neg (by decide),b5,if_pos rfl]
theorem hR:bc (a8 c n r t kn) (.inr "rest")=some (.int r):=by unfold a8;rw[b5,if_neg (by decide),b5,if_neg (by decide),b5,if_pos rfl]
theorem hT:bc (a8 c n r t kn) (.inr "count")=some (.int t):=by unfold a8;rw[b5,if_neg (by decide),b5,if_neg (by decide),b5,if_neg (by decide),b5,if_pos rfl]
theorem hK:bc (a8 c n r t (some x)) (.inr "knots")=some (.int x):=by unfold a8;rw[b5,if_neg (by decide),b5,if_neg (by decide),b5,if_neg (by decide),b5,if_neg (by decide),b5,if_pos rfl]
theorem Z0:bJ (a8 c n r t kn) (.inr "next") (.int x)=a8 c x r t kn:=by cases kn <;> rfl
theorem Zc:bJ (a8 c n r t kn) (.inr "rest") (.int x)=a8 c n x t kn:=by cases kn <;> rfl
theorem Z1:bJ (a8 c n r t kn) (.inr "count") (.int x)=a8 c n r x kn:=by cases kn <;> rfl
theorem YG:bJ (a8 c n r t kn) (.inr "knots") (.int x)=a8 c n r t (some x):=by cases kn <;> rfl
theorem hlen:(a8 c n r t kn).length<sizeLine:=by cases kn <;> (show _<sizeLine;exact aaP (by unfold a8;simp:_<=5) (by decide))
end
def Hs (M:Mp) (h c:Addr) (cs:List Int) (n r t:Int) (kn:Option Int):Prop:=M h=some (.ai (a8 c n r t kn))/\M c=some (.lst (cs.map D.int))
theorem Hs.put {M:Mp}{h c:Addr}{cs:List Int}{n r t n' r' t':Int}{kn uK:Option Int} (H:Hs M h c cs n r t kn):Hs (up M h (.ai (a8 c n' r' t' uK))) h c cs n' r' t' uK:=
 ⟨ah,by rw[ao (by rintro rfl;have:=H.1;rw[H.2]at this;cases this)];exact H.2⟩
def Hn (M:Mp) (h c:Addr) (cs:List Int) (kn:Option Int):Prop:=(∃n r t,Hs M h c cs n r t kn)/\1<=cs.length/\cs.length<=64
theorem Hn.new {M:Mp}{h c l:Addr}{cs:List Int}{kn:Option Int}{o:MO} (H:Hn M h c cs kn) (hl:M l=none):Hn (up M l o) h c cs kn:=by
 obtain⟨⟨n,r,t,H⟩,g⟩:=H;exact⟨⟨n,r,t,by rw[ao (aJ H.1 hl)];exact H.1,by rw[ao (aJ H.2 hl)];exact H.2⟩,g⟩
noncomputable def RA:B:=.cons (.put (.v 0) (.c (.str "rest")) (.op .FloorDiv (.ix (.v 0) (.c (.str "rest"))) (.v 1))) (.cons (.ret (.v 5)) .nil)
noncomputable def BF:B:=.cons (.set 5 (.op .Mod (.ix (.v 0) (.c (.str "rest"))) (.v 1))) RA
noncomputable def RB:B:=.cons (.ret (.op .Mod (.op .FloorDiv (.op .Mod (.op .Mult (.v 4) (.op .Add (.v 4) (.c (.int 7919)))) (.c (.int 2147483587))) (.c (.int 8))) (.v 1))) .nil
noncomputable def RC:B:=.cons (.set 4 (.op .Mod (.op .Mult (.v 4) (.v 4)) (.c (.int 2147483629)))) RB
noncomputable def BG:B:=.cons (.set 4 (.op .Mod (.op .Add (.op .Add (.op .Mod (.v 3) (.c (.int 2147483647))) (.op .Mult (.c (.int 104729)) (.ix (.v 0) (.c (.str "count"))))) (.op .Mult (.c (.int 7919)) (.v 2))) (.c (.int 2147483647)))) RC
noncomputable def RE:B:=.cons (.cond (.and (.cmp .Eq (.v 2) (.c (.int 0))) (.cmp .GtE (.v 3) (.op .Pow (.c (.int 10)) (.c (.int 18))))) (.cons (.put (.v 0) (.c (.str "rest")) (.v 3)) .nil) BG) .nil
noncomputable def RF:B:=.cons (.put (.v 0) (.c (.str "next")) (.op .Add (.ix (.v 0) (.c (.str "next"))) (.c (.int 1)))) RE
noncomputable def RG:B:=.cons (.set 3 (.ix (.ix (.v 0) (.c (.str "cells"))) (.op .Mod (.ix (.v 0) (.c (.str "next"))) (.bi .len (.cons (.ix (.v 0) (.c (.str "cells"))) .nil))))) RF
noncomputable def RH:B:=.cons (.set 2 (.op .FloorDiv (.ix (.v 0) (.c (.str "next"))) (.bi .len (.cons (.ix (.v 0) (.c (.str "cells"))) .nil)))) RG
noncomputable def RI:B:=.cons (.cond (.cmp .Eq (.ix (.v 0) (.c (.str "rest"))) (.c (.int 0))) RH .nil) BF
noncomputable def RJ:B:=.cons (.put (.v 0) (.c (.str "count")) (.op .Add (.ix (.v 0) (.c (.str "count"))) (.c (.int 1)))) RI
noncomputable def RK:B:=RJ
theorem RL:aK ["hand","limit","turn","cell","mixed","found"] ["hand","limit"] (aj (aa 36)):=⟨rfl,rfl,rfl,by decide +kernel,rfl,by decide +kernel,by decide +kernel⟩
theorem RN:RK.ck nm ["hand","limit","turn","cell","mixed","found"] (aj (aa 36)) (aH (aa 36))=true:=by decide +kernel
def eh:QN:=λds M Q=>∃h c cs kn m,ds=[.ref h,.int m]/\Hn M h c cs kn/\0<m/\m<2 ^ 200/\∀x M',0<=x->x<m->Up h M M'->Hn M' h c cs kn->Q (.int x) M'
theorem RP {cs:List Int}{i:Int} (h1:1<=cs.length):∃x,cg (cs.map D.int) (i % ((cs.map D.int).length:Nat))=some (.int x):=by
 have Z3:(0:Int)<((cs.map D.int).length:Nat):=by simp;lia
 have e1:=Int.emod_nonneg i (by lia:(((cs.map D.int).length:Nat):Int)≠0);have e2:=acb i Z3;have hk:(i % ((cs.map D.int).length:Nat)).toNat<(cs.map D.int).length:=by lia
 refine⟨cs[(i % ((cs.map D.int).length:Nat)).toNat]'(by simpa using hk),?_⟩;unfold cg eB;rw[if_pos e1,if_pos (by lia)];simp [aaI hk]
theorem p1:(0:Int)<2147483647:=by decide
theorem p2:(0:Int)<2147483629:=by decide
theorem p3:(0:Int)<2147483587:=by decide
theorem ei (O:Lw w):FO w 22 1 eh:=by
 refine a6 O.ok O.hn _ ⟨"_law_draw",aa 36,["hand","limit"]⟩ (by rw[O.hd];rfl) {} { cs:=trivial } RL RN λds M Q h=>?_;obtain⟨h,c,cs,kn,m,rfl,⟨⟨n,r,t,H⟩,g1,g2⟩,m1,m2,q⟩:=h;refine⟨rfl,.inr ⟨_,_,_,H.1,rfl,hT,.inr ⟨_,_,H.1,rfl,hlen,?_⟩⟩⟩;rw[Z1];have H1:Hs _ h c cs n r (t+1) kn:=H.put;have u1:Up h M (up M h (.ai (a8 c n r (t+1) kn))):=Up.rfl.put;generalize up M h (.ai (a8 c n r (t+1) kn))=X at H1 u1;have tail:∀Y n' r',Hs Y h c cs n' r' (t+1) kn->Up h M Y->∀v2 v3 v4 v5,B.w ({}:a' w).wd nm.aL BF (bS Q) [some (.ref h),some (.int m),v2,v3,v4,v5] Y:=λY n' r' HY uY v2 v3 v4 v5=>by
  refine .inr ⟨_,_,_,HY.1,rfl,hR,m1,.inr ⟨_,_,_,HY.1,rfl,hR,⟨m1,m2⟩,.inr ⟨_,_,HY.1,rfl,hlen,?_⟩⟩⟩;rw[Zc];exact⟨_,aG,q _ _ (Int.emod_nonneg _ (by lia)) (acb _ m1) uY.put ⟨⟨_,_,_,HY.put⟩,g1,g2⟩⟩
 refine .inr ⟨_,_,_,H1.1,rfl,hR,aC rfl (a9 (λe=>?_) λe=>tail _ _ _ H1 u1 _ _ _ _)⟩;have ll:(0:Int)<((cs.map D.int).length:Nat):=by simp;lia
 have cW:(((cs.map D.int).length:Nat):Int)<2 ^ 200:=abv (by simp;lia:_<=(64:Int)) (by decide);refine .inr ⟨_,_,_,H1.1,rfl,hN,.inr ⟨_,_,_,H1.1,rfl,hC,.inl ⟨_,.inl H1.2,⟨ll,cW⟩,?_⟩⟩⟩;obtain⟨cell,jp⟩:=RP (i:=n) g1;refine .inr ⟨_,_,_,H1.1,rfl,hC,.inr ⟨_,_,_,H1.1,rfl,hN,.inr ⟨_,_,_,H1.1,rfl,hC,.inl ⟨_,.inl H1.2,ll,.inl ⟨_,_,_,.inl H1.2,rfl,jp,?_⟩⟩⟩⟩⟩;refine .inr ⟨_,_,_,H1.1,rfl,hN,.inr ⟨_,_,H1.1,rfl,hlen,?_⟩⟩;rw[Z0];have H2:Hs _ h c cs (n+1) r (t+1) kn:=H1.put;have u2:=u1.put (o:=.ai (a8 c (n+1) r (t+1) kn));generalize up X h (.ai (a8 c (n+1) r (t+1) kn))=Y at H2 u2;have BH:∀(cu:Int) (e:En),(∀d M',(∃bd,PL.Sub bd M'/\Q d bd)->e.rt d M')->B.w ({}:a' w).wd nm.aL BG e [some (.ref h),some (.int m),some (.int cu),some (.int cell),none,none] Y:=λcu e he=>by
  refine⟨p1,.inr ⟨_,_,_,H2.1,rfl,hT,.inl (.inl ⟨by decide,by decide⟩),.inl (.inl ⟨by decide,by decide⟩),p1,?_⟩⟩;have b1:=Int.emod_nonneg (cell % 2147483647+104729 * (t+1)+7919 * cu) (by decide:(2147483647:Int)≠0);have b2:=acb (cell % 2147483647+104729 * (t+1)+7919 * cu) (by decide:(0:Int)<2147483647);generalize (cell % 2147483647+104729 * (t+1)+7919 * cu) % 2147483647=mx at b1 b2;refine⟨.inl (.inl ⟨by lia,by lia⟩),p2,?_⟩;have c1:=Int.emod_nonneg (mx * mx) (by decide:(2147483629:Int)≠0);have c2:=acb (mx * mx) (by decide:(0:Int)<2147483629);generalize mx * mx % 2147483629=aav at c1 c2;exact⟨.inl (.inl ⟨by lia,by lia⟩),p3,⟨by decide,by decide⟩,m1,he _ _ ⟨_,aG,q _ _ (Int.emod_nonneg _ (by lia)) (acb _ m1) u2 ⟨⟨_,_,_,H2⟩,g1,g2⟩⟩⟩
 refine aC rfl (a9 (λe1=>⟨⟨by decide,by decide,by decide⟩,a9 (λe2=>?_) λe2=>BH _ _ λ_ _ z=>z⟩) λe1=>aO (BH _ _ λ_ _ z=>z));refine .inr ⟨_,_,H2.1,rfl,hlen,?_⟩;rw[Zc];exact tail _ _ _ H2.put u2.put _ _ _ _
variable {w:Wo}
theorem px {xs:List D}{x:Int} (h0:0<=x) (h1:x<xs.length):∃d,cg xs x=some d/\d∈xs:=by
 have hk:x.toNat<xs.length:=by lia
 refine⟨xs[x.toNat],?_,acr hk⟩;unfold cg eB;rw[if_pos h0,if_pos (by lia)];simp [aaI hk]
theorem RQ {cs:List Nat}{x:Int} (h0:0<=x) (h1:x<cs.length):∃c,cg cs x=some c:=by
 have hk:x.toNat<cs.length:=by lia
 refine⟨cs[x.toNat],?_⟩;unfold cg eB;rw[if_pos h0,if_pos (by lia)];simp [aaI hk]
theorem RT (l:List Str):(l.map D.str).all gX=true:=by rw[List.all_map];exact List.all_eq_true.mpr λ_ _=>rfl
theorem sz {n:Nat} (h:n<=1000):n<=sizeLine:=aaZ h (by decide)
theorem Hn.up {M M':Mp}{h c:Addr}{cs:List Int}{kn:Option Int}:Hn M h c cs kn->∃o,M h=some o:=λ⟨⟨_,_,_,H⟩,_⟩=>⟨_,H.1⟩
noncomputable def RU:B:=.cons (.set 2 (.op .Add (.sl (.v 2) (.c (.int 1)) .cf) (.c (.str "xy")))) .nil
noncomputable def RV:B:=.cons (.cond (.cmp .In (.v 2) (.split (.v 4) (.c (.str " ")))) RU .nil) (.cons (.ret (.v 2)) .nil)
noncomputable def BI:B:=.cons (.set 4 (.c (.str "num word row bag var table at add mul none one both times for when let same under and or not"))) RV
noncomputable def BJ:B:=.cons (.set 2 (.op .Add (.v 2) (.ix (.v 1) (.call 22 (.cons (.v 0) (.cons (.bi .len (.cons (.v 1) .nil)) .nil)))))) .nil
noncomputable def RW:B:=.cons (.loop (.one 3) (.dR (.ix (.lst (.cons (.c (.int 1)) (.cons (.c (.int 1)) (.cons (.c (.int 2)) (.cons (.c (.int 3)) (.cons (.c (.int 8)) (.cons (.op .Add (.c (.int 1)) (.call 22 (.cons (.v 0) (.cons (.c (.int 8)) .nil)))) .nil))))))) (.call 22 (.cons (.v 0) (.cons (.c (.int 6)) .nil))))) BJ) BI
noncomputable def RX:B:=.cons (.set 1 (.ix (.lst (.cons (.c (.str "ab")) (.cons (.c (.str "abcdefghijklmnopqrstuvwxyz")) .nil))) (.call 22 (.cons (.v 0) (.cons (.c (.int 2)) .nil))))) (.cons (.set 2 (.c (.str ""))) RW)
noncomputable def RY:B:=RX
theorem RZ:aK ["hand","letters","word","k","words"] ["hand"] (aj (aa 37)):=⟨rfl,rfl,rfl,by decide +kernel,rfl,by decide +kernel,by decide +kernel⟩
theorem R0:RY.ck nm ["hand","letters","word","k","words"] (aj (aa 37)) (aH (aa 37))=true:=by decide +kernel
noncomputable abbrev XO (w:Wo):a' w:={ cs:=[(22,eh)] }
theorem BK (O:Lw w) {k:Nat} (hk:1<=k):(XO w).Ok k:={ cs:=⟨⟨1,hk,ei O⟩,trivial⟩ }
def my:QN:=λds M Q=>∃h c cs kn,ds=[.ref h]/\Hn M h c cs kn/\∀x M',Up h M M'->Hn M' h c cs kn->Q (.str x) M'
theorem pz (O:Lw w):FO w 23 2 my:=by
 refine a6 O.ok O.hn _ ⟨"_law_name",aa 37,["hand"]⟩ (by rw[O.hd];rfl) (XO w) (BK O (by decide)) RZ R0 λds M Q h=>?_;obtain⟨h,c,cs,kn,rfl,H,q⟩:=h;refine⟨rfl,l2,λp hp=>⟨h,c,cs,kn,_,rfl,H.new hp,by decide,by decide,λx M1 x0 x1 u1 H1=>?_⟩⟩;obtain⟨d,hd,hm⟩:=px (xs:=[D.str "ab",D.str "abcdefghijklmnopqrstuvwxyz"]) x0 x1;have BL:M1 p=some (.lst [D.str "ab",D.str "abcdefghijklmnopqrstuvwxyz"]):=u1 _ _ (by rintro rfl;obtain⟨o,ho⟩:=H.up (M':=M);rw[ho]at hp;cases hp) ah;refine .inl ⟨_,_,_,.inl BL,rfl,hd,?_⟩;obtain⟨z,rfl,z1,z2⟩:∃z,d=D.str z/\1<=z.length/\z.length<=26:=by
  simp only[aa0,aa2,or_false]at hm;rcases hm with rfl |rfl
  ·exact⟨_,rfl,by decide +kernel,by decide +kernel⟩
  ·exact⟨_,rfl,by decide +kernel,by decide +kernel⟩
 have ua:Up h M M1:=(Up.rfl.new hp).trans u1;clear u1 BL hp hd hm;have key:∀M2 n v3,n<=8->Up h M M2->Hn M2 h c cs kn->iZ (λ_=>True) (.one 3) (B.w (XO w).wd nm.aL BJ) { bS Q with nx:=B.w (XO w).wd nm.aL BI (bS Q) } (dB 0 n) [some (.ref h),some (.str z),some (.str ""),v3,none] M2:=by
  intro M2 n v3 hn u2 H2;refine hO (λxs τ M'=>∃word v,τ=[some (.ref h),some (.str z),some (.str word),v,none]/\word.length+xs.length<=8/\Up h M M'/\Hn M' h c cs kn) ?_ ?_ _ _ _ ⟨_,_,rfl,?_,u2,H2⟩
  ·rintro τ M' ⟨word,v,rfl,hl,u,H⟩;refine⟨aaV,?_⟩;refine⟨by decide +kernel,sz (by decide +kernel),λl bn=>.inl ⟨_,.inl ah,rfl,RT _,?_⟩⟩;have ls:=Txt.slice_le word (some 1) none;have e2:(abz "xy").length=2:=(by decide +kernel);have hw:word.length<=8:=(by simpa using hl);refine a9 (λ_=>⟨sz (by lia),sz (by rw[e2];lia),_,aG,q _ _ (u.new bn) (H.new bn)⟩) λ_=>⟨_,aG,q _ _ (u.new bn) (H.new bn)⟩
  ·rintro x xs τ M' ⟨word,v,rfl,hl,u,H⟩;refine⟨aaV,λN hN=>?_⟩;rw[aaS]at hl;refine⟨sz (by lia),h,c,cs,kn,_,rfl,H,by lia,abv (by lia:_<=(26:Int)) (by decide),λy M3 y0 y1 u3 H3=>?_⟩;have Xp:z.cps.toList.length=z.length:=(by show z.cps.toList.length=z.cps.size;simp);obtain⟨ch,hc⟩:=RQ (cs:=z.cps.toList) y0 (by rw[Xp];exact y1);refine⟨sz (by lia),ch,hc,sz (by show word.length+1<=_;lia),hN _ _ ⟨_,_,rfl,?_,u.trans u3,H3⟩⟩;show (word.cps++#[ch]).size+_<=8;have:word.length=word.cps.size:=rfl;rw[Array.size_append];show _+1+_<=8;lia
  ·show 0+_<=8;unfold dB;simp;lia
 refine⟨h,c,cs,kn,_,rfl,H1,by decide,by decide,λy M2 y0 y1 u2 H2=>⟨sz (by show 6<=1000;decide),λp hp=>⟨h,c,cs,kn,_,rfl,H2.new hp,by decide,by decide,λx M3 x0 x1 u3 H3=>?_⟩⟩⟩;obtain⟨d,hd,hm⟩:=px (xs:=[D.int 1,D.int 1,D.int 2,D.int 3,D.int 8,D.int (1+y)]) x0 x1;have np:p≠h:=by rintro rfl;obtain⟨o,ho⟩:=H2.up (M':=M);rw[ho]at hp;cases hp
 refine .inl ⟨_,_,_,.inl (u3 _ _ np ah),rfl,hd,?_⟩;obtain⟨n,rfl,n1⟩:∃n:Nat,d=D.int n/\n<=8:=by
  simp only[aa0,aa2,or_false]at hm;rcases hm with rfl |rfl |rfl |rfl |rfl |rfl
  ·exact⟨1,rfl,by decide⟩
  ·exact⟨1,rfl,by decide⟩
  ·exact⟨2,rfl,by decide⟩
  ·exact⟨3,rfl,by decide⟩
  ·exact⟨8,rfl,by decide⟩
  ·exact⟨(1+y).toNat,by rw[Int.toNat_of_nonneg (by lia)],by lia⟩
 refine⟨by lia,abv (by lia:_<=(8:Int)) (by decide),?_⟩;exact key M3 n none n1 (ua.trans (u2.trans ((Up.rfl.new hp).trans u3))) H3
noncomputable def R1:B:=.cons (.ret (.ix (.lst (.cons (.c (.int 0)) (.cons (.c (.int 1)) (.cons (.op .Sub (.call 22 (.cons (.v 0) (.cons (.c (.int 100)) .nil))) (.c (.int 50))) (.cons (.op .Add (.op .Sub (.call 22 (.cons (.v 0) (.cons (.op .Sub (.op .Mult (.c (.int 2)) (.op .Pow (.c (.int 10)) (.c (.int 30)))) (.c (.int 1))) .nil))) (.op .Pow (.c (.int 10)) (.c (.int 30)))) (.c (.int 1))) .nil))))) (.call 22 (.cons (.v 0) (.cons (.c (.int 4)) .nil))))) .nil
noncomputable def R3:B:=R1
theorem R4:aK ["hand"] ["hand"] (aj (aa 38)):=⟨rfl,rfl,rfl,by decide +kernel,rfl,by decide +kernel,by decide +kernel⟩
theorem R5:R3.ck nm ["hand"] (aj (aa 38)) (aH (aa 38))=true:=by decide +kernel
def uL:QN:=λds M Q=>∃h c cs kn,ds=[.ref h]/\Hn M h c cs kn/\∀x M',Up h M M'->Hn M' h c cs kn->Q (.int x) M'
theorem BM (O:Lw w):FO w 24 2 uL:=by
 refine a6 O.ok O.hn _ ⟨"_law_number",aa 38,["hand"]⟩ (by rw[O.hd];rfl) (XO w) (BK O (by decide)) R4 R5 λds M Q h=>?_;obtain⟨h,c,cs,kn,rfl,H,q⟩:=h;refine⟨rfl,h,c,cs,kn,_,rfl,H,by decide,by decide,λa M1 a0 a1 u1 H1=>?_⟩;refine⟨⟨by decide,by decide,by decide⟩,.inl (.inl ⟨by decide,by decide⟩),h,c,cs,kn,_,rfl,H1,by decide,by decide,λb M2 Xy b1 u2 H2=>⟨⟨by decide,by decide,by decide⟩,sz (by show 4<=1000;decide),λp hp=>?_⟩⟩;refine⟨h,c,cs,kn,_,rfl,H2.new hp,by decide,by decide,λx M3 x0 x1 u3 H3=>?_⟩;obtain⟨d,hd,hm⟩:=px (xs:=[D.int 0,D.int 1,D.int (a-50),D.int (b-10 ^ 30+1)]) x0 x1;have np:p≠h:=by rintro rfl;obtain⟨o,ho⟩:=H2.up (M':=M);rw[ho]at hp;cases hp
 refine .inl ⟨_,_,_,.inl (u3 _ _ np ah),rfl,hd,_,aG,?_⟩;obtain⟨n,rfl⟩:∃n:Int,d=D.int n:=by
  simp only[aa0,aa2,or_false]at hm;rcases hm with rfl |rfl |rfl |rfl <;> exact⟨_,rfl⟩
 exact q _ _ (u1.trans (u2.trans ((Up.rfl.new hp).trans u3))) H3
noncomputable def R6:B:=.cons (.ret (.sset (.lc 1 [0] (.one 0) (.dR (.call 22 (.cons (.v 0) (.cons (.v 1) .nil)))) .cf (.call 23 (.cons (.v 1) .nil))))) .nil
noncomputable def R7:B:=R6
theorem R8:aK ["hand","many"] ["hand","many"] (aj (aa 39)):=⟨rfl,rfl,rfl,by decide +kernel,rfl,by decide +kernel,by decide +kernel⟩
theorem R9:R7.ck nm ["hand","many"] (aj (aa 39)) (aH (aa 39))=true:=by decide +kernel
def pA (b:Int):QN:=λds M Q=>∃h c cs kn m,ds=[.ref h,.int m]/\Hn M h c cs kn/\0<m/\m<=b/\∀(p:Addr) (ys:List Str) (M':Mp),Up h M M'->Hn M' h c cs kn->M p=none->M' p=some (.lst (ys.map D.str))->ys.Nodup->(ys.length:Int)<m->Q (.ref p) M'
noncomputable abbrev Zd (w:Wo):a' w:={ cs:=[(22,eh),(23,my)] }
theorem R' (O:Lw w) {k:Nat} (hk:2<=k):(Zd w).Ok k:={ cs:=⟨⟨1,by lia,ei O⟩,⟨2,hk,pz O⟩,trivial⟩ }
theorem BN:∀{ys zs:List Str},ys.Nodup->(∀x∈ys,x∈zs)->ys.length<=zs.length
 |[],_,_,_=>abA _
 |y::ys,zs,nd,h=>by
  rw[List.nodup_cons]at nd;have hy:=h y aaO;have:=BN (ys:=ys) (zs:=zs.erase y) nd.2 λx hx=>(List.mem_erase_of_ne (a:=x) (b:=y) (by rintro rfl;exact nd.1 hx)).mpr (h x (aaK _ hx));rw[List.length_erase_of_mem hy]at this;have:=List.length_pos_of_mem hy;rw[aaS];lia
theorem kI {h:Addr}{M M':Mp}{p:Addr} (u:Up h M M') (hp:M' p=none) (hh:∃o,M' h=some o):M p=none:=by
 cases e:M p with
 |none=>rfl
 |some o=>
  have n:p≠h:=by rintro rfl;obtain⟨o,ho⟩:=hh;rw[ho]at hp;cases hp
  rw[u _ _ n e]at hp;cases hp
theorem pB (O:Lw w):FO w 25 3 (pA 50):=by
 refine a6 O.ok O.hn _ ⟨"_law_fields",aa 39,["hand","many"]⟩ (by rw[O.hd];rfl) (Zd w) (R' O (by decide)) R8 R9 λds M Q h=>?_;obtain⟨h,c,cs,kn,m,rfl,H,m0,m1,q⟩:=h;refine⟨rfl,h,c,cs,kn,_,rfl,H,m0,abv m1 (by decide),λn M1 n0 n1 u1 H1=>⟨by lia,abv (by lia:n<=50) (by decide),?_⟩⟩;refine dj (λxs ys M'=>∃zs:List Str,ys=zs.map D.str/\zs.length+xs.length=n.toNat/\Up h M M'/\Hn M' h c cs kn) ?_ ?_ _ _ _ ⟨[],rfl,by unfold dB;simp,u1,H1⟩
 ·rintro ys M' ⟨zs,rfl,hl,u,H⟩;rw[abV,Nat.add_zero]at hl;refine⟨aaV,aaP (by rw[aaN];lia:_<=50) (by decide),λl bn=>⟨zs,zs,ah,sz (by lia),by lia,λ_ z=>z,λp ys hp nd mem _=>⟨_,aG,?_⟩⟩⟩;have bg:=(cm hp).2;refine q p ys _ ((u.new bn).new hp) ((H.new bn).new hp) (kI (u.new bn) hp ((H.new bn).up (M':=M))) ah nd ?_;have:=BN nd λx hx=>(mem x).mp hx;lia
 ·rintro x xs ys M' ⟨zs,rfl,hl,u,H⟩;rw[aaS]at hl;refine⟨aaV,aaP (by rw[aaN];lia:_<=50) (by decide),λN hN=>⟨h,c,cs,kn,rfl,H,λy M3 u3 H3=>hN _ _ ⟨zs++[y],by simp,by simp;lia,u.trans u3,H3⟩⟩⟩
variable {w:Wo}
def BO:Kd->Prop
 |.row fs=>(fs.map (·.1)).Nodup
 |_=>True
theorem pC {z:Nat}:∀{fs:List (Str×Kd)},(∀p∈fs,kz p.2<=z)->c9 fs<=fs.length * (z+1)
 |[],_=>by rw[c9];exact abA _
 |(x,k)::r,h=>by
  have h1:kz k<=z:=h (x,k) aaO;have h2:=pC (fs:=r) λp hp=>h p (aaK _ hp);rw[c9,aaS,Nat.add_mul];lia
theorem pD {z:Nat}:∀{fs:List (Str×Kd)},(∀p∈fs,kd p.2<=z)->cV fs<=z
 |[],_=>by rw[cV];exact abA _
 |(x,k)::r,h=>by
  have h1:kd k<=z:=h (x,k) aaO;have h2:=pD (fs:=r) λp hp=>h p (aaK _ hp);rw[cV];lia
noncomputable def Sa:B:=.cons (.ret (.tup (.cons (.c (.str "bag")) (.cons (.call 26 (.cons (.v 0) (.cons (.op .Sub (.v 1) (.c (.int 1))) .nil))) .nil)))) .nil
noncomputable def uM:B:=.cons (.ret (.tup (.cons (.c (.str "row")) (.cons (.bi .tuple (.cons (.lc 1 [0,1] (.one 0) (.seq (.call 25 (.cons (.v 0) (.cons (.v 3) .nil)))) .cf (.tup (.cons (.v 0) (.cons (.call 26 (.cons (.v 1) (.cons (.op .Sub (.v 2) (.c (.int 1))) .nil))) .nil)))) .nil)) .nil)))) .nil
noncomputable def Sb:B:=.cons (.set 3 (.ix (.lst (.cons (.c (.int 3)) (.cons (.c (.int 7)) .nil))) (.bi .int (.cons (.and (.cmp .Eq (.v 1) (.c (.int 1))) (.cmp .Eq (.call 22 (.cons (.v 0) (.cons (.c (.int 8)) .nil))) (.c (.int 0)))) .nil)))) uM
noncomputable def Sd:B:=.cons (.cond (.cmp .Lt (.v 2) (.c (.int 4))) Sb .nil) Sa
noncomputable def BP:B:=.cons (.ret (.ix (.lst (.cons (.tup (.cons (.c (.str "num")) .nil)) (.cons (.tup (.cons (.c (.str "word")) .nil)) .nil))) (.v 2))) .nil
noncomputable def Se:B:=.cons (.cond (.cmp .Lt (.v 2) (.c (.int 2))) BP .nil) Sd
noncomputable def Sf:B:=.cons (.set 2 (.call 22 (.cons (.v 0) (.cons (.ix (.lst (.cons (.c (.int 2)) (.cons (.c (.int 6)) .nil))) (.bi .int (.cons (.cmp .Gt (.v 1) (.c (.int 0))) .nil))) .nil)))) Se
noncomputable def Sg:B:=Sf
theorem BQ:aK ["hand","deep","style","many"] ["hand","deep"] (aj (aa 40)):=⟨rfl,rfl,rfl,by decide +kernel,rfl,by decide +kernel,by decide +kernel⟩
theorem BR:Sg.ck nm ["hand","deep","style","many"] (aj (aa 40)) (aH (aa 40))=true:=by decide +kernel
def ej (d z:Nat):QN:=λds M Q=>∃h c cs kn,ds=[.ref h,.int d]/\Hn M h c cs kn/\∀k M',Up h M M'->Hn M' h c cs kn->BO k->kz k<=z->kd k<=3 * d+1->Q (kD k) M'
noncomputable abbrev pE (w:Wo) (sp:QN):a' w:={ cs:=[(22,eh),(25,pA 50),(26,sp)] }
theorem pF {P:Int->Prop}{a b:Int}{M:Mp}{p:Addr}{c:Bool} (hp:M p=some (.lst [.int a,.int b])) {Q:QK} (h:∀x,(c=true->x=b)->(c=false->x=a)->Q (.int x) M):ax (.ref p) (.int (if c then 1 else 0)) M Q:=by
 cases c
 ·exact .inl ⟨_,_,.int a,.inl hp,rfl,rfl,h a (λz=>nomatch z) λ_=>rfl⟩
 ·exact .inl ⟨_,_,.int b,.inl hp,rfl,rfl,h b (λ_=>rfl) λz=>nomatch z⟩
theorem BS {st:Int}{M:Mp}{l:a' w}{Q:QK}{v0 v1 v3:Option D} (s0:0<=st) (s1:st<2) (q:∀ k p,(k=.num\/k=.word)->M p=none->Q (kD k) (up M p (.lst [kD .num,kD .word]))) :
  B.w l.wd nm.aL BP (bS Q) [v0,v1,some (.int st),v3] M:=by
 refine⟨l1,l1,l2,λp hp=>?_⟩;rcases (by lia:st=0\/st=1) with rfl |rfl
 ·exact .inl ⟨_,_,_,.inl ah,rfl,rfl,_,aG,q .num p (.inl rfl) hp⟩
 ·exact .inl ⟨_,_,_,.inl ah,rfl,rfl,_,aG,q .word p (.inr rfl) hp⟩
theorem BU (O:Lw w):FO w 26 4 (ej 0 1):=by
 refine a6 O.ok O.hn _ ⟨"_law_kind",aa 40,["hand","deep"]⟩ (by rw[O.hd];rfl) (pE w um) { cs:=⟨⟨1,by decide,ei O⟩,⟨3,by decide,pB O⟩,⟨0,by decide,?_⟩,trivial⟩ } BQ BR λds M Q h=>?_
 ·exact me O.ok (i:=26) (d:=⟨"_law_kind",aa 40,["hand","deep"]⟩) (by rw[O.hd];rfl) (cs:=[]) trivial
 obtain⟨h,c,cs,kn,rfl,H,q⟩:=h;refine⟨rfl,l2,λp hp=>pF (P:=λ_=>True) (c:=false) ah λx _ hx=>?_⟩;cases hx rfl;refine⟨h,c,cs,kn,_,rfl,H.new hp,by decide,by decide,λst M1 s0 s1 u1 H1=>?_⟩;have e:decide (st<2)=true:=decide_eq_true s1;refine (show if decide (st<2)=true then _ else _ from ?_)
 rw[if_pos e];refine BS s0 s1 λk p hk bg=>q k _ (((Up.rfl.new hp).trans u1).new bg) (H1.new bg) ?_ ?_ ?_
 ·rcases hk with rfl |rfl <;> exact aaV
 ·rcases hk with rfl |rfl <;> (rw[kz];lia)
 ·rcases hk with rfl |rfl <;> (rw[kd];lia)
theorem BV (O:Lw w) {k d z m:Nat} (hk:3<=k) (hm:m=if d=0 then 6 else 2) (ih:FO w 26 k (ej d z)) (hz:1<=z):FO w 26 (k+1) (ej (d+1) (m * (z+1)+1)):=by
  refine a6 O.ok O.hn _ ⟨"_law_kind",aa 40,["hand","deep"]⟩ (by rw[O.hd];rfl) (pE w (ej d z)) { cs:=⟨⟨1,by lia,ei O⟩,⟨3,by lia,pB O⟩,⟨k,aaH _,ih⟩,trivial⟩ } BQ BR λds M Q h=>?_;obtain⟨h,c,cs,kn,rfl,H,q⟩:=h;have aaw:z+1<=m * (z+1):=Nat.le_mul_of_pos_left _ (by rw[hm];split <;> lia);have pos:decide ((0:Int)<((d+1:Nat):Int))=true:=decide_eq_true (by lia);refine⟨rfl,l2,λp hp=>?_⟩;refine (show ax (.ref p) (.int (if decide ((0:Int)<((d+1:Nat):Int))=true then 1 else 0)) _ _ from ?_)
  rw[pos];refine pF (P:=λ_=>True) (c:=true) ah λx hx _=>?_;cases hx rfl;refine⟨h,c,cs,kn,_,rfl,H.new hp,by decide,by decide,λst M1 s0 s1 u1 H1=>?_⟩;have ua:=(Up.rfl.new hp).trans u1;have dd:(((d+1:Nat):Int)-1)=((d:Nat):Int):=by lia
  refine (show if decide (st<2)=true then _ else _ from a9 (λe=>?_) λe=>?_)
  · refine BS s0 (of_decide_eq_true e) λk p hk bg=>q k _ (ua.new bg) (H1.new bg) ?_ ?_ ?_
    · rcases hk with rfl |rfl <;> exact aaV
    · rcases hk with rfl |rfl <;> (rw[kz];lia)
    · rcases hk with rfl |rfl <;> (rw[kd];lia)
  refine (show if decide (st<4)=true then _ else _ from a9 (λe2=>?_) λe2=>?_)
  · have row : ∀ M2 (XQ : Int), Up h M M2 -> Hn M2 h c cs kn -> 0 < XQ -> XQ <= m + 1 -> B.w (pE w (ej d z)).wd nm.aL uM (bS Q) [some (.ref h), some (.int ((d + 1 : Nat) : Int)), some (.int st), some (.int XQ)] M2 := by
      intro M2 XQ u2 H2 m0 m1;have aax:m<=6:=(by rw[hm];split <;> lia);refine⟨h,c,cs,kn,XQ,rfl,H2,m0,by lia,λl names M3 u3 H3 hU hl nd ln=>⟨_,.inl hl,?_⟩⟩;have nl:l≠h:=(by rintro rfl;obtain⟨o,ho⟩:=H2.up (M':=M);rw[ho]at hU;cases hU);refine dj (λxs ys M'=>∃rest fs,xs=rest.map D.str/\names=fs.map (·.1)++rest/\ys=aM fs/\(∀p∈fs,kz p.2<=z)/\(∀p∈fs,kd p.2<=3 * d+1)/\Up h M M'/\Hn M' h c cs kn/\M' l=some (.lst (names.map D.str))) ?_ ?_ _ _ _ ⟨names,[],rfl,rfl,by rw[aM],λ_ z=>(nomatch z),λ_ z=>(nomatch z),u2.trans u3,H3,hl⟩
      · rintro ys M' ⟨rest,fs,e1,e3,rfl,g1,g2,u,H4,dQ⟩;have:rest=[]:=(by simpa using e1.symm);subst this;rw[aa4]at e3
        have lf : fs.length ≤ m := by have : names.length = fs.length := by rw [e3]; simp
                                      lia
        refine⟨.inl dQ,aaP (by rw[fK];lia:_<=6) (by decide),λp bg=>⟨_,.inl ah,l2,_,aG,?_⟩⟩;refine q (.row fs) _ (u.new bg) (H4.new bg) ?_ ?_ ?_
        · show (fs.map (·.1)).Nodup;rw[<- e3];exact nd
        · have:=pC g1;have:=Nat.mul_le_mul_right (z+1) lf;rw[kz];lia
        · have:=pD g2;rw[kd];lia
      · rintro x xs ys M' ⟨rest,fs,e1,e3,rfl,g1,g2,u,H4,dQ⟩;cases rest with
        |nil=>cases e1
        | cons y rest=>
          cases e1
          have lf : fs.length ≤ 6 := by have : names.length = fs.length + (rest.length + 1) := by rw [e3]; simp
                                        lia
          refine⟨.inl dQ,aaP (by rw[fK];lia:_<=6) (by decide),λN hN=>?_⟩;refine⟨h,c,cs,kn,(by show [D.ref h,D.int (((d+1:Nat):Int)-1)]=_;rw[dd]),H4,λk M5 u5 H5 o5 z5 Xv=>⟨l2,hN _ _ ⟨rest,fs++[(y,k)],rfl,by rw[e3];simp,by rw[mm],?_,?_,u.trans u5,H5,u5 _ _ nl dQ⟩⟩⟩
          · intro p bg;rcases List.mem_append.mp bg with z' | z'
            · exact g1 p z'
            · rw[List.mem_singleton.mp z'];exact z5
          · intro p bg;rcases List.mem_append.mp bg with z' | z'
            · exact g2 p z'
            · rw[List.mem_singleton.mp z'];exact Xv
    refine⟨l2,λp2 bU=>?_⟩;have fin:∀ (M2:Mp) (b:Bool),Up h M M2->Hn M2 h c cs kn->M2 p2=some (.lst [.int 3,.int 7])->(b=true->d=0)->ax (.ref p2) (.int (if b=true then 1 else 0)) M2 λv M3=>B.w (pE w (ej d z)).wd nm.aL uM (bS Q) [some (.ref h),some (.int ((d+1:Nat):Int)),some (.int st),some v] M3:=by
      intro M2 b u2 H2 Rs hb;refine pF (P:=λ_=>True) Rs λx h1 h2=>row M2 x u2 H2 ?_ ?_
      · cases b
        · rw[h2 rfl];decide
        · rw[h1 rfl];decide
      · cases b
        · rw[h2 rfl,hm];split <;> lia
        · rw[h1 rfl,hm,if_pos (hb rfl)];lia
    refine aC rfl (a9 (λe3=>?_) λe3=>fin _ false (ua.new bU) (H1.new bU) ah λz=>nomatch z);refine⟨h,c,cs,kn,_,rfl,H1.new bU,by decide,by decide,λy M2 y0 y1 u2 H2=>aC rfl ?_⟩;have np:p2≠h:=(by rintro rfl;obtain⟨o,ho⟩:=H1.up (M':=M);rw[ho]at bU;cases bU);refine fin M2 _ ((ua.new bU).trans u2) H2 (u2 _ _ np ah) λ_=>?_;have:=V.int.inj (of_decide_eq_true e3);lia
  · refine⟨h,c,cs,kn,(by show [D.ref h,D.int (((d+1:Nat):Int)-1)]=_;rw[dd]),H1,λk M5 u5 H5 o5 z5 Xv=>⟨l2,_,aG,q (.aB k) _ (ua.trans u5) H5 aaV ?_ ?_⟩⟩
    · rw[kz];lia
    · rw[kd];lia
theorem BW (O:Lw w):FO w 26 5 (ej 1 13):=BV O (by decide) rfl (BU O) (by decide)
theorem BX (O:Lw w):FO w 26 6 (ej 2 29):=BV O (m:=2) (by decide) rfl (BW O) (by decide)
variable {w:Wo}
structure jg (k:Kd):Prop where
 n:BO k
 z:kz k<=29
 d:kd k<=7
noncomputable def bw (x:Str) (k:Kd):Sc->Sc
 |[]=>[(x,k)]
 |(y,l)::r=>if y=x then (y,k)::r else (y,l)::bw x k r
theorem mz {x:Str}{k:Kd}{p:Str×Kd}:∀{sc:Sc},p∈bw x k sc->p∈sc\/p.2=k
 |[],h=>by rw[bw]at h;rw[List.mem_singleton.mp h];exact .inr rfl
 |(y,l)::r,h=>by
  rw[bw]at h;split at h
  ·rcases List.mem_cons.mp h with z |z
   ·rw[z];exact .inr rfl
   ·exact .inl (aaK _ z)
  ·rcases List.mem_cons.mp h with z |z
   ·rw[z];exact .inl aaO
   ·exact (mz z).imp (aaK _) id
theorem uN {x:Str}{k:Kd}:∀{sc:Sc},(bw x k sc).map (·.1)=if x∈sc.map (·.1) then sc.map (·.1) else sc.map (·.1)++[x]
 |[]=>rfl
 |(y,l)::r=>by
  rw[bw];by_cases e:y=x
  ·subst e;rw[if_pos rfl,if_pos (by simp)];rfl
  ·rw[if_neg e,aaR,uN];by_cases h:x∈r.map (·.1)
   ·rw[if_pos h,if_pos (by simp only[aaR,aa0];exact .inr h)];rfl
   ·rw[if_neg h,if_neg (by simp only[aaR,aa0,not_or];exact⟨abx e,h⟩)];rfl
theorem mB {x:Str}{k:Kd}{sc:Sc} (h:(sc.map (·.1)).Nodup):((bw x k sc).map (·.1)).Nodup:=by
 rw[uN];split
 ·exact h
 ·rename_i n;rw[List.nodup_append];exact⟨h,by simp,λa ha b hb=>by rw[List.mem_singleton.mp hb];rintro rfl;exact n ha⟩
theorem j9 {x:Str}{k:Kd}:∀{sc:Sc},(bw x k sc).length<=sc.length+1
 |[]=>aaH _
 |(y,l)::r=>by
  have:=@j9 x k r;rw[bw];split <;> simp [aaS] <;> lia
theorem uO {x y:Str}{k:Kd}:∀{sc:Sc},lk y (bw x k sc)=if y=x then some k else lk y sc
 |[]=>by rw[bw];rfl
 |(u,l)::r=>by
  rw[bw];by_cases e:u=x
  ·subst e;rw[if_pos rfl,lk,lk];split <;> rfl
  ·rw[if_neg e,lk,lk,uO];by_cases h:y=u
   ·rw[if_pos h,if_pos h,if_neg (λz=>e (by rw[<- h,z]))]
   ·rw[if_neg h,if_neg h]
theorem BY {x:Str}{v:D}:∀{sc:Sc},x ∉ sc.map (·.1)->(aE sc).map (λkv=>if kv.1=abL x then (kv.1,v) else kv)=aE sc
 |[],_=>rfl
 |(y,l)::r,h=>by
  simp only[aaR,aa0,not_or]at h;show (if (abL y:Key)=abL x then _ else _)::(aE r).map _=_
  rw[if_neg (λe=>h.1 (Sum.inr.inj e).symm),BY h.2];rfl
theorem BZ {x:Str}{k:Kd}:∀{sc:Sc},(sc.map (·.1)).Nodup->x∈sc.map (·.1)->(aE sc).map (λkv=>if kv.1=abL x then (kv.1,kD k) else kv)=aE (bw x k sc)
 |[],_,h=>by cases h
 |(y,l)::r,nd,h=>by
  rw[aaR,List.nodup_cons]at nd;show (if (abL y:Key)=abL x then _ else _)::(aE r).map _=_
  rw[bw];by_cases e:y=x
  ·subst e;rw[if_pos rfl,if_pos rfl,BY nd.1];rfl
  ·have h':x∈r.map (·.1):=by
    simp only[aaR,aa0]at h;exact h.resolve_left (abx e)
   rw[if_neg (λz=>e (Sum.inr.inj z)),if_neg e,BZ nd.2 h'];rfl
theorem B0 {x:Str}{k:Kd}:∀{sc:Sc},x ∉ sc.map (·.1)->sc++[(x,k)]=bw x k sc
 |[],_=>rfl
 |(y,l)::r,h=>by
  simp only[aaR,aa0,not_or]at h;rw[bw,if_neg (abx h.1),<- B0 h.2];rfl
theorem mC {x:Str}{k:Kd}{sc:Sc} (nd:(sc.map (·.1)).Nodup):bJ (aE sc) (.inr x) (kD k)=aE (bw x k sc):=by
 by_cases h:x∈sc.map (·.1)
 ·unfold bJ;have ha:(aE sc).any (λkv=>decide (kv.1=abL x))=true:=by
   obtain⟨p,hp,e⟩:=List.mem_map.mp h;exact List.any_eq_true.mpr ⟨(.inr p.1,kD p.2),List.mem_map.mpr ⟨p,hp,rfl⟩,decide_eq_true (by rw[<- e])⟩
  rw[if_pos ha,BZ nd h]
 ·rw[A7 h,B0 h]
theorem fM {sc:Sc}:(aE sc).length=sc.length:=by unfold aE;simp
structure Dc (M:Mp) (p:Addr) (sc:Sc):Prop where
 m:M p=some (.ai (aE sc))
 nd:(sc.map (·.1)).Nodup
 ok:∀q∈sc,jg q.2
noncomputable def Sh:B:=.cons (.put (.v 2) (.v 3) (.call 26 (.cons (.v 0) (.cons (.c (.int 2)) .nil)))) .nil
noncomputable def Si:B:=.cons (.loop (.one 3) (.seq (.call 25 (.cons (.v 0) (.cons (.v 1) .nil)))) Sh) (.cons (.ret (.v 2)) .nil)
noncomputable def Sj:B:=(.cons (.set 2 .iU) Si)
theorem Sk:aK ["hand","many","kinds","name"] ["hand","many"] (aj (aa 41)):=⟨rfl,rfl,rfl,by decide +kernel,rfl,by decide +kernel,by decide +kernel⟩
theorem Sl:Sj.ck nm ["hand","many","kinds","name"] (aj (aa 41)) (aH (aa 41))=true:=by decide +kernel
noncomputable def Sm:B:=.cons (.put (.v 1) (.c (.str "wide")) (.tup (.cons (.c (.str "row")) (.cons (.bi .tuple (.cons (.lc 1 [0] (.one 0) (.seq (.v 2)) .cf (.tup (.cons (.v 0) (.cons (.call 26 (.cons (.v 1) (.cons (.c (.int 0)) .nil))) .nil)))) .nil)) .nil)))) .nil
noncomputable def Sn:B:=.cons (.set 2 (.lc 1 [] (.one 0) (.txt (.sl (.c (.str "abcdefghijklmn")) .cf (.op .Add (.c (.int 10)) (.call 22 (.cons (.v 0) (.cons (.c (.int 5)) .nil)))))) .cf (.op .Add (.v 0) (.c (.str "qz"))))) Sm
noncomputable def So:B:=.cons (.cond (.cmp .Eq (.call 22 (.cons (.v 0) (.cons (.c (.int 3)) .nil))) (.c (.int 0))) Sn .nil) (.cons (.ret (.v 1)) .nil)
noncomputable def Sq:B:=So
theorem Sr:aK ["hand","kinds","fields"] ["hand","kinds"] (aj (aa 42)):=⟨rfl,rfl,rfl,by decide +kernel,rfl,by decide +kernel,by decide +kernel⟩
theorem Ss:Sq.ck nm ["hand","kinds","fields"] (aj (aa 42)) (aH (aa 42))=true:=by decide +kernel
def B1:QN:=λds M Q=>∃h c cs kn m,ds=[.ref h,.int m]/\Hn M h c cs kn/\0<m/\m<=10/\∀p sc M',Up h M M'->Hn M' h c cs kn->M p=none->Dc M' p sc->sc.length<=10->Q (.ref p) M'
noncomputable abbrev XC (w:Wo):a' w:={ cs:=[(25,pA 50),(26,ej 2 29)] }
theorem Su (O:Lw w):FO w 27 7 B1:=by
 refine a6 O.ok O.hn _ ⟨"_law_dict",aa 41,["hand","many"]⟩ (by rw[O.hd];rfl) (XC w) { cs:=⟨⟨3,by decide,pB O⟩,⟨6,by decide,BX O⟩,trivial⟩ } Sk Sl λds M Q h=>?_;obtain⟨h,c,cs,kn,m,rfl,H,m0,m1,q⟩:=h;refine⟨rfl,λp hp=>⟨h,c,cs,kn,m,rfl,H.new hp,m0,by lia,λl names M1 u1 H1 hU hl nd ln=>⟨_,.inl hl,?_⟩⟩⟩;have nh:∀{X:Mp}{y:Addr},Hn X h c cs kn->X y=none->y≠h:=λHX hy=>by rintro rfl;obtain⟨o,ho⟩:=HX.up (M':=M);rw[ho]at hy;cases hy
 have np:=nh H hp;have nl:=nh (H.new hp) hU;have Sv:l≠p:=(cm hU).1;have Sw:M1 p=some (.ai []):=u1 _ _ np ah;refine hO (λxs τ M'=>∃rest sc v3,xs=rest.map D.str/\τ=[some (.ref h),some (.int m),some (.ref p),v3]/\rest.length+sc.length<=10/\Up h M M'/\Hn M' h c cs kn/\Dc M' p sc/\M' l=some (.lst (names.map D.str))) ?_ ?_ _ _ _ ⟨names,[],_,rfl,rfl,by rw[abV];lia,(Up.rfl.new hp).trans u1,H1,⟨Sw,by simp,λ_ z=>nomatch z⟩,hl⟩
 ·rintro τ M' ⟨rest,sc,v3,e1,rfl,B2,u,H2,D2,hl2⟩;exact⟨.inl hl2,_,aG,q _ _ _ u H2 hp D2 (by lia)⟩
 ·rintro x xs τ M' ⟨rest,sc,v3,e1,rfl,B2,u,H2,D2,hl2⟩;refine⟨.inl hl2,?_⟩;cases rest with
  |nil=>cases e1
  |cons y rest=>
   cases e1;intro N hN;rw[aaS]at B2;refine⟨h,c,cs,kn,rfl,H2,λk M3 u3 H3 o3 z3 Y9=>.inr ⟨_,_,u3 _ _ np D2.m,rfl,aaP (by rw[fM];lia:_<=10) (by decide),hN _ _ ⟨rest,bw y k sc,_,rfl,rfl,?_,?_,?_,⟨?_,mB D2.nd,?_⟩,?_⟩⟩⟩
   ·have:=@j9 y k sc;lia
   ·exact λa o n e=>by rw[ao (aJ e hp)];exact (u.trans u3) a o n e
   ·obtain⟨⟨n,r,t,H4⟩,g⟩:=H3;have uP:c≠p:=by rintro rfl;have:=u3 _ _ np D2.m;rw[H4.2]at this;cases this
    exact⟨⟨n,r,t,by rw[ao (abx np)];exact H4.1,by rw[ao uP];exact H4.2⟩,g⟩
   ·rw[mC D2.nd];exact ah
   ·intro q hq;rcases mz hq with z |z
    ·exact D2.ok q z
    ·rw[z];exact⟨o3,z3,Y9⟩
   ·rw[ao Sv];exact u3 _ _ nl hl2
noncomputable def eU (x:Int):List Str:=((Txt.slice (abz "abcdefghijklmn") none (some (10+x))).cps.toList.map λch=>(⟨#[ch]⟩:Str)++("qz" : Str))
theorem Sx (x:Int) (h0:0<=x) (h1:x<5):(Txt.slice (abz "abcdefghijklmn") none (some (10+x))).cps.all (·<128)=true/\(eU x).Nodup/\(eU x).length<=14:=by
 have:x=0\/x=1\/x=2\/x=3\/x=4:=by lia
 rcases this with rfl |rfl |rfl |rfl |rfl <;> decide +kernel
variable {w:Wo}
theorem nh {M:Mp}{h c y:Addr}{cs:List Int}{kn:Option Int} (H:Hn M h c cs kn) (hy:M y=none):y≠h:=by rintro rfl;obtain⟨o,ho⟩:=H.up (M':=M);rw[ho]at hy;cases hy
theorem Hn.Yg {M:Mp}{h c p:Addr}{cs:List Int}{kn:Option Int}{o:MO}{kvs:List (Key×D)} (H:Hn M h c cs kn) (np:p≠h) (hp:M p=some (.ai kvs)):Hn (PL.up M p o) h c cs kn:=by
 obtain⟨⟨n,r,t,H4⟩,g⟩:=H;have uP:c≠p:=by rintro rfl;rw[H4.2]at hp;cases hp
 exact⟨⟨n,r,t,by rw[ao (abx np)];exact H4.1,by rw[ao uP];exact H4.2⟩,g⟩
def B3:QN:=λds M Q=>∃h c cs kn p sc,ds=[.ref h,.ref p]/\Hn M h c cs kn/\p≠h/\Dc M p sc/\sc.length<=10/\∀B4 M',aS h p M M'->Hn M' h c cs kn->Dc M' p B4->B4.length<=11->Q (.ref p) M'
noncomputable abbrev XD (w:Wo):a' w:={ cs:=[(22,eh),(26,ej 0 1)] }
theorem Sy (O:Lw w):FO w 28 5 B3:=by
  refine a6 O.ok O.hn _ ⟨"_law_with_wide",aa 42,["hand","kinds"]⟩ (by rw[O.hd];rfl) (XD w) { cs:=⟨⟨1,by decide,ei O⟩,⟨4,by decide,BU O⟩,trivial⟩ } Sr Ss λds M Q h=>?_;obtain⟨h,c,cs,kn,p,sc,rfl,H,np,Dd,ln,q⟩:=h;have u2:∀{X:Mp},Up h M X->aS h p M X:=λu a o n _ e=>u a o n e;refine⟨rfl,h,c,cs,kn,_,rfl,H,by decide,by decide,λx M1 x0 x1 u1 H1=>aC rfl (a9 (λ_=>?_) λ_=>⟨_,aG,q sc _ (u2 u1) H1 ⟨u1 _ _ np Dd.m,Dd.nd,Dd.ok⟩ (by lia)⟩)⟩;refine⟨h,c,cs,kn,_,rfl,H1,by decide,by decide,λy M2 y0 y1 u3 H2=>?_⟩;obtain⟨wa,Z4,wl⟩:=Sx y y0 y1;have ua:=u1.trans u3;refine⟨sz (by decide +kernel),wa,?_⟩;have e2:(abz "qz").length=2:=by decide +kernel
  refine dj (λxs ys M'=>M'=M2/\∃rest pre,xs=rest.map (λch=>D.str ⟨#[ch]⟩)/\(Txt.slice (abz "abcdefghijklmn") none (some (10+y))).cps.toList=pre++rest/\ys=(pre.map λch=>(⟨#[ch]⟩:Str)++("qz" : Str)).map D.str) ?_ ?_ _ _ _ ⟨rfl,_,[],rfl,rfl,rfl⟩
  · rintro ys M' ⟨rfl,rest,pre,e1,e3,rfl⟩;have:rest=[]:=(by simpa using e1.symm);subst this;rw[aa4]at e3;have en:(pre.map λch=>(⟨#[ch]⟩:Str)++("qz" : Str))=eU y:=(by unfold eU;rw[e3]);rw[en];refine⟨aaV,aaP (by rw[aaN];exact wl) (by decide),λl hl=>?_⟩;have nl:=nh H2 hl;refine⟨_,.inl ah,?_⟩;refine dj (λxs ys M3=>∃ rest fs,xs=rest.map D.str/\eU y=fs.map (·.1)++rest/\ys=aM fs/\(∀ p∈fs,kz p.2<=1)/\(∀ p∈fs,kd p.2<=1)/\Up h M M3/\Hn M3 h c cs kn/\M3 l=some (.lst ((eU y).map D.str))) ?_ ?_ _ _ _ ⟨eU y,[],rfl,rfl,by rw[aM],λ_ z=>(nomatch z),λ_ z=>(nomatch z),ua.new hl,H2.new hl,ah⟩
    · rintro ys M3 ⟨rest,fs,f1,f3,rfl,g1,g2,u,H4,dQ⟩;have:rest=[]:=(by simpa using f1.symm);subst this;rw[aa4]at f3
      have lf : fs.length ≤ 14 := by have : (eU y).length = fs.length := by rw [f3]; simp
                                     lia
      refine⟨.inl dQ,aaP (by rw[fK];lia:_<=14) (by decide),λt ht=>⟨_,.inl ah,l2,.inr ⟨_,_,by rw[ao (aJ (u _ _ np Dd.m) ht)];exact u _ _ np Dd.m,rfl,aaP (by rw[fM];lia:_<=10) (by decide),_,aG,?_⟩⟩⟩;have m5:up M3 t (.lst (aM fs)) p=some (.ai (aE sc)):=(by rw[ao (aJ (u _ _ np Dd.m) ht)];exact u _ _ np Dd.m);have Xn:D.tup [.str "row",.tup (aM fs)]=kD (.row fs):=(by rw[kD]);refine q (bw "wide" (.row fs) sc) _ (λa o n n' e=>by rw[ao n'];exact (u.new ht) a o n e) ((H4.new ht).Yg np m5) ⟨?_,mB Dd.nd,λr hr=>?_⟩ (by have:=@j9 "wide" (.row fs) sc;lia)
      · rw[ah,<- mC Dd.nd];rfl
      · rcases mz hr with z | z
        · exact Dd.ok r z
        · rw[z];refine⟨?_,?_,?_⟩
          · show (fs.map (·.1)).Nodup;rw[<- f3];exact Z4
          · have:=pC g1;rw[kz];lia
          · have:=pD g2;rw[kd];lia
    · rintro x xs ys M3 ⟨rest,fs,f1,f3,rfl,g1,g2,u,H4,dQ⟩;cases rest with
      |nil=>cases f1
      | cons y' rest=>
        cases f1
        have lf : fs.length ≤ 14 := by have : (eU y).length = fs.length + (rest.length + 1) := by rw [f3]; simp
                                       lia
        refine⟨.inl dQ,aaP (by rw[fK];lia:_<=14) (by decide),λN hN=>?_⟩;refine⟨h,c,cs,kn,rfl,H4,λk M5 u5 H5 o5 z5 Xv=>⟨l2,hN _ _ ⟨rest,fs++[(y',k)],rfl,by rw[f3];simp,by rw[mm],?_,?_,u.trans u5,H5,u5 _ _ nl dQ⟩⟩⟩
        · intro p bg;rcases List.mem_append.mp bg with z' | z'
          · exact g1 p z'
          · rw[List.mem_singleton.mp z'];exact z5
        · intro p bg;rcases List.mem_append.mp bg with z' | z'
          · exact g2 p z'
          · rw[List.mem_singleton.mp z'];exact Xv
  · rintro x xs ys M' ⟨rfl,rest,pre,e1,e3,rfl⟩;cases rest with
    |nil=>cases e1
    | cons ch rest=>
      cases e1;have Ze:pre.length<=14:=by
        have h1:(eU y).length=pre.length+(rest.length+1):=(by unfold eU;rw[e3];simp);lia
      exact⟨aaV,aaP (by rw[aaN,aaN];exact Ze) (by decide),λN hN=>⟨sz (by show 1+_<=1000;rw[e2];decide),hN _ _ ⟨rfl,rest,pre++[ch],rfl,by rw[e3];simp,by simp⟩⟩⟩
variable {w:Wo}
noncomputable def tD:D:=.tup [.str "truth"]
section
variable {S:Str->Option Kd}{G:Sc}
theorem Sz {i:Nat}{p:Str×(Qn->List D->D->Prop)} (h:fL[i]?=some p):p∈fL:=abE h
theorem cD {q:Qn}{ks ds:List D} (i:Nat) {p:Str×(Qn->List D->D->Prop)} (h:fL[i]?=some p) (hp:p.2 q ks (.tup ds)) (ht:ee.any (λx=>decide (x=(wd q,p.1)))=true:=by rw[wd];decide +kernel):mq q ks (.tup ds):=by
 refine⟨⟨ds,rfl⟩,p,Sz h,?_,hp⟩;obtain⟨x,hx,e⟩:=List.any_eq_true.mp ht;rw[<- of_decide_eq_true e];exact hx
theorem pl {q:Qn} (h:wd q≠"var":=by rw[wd];decide) (h2:wd q≠"table":=by rw[wd];decide) (h3:wd q≠"for":=by rw[wd];decide) (h4:wd q≠"let":=by rw[wd];decide):Pl q:=⟨λy e=>h (by rw[e];rfl),λy e=>h2 (by rw[e];rfl),h3,h4⟩
theorem n0:0<100:=by decide
theorem n1:1<100:=by decide
theorem n2:2<100:=by decide
theorem SA {i:Int}:Tk S G (.num i) (kD .num):=.cE pl .nil (cD 0 rfl (.inl ⟨⟨i,rfl⟩,rfl⟩)) n0
theorem SD {i:Str}:Tk S G (.word i) (kD .word):=.cE pl .nil (cD 0 rfl (.inr ⟨⟨i,rfl⟩,rfl⟩)) n0
theorem SE {k:Kd}:Tk S G (.none k) (kD (.aB k)):=.cE pl .nil (cD 4 rfl ⟨k,rfl,rfl⟩) n0
theorem SF {q:Qn}{k:Kd} (h:Tk S G q (kD k)):Tk S G (.one q) (kD (.aB k)):=.cE pl (.cons h .nil) (cD 5 rfl ⟨k,rfl,rfl⟩) n1
theorem SG {a b:Qn}{k:Kd} (hz:kz k<900) (h:Tk S G a (kD (.aB k))) (h':Tk S G b (kD (.aB k))):Tk S G (.both a b) (kD (.aB k)):=.cE pl (.cons h (.cons h' .nil)) (cD 6 rfl ⟨k,hz,rfl,rfl⟩) n2
theorem SH {i:Int}{q:Qn}{k:Kd} (h:Tk S G q (kD (.aB k))):Tk S G (.times i q) (kD (.aB k)):=.cE pl (.cons h .nil) (cD 7 rfl ⟨[],k,rfl,rfl⟩) n1
theorem SI {a b:Qn}{k:Kd} (h:Tk S G a tD) (h':Tk S G b (kD (.aB k))):Tk S G (.jb a b) (kD (.aB k)):=.cE pl (.cons h (.cons h' .nil)) (cD 7 rfl ⟨[tD],k,rfl,rfl⟩) n2
theorem SJ {a b:Qn} (h:Tk S G a (kD .num)) (h':Tk S G b (kD .num)):Tk S G (.add a b) (kD .num):=.cE pl (.cons h (.cons h' .nil)) (cD 3 rfl ⟨rfl,rfl⟩) n2
theorem SK {a b:Qn} (h:Tk S G a (kD .num)) (h':Tk S G b (kD .num)):Tk S G (.mul a b) (kD .num):=.cE pl (.cons h (.cons h' .nil)) (cD 3 rfl ⟨rfl,rfl⟩) n2
theorem SM {a b:Qn}{k:Kd} (hk:k=.num\/k=.word) (h:Tk S G a (kD k)) (h':Tk S G b (kD k)):Tk S G (.same a b) tD:=.cE pl (.cons h (.cons h' .nil)) (cD 8 rfl ⟨hk.imp (λe=>by rw[e]) (λe=>by rw[e]),rfl⟩) n2
theorem SN {a b:Qn} (h:Tk S G a (kD .num)) (h':Tk S G b (kD .num)):Tk S G (.under a b) tD:=.cE pl (.cons h (.cons h' .nil)) (cD 9 rfl ⟨rfl,rfl⟩) n2
theorem SO {a b:Qn} (h:Tk S G a tD) (h':Tk S G b tD):Tk S G (.and a b) tD:=.cE pl (.cons h (.cons h' .nil)) (cD 10 rfl rfl) n2
theorem SQ {a b:Qn} (h:Tk S G a tD) (h':Tk S G b tD):Tk S G (.or a b) tD:=.cE pl (.cons h (.cons h' .nil)) (cD 10 rfl rfl) n2
theorem SR {a:Qn} (h:Tk S G a tD):Tk S G (.not a) tD:=.cE pl (.cons h .nil) (cD 10 rfl rfl) n1
theorem B5 {f:Str}{q:Qn}{fs:List (Str×Kd)}{k:Kd} (nd:(fs.map (·.1)).Nodup) (hf:lk f fs=some k) (h:Tk S G q (kD (.row fs))):Tk S G (.at f q) (kD k):=by
 have key:∀x,x=kD k->Tk S G (.at f q) x:=by
  intro x hx;obtain⟨ds,e⟩:∃ds,x=.tup ds:=by rw[hx];cases k <;> exact⟨_,by rw[kD]⟩
  subst e;exact .cE pl (.cons h .nil) (cD 2 rfl ⟨f,q,fs,k,rfl,rfl,nd,hf,hx⟩) (by show 1<100;decide)
 exact key _ rfl
theorem SS {fs:List (Str×Qn)} {κs:List Kd} (hl:fs.length<100) (hk:κs.length=fs.length) (h:cF S G (fs.map (·.2)) (κs.map kD)):Tk S G (.row fs) (kD (.row ((fs.map (·.1)).zip κs))):=by
 rw[kD];exact .cE pl h (cD 1 rfl ⟨fs,κs,rfl,rfl,hk,hl,by rw[kD]⟩) (by show (fs.map (·.2)).length<100;simpa using hl)
theorem B6 {G G':Sc} (g:∀y k,lk y G=some k->lk y G'=some k) {y:Str}{l:Kd}:∀z k,lk z ((y,l)::G)=some k->lk z ((y,l)::G')=some k:=λz k e=>by
 rw[lk]at e ⊢;by_cases c:z=y
 ·rw[if_pos c]at e ⊢;exact e
 ·rw[if_neg c]at e ⊢;exact g _ _ e
mutual
theorem Tk.mono {G':Sc}:∀{G:Sc}{q:Qn}{d:D},Tk S G q d->(∀y k,lk y G=some k->lk y G'=some k)->Tk S G' q d
 |_,_,_,.var h,g=>.var (g _ _ h)
 |_,_,_,.tab h,_=>.tab h
 |_,_,_,.for (y:=y) (l:=l) a b,g=>.for (Tk.mono a g) (Tk.mono b (B6 g))
 |_,_,_,.let (y:=y) (l:=l) a b,g=>.let (Tk.mono a g) (Tk.mono b (B6 g))
 |_,_,_,.cE p t f u,g=>.cE p (cF.mono t g) f u
theorem cF.mono {G':Sc}:∀{G:Sc}{qs:List Qn}{ks:List D},cF S G qs ks->(∀y k,lk y G=some k->lk y G'=some k)->cF S G' qs ks
 |_,_,_,.nil,_=>.nil
 |_,_,_,.cons h r,g=>.cons (Tk.mono h g) (cF.mono r g)
end
end
theorem jh {y:Str}:∀{sc:Sc},y∈sc.map (·.1)->∃k,lk y sc=some k/\∃p∈sc,p.2=k
 |[],h=>by cases h
 |(x,k)::r,h=>by
  rw[lk];by_cases e:y=x
  ·rw[if_pos e];exact⟨k,rfl,_,aaO,rfl⟩
  ·rw[if_neg e];obtain⟨l,h1,p,h2,h3⟩:=jh (sc:=r) (by simp only[aaR,aa0]at h;exact h.resolve_left e);exact⟨l,h1,p,aaK _ h2,h3⟩
theorem j' {M:Mp}{p:Addr}{sc:Sc}{q:QK} (m:M p=some (.ai (aE sc))) (hl:sc.length<64) (h:∀l (ys:List Str),M l=none->(∀y∈ys,y∈sc.map (·.1))->ys.length=sc.length->(∀x∈sc.map (·.1),x∈ys)->((sc.map (·.1)).Nodup->ys.Nodup)->q (.ref l) (up M l (.lst (ys.map D.str)))):lP [.ref p] M q:=by
 unfold lP;refine⟨aE sc,m,λkv hF=>?_,by rw[fM];exact hl,λl ys hl pm _=>?_⟩
 ·obtain⟨x,_,rfl⟩:=List.mem_map.mp hF;exact⟨_,rfl⟩
 ·have Xn:(aE sc).map (·.1)=(sc.map (·.1)).map (abL:Str->Key):=by unfold aE;rw[List.map_map,List.map_map];rfl
  rw[Xn]at pm;have inj:∀{y:Str}{l:List Str},(abL y:Key)∈l.map (abL:Str->Key)->y∈l:=λh=>by
   obtain⟨z,h1,h2⟩:=List.mem_map.mp h;cases h2;exact h1
  refine h l ys hl (λy hy=>inj (pm.mem_iff.mp (List.mem_map.mpr ⟨y,hy,rfl⟩))) ?_ (λx hx=>inj (pm.mem_iff.mpr (List.mem_map.mpr ⟨x,hx,rfl⟩))) λnd=>?_
  ·have:=pm.length_eq;simpa using this
  ·have:((sc.map (·.1)).map (abL:Str->Key)).Nodup:=List.pairwise_map.mpr (nd.imp λh e=>h (Sum.inr.inj e));exact (List.pairwise_map.mp (pm.nodup_iff.mpr this)).imp λh e=>h (by rw[e])
theorem pG {ok:Mp->Prop}{tc:DT}{te:DE} {τ:bb} {kk:List D->Mp->Prop}{sc:Sc}{k0:Kd}{M1:Mp} (ae:ok M1) (hl:sc.length<=60)
  (ht:∀y κ (N:Bool->Mp->Prop),lk y sc=some κ->(∃p∈sc,p.2=κ)->N (decide (κ=k0)) M1->tc (τ.set 0 (some (.str y))) M1 N) (he:∀y (N:QK),N (.str y) M1->te (τ.set 0 (some (.str y))) M1 N)
  (fin:∀zs:List Str,(∀z∈zs,lk z sc=some k0)->zs.length<=60->kk (zs.map D.str) M1):∀(rest zs:List Str),(∀y∈rest,y∈sc.map (·.1))->(∀z∈zs,lk z sc=some k0)->rest.length+zs.length<=sc.length->iY ok (.one 0) tc te τ kk (rest.map D.str) (zs.map D.str) M1
 |[],zs,_,hz,ln=>⟨ae,aaP (by rw[aaN];simp at ln;lia:_<=60) (by decide),fin zs hz (by simp at ln;lia)⟩
 |y::rest,zs,hr,hz,ln=>by
  rw[aaS]at ln;refine⟨ae,aaP (by rw[aaN];lia:_<=60) (by decide),?_⟩;obtain⟨κ,h1,h2⟩:=jh (hr y aaO);have pH:∀y∈rest,y∈sc.map (·.1):=λz hz=>hr z (aaK _ hz);refine ht y κ _ h1 h2 (a9 (λe=>he _ _ ?_) λe=>pG ae hl ht he fin rest zs pH hz (by lia));have e1:κ=k0:=of_decide_eq_true e;have:=pG ae hl ht he fin rest (zs++[y]) pH (λz uH=>by
   rcases List.mem_append.mp uH with a |a
   ·exact hz z a
   ·rw[List.mem_singleton.mp a,<- e1];exact h1) (by rw[abk];simp;lia)
  rw[abo]at this;exact this
variable {w:Wo}
def Hk (M:Mp) (h c:Addr) (cs:List Int):Prop:=∃kn,Hn M h c cs (some kn)
theorem Hk.new {M:Mp}{h c l:Addr}{cs:List Int}{o:MO} (H:Hk M h c cs) (hl:M l=none):Hk (PL.up M l o) h c cs:=H.imp λ_ z=>z.new hl
structure Ix (M:Mp) (h c:Addr) (cs:List Int) (kp sp:Addr) (sc st:Sc):Prop where
 H:Hk M h c cs
 K:Dc M kp sc
 S:Dc M sp st
 nk:kp≠h
 ns:sp≠h
 ls:st.length<=20
section
variable {M M':Mp}{h c kp sp:Addr}{cs:List Int}{sc st:Sc}
theorem Ix.mv (I:Ix M h c cs kp sp sc st) (u:Up h M M') (H:Hk M' h c cs):Ix M' h c cs kp sp sc st:=⟨H,⟨u _ _ I.nk I.K.m,I.K.nd,I.K.ok⟩,⟨u _ _ I.ns I.S.m,I.S.nd,I.S.ok⟩,I.nk,I.ns,I.ls⟩
theorem Ix.new {l:Addr}{o:MO} (I:Ix M h c cs kp sp sc st) (hl:M l=none):Ix (PL.up M l o) h c cs kp sp sc st:=I.mv (Up.rfl.new hl) (I.H.new hl)
end
def eV (M:Mp) (h c:Addr) (cs:List Int) (sc st:Sc) (d:D) (b:Nat) (Q:QK):Prop:=∀q M',Up h M M'->Hk M' h c cs->Tk (λy=>lk y st) sc q d->dq q<=b->Q (qD q) M'
def cG (n:Nat):QN:=λds M Q=>∃h c cs kp sp sc st d k,ds=[.ref h,kD k,.ref kp,.ref sp,.int (d:Nat)]/\Ix M h c cs kp sp sc st/\sc.length+d<=40/\35 * d+kd k<n/\kd k+3 * d<=25/\kz k+8 * d<=80/\d<=6/\eV M h c cs sc st (kD k) (10 * d+kd k) Q
def pI (n:Nat):QN:=λds M Q=>∃h c cs kp sp sc st d k,ds=[.ref h,kD (.aB k),.ref kp,.ref sp,.int (d:Nat)]/\Ix M h c cs kp sp sc st/\sc.length+d<=40/\35 * d<n/\kd (.aB k)+3 * d<=25/\kz (.aB k)+8 * d<=80/\d<=6/\eV M h c cs sc st (kD (.aB k)) (10 * d+kd (.aB k)) Q
def kc (n:Nat):QN:=λds M Q=>∃h c cs kp sp sc st d k wo,ds=[.ref h,.str wo,kD k,.ref kp,.ref sp,.int ((d+1:Nat):Int)]/\Ix M h c cs kp sp sc st/\sc.length+(d+1)<=40/\35 * (d+1)<=n/\kd k+3 * (d+1)<=25/\kz k+8 * (d+1)<=80/\d<=5 /\
 (wo="let"\/wo="for"/\∃k',k=.aB k')/\eV M h c cs sc st (kD k) (10 * (d+1)+kd k) Q
def pJ (n:Nat):QN:=λds M Q=>∃h c cs kp sp sc st d k,ds=[.ref h,kD k,.ref kp,.ref sp,.int ((d+1:Nat):Int)]/\Ix M h c cs kp sp sc st/\sc.length+(d+1)<=40/\35 * (d+1)<=n/\kd k+3 * (d+1)<=25/\kz k+8 * (d+1)<=80/\d<=5/\eV M h c cs sc st (kD k) (10 * (d+1)+kd k) Q
def hV (n:Nat):QN:=λds M Q=>∃h c cs kp sp sc st d,ds=[.ref h,.ref kp,.ref sp,.int (d:Nat)]/\Ix M h c cs kp sp sc st/\sc.length+d<=40/\35 * d+2<n/\d<=6/\eV M h c cs sc st tD (10 * d+3) Q
theorem pK (k:Kd):1<=kd k:=by cases k <;> (rw[kd];try lia)
theorem ji {α:Type} {f:α->D}{xs:List α}{x:Int} (h0:0<=x) (h1:x<((xs.map f).length:Nat)):∃a∈xs,cg (xs.map f) x=some (f a):=by
 obtain⟨d,hd,hm⟩:=px h0 h1;obtain⟨a,ha,rfl⟩:=List.mem_map.mp hm;exact⟨a,ha,hd⟩
noncomputable def SU:B:=.cons (.ret (.tup (.cons (.v 1) (.cons (.v 8) (.cons (.v 9) (.cons (.call 33 (.cons (.v 0) (.cons (.v 2) (.cons (.v 10) (.cons (.v 4) (.cons (.op .Sub (.v 5) (.c (.int 1))) .nil)))))) .nil)))))) .nil
noncomputable def B7:B:=.cons (.set 10 (.bi .dict (.cons (.v 3) .nil))) (.cons (.put (.v 10) (.v 8) (.v 6)) SU)
noncomputable def SV:B:=.cons (.set 9 (.call 33 (.cons (.v 0) (.cons (.ix (.lst (.cons (.v 6) (.cons (.tup (.cons (.c (.str "bag")) (.cons (.v 6) .nil))) .nil))) (.bi .int (.cons (.cmp .Eq (.v 1) (.c (.str "for"))) .nil))) (.cons (.v 3) (.cons (.v 4) (.cons (.op .Sub (.v 5) (.c (.int 1))) .nil))))))) B7
noncomputable def B8:B:=.cons (.set 8 (.call 23 (.cons (.v 0) .nil))) SV
noncomputable def SW:B:=.cons (.set 6 (.ix (.v 7) (.call 22 (.cons (.v 0) (.cons (.bi .len (.cons (.v 7) .nil)) .nil))))) .nil
noncomputable def SX:B:=.cons (.cond (.and (.cmp .NotEq (.v 7) (.lst .nil)) (.cmp .Gt (.call 22 (.cons (.v 0) (.cons (.c (.int 3)) .nil))) (.c (.int 0)))) SW .nil) B8
noncomputable def SY:B:=.cons (.set 7 (.lc 1 [4] (.one 0) (.seq (.gn (.v 4))) .cf (.ix (.v 1) (.v 0)))) SX
noncomputable def S2:B:=.cons (.set 6 (.call 26 (.cons (.v 0) (.cons (.c (.int 1)) .nil)))) SY
noncomputable def S3:B:=S2
theorem S4:aK ["hand","word","kind","kinds","stock","deep","own","known","name","first","wider"] ["hand","word","kind","kinds","stock","deep"] (aj (aa 44)):=⟨rfl,rfl,rfl,by decide +kernel,rfl,by decide +kernel,by decide +kernel⟩
theorem S5:S3.ck nm ["hand","word","kind","kinds","stock","deep","own","known","name","first","wider"] (aj (aa 44)) (aH (aa 44))=true:=by decide +kernel
noncomputable abbrev uQ (w:Wo) (n:Nat):a' w:={ cs:=[(22,eh),(23,my),(26,ej 1 13),(33,cG n)] }
theorem ke {d:Nat}:(((d+1:Nat):Int)-1)=((d:Nat):Int):=by lia
theorem S6 (O:Lw w) {n:Nat} (Xq:FO w 33 (n+7) (cG n)):FO w 30 (n+8) (kc (n+1)):=by
 refine a6 O.ok O.hn _ ⟨"_law_bound",aa 44,["hand","word","kind","kinds","stock","deep"]⟩ (by rw[O.hd];rfl) (uQ w n) { cs:=⟨⟨1,by lia,ei O⟩,⟨2,by lia,pz O⟩,⟨5,by lia,BW O⟩,⟨n+7,aaH _,Xq⟩,trivial⟩ } S4 S5 λds M Q hh=>?_;obtain⟨h,c,cs,kp,sp,sc,st,d,k,wo,rfl,I,g1,g2,g3,g4,g5,hw,q⟩:=hh;have key:∀(X:Mp) (own:Kd) v7,Up h M X->Hk X h c cs->jg own->B.w (uQ w n).wd nm.aL B8 (bS Q) [some (.ref h),some (.str wo),some (kD k),some (.ref kp),some (.ref sp),some (.int ((d+1:Nat):Int)),some (kD own),v7,none,none,none] X:=by
  intro X own v7 u HX oo;obtain⟨kn,Z5⟩:=HX;have o1:=oo.z;have o2:=oo.d;have k1:=pK k
  refine⟨h,c,cs,_,rfl,Z5,λname M1 u1 H1=>⟨l2,l2,λp hp=>?_⟩⟩;have ua:=(u.trans u1).new (o:=.lst [kD own,.tup [.str "bag",kD own]]) hp;have I2:Ix (PL.up M1 p (.lst [kD own,.tup [.str "bag",kD own]])) h c cs kp sp sc st:=I.mv ua (Hk.new ⟨_,H1⟩ hp);have go:∀ (f1:Kd) (b:Bool),f1=(if b then .aB own else own)->(∀ q1 q2,Tk (λy=>lk y st) sc q1 (kD f1)->Tk (λy=>lk y st) ((name,own)::sc) q2 (kD k)->dq q1<=10 * d+8->dq q2<=10 * d+kd k->∀ M',Up h M M'->Hk M' h c cs->Q (.tup [.str wo,.str name,qD q1,qD q2]) M') ->
    ax (.ref p) (.int (if b=true then 1 else 0)) (PL.up M1 p (.lst [kD own,.tup [.str "bag",kD own]])) λdd X2=>cG n [.ref h,dd,.ref kp,.ref sp,.int (((d+1:Nat):Int)-1)] X2 λdq X3=>B.w (uQ w n).wd nm.aL B7 (bS Q) [some (.ref h),some (.str wo),some (kD k),some (.ref kp),some (.ref sp),some (.int ((d+1:Nat):Int)),some (kD own),v7,some (.str name),some dq,none] X3:=by
   intro f1 b hf fin;have aay:kd f1<=8/\kz f1<=30:=by
    cases b
    ·have e:f1=own:=hf;rw[e];lia
    ·have e:f1=.aB own:=hf;rw[e,kd,kz];lia
   refine .inl ⟨_,_,kD f1,.inl ah,rfl,by rw[hf];cases b <;> rfl,?_⟩;refine⟨h,c,cs,kp,sp,sc,st,d,f1,by rw[ke],I2,by lia,by lia,by lia,by lia,by lia,λq1 M2 u2 H2 t1 d1=>?_⟩;have I3:=I2.mv u2 H2;refine .inl ⟨_,I3.K.m,λp2 bU=>.inr ⟨_,_,ah,rfl,aaP (by rw[fM];lia:_<=40) (by decide),?_⟩⟩;rw[mC I3.K.nd];have n2:p2≠h:=nh H2.choose_spec bU;have u4:Up h M2 (PL.up (PL.up M2 p2 (.ai (aE sc))) p2 (.ai (aE (bw name own sc)))):=(Up.rfl.new bU).ag bU;have I4:=I3.mv u4 (by
    obtain⟨k2,z⟩:=H2;exact⟨k2,(z.new bU).Yg n2 ah⟩)
   have u5:=ua.trans (u2.trans u4);have m4:(PL.up (PL.up M2 p2 (.ai (aE sc))) p2 (.ai (aE (bw name own sc)))) p2=some (.ai (aE (bw name own sc))):=ah;generalize PL.up (PL.up M2 p2 (.ai (aE sc))) p2 (.ai (aE (bw name own sc)))=Y at I4 u5 m4;have sl:=@j9 name own sc;refine⟨h,c,cs,p2,sp,bw name own sc,st,d,k,(by show [D.ref h,kD k,D.ref p2,D.ref sp,D.int (((d+1:Nat):Int)-1)]=_;rw[ke]),⟨I4.H,⟨m4,mB I4.K.nd,λr hr=>?_⟩,I4.S,n2,I4.ns,I4.ls⟩,by lia,by lia,by lia,by lia,by lia,λq2 M5 u6 H5 t2 d2=>⟨l4,_,aG,fin q1 q2 t1 (t2.mono λy k e=>?_) (by lia) d2 _ (u5.trans u6) H5⟩⟩
   ·rcases mz hr with z |z
    ·exact I4.K.ok r z
    ·rw[z];exact oo
   ·rw[uO]at e;rw[lk];exact e
  rcases hw with rfl |⟨rfl,k',rfl⟩
  ·exact aC rfl (go own false rfl λq1 q2 t1 t2 d1 d2 M' u' H'=>q (.let name q1 q2) M' u' H' (.let t1 t2) (by rw[dq];lia))
  ·exact aC rfl (go (.aB own) true rfl λq1 q2 t1 t2 d1 d2 M' u' H'=>q (.for name q1 q2) M' u' H' (.for t1 t2) (by rw[dq];lia))
 obtain⟨kn,Z6⟩:=I.H;refine⟨rfl,h,c,cs,_,rfl,Z6,λown M1 u1 H1 o1 o2 o3=>?_⟩;have oo:jg own:=⟨o1,by lia,by lia⟩;have I1:=I.mv u1 ⟨_,H1⟩;refine j' I1.S.m (aaP I.ls (by decide)) λl ys hl hy hlen _ _=>⟨_,.inl ah,?_⟩;have I2:=I1.new (o:=.lst (ys.map D.str)) hl;have u2:=u1.new (o:=.lst (ys.map D.str)) hl;refine dj (λxs zs M'=>M'=PL.up M1 l (.lst (ys.map D.str))/\∃rest κs,xs=rest.map D.str/\zs=κs.map kD/\(∀y∈rest,y∈st.map (·.1))/\(∀ κ∈κs,jg κ)/\rest.length + κs.length<=20) ?_ ?_ _ _ _ ⟨rfl,ys,[],rfl,rfl,hy,λ_ z=>(nomatch z),by have:=I.ls;simp;lia⟩
 ·rintro zs M' ⟨rfl,rest,κs,e1,rfl,_,ok,ln⟩;refine⟨.inl ah,aaP (by rw[aaN];lia:_<=20) (by decide),λp hp=>?_⟩;refine⟨by decide,λe he=>og (by rw[ao (abx (cm he).1)];exact ah) ah ?_⟩;have I4:=(I2.new (o:=.lst (κs.map kD)) hp).new (o:=.lst []) he;have u4:=(u2.new (o:=.lst (κs.map kD)) hp).new (o:=.lst []) he;have p4:(PL.up (PL.up (PL.up M1 l (.lst (ys.map D.str))) p (.lst (κs.map kD))) e (.lst [])) p=some (.lst (κs.map kD)):=by rw[ao (abx (cm he).1)];exact ah
  generalize PL.up (PL.up (PL.up M1 l (.lst (ys.map D.str))) p (.lst (κs.map kD))) e (.lst [])=Y at I4 u4 p4;obtain⟨B9,H4⟩:=I4.H;refine a9 (λc1=>?_) λc1=>aO (key _ own _ u4 I4.H oo);have n0:κs≠[]:=by rintro rfl;simp at c1
  have n1:0 < κs.length:=List.length_pos_iff.mpr n0;have np:p≠h:=by rintro rfl;rw[H4.1.choose_spec.choose_spec.choose_spec.1]at p4;cases p4
  refine⟨h,c,cs,_,_,rfl,H4,by decide,by decide,λx M5 x0 x1 u5 H5=>a9 (λ_=>?_) λ_=>key _ own _ (u4.trans u5) ⟨_,H5⟩ oo⟩;have p5:=u5 _ _ np p4;refine .inl ⟨_,.inl p5,h,c,cs,_,_,rfl,H5,by simp;lia,abv (by simp;lia:_<=(20:Int)) (by decide),λy M6 y0 y1 u6 H6=>?_⟩;obtain⟨κ,hκ,ha⟩:=ji (f:=kD) (xs:=κs) y0 y1;exact .inl ⟨_,_,_,.inl (u6 _ _ np p5),rfl,ha,key _ κ _ (u4.trans (u5.trans u6)) ⟨_,H6⟩ (ok κ hκ)⟩
 ·rintro x xs zs M' ⟨rfl,rest,κs,e1,rfl,hr,ok,ln⟩;cases rest with
  |nil=>cases e1
  |cons y rest=>
   cases e1;rw[aaS]at ln;obtain⟨κ,h1,r,h2,h3⟩:=jh (hr y aaO);refine⟨.inl ah,aaP (by rw[aaN];lia:_<=20) (by decide),λN hN=>.inr ⟨_,_,_,I2.S.m,rfl,dP h1,hN _ _ ⟨rfl,rest,κs++[κ],rfl,by simp,λz hz=>hr z (aaK _ hz),λz hz=>?_,by simp;lia⟩⟩⟩;rcases List.mem_append.mp hz with a |a
   ·exact ok z a
   ·rw[List.mem_singleton.mp a,<- h3];exact I.S.ok r h2
variable {w:Wo}
theorem pL {f:Str}{k:Kd}:∀{fs:Sc},(fs.map (·.1)).Nodup->(f,k)∈fs->lk f fs=some k
 |[],_,h=>by cases h
 |(x,l)::r,nd,h=>by
  rw[aaR,List.nodup_cons]at nd;rw[lk];rcases List.mem_cons.mp h with e |e
  ·cases e;rw[if_pos rfl]
  ·have:f≠x:=(by rintro rfl;exact nd.1 (List.mem_map.mpr ⟨_,e,rfl⟩));rw[if_neg this,pL nd.2 e]
theorem B' {f:Str}{k:Kd}:∀{fs:Sc},(fs.map (·.1)).Nodup->(∀p∈fs,p.1≠f->kz p.2<=1)->(∀p∈fs,p.1=f->p.2=k)->c9 fs<=2 * fs.length+kz k
 |[],_,_,_=>by rw[c9];exact abA _
 |(x,l)::r,nd,h1,h2=>by
  rw[aaR,List.nodup_cons]at nd;rw[c9,aaS];by_cases e:x=f
  ·have Xp:l=k:=h2 _ aaO e;have:=pC (z:=1) (fs:=r) λp hp=>h1 p (aaK _ hp) (by rintro z;exact nd.1 (List.mem_map.mpr ⟨p,hp,z.trans e.symm⟩));rw[Xp];lia
  ·have a1:kz l<=1:=h1 _ aaO e;have:=B' nd.2 (λp hp=>h1 p (aaK _ hp)) λp hp=>h2 p (aaK _ hp);lia
theorem kd_mem:∀{fs:Sc}{p:Str×Kd},p∈fs->kd p.2<=QG.cV fs
 |(x,l)::r,p,h=>by
  rw[QG.cV];rcases List.mem_cons.mp h with e |e
  ·rw[e];show kd l<=_;lia
  ·have:=kd_mem e;lia
noncomputable def S7:B:=.cons (.ret (.tup (.cons (.c (.str "at")) (.cons (.v 8) (.cons (.call 33 (.cons (.v 0) (.cons (.v 9) (.cons (.v 2) (.cons (.v 3) (.cons (.op .Sub (.v 4) (.c (.int 1))) .nil)))))) .nil))))) .nil
noncomputable def S8:B:=.cons (.set 9 (.tup (.cons (.c (.str "row")) (.cons (.bi .tuple (.cons (.lc 1 [7] (.one 0) (.seq (.gn (.v 7))) .cf (.tup (.cons (.v 0) (.cons (.ix (.v 1) (.v 0)) .nil)))) .nil)) .nil)))) S7
noncomputable def Ca:B:=.cons (.set 8 (.call 23 (.cons (.v 0) .nil))) (.cons (.put (.v 7) (.v 8) (.v 1)) S8)
noncomputable def S9:B:=.cons (.put (.v 7) (.v 8) (.ix (.lst (.cons (.tup (.cons (.c (.str "num")) .nil)) (.cons (.tup (.cons (.c (.str "word")) .nil)) .nil))) (.call 22 (.cons (.v 0) (.cons (.c (.int 2)) .nil))))) .nil
noncomputable def Cb:B:=.cons (.loop (.one 8) (.seq (.call 25 (.cons (.v 0) (.cons (.c (.int 2)) .nil)))) S9) Ca
noncomputable def S':B:=.cons (.ret (.tup (.cons (.c (.str "at")) (.cons (.ix (.v 6) (.call 22 (.cons (.v 0) (.cons (.bi .len (.cons (.v 6) .nil)) .nil)))) (.cons (.tup (.cons (.c (.str "var")) (.cons (.v 5) .nil))) .nil))))) .nil
noncomputable def Ta:B:=.cons (.cond (.cmp .NotEq (.v 6) (.lst .nil)) S' .nil) .nil
noncomputable def Tb:B:=.cons (.set 6 (.lc 2 [1] (.many [0,1]) (.seq (.ix (.ix (.v 2) (.v 5)) (.c (.int 1)))) (.cmp .Eq (.v 1) (.v 2)) (.v 0))) Ta
noncomputable def Tc:B:=.cons (.cond (.and (.cmp .Eq (.ix (.ix (.v 2) (.v 5)) (.c (.int 0))) (.c (.str "row"))) (.cmp .Eq (.call 22 (.cons (.v 0) (.cons (.c (.int 2)) .nil))) (.c (.int 0)))) Tb .nil) .nil
noncomputable def Td:B:=.cons (.loop (.one 5) (.seq (.gn (.v 2))) Tc) (.cons (.set 7 .iU) Cb)
noncomputable def Te:B:=Td
theorem Tf:aK ["hand","kind","kinds","stock","deep","name","some","fields","field","row"] ["hand","kind","kinds","stock","deep"] (aj (aa 45)):=⟨rfl,rfl,rfl,by decide +kernel,rfl,by decide +kernel,by decide +kernel⟩
theorem Tg:Te.ck nm ["hand","kind","kinds","stock","deep","name","some","fields","field","row"] (aj (aa 45)) (aH (aa 45))=true:=by decide +kernel
noncomputable abbrev uR (w:Wo) (n:Nat):a' w:={ cs:=[(22,eh),(23,my),(25,pA 50),(33,cG n)] }
theorem Th (O:Lw w) {n:Nat} (Xq:FO w 33 (n+7) (cG n)):FO w 31 (n+8) (pJ (n+1)):=by
  refine a6 O.ok O.hn _ ⟨"_law_field",aa 45,["hand","kind","kinds","stock","deep"]⟩ (by rw[O.hd];rfl) (uR w n) { cs:=⟨⟨1,by lia,ei O⟩,⟨2,by lia,pz O⟩,⟨3,by lia,pB O⟩,⟨n+7,aaH _,Xq⟩,trivial⟩ } Tf Tg λds M Q hh=>?_;obtain⟨h,c,cs,kp,sp,sc,st,d,k,rfl,I,g1,g2,g3,g4,g5,q⟩:=hh;have k1:=pK k
  -- dE row WW,made
  have last:∀ (X:Mp) v5 v6,Up h M X->Hk X h c cs->B.w (uR w n).wd nm.aL (.cons (.set 7 .iU) Cb) (bS Q) [some (.ref h),some (kD k),some (.ref kp),some (.ref sp),some (.int ((d+1:Nat):Int)),v5,v6,none,none,none] X:=by
    intro X v5 v6 u HX;have fin:∀ (Y:Mp) (fp:Addr) (s1:Sc) v8,Up h M Y->Hk Y h c cs->M fp=none->fp≠h->Y fp=some (.ai (aE s1))->(s1.map (·.1)).Nodup->s1.length<=1->(∀ p∈s1,p.2=.num\/p.2=.word)->B.w (uR w n).wd nm.aL Ca (bS Q) [some (.ref h),some (kD k),some (.ref kp),some (.ref sp),some (.int ((d+1:Nat):Int)),v5,v6,some (.ref fp),v8,none] Y:=by
      intro Y fp s1 v8 u1 H1 f0 nf m1 ly uS lB;obtain⟨kn,Tj⟩:=H1;refine⟨h,c,cs,_,rfl,Tj,λf M2 u2 H2=>.inr ⟨_,_,u2 _ _ nf m1,rfl,aaP (by rw[fM];lia:_<=1) (by decide),?_⟩⟩;rw[mC ly];have kf:=mB (x:=f) (k:=k) ly;have cW:=@j9 f k s1;have u3:Up h M (PL.up M2 fp (.ai (aE (bw f k s1)))):=(u1.trans u2).ag f0;have H3:Hk (PL.up M2 fp (.ai (aE (bw f k s1)))) h c cs:=⟨_,H2.Yg nf (u2 _ _ nf m1)⟩;have m3:(PL.up M2 fp (.ai (aE (bw f k s1)))) fp=some (.ai (aE (bw f k s1))):=ah;generalize PL.up M2 fp (.ai (aE (bw f k s1)))=Z at u3 H3 m3;have Xp:∀ y κ,lk y (bw f k s1)=some κ->(y=f->κ=k)/\(y≠f->κ=.num\/κ=.word):=λy κ e=>by
        rw[uO]at e;by_cases c0:y=f
        · rw[if_pos c0]at e;cases e;exact⟨λ_=>rfl,λz=>absurd c0 z⟩
        · rw[if_neg c0]at e;refine⟨fun z=>absurd z c0,fun _=>?_⟩;have hm:y∈s1.map (·.1):=by
            have:=@Ot s1 y;rw[dP e]at this;exact of_decide_eq_true this.symm
          obtain⟨κ',e1,p,hp,e2⟩:=jh hm;rw[e]at e1;cases e1;rw[<- e2];exact lB p hp
      refine j' m3 (by lia) λl ys hl hy hlen iC Tl=>⟨_,.inl ah,?_⟩;refine dj (λxs zs M'=>M'=PL.up Z l (.lst (ys.map D.str))/\∃rest fs,xs=rest.map D.str/\ys=fs.map (·.1)++rest/\zs=aM fs/\(∀p∈fs,lk p.1 (bw f k s1)=some p.2)) ?_ ?_ _ _ _ ⟨rfl,ys,[],rfl,rfl,by rw[aM],λ_ z=>(nomatch z)⟩
      · rintro zs M' ⟨rfl,rest,fs,e1,e3,rfl,dH⟩;have:rest=[]:=(by simpa using e1.symm);subst this;rw[aa4]at e3
        have lf : fs.length ≤ 2 := by have : ys.length = fs.length := by rw [e3]; simp
                                      lia
        have kg:(fs.map (·.1)).Nodup:=(by rw[<- e3];exact Tl kf);refine⟨.inl ah,aaP (by rw[fK];lia:_<=2) (by decide),λp hp=>⟨_,.inl ah,l2,?_⟩⟩;have Tn:lk f fs=some k:=by
          have hf:f∈fs.map (·.1):=by
            rw[<- e3];refine iC f ?_;rw[uN];split
            · assumption
            · simp
          obtain⟨r,hr,YH⟩:=List.mem_map.mp hf;have:=dH r hr;rw[YH]at this;have e5:=(Xp f r.2 this).1 rfl;refine pL kg ?_;rw[<- e5,<- YH];exact hr
        have z1:=B' (f:=f) (k:=k) kg (λp hp ne=>by rcases (Xp _ _ (dH p hp)).2 ne with e | e <;> (rw[e,kz];lia)) λp hp e=>(Xp _ _ (dH p hp)).1 e;have d1:QG.cV fs<=kd k:=pD λp hp=>by
          by_cases c0:p.1=f
          · rw[(Xp _ _ (dH p hp)).1 c0];lia
          · rcases (Xp _ _ (dH p hp)).2 c0 with e |e <;> (rw[e,kd];lia)
        have Xn:D.tup [.str "row",.tup (aM fs)]=kD (.row fs):=(by rw[kD]);have aaz:kd (.row fs)=QG.cV fs+3:=(by rw[kd]);have zr:kz (.row fs)=c9 fs+1:=(by rw[kz]);have u5:=(u3.new (o:=.lst (ys.map D.str)) hl).new (o:=.lst (aM fs)) hp;refine⟨h,c,cs,kp,sp,sc,st,d,.row fs,?_,I.mv u5 ((H3.new hl).new hp),by lia,by lia,by lia,by lia,by lia,λqq M6 u6 H6 YI XX=>⟨l3,_,aG,q (.at f qq) M6 (u5.trans u6) H6 (B5 kg Tn YI) (by rw[dq];lia)⟩⟩;show [D.ref h,D.tup [.str "row",.tup (aM fs)],D.ref kp,D.ref sp,D.int (((d+1:Nat):Int)-1)]=_;rw[ke,Xn]
      · rintro x xs zs M' ⟨rfl,rest,fs,e1,e3,rfl,dH⟩;cases rest with
        |nil=>cases e1
        | cons y rest=>
          cases e1
          have lf : fs.length ≤ 2 := by have : ys.length = fs.length + (rest.length + 1) := by rw [e3]; simp
                                        lia
          obtain⟨κ,h1,_⟩:=jh (hy y (by rw[e3];simp));refine⟨.inl ah,aaP (by rw[fK];lia:_<=2) (by decide),λN hN=>.inr ⟨_,_,_,by rw[ao (aJ m3 hl)];exact m3,rfl,dP h1,l2,hN _ _ ⟨rfl,rest,fs++[(y,κ)],rfl,by rw[e3];simp,by rw[mm],λp hp=>?_⟩⟩⟩;rcases List.mem_append.mp hp with z |z
          · exact dH p z
          · rw[List.mem_singleton.mp z];exact h1
    intro fp iM;obtain⟨kn,pM⟩:=HX;have nf:=nh pM iM;have f0:M fp=none:=kI u iM (pM.up (M':=M));refine⟨h,c,cs,_,_,rfl,pM.new iM,by decide,by decide,λl names M1 u1 H1 hU hl nd ln=>⟨_,.inl hl,?_⟩⟩;have nl:=nh (pM.new iM) hU;have To:l≠fp:=(cm hU).1;refine hO (λxs τ M'=>∃rest s1 v8,xs=rest.map D.str/\τ=[some (.ref h),some (kD k),some (.ref kp),some (.ref sp),some (.int ((d+1:Nat):Int)),v5,v6,some (.ref fp),v8,none]/\rest.length+s1.length<=1/\Up h M M'/\Hk M' h c cs/\M' fp=some (.ai (aE s1))/\(s1.map (·.1)).Nodup/\(∀p∈s1,p.2=.num\/p.2=.word)/\M' l=some (.lst (names.map D.str))) ?_ ?_ _ _ _ ⟨names,[],_,rfl,rfl,by rw[abV];lia,(u.new iM).trans u1,⟨_,H1⟩,u1 _ _ nf ah,by simp,λ_ z=>(nomatch z),hl⟩
    · rintro τ M' ⟨rest,s1,v8,e1,rfl,uS,u2,H2,m2,kf,dH,hl2⟩;exact⟨.inl hl2,fin M' fp s1 v8 u2 H2 f0 nf m2 kf (by lia) dH⟩
    · rintro x xs τ M' ⟨rest,s1,v8,e1,rfl,uS,u2,H2,m2,kf,dH,hl2⟩;refine⟨.inl hl2,?_⟩;cases rest with
      |nil=>cases e1
      | cons y rest=>
        cases e1;intro N hN;rw[aaS]at uS;obtain⟨Cc,pN⟩:=H2;refine⟨l1,l1,l2,λp hp=>⟨h,c,cs,_,_,rfl,pN.new hp,by decide,by decide,λz M3 z0 z1 u3 H3=>?_⟩⟩;have np:=nh pN hp;obtain⟨κ,hκ,ha⟩:=ji (f:=kD) (xs:=[Kd.num,Kd.word]) z0 z1;have Cd:M3 fp=some (.ai (aE s1)):=u3 _ _ nf (by rw[ao (aJ m2 hp)];exact m2);refine .inl ⟨_,_,_,.inl (u3 _ _ np ah),rfl,ha,.inr ⟨_,_,Cd,rfl,aaP (by rw[fM];lia:_<=1) (by decide),hN _ _ ⟨rest,bw y κ s1,_,rfl,rfl,?_,?_,⟨_,H3.Yg nf Cd⟩,?_,mB kf,?_,?_⟩⟩⟩
        · have:=@j9 y κ s1;lia
        · exact ((u2.new hp).trans u3).ag f0
        · rw[mC kf];exact ah
        · intro r hr;rcases mz hr with e | e
          · exact dH r e
          · rw[e];simpa using hκ
        · rw[ao To];exact u3 _ _ nl (by rw[ao (aJ hl2 hp)];exact hl2)
  -- a WX field
  refine⟨rfl,j' I.K.m (by lia) λl ys hl hy hlen _ _=>⟨_,.inl ah,?_⟩⟩;have nl:=nh I.H.choose_spec hl;refine hO (λxs τ M'=>∃rest v5 v6,xs=rest.map D.str/\(∀y∈rest,y∈sc.map (·.1))/\τ=[some (.ref h),some (kD k),some (.ref kp),some (.ref sp),some (.int ((d+1:Nat):Int)),v5,v6,none,none,none]/\Up h M M'/\Hk M' h c cs/\M' l=some (.lst (ys.map D.str))) ?_ ?_ _ _ _ ⟨ys,_,_,rfl,hy,rfl,Up.rfl.new hl,I.H.new hl,ah⟩
  · rintro τ M' ⟨rest,v5,v6,e1,_,rfl,u,H2,hl2⟩;exact⟨.inl hl2,last M' v5 v6 u H2⟩
  · rintro x xs τ M' ⟨rest,v5,v6,e1,hr,rfl,u,H2,hl2⟩;refine⟨.inl hl2,?_⟩;cases rest with
    |nil=>cases e1
    | cons y rest=>
      cases e1;intro N hN;have go:∀(M3:Mp) v6,Up h M' M3->Hk M3 h c cs->N [some (.ref h),some (kD k),some (.ref kp),some (.ref sp),some (.int ((d+1:Nat):Int)),some (.str y),v6,none,none,none] M3:=λM3 v6 u3 H3=>hN _ _ ⟨rest,_,_,rfl,λz hz=>hr z (aaK _ hz),rfl,u.trans u3,H3,u3 _ _ nl hl2⟩;obtain⟨κ,h1,r,h2,h3⟩:=jh (hr y aaO);have I2:=I.mv u H2;have oκ:jg κ:=(by rw[<- h3];exact I.K.ok r h2);refine .inr ⟨_,_,_,I2.K.m,rfl,dP h1,?_⟩;cases κ with
      |num=>exact⟨_,rfl,aC rfl (aO (aO (go _ _ Up.rfl H2)))⟩
      |word=>exact⟨_,rfl,aC rfl (aO (aO (go _ _ Up.rfl H2)))⟩
      |aB _=>exact⟨_,rfl,aC rfl (aO (aO (go _ _ Up.rfl H2)))⟩
      | row fs=>
        have kg:(fs.map (·.1)).Nodup:=oκ.n;have dr:=oκ.d;have zr:=oκ.z;rw[kd]at dr;rw[kz]at zr;have lf:fs.length<=29:=by have:=jf fs;lia
        obtain⟨Cc,pN⟩:=H2;refine⟨_,rfl,aC rfl (cy ⟨h,c,cs,_,_,rfl,pN,by decide,by decide,λz M3 z0 z1 u3 H3=>aC rfl (a9 (λ_=>?_) λ_=>go _ _ u3 ⟨_,H3⟩)⟩)⟩;have I3:=I2.mv u3 ⟨_,H3⟩;refine .inr ⟨_,_,_,I3.K.m,rfl,dP h1,_,rfl,?_⟩;refine dj (λxs zs X=>X=M3/\∃rest pre gs,xs=aM rest/\fs=pre++rest/\zs=gs.map D.str/\gs.length<=pre.length/\∀g∈gs,(g,k)∈fs) ?_ ?_ _ _ _ ⟨rfl,fs,[],[],rfl,rfl,rfl,by simp,λ_ z=>(nomatch z)⟩
        · rintro zs X ⟨rfl,rest,pre,gs,e1,e2,rfl,e4,ok⟩
          have YJ : gs.length ≤ 29 := by have : fs.length = pre.length + rest.length := by rw [e2]; simp
                                         lia
          refine⟨aaV,aaP (by rw[aaN];exact YJ) (by decide),λp hp=>⟨by decide,λe he=>og (by rw[ao (abx (cm he).1)];exact ah) ah ?_⟩⟩;have np:=nh H3 hp;have ne:=nh (H3.new hp) he;have H5:=(H3.new (o:=.lst (gs.map D.str)) hp).new (o:=.lst []) he;have u5:=(u3.new (o:=.lst (gs.map D.str)) hp).new (o:=.lst []) he;have m5:(PL.up (PL.up X p (.lst (gs.map D.str))) e (.lst [])) p=some (.lst (gs.map D.str)):=(by rw[ao (abx (cm he).1)];exact ah);generalize PL.up (PL.up X p (.lst (gs.map D.str))) e (.lst [])=Y at H5 u5 m5;refine a9 (λc1=>?_) λc1=>go _ _ u5 ⟨_,H5⟩;have n0:gs≠[]:=(by rintro rfl;simp at c1);have n1:0<gs.length:=List.length_pos_iff.mpr n0;refine .inl ⟨_,.inl m5,h,c,cs,_,_,rfl,H5,by simp;lia,abv (by simp;lia:_<=(29:Int)) (by decide),λb M6 Xy b1 u6 H6=>?_⟩;obtain⟨f,hf,ha⟩:=ji (f:=D.str) (xs:=gs) Xy b1;refine .inl ⟨_,_,_,.inl (u6 _ _ np m5),rfl,ha,l2,l3,_,aG,q (.at f (.var y)) M6 (u.trans (u5.trans u6)) ⟨_,H6⟩ (B5 kg (pL kg (ok f hf)) (.var h1)) (by rw[dq,dq];lia)⟩
        · rintro x xs zs X ⟨rfl,rest,pre,gs,e1,e2,rfl,e4,ok⟩;cases rest with
          |nil=>rw[aM]at e1;cases e1
          | cons g rest=>
            obtain⟨gx,gk⟩:=g;rw[aM]at e1;cases e1
            have YJ : gs.length ≤ 29 := by have : fs.length = pre.length + (rest.length + 1) := by rw [e2]; simp
                                           lia
            have Yq:kd gk<=QG.cV fs:=kd_mem (p:=(gx,gk)) (by rw[e2];simp);refine⟨aaV,aaP (by rw[aaN];exact YJ) (by decide),rfl,λaaA Ce=>mj (by lia) (a9 (λc1=>Ce _ _ ⟨rfl,rest,pre++[(gx,gk)],gs++[gx],rfl,by rw[e2];simp,by simp,by simp;lia,λg hg=>?_⟩) λc1=>Ce _ _ ⟨rfl,rest,pre++[(gx,gk)],gs,rfl,by rw[e2];simp,rfl,by simp;lia,ok⟩)⟩;rcases List.mem_append.mp hg with z |z
            · exact ok g z
            · rw[List.mem_singleton.mp z,<- of_decide_eq_true c1,e2];simp
variable {w:Wo}
theorem Cf {M:Mp}{p:Addr}{sc:Sc} {κ:Kd} (D:Dc M p sc) (h:∃p∈sc,p.2=κ):kd κ<=50:=by
 obtain⟨r,h2,h3⟩:=h;have:=(D.ok r h2).d;rw[<- h3];lia
noncomputable def Tq:B:=.cons (.ret (.call 30 (.cons (.v 0) (.cons (.c (.str "for")) (.cons (.v 1) (.cons (.v 2) (.cons (.v 3) (.cons (.v 4) .nil)))))))) .nil
noncomputable def Tr:B:=.cons (.ret (.tup (.cons (.c (.str "both")) (.cons (.v 7) (.cons (.call 33 (.cons (.v 0) (.cons (.v 1) (.cons (.v 2) (.cons (.v 3) (.cons (.op .Sub (.v 4) (.c (.int 1))) .nil)))))) .nil))))) .nil
noncomputable def Ts:B:=.cons (.set 7 (.call 33 (.cons (.v 0) (.cons (.v 1) (.cons (.v 2) (.cons (.v 3) (.cons (.op .Sub (.v 4) (.c (.int 1))) .nil))))))) Tr
noncomputable def Tt:B:=.cons (.cond (.cmp .Eq (.v 6) (.c (.int 9))) Ts .nil) Tq
noncomputable def Tu:B:=.cons (.ret (.tup (.cons (.c (.str "when")) (.cons (.call 29 (.cons (.v 0) (.cons (.v 2) (.cons (.v 3) (.cons (.op .Sub (.v 4) (.c (.int 1))) .nil))))) (.cons (.call 33 (.cons (.v 0) (.cons (.v 1) (.cons (.v 2) (.cons (.v 3) (.cons (.op .Sub (.v 4) (.c (.int 1))) .nil)))))) .nil))))) .nil
noncomputable def Tv:B:=.cons (.cond (.cmp .Eq (.v 6) (.c (.int 8))) Tu .nil) Tt
noncomputable def Tw:B:=.cons (.ret (.tup (.cons (.c (.str "times")) (.cons (.call 24 (.cons (.v 0) .nil)) (.cons (.call 33 (.cons (.v 0) (.cons (.v 1) (.cons (.v 2) (.cons (.v 3) (.cons (.op .Sub (.v 4) (.c (.int 1))) .nil)))))) .nil))))) .nil
noncomputable def Tx:B:=.cons (.cond (.cmp .Eq (.v 6) (.c (.int 7))) Tw .nil) Tv
noncomputable def Tz:B:=.cons (.ret (.tup (.cons (.c (.str "one")) (.cons (.call 33 (.cons (.v 0) (.cons (.ix (.v 1) (.c (.int 1))) (.cons (.v 2) (.cons (.v 3) (.cons (.op .Sub (.v 4) (.c (.int 1))) .nil)))))) .nil)))) .nil
noncomputable def TB:B:=.cons (.cond (.cmp .Lt (.v 6) (.c (.int 7))) Tz .nil) Tx
noncomputable def Cg:B:=.cons (.ret (.tup (.cons (.c (.str "none")) (.cons (.ix (.v 1) (.c (.int 1))) .nil)))) .nil
noncomputable def Ci:B:=.cons (.cond (.or (.cmp .Eq (.v 4) (.c (.int 0))) (.cmp .Eq (.v 6) (.c (.int 4)))) Cg .nil) TB
noncomputable def Cj:B:=.cons (.ret (.tup (.cons (.c (.str "table")) (.cons (.ix (.v 5) (.call 22 (.cons (.v 0) (.cons (.bi .len (.cons (.v 5) .nil)) .nil)))) .nil)))) .nil
noncomputable def TC:B:=.cons (.cond (.and (.cmp .NotEq (.v 5) (.lst .nil)) (.or (.cmp .Lt (.v 6) (.c (.int 4))) (.cmp .Eq (.v 4) (.c (.int 0))))) Cj .nil) Ci
noncomputable def TF:B:=.cons (.set 6 (.call 22 (.cons (.v 0) (.cons (.c (.int 12)) .nil)))) TC
noncomputable def TH:B:=.cons (.set 5 (.lc 1 [1,3] (.one 0) (.seq (.gn (.v 3))) (.cmp .Eq (.ix (.v 2) (.v 0)) (.ix (.v 1) (.c (.int 1)))) (.v 0))) TF
noncomputable def TJ:B:=TH
theorem TK:aK ["hand","kind","kinds","stock","deep","known","style","one"] ["hand","kind","kinds","stock","deep"] (aj (aa 46)):=⟨rfl,rfl,rfl,by decide +kernel,rfl,by decide +kernel,by decide +kernel⟩
theorem TL:TJ.ck nm ["hand","kind","kinds","stock","deep","known","style","one"] (aj (aa 46)) (aH (aa 46))=true:=by decide +kernel
noncomputable abbrev pO (w:Wo) (n:Nat):a' w:={ cs:=[(22,eh),(24,uL),(33,cG n),(29,hV n),(30,kc n)] }
theorem TM (O:Lw w) {n:Nat} (Xq:FO w 33 (n+7) (cG n)) (gc:FO w 29 (n+7) (hV n)) (XE:FO w 30 (n+7) (kc n)):FO w 32 (n+8) (pI (n+1)):=by
 refine a6 O.ok O.hn _ ⟨"_law_bag",aa 46,["hand","kind","kinds","stock","deep"]⟩ (by rw[O.hd];rfl) (pO w n) { cs:=⟨⟨1,by lia,ei O⟩,⟨2,by lia,BM O⟩,⟨n+7,aaH _,Xq⟩,⟨n+7,aaH _,gc⟩,⟨n+7,aaH _,XE⟩,trivial⟩ } TK TL λds M Q hh=>?_;obtain⟨h,c,cs,kp,sp,sc,st,d,k,rfl,I,g1,g2,g3,g4,g5,q⟩:=hh;have k1:=pK k;have Xn:kd (.aB k)=kd k+1:=by rw[kd]
 have Yp:kz (.aB k)=kz k+1:=by rw[kz]
 rw[Xn]at g3;rw[Yp]at g4;refine⟨rfl,j' I.S.m (aaP I.ls (by decide)) λl ys hl hy hlen _ _=>⟨_,.inl ah,?_⟩⟩;have I1:=I.new (o:=.lst (ys.map D.str)) hl;have u1:Up h M (PL.up M l (.lst (ys.map D.str))):=Up.rfl.new hl;have ml:(PL.up M l (.lst (ys.map D.str))) l=some (.lst (ys.map D.str)):=ah;generalize PL.up M l (.lst (ys.map D.str))=X1 at I1 u1 ml;refine pG (sc:=st) (k0:=k) (.inl ml) (aaZ I.ls (by decide)) (λy κ N hk hp hN=>.inr ⟨_,_,_,I1.S.m,rfl,dP hk,_,rfl,mj (Cf I.S hp) hN⟩) (λy N hN=>hN) (λzs hz Yb p hp=>?_) ys [] hy (λ_ z=>nomatch z) (by rw[abV];lia);have I2:=I1.new (o:=.lst (zs.map D.str)) hp;have u2:=u1.new (o:=.lst (zs.map D.str)) hp;have mp:(PL.up X1 p (.lst (zs.map D.str))) p=some (.lst (zs.map D.str)):=ah;have np:=nh I1.H.choose_spec hp;generalize PL.up X1 p (.lst (zs.map D.str))=X2 at I2 u2 mp;obtain⟨kn,H2⟩:=I2.H;refine⟨h,c,cs,_,_,rfl,H2,by decide,by decide,λx X3 x0 x1 u3 H3=>?_⟩;have I3:=I2.mv u3 ⟨_,H3⟩;have ua:=u2.trans u3;have eW:=u3 _ _ np mp;clear u3 H2 I2 u2 mp I1 u1 ml;refine⟨by decide,λe he=>og (by rw[ao (aJ eW he)];exact eW) ah ?_⟩;have I4:=I3.new (o:=.lst []) he;have u4:=ua.new (o:=.lst []) he;have m4:(PL.up X3 e (.lst [])) p=some (.lst (zs.map D.str)):=by rw[ao (aJ eW he)];exact eW
 generalize PL.up X3 e (.lst [])=Y at I4 u4 m4;clear I3 ua eW H3 he;obtain⟨B9,H4⟩:=id I4.H;have gR:B.w (pO w n).wd nm.aL Cg (bS Q) [some (.ref h),some (kD (.aB k)),some (.ref kp),some (.ref sp),some (.int (d:Nat)),some (.ref p),some (.int x),none] Y:=⟨_,rfl,l2,_,aG,q (.none k) Y u4 I4.H SE (by rw[dq];lia)⟩;have table:zs≠[]->B.w (pO w n).wd nm.aL Cj (bS Q) [some (.ref h),some (kD (.aB k)),some (.ref kp),some (.ref sp),some (.int (d:Nat)),some (.ref p),some (.int x),none] Y:=λn0=>by
  have n1:0<zs.length:=List.length_pos_iff.mpr n0;refine .inl ⟨_,.inl m4,h,c,cs,_,_,rfl,H4,by simp;lia,abv (by simp;lia:_<=(60:Int)) (by decide),λb M6 Xy b1 u6 H6=>?_⟩;obtain⟨f,hf,ha⟩:=ji (f:=D.str) (xs:=zs) Xy b1;exact .inl ⟨_,_,_,.inl (u6 _ _ np m4),rfl,ha,l2,_,aG,q (.tab f) M6 (u4.trans u6) ⟨_,H6⟩ (.tab (hz f hf)) (by rw[dq];lia)⟩
 have rest:B.w (pO w n).wd nm.aL Ci (bS Q) [some (.ref h),some (kD (.aB k)),some (.ref kp),some (.ref sp),some (.int (d:Nat)),some (.ref p),some (.int x),none] Y:=by
  refine aC rfl (a9 (λ_=>gR) λnd=>aC rfl (a9 (λ_=>gR) λn4=>?_));obtain⟨e,rfl⟩:∃e,d=e+1:=by
   cases d with
   |zero=>exact absurd (by decide) nd
   |succ e=>exact⟨e,rfl⟩
  have eX:∀(k':Kd) (X:Mp) (R:QK),kd k'<=kd k+1->kz k'<=kz k+1->Ix X h c cs kp sp sc st->eV X h c cs sc st (kD k') (10 * e+kd k') R->cG n [.ref h,kD k',.ref kp,.ref sp,.int (((e+1:Nat):Int)-1)] X R:=λk' X R a1 a2 Xh Xi=>
   ⟨h,c,cs,kp,sp,sc,st,e,k',by rw[ke],Xh,by lia,by lia,by lia,by lia,by lia,Xi⟩
  refine (show if decide (x<7)=true then _ else _ from a9 (λ_=>?_) λ_=>?_)
  ·exact⟨_,rfl,eX k Y _ (by lia) (by lia) I4 λq1 X1 u1 H1 t1 d1=>⟨l2,_,aG,q (.one q1) X1 (u4.trans u1) H1 (SF t1) (by rw[dq];lia)⟩⟩
  refine aC rfl (a9 (λ_=>?_) λ_=>?_)
  ·exact⟨h,c,cs,_,rfl,H4,λi M5 u5 H5=>eX (.aB k) M5 _ (by lia) (by lia) (I4.mv u5 ⟨_,H5⟩) λq1 X1 u1 H1 t1 d1=>⟨l3,_,aG,q (.times i q1) X1 (u4.trans (u5.trans u1)) H1 (SH t1) (by rw[dq];lia)⟩⟩
  refine aC rfl (a9 (λ_=>?_) λ_=>?_)
  ·refine⟨h,c,cs,kp,sp,sc,st,e,(by show [D.ref h,D.ref kp,D.ref sp,D.int (((e+1:Nat):Int)-1)]=_;rw[ke]),I4,by lia,by lia,by lia,λq1 X1 u1 H1 t1 d1=>eX (.aB k) X1 _ (by lia) (by lia) (I4.mv u1 H1) λq2 X2 u2 H2 t2 d2=>⟨l3,_,aG,q (.jb q1 q2) X2 (u4.trans (u1.trans u2)) H2 (SI t1 t2) (by rw[dq];lia)⟩⟩
  refine aC rfl (a9 (λ_=>?_) λ_=>?_)
  ·exact eX (.aB k) Y _ (by lia) (by lia) I4 λq1 X1 u1 H1 t1 d1=>eX (.aB k) X1 _ (by lia) (by lia) (I4.mv u1 H1) λq2 X2 u2 H2 t2 d2=>⟨l3,_,aG,q (.both q1 q2) X2 (u4.trans (u1.trans u2)) H2 (SG (by lia) t1 t2) (by rw[dq];lia)⟩
  ·exact⟨h,c,cs,kp,sp,sc,st,e,.aB k,"for",rfl,I4,by lia,by lia,by lia,by lia,by lia,.inr ⟨rfl,k,rfl⟩,λq1 X1 u1 H1 t1 d1=>⟨_,aG,q q1 X1 (u4.trans u1) H1 t1 (by lia)⟩⟩
 refine a9 (λc1=>?_) λc1=>aO rest;have n0:zs≠[]:=by rintro rfl;simp at c1
 refine (show if decide (x<4)=true then _ else _ from a9 (λ_=>cy (table n0)) λ_=>aC rfl (a9 (λ_=>table n0) λ_=>rest))
variable {w:Wo}
theorem Ck {d:Nat}:(if ((d:Nat):Int)-1 > 0 then ((d:Nat):Int)-1 else 0)=((d-1:Nat):Int):=by split <;> lia
noncomputable def TN:B:=.cons (.ret (.tup (.cons (.v 4) (.cons (.call 33 (.cons (.v 0) (.cons (.v 5) (.cons (.v 1) (.cons (.v 2) (.cons (.v 3) .nil)))))) (.cons (.call 33 (.cons (.v 0) (.cons (.v 5) (.cons (.v 1) (.cons (.v 2) (.cons (.v 3) .nil)))))) .nil))))) .nil
noncomputable def Cm:B:=.cons (.set 3 (.bi .max (.cons (.c (.int 0)) (.cons (.op .Sub (.v 3) (.c (.int 1))) .nil)))) TN
noncomputable def TQ:B:=.cons (.set 5 (.ix (.lst (.cons (.tup (.cons (.c (.str "num")) .nil)) (.cons (.tup (.cons (.c (.str "word")) .nil)) .nil))) (.call 22 (.cons (.v 0) (.cons (.c (.int 2)) .nil))))) .nil
noncomputable def TR:B:=.cons (.cond (.cmp .Eq (.v 4) (.c (.str "same"))) TQ .nil) Cm
noncomputable def TU:B:=.cons (.set 5 (.tup (.cons (.c (.str "num")) .nil))) TR
noncomputable def TV:B:=.cons (.ret (.tup (.cons (.v 4) (.cons (.call 29 (.cons (.v 0) (.cons (.v 1) (.cons (.v 2) (.cons (.op .Sub (.v 3) (.c (.int 1))) .nil))))) (.cons (.call 29 (.cons (.v 0) (.cons (.v 1) (.cons (.v 2) (.cons (.op .Sub (.v 3) (.c (.int 1))) .nil))))) .nil))))) .nil
noncomputable def TX:B:=.cons (.cond (.or (.cmp .Eq (.v 4) (.c (.str "and"))) (.cmp .Eq (.v 4) (.c (.str "or")))) TV .nil) TU
noncomputable def TY:B:=.cons (.ret (.tup (.cons (.c (.str "not")) (.cons (.call 29 (.cons (.v 0) (.cons (.v 1) (.cons (.v 2) (.cons (.op .Sub (.v 3) (.c (.int 1))) .nil))))) .nil)))) .nil
noncomputable def TZ:B:=.cons (.cond (.cmp .Eq (.v 4) (.c (.str "not"))) TY .nil) TX
noncomputable def T1:B:=.cons (.set 4 (.ix (.lst (.cons (.c (.str "same")) (.cons (.c (.str "under")) (.cons (.c (.str "and")) (.cons (.c (.str "or")) (.cons (.c (.str "not")) .nil)))))) (.call 22 (.cons (.v 0) (.cons (.ix (.lst (.cons (.c (.int 2)) (.cons (.c (.int 5)) .nil))) (.bi .int (.cons (.cmp .Gt (.v 3) (.c (.int 0))) .nil))) .nil))))) TZ
noncomputable def T2:B:=T1
theorem T3:aK ["hand","kinds","stock","deep","word","kind"] ["hand","kinds","stock","deep"] (aj (aa 43)):=⟨rfl,rfl,rfl,by decide +kernel,rfl,by decide +kernel,by decide +kernel⟩
theorem T4:T2.ck nm ["hand","kinds","stock","deep","word","kind"] (aj (aa 43)) (aH (aa 43))=true:=by decide +kernel
noncomputable abbrev Cn (w:Wo) (n:Nat):a' w:={ cs:=[(22,eh),(33,cG n),(29,hV n)] }
theorem T5 (O:Lw w) {n:Nat} (Xq:FO w 33 (n+7) (cG n)) (gc:FO w 29 (n+7) (hV n)):FO w 29 (n+8) (hV (n+1)):=by
 refine a6 O.ok O.hn _ ⟨"_law_claim",aa 43,["hand","kinds","stock","deep"]⟩ (by rw[O.hd];rfl) (Cn w n) { cs:=⟨⟨1,by lia,ei O⟩,⟨n+7,aaH _,Xq⟩,⟨n+7,aaH _,gc⟩,trivial⟩ } T3 T4 λds M Q hh=>?_;obtain⟨h,c,cs,kp,sp,sc,st,d,rfl,I,g1,g2,g3,q⟩:=hh;have Ch:∀ (X:Mp) (wo:Str) (k:Kd),Up h M X->Hk X h c cs->(k=.num\/k=.word)->(∀ a b X',Up h M X'->Hk X' h c cs->Tk (λy=>lk y st) sc a (kD k)->Tk (λy=>lk y st) sc b (kD k)->dq a<=10 * d+2->dq b<=10 * d+2->Q (.tup [.str wo,qD a,qD b]) X') ->
   B.w (Cn w n).wd nm.aL Cm (bS Q) [some (.ref h),some (.ref kp),some (.ref sp),some (.int (d:Nat)),some (.str wo),some (kD k)] X:=by
  intro X wo k u HX hk fin;have kk:kd k=1/\kz k=1:=by rcases hk with rfl |rfl <;> exact⟨by rw[kd],by rw[kz]⟩
  have eX:∀(Y:Mp) (R:QK),Ix Y h c cs kp sp sc st->eV Y h c cs sc st (kD k) (10 * (d-1)+kd k) R->cG n [.ref h,kD k,.ref kp,.ref sp,.int (if ((d:Nat):Int)-1 > 0 then ((d:Nat):Int)-1 else 0)] Y R:=λY R Xh Xi=>
   ⟨h,c,cs,kp,sp,sc,st,d-1,k,by rw[Ck],Xh,by lia,by lia,by lia,by lia,by lia,Xi⟩
  have I1:=I.mv u HX;exact eX X _ I1 λq1 X1 u1 H1 t1 d1=>eX X1 _ (I1.mv u1 H1) λq2 X2 u2 H2 t2 d2=>⟨l3,_,aG,fin q1 q2 X2 (u.trans (u1.trans u2)) H2 t1 t2 (by lia) (by lia)⟩
 refine⟨rfl,(by show 5<=sizeLine;decide),λp hp=>⟨l2,λp2 bU=>?_⟩⟩;have np:p≠h:=nh I.H.choose_spec hp;have I2:=(I.new (o:=.lst [.str "same",.str "under",.str "and",.str "or",.str "not"]) hp).new (o:=.lst [.int 2,.int 5]) bU;have u2:=(Up.rfl (p:=h) (M:=M)).new (o:=.lst [.str "same",.str "under",.str "and",.str "or",.str "not"]) hp |>.new (o:=.lst [.int 2,.int 5]) bU;have m2:(PL.up (PL.up M p (.lst [.str "same",.str "under",.str "and",.str "or",.str "not"])) p2 (.lst [.int 2,.int 5])) p=some (.lst [.str "same",.str "under",.str "and",.str "or",.str "not"]):=by rw[ao (abx (cm bU).1)];exact ah
 have m3:(PL.up (PL.up M p (.lst [.str "same",.str "under",.str "and",.str "or",.str "not"])) p2 (.lst [.int 2,.int 5])) p2=some (.lst [.int 2,.int 5]):=ah;generalize PL.up (PL.up M p (.lst [.str "same",.str "under",.str "and",.str "or",.str "not"])) p2 (.lst [.int 2,.int 5])=Y at I2 u2 m2 m3;obtain⟨kn,H2⟩:=I2.H;refine (show ax (.ref p2) (.int (if decide ((0:Int)<((d:Nat):Int))=true then 1 else 0)) Y _ from pF (P:=λ_=>True) m3 λkO h1 h2=>?_)
 have Co:kO=2\/kO=5/\0<d:=by
  cases hc:decide ((0:Int)<((d:Nat):Int)) with
  |true=>exact .inr ⟨h1 hc,by have:=of_decide_eq_true hc;lia⟩
  |false=>exact .inl (h2 hc)
 refine⟨h,c,cs,_,_,rfl,H2,by rcases Co with e |e <;> lia,abv (by rcases Co with e |e <;> lia:kO<=5) (by decide),λx X x0 x1 u3 H3=>?_⟩;have m4:=u3 _ _ np m2;have I3:=I2.mv u3 ⟨_,H3⟩;have u4:=u2.trans u3;have mo:0<d->∀(Z:Mp) (R:QK),Ix Z h c cs kp sp sc st->eV Z h c cs sc st tD (10 * (d-1)+3) R->hV n [.ref h,.ref kp,.ref sp,.int (((d:Nat):Int)-1)] Z R:=λhd Z R Xh Xi=>
  ⟨h,c,cs,kp,sp,sc,st,d-1,by rw[show ((d:Nat):Int)-1=((d-1:Nat):Int) by lia],Xh,by lia,by lia,by lia,Xi⟩
 rcases (by lia:x=0\/x=1\/(x=2/\0<d)\/(x=3/\0<d)\/(x=4/\0<d)) with rfl |rfl |⟨rfl,hd⟩ |⟨rfl,hd⟩ |⟨rfl,hd⟩
 ·refine .inl ⟨_,_,_,.inl m4,rfl,rfl,aC rfl (aO (aC rfl (aO (aC rfl (aO ⟨l1,aC rfl (cy ⟨l1,l1,l2,λp3 kh=>?_⟩)⟩)))))⟩;refine⟨h,c,cs,_,_,rfl,H3.new kh,by decide,by decide,λz Z z0 z1 u5 H5=>?_⟩;obtain⟨κ,hκ,ha⟩:=ji (f:=kD) (xs:=[Kd.num,Kd.word]) z0 z1;have hκ':κ=.num\/κ=.word:=by simpa using hκ
  exact .inl ⟨_,_,_,.inl (u5 _ _ (nh H3 kh) ah),rfl,ha,Ch Z "same" κ ((u4.new kh).trans u5) ⟨_,H5⟩ hκ' λa b X' u' H' ta tb Xl Xm=>q (.same a b) X' u' H' (SM hκ' ta tb) (by rw[dq];lia)⟩
 ·exact .inl ⟨_,_,_,.inl m4,rfl,rfl,aC rfl (aO (aC rfl (aO (aC rfl (aO ⟨l1,aC rfl (aO (Ch X "under" .num u4 I3.H (.inl rfl) λa b X' u' H' ta tb Xl Xm=>q (.under a b) X' u' H' (SN ta tb) (by rw[dq];lia)))⟩)))))⟩
 ·exact .inl ⟨_,_,_,.inl m4,rfl,rfl,aC rfl (aO (aC rfl (cy (cy (mo hd X _ I3 λq1 X1 v1 G1 t1 d1=>mo hd X1 _ (I3.mv v1 G1) λq2 X2 v2 G2 t2 d2=>⟨l3,_,aG,q (.and q1 q2) X2 (u4.trans (v1.trans v2)) G2 (SO t1 t2) (by rw[dq];lia)⟩)))))⟩
 ·exact .inl ⟨_,_,_,.inl m4,rfl,rfl,aC rfl (aO (aC rfl (aO (aC rfl (cy (mo hd X _ I3 λq1 X1 v1 G1 t1 d1=>mo hd X1 _ (I3.mv v1 G1) λq2 X2 v2 G2 t2 d2=>⟨l3,_,aG,q (.or q1 q2) X2 (u4.trans (v1.trans v2)) G2 (SQ t1 t2) (by rw[dq];lia)⟩))))))⟩
 ·exact .inl ⟨_,_,_,.inl m4,rfl,rfl,aC rfl (cy (mo hd X _ I3 λq1 X1 v1 G1 t1 d1=>⟨l2,_,aG,q (.not q1) X1 (u4.trans v1) G1 (SR t1) (by rw[dq];lia)⟩))⟩
variable {w:Wo}
theorem Cp {x:Str}{k:Qn}:∀{a:List (Str×Qn)},cz (a++[(x,k)])=cz a++[.tup [.str x,qD k]]
 |[]=>by rw[List.nil_append,cz,cz];rfl
 |(_,l)::r=>by rw[List.cons_append,cz,cz,Cp];rfl
theorem uT:∀{a:List (Str×Qn)},(cz a).length=a.length
 |[]=>by rw[cz];rfl
 |(_,_)::r=>by rw[cz,aaS,aaS,uT]
theorem cF.app {S:Str->Option Kd}{G:Sc}{q:Qn}{d:D} (h:Tk S G q d):∀{qs:List Qn}{ks:List D},cF S G qs ks->cF S G (qs++[q]) (ks++[d])
 |_,_,.nil=>.cons h .nil
 |_,_,.cons a r=>.cons a (cF.app h r)
theorem Cq {x:Str}{q:Qn}:∀{a:List (Str×Qn)},ef (a++[(x,q)])=max (ef a) (dq q)
 |[]=>by
  simp [ef]
 |(_,l)::r=>by rw[List.cons_append,ef,ef,Cq];lia
theorem Cr:∀pre:List (Str×Kd),(pre.map (·.1)).zip (pre.map (·.2))=pre
 |[]=>rfl
 |(x,k)::r=>by rw[aaR,aaR,List.zip_cons_cons,Cr r]
noncomputable def T6:B:=.cons (.ret (.tup (.cons (.ix (.lst (.cons (.c (.str "add")) (.cons (.c (.str "mul")) .nil))) (.op .Mod (.v 6) (.c (.int 2)))) (.cons (.v 8) (.cons (.call 33 (.cons (.v 0) (.cons (.v 1) (.cons (.v 2) (.cons (.v 3) (.cons (.op .Sub (.v 4) (.c (.int 1))) .nil)))))) .nil))))) .nil
noncomputable def T7:B:=.cons (.set 8 (.call 33 (.cons (.v 0) (.cons (.v 1) (.cons (.v 2) (.cons (.v 3) (.cons (.op .Sub (.v 4) (.c (.int 1))) .nil))))))) T6
noncomputable def Cs:B:=.cons (.ret (.tup (.cons (.c (.str "num")) (.cons (.call 24 (.cons (.v 0) .nil)) .nil)))) .nil
noncomputable def T9:B:=.cons (.cond (.or (.cmp .Eq (.v 4) (.c (.int 0))) (.cmp .Lt (.v 6) (.c (.int 8)))) Cs .nil) T7
noncomputable def Ua:B:=.cons (.ret (.tup (.cons (.c (.str "word")) (.cons (.call 23 (.cons (.v 0) .nil)) .nil)))) .nil
noncomputable def Ub:B:=.cons (.cond (.cmp .Eq (.v 1) (.tup (.cons (.c (.str "word")) .nil))) Ua .nil) T9
noncomputable def Uc:B:=.cons (.ret (.tup (.cons (.c (.str "row")) (.cons (.bi .tuple (.cons (.v 7) .nil)) .nil)))) .nil
noncomputable def Ud:B:=.cons (.set 7 (.lc 2 [0,2,3,4] (.many [0,1]) (.seq (.ix (.v 1) (.c (.int 1)))) .cf (.tup (.cons (.v 0) (.cons (.call 33 (.cons (.v 2) (.cons (.v 1) (.cons (.v 3) (.cons (.v 4) (.cons (.bi .max (.cons (.c (.int 0)) (.cons (.op .Sub (.v 5) (.c (.int 1))) .nil))) .nil)))))) .nil))))) Uc
noncomputable def Ue:B:=.cons (.cond (.cmp .Eq (.ix (.v 1) (.c (.int 0))) (.c (.str "row"))) Ud .nil) Ub
noncomputable def Ug:B:=.cons (.ret (.call 32 (.cons (.v 0) (.cons (.v 1) (.cons (.v 2) (.cons (.v 3) (.cons (.v 4) .nil))))))) .nil
noncomputable def Ct:B:=.cons (.cond (.cmp .Eq (.ix (.v 1) (.c (.int 0))) (.c (.str "bag"))) Ug .nil) Ue
noncomputable def Uh:B:=.cons (.ret (.call 31 (.cons (.v 0) (.cons (.v 1) (.cons (.v 2) (.cons (.v 3) (.cons (.v 4) .nil))))))) .nil
noncomputable def Cu:B:=.cons (.cond (.and (.cmp .Gt (.v 4) (.c (.int 0))) (.cmp .Eq (.v 6) (.c (.int 5)))) Uh .nil) Ct
noncomputable def Ui:B:=.cons (.ret (.call 30 (.cons (.v 0) (.cons (.c (.str "let")) (.cons (.v 1) (.cons (.v 2) (.cons (.v 3) (.cons (.v 4) .nil)))))))) .nil
noncomputable def Cv:B:=.cons (.cond (.and (.cmp .Gt (.v 4) (.c (.int 0))) (.cmp .Eq (.v 6) (.c (.int 4)))) Ui .nil) Cu
noncomputable def Uj:B:=.cons (.ret (.tup (.cons (.c (.str "var")) (.cons (.ix (.v 5) (.call 22 (.cons (.v 0) (.cons (.bi .len (.cons (.v 5) .nil)) .nil)))) .nil)))) .nil
noncomputable def Uk:B:=.cons (.cond (.and (.cmp .NotEq (.v 5) (.lst .nil)) (.cmp .Lt (.v 6) (.c (.int 4)))) Uj .nil) Cv
noncomputable def Ul:B:=.cons (.set 6 (.call 22 (.cons (.v 0) (.cons (.c (.int 12)) .nil)))) Uk
noncomputable def Cw:B:=.cons (.set 5 (.lc 1 [1,2] (.one 0) (.seq (.gn (.v 2))) (.cmp .Eq (.ix (.v 2) (.v 0)) (.v 1)) (.v 0))) Ul
noncomputable def Um:B:=.cons (.cond (.cmp .Gt (.ix (.v 0) (.c (.str "knots"))) (.c (.int 16))) (.cons (.set 4 (.c (.int 0))) .nil) .nil) Cw
noncomputable def Uo:B:=.cons (.put (.v 0) (.c (.str "knots")) (.op .Add (.ix (.v 0) (.c (.str "knots"))) (.c (.int 1)))) Um
noncomputable def Uq:B:=Uo
theorem Ur:aK ["hand","kind","kinds","stock","deep","known","style","parts","one"] ["hand","kind","kinds","stock","deep"] (aj (aa 47)):=⟨rfl,rfl,rfl,by decide +kernel,rfl,by decide +kernel,by decide +kernel⟩
theorem Us:Uq.ck nm ["hand","kind","kinds","stock","deep","known","style","parts","one"] (aj (aa 47)) (aH (aa 47))=true:=by decide +kernel
noncomputable abbrev ki (w:Wo) (n:Nat):a' w:={ cs:=[(22,eh),(23,my),(24,uL),(33,cG n),(30,kc n),(31,pJ n),(32,pI n)] }
theorem Ut (O:Lw w) {n:Nat} (Xq:FO w 33 (n+7) (cG n)) (XE:FO w 30 (n+7) (kc n)) (Yc:FO w 31 (n+7) (pJ n)) (Z7:FO w 32 (n+7) (pI n)):FO w 33 (n+8) (cG (n+1)):=by
 refine a6 O.ok O.hn _ ⟨"_law_asked",aa 47,["hand","kind","kinds","stock","deep"]⟩ (by rw[O.hd];rfl) (ki w n) { cs:=⟨⟨1,by lia,ei O⟩,⟨2,by lia,pz O⟩,⟨2,by lia,BM O⟩,⟨n+7,aaH _,Xq⟩,⟨n+7,aaH _,XE⟩,⟨n+7,aaH _,Yc⟩,⟨n+7,aaH _,Z7⟩,trivial⟩ } Ur Us λds M Q hh=>?_;obtain⟨h,c,cs,kp,sp,sc,st,Xx,k,rfl,I,a1,a2,Xh,Xi,Xu,Zf⟩:=hh;have k1:=pK k;have main:∀(d:Nat) (X:Mp),d<=Xx->Up h M X->Hk X h c cs->B.w (ki w n).wd nm.aL Cw (bS Q) [some (.ref h),some (kD k),some (.ref kp),some (.ref sp),some (.int (d:Nat)),none,none,none,none] X:=by
  intro d X hd u HX;have q:eV M h c cs sc st (kD k) (10 * d+kd k) Q:=λq M' u' H' t' d'=>Zf q M' u' H' t' (by lia);have g1:sc.length+d<=40:=by lia
  have g2:35 * d+kd k<=n:=by lia
  have g3:kd k+3 * d<=25:=by lia
  have g4:kz k+8 * d<=80:=by lia
  have g5:d<=6:=by lia
  clear a1 a2 Xh Xi Xu Zf hd;have IX:=I.mv u HX;refine j' IX.K.m (by lia) λl ys hl hy hlen _ _=>⟨_,.inl ah,?_⟩;have I1:=IX.new (o:=.lst (ys.map D.str)) hl;have u1:=u.new (o:=.lst (ys.map D.str)) hl;have ml:(PL.up X l (.lst (ys.map D.str))) l=some (.lst (ys.map D.str)):=ah;generalize PL.up X l (.lst (ys.map D.str))=X1 at I1 u1 ml;refine pG (sc:=sc) (k0:=k) (.inl ml) (by lia) (λy κ N hk hp hN=>.inr ⟨_,_,_,I1.K.m,rfl,dP hk,mj (Cf I.K hp) hN⟩) (λy N hN=>hN) (λzs hz Yb p hp=>?_) ys [] hy (λ_ z=>nomatch z) (by rw[abV];lia);have I2:=I1.new (o:=.lst (zs.map D.str)) hp;have u2:=u1.new (o:=.lst (zs.map D.str)) hp;have mp:(PL.up X1 p (.lst (zs.map D.str))) p=some (.lst (zs.map D.str)):=ah;have np:=nh I1.H.choose_spec hp;generalize PL.up X1 p (.lst (zs.map D.str))=X2 at I2 u2 mp;obtain⟨kn,H2⟩:=I2.H;refine⟨h,c,cs,_,_,rfl,H2,by decide,by decide,λx X3 x0 x1 u3 H3=>?_⟩;have I3:=I2.mv u3 ⟨_,H3⟩;have ua:=u2.trans u3;have eW:=u3 _ _ np mp;clear u3 H2 I2 u2 mp I1 u1 ml IX u HX;refine⟨by decide,λe he=>og (by rw[ao (aJ eW he)];exact eW) ah ?_⟩;have I4:=I3.new (o:=.lst []) he;have u4:=ua.new (o:=.lst []) he;have m4:(PL.up X3 e (.lst [])) p=some (.lst (zs.map D.str)):=by rw[ao (aJ eW he)];exact eW
  generalize PL.up X3 e (.lst [])=Y at I4 u4 m4;clear I3 ua eW H3 he;obtain⟨B9,H4⟩:=id I4.H;have eX:∀(k':Kd) (d':Nat) (Z:Mp) (R:QK),35 * d'+kd k'<n->kd k'+3 * d'<=25->kz k'+8 * d'<=80->d'<=d->Ix Z h c cs kp sp sc st->eV Z h c cs sc st (kD k') (10 * d'+kd k') R->cG n [.ref h,kD k',.ref kp,.ref sp,.int (d':Nat)] Z R:=λk' d' Z R b1 b2 Xk b4 Xh Xi=>
   ⟨h,c,cs,kp,sp,sc,st,d',k',rfl,Xh,by lia,by lia,by lia,by lia,by lia,Xi⟩
  have plain:B.w (ki w n).wd nm.aL Ct (bS Q) [some (.ref h),some (kD k),some (.ref kp),some (.ref sp),some (.int (d:Nat)),some (.ref p),some (.int x),none,none] Y:=by
   cases k with
   |aB k'=>exact⟨_,rfl,aC rfl (cy ⟨h,c,cs,kp,sp,sc,st,d,k',rfl,I4,g1,by lia,g3,g4,g5,λq1 X1 v1 G1 t1 d1=>⟨_,aG,q q1 X1 (u4.trans v1) G1 t1 d1⟩⟩)⟩
   |word=>exact⟨_,rfl,aC rfl (aO ⟨_,rfl,aC rfl (aO ⟨l1,mj (a:=.word) (b:=.word) (by decide +kernel) (uJ (by simp) ⟨h,c,cs,_,rfl,H4,λs X1 v1 G1=>⟨l2,_,aG,q (.word s) X1 (u4.trans v1) ⟨_,G1⟩ SD (by rw[dq];lia)⟩⟩)⟩)⟩)⟩
   |num=>
    refine⟨_,rfl,aC rfl (aO ⟨_,rfl,aC rfl (aO ⟨l1,mj (a:=.num) (b:=.word) (by decide +kernel) ?_⟩)⟩)⟩;have ne:decide (Kd.num=Kd.word)=false:=(by simp);rw[ne];have Cy:B.w (ki w n).wd nm.aL Cs (bS Q) [some (.ref h),some (kD .num),some (.ref kp),some (.ref sp),some (.int (d:Nat)),some (.ref p),some (.int x),none,none] Y:=⟨h,c,cs,_,rfl,H4,λi X1 v1 G1=>⟨l2,_,aG,q (.num i) X1 (u4.trans v1) ⟨_,G1⟩ SA (by rw[dq];lia)⟩⟩;refine aO (aC rfl (a9 (λ_=>cy Cy) λnd=>(show if decide (x<8)=true then _ else _ from a9 (λ_=>Cy) λ_=>?_)))
    obtain⟨e,rfl⟩:∃e,d=e+1:=by
     cases d with
     |zero=>exact absurd (by decide) nd
     |succ e=>exact⟨e,rfl⟩
    have uU:∀(Z:Mp) (R:QK),Ix Z h c cs kp sp sc st->eV Z h c cs sc st (kD .num) (10 * e+1) R->cG n [.ref h,kD .num,.ref kp,.ref sp,.int (((e+1:Nat):Int)-1)] Z R:=λZ R Xh Xi=>by
     rw[ke];have z1:kd .num=1:=(by rw[kd]);have z2:kz .num=1:=(by rw[kz]);exact eX .num e Z R (by lia) (by lia) (by lia) (by lia) Xh (by rw[z1];exact Xi)
    refine uU Y _ I4 λq1 X1 v1 G1 t1 d1=>⟨l2,λp3 kh=>?_⟩;have I5:=(I4.mv v1 G1).new (o:=.lst [.str "add",.str "mul"]) kh;have v2:Up h M _:=(u4.trans v1).new (o:=.lst [.str "add",.str "mul"]) kh;refine⟨(by decide:(0:Int)<2),?_⟩;have e1:=Int.emod_nonneg x (by decide:(2:Int)≠0);have e2:=acb x (by decide:(0:Int)<2);have z1:kd .num=1:=(by rw[kd]);generalize hx:x % 2=y at e1 e2;refine (show ax (.ref p3) (.int (x % 2)) _ _ from ?_);rw[hx];rcases (by lia:y=0\/y=1) with rfl |rfl
    ·exact .inl ⟨_,_,_,.inl ah,rfl,rfl,uU _ _ I5 λq2 X2 v3 G2 t2 d2=>⟨l3,_,aG,q (.add q1 q2) X2 (v2.trans v3) G2 (SJ t1 t2) (by rw[dq];lia)⟩⟩
    ·exact .inl ⟨_,_,_,.inl ah,rfl,rfl,uU _ _ I5 λq2 X2 v3 G2 t2 d2=>⟨l3,_,aG,q (.mul q1 q2) X2 (v2.trans v3) G2 (SK t1 t2) (by rw[dq];lia)⟩⟩
   |row fs=>
    have YH:kd (.row fs)=QG.cV fs+3:=(by rw[kd]);have Yp:kz (.row fs)=c9 fs+1:=(by rw[kz]);have lf:=jf fs;refine⟨_,rfl,aC rfl (aO ⟨_,rfl,aC rfl (cy ⟨_,rfl,?_⟩)⟩)⟩;refine dj (λxs zs X=>∃rest pre fq,xs=aM rest/\fs=pre++rest/\zs=cz fq/\fq.map (·.1)=pre.map (·.1)/\cF (λy=>lk y st) sc (fq.map (·.2)) (pre.map λp=>kD p.2)/\ef fq<=10 * d+QG.cV fs/\Up h M X/\Hk X h c cs) ?_ ?_ _ _ _ ⟨fs,[],[],rfl,rfl,by rw[cz],rfl,.nil,by rw[ef];lia,u4,I4.H⟩
    ·rintro zs X ⟨rest,pre,fq,e1,e2,rfl,e4,t,dd,v,G⟩;have:rest=[]:=by
      cases rest with
      |nil=>rfl
      |cons g r=>obtain⟨x,y⟩:=g;rw[aM]at e1;cases e1
     subst this;rw[aa4]at e2;subst e2;have ll:fq.length=fs.length:=by have:=congrArg List.length e4;simpa using this
     refine⟨aaV,aaP (by rw[uT];lia:_<=80) (by decide),λp5 Cz=>⟨_,.inl ah,l2,_,aG,?_⟩⟩;have tk:=SS (S:=λy=>lk y st) (G:=sc) (fs:=fq) (κs:=fs.map (·.2)) (by lia) (by simp [ll]) (by rw[List.map_map];exact t);rw[e4,Cr]at tk;exact q (.row fq) _ (v.new Cz) (G.new Cz) tk (by rw[dq];lia)
    ·rintro ZO xs zs X ⟨rest,pre,fq,e1,e2,rfl,e4,t,dd,v,G⟩;cases rest with
     |nil=>rw[aM]at e1;cases e1
     |cons g rest=>
      obtain⟨gx,gk⟩:=g;rw[aM]at e1;cases e1;have ll:fq.length=pre.length:=by have:=congrArg List.length e4;simpa using this
      have Ze:fs.length=pre.length+(rest.length+1):=(by rw[e2];simp);have Yq:kd gk<=QG.cV fs:=kd_mem (p:=(gx,gk)) (by rw[e2];simp);have aaB:kz gk<=c9 fs:=by
       have h1:=jf fs;have h2:bO (fs.map (·.2))=bO (pre.map (·.2))+(kz gk+bO (rest.map (·.2))):=(by rw[e2,abo,aaR,mw,bO]);lia
      refine⟨aaV,aaP (by rw[uT];lia:_<=80) (by decide),rfl,λN hN=>?_⟩;refine (show cG n [.ref h,kD gk,.ref kp,.ref sp,.int (if ((d:Nat):Int)-1 > 0 then ((d:Nat):Int)-1 else 0)] X _ from ?_)
      rw[Ck];refine eX gk (d-1) X _ (by lia) (by lia) (by lia) (by lia) (I.mv v G) λq1 X1 v1 G1 t1 d1=>⟨l2,hN _ _ ⟨rest,pre++[(gx,gk)],fq++[(gx,q1)],rfl,by rw[e2];simp,by rw[Cp],by simp [e4],?_,by rw[Cq];lia,v.trans v1,G1⟩⟩;rw[abo,abo];exact cF.app t1 t
  have CA:B.w (ki w n).wd nm.aL Cv (bS Q) [some (.ref h),some (kD k),some (.ref kp),some (.ref sp),some (.int (d:Nat)),some (.ref p),some (.int x),none,none] Y:=by
   have cond:∀{P R:Prop},(0<d->P)->R->(if decide ((0:Int)<((d:Nat):Int))=true then P else R):=λ{P R} h1 h2=>a9 (λc1=>h1 (by have:=of_decide_eq_true c1;lia)) λ_=>h2
   have CB:B.w (ki w n).wd nm.aL Cu (bS Q) [some (.ref h),some (kD k),some (.ref kp),some (.ref sp),some (.int (d:Nat)),some (.ref p),some (.int x),none,none] Y:=by
    refine cond (λhd=>aC rfl (a9 (λ_=>?_) λ_=>plain)) (aO plain);obtain⟨e,rfl⟩:∃e,d=e+1:=⟨d-1,by lia⟩;exact⟨h,c,cs,kp,sp,sc,st,e,k,rfl,I4,g1,by lia,g3,g4,by lia,λq1 X1 v1 G1 t1 d1=>⟨_,aG,q q1 X1 (u4.trans v1) G1 t1 d1⟩⟩
   refine cond (λhd=>aC rfl (a9 (λ_=>?_) λ_=>CB)) (aO CB);obtain⟨e,rfl⟩:∃e,d=e+1:=⟨d-1,by lia⟩;exact⟨h,c,cs,kp,sp,sc,st,e,k,"let",rfl,I4,g1,by lia,g3,g4,by lia,.inl rfl,λq1 X1 v1 G1 t1 d1=>⟨_,aG,q q1 X1 (u4.trans v1) G1 t1 d1⟩⟩
  refine a9 (λc1=>(show if decide (x<4)=true then _ else _ from a9 (λ_=>?_) λ_=>CA)) λc1=>aO CA
  have n0:zs≠[]:=by rintro rfl;simp at c1
  have n1:0<zs.length:=List.length_pos_iff.mpr n0;refine .inl ⟨_,.inl m4,h,c,cs,_,_,rfl,H4,by simp;lia,abv (by simp;lia:_<=(60:Int)) (by decide),λb M6 Xy b1 u6 H6=>?_⟩;obtain⟨f,hf,ha⟩:=ji (f:=D.str) (xs:=zs) Xy b1;exact .inl ⟨_,_,_,.inl (u6 _ _ np m4),rfl,ha,l2,_,aG,q (.var f) M6 (u4.trans u6) ⟨_,H6⟩ (.var (hz f hf)) (by rw[dq];lia)⟩
 obtain⟨kn,⟨n0,r0,t0,H⟩,b1,b2⟩:=id I.H;refine⟨rfl,.inr ⟨_,_,_,H.1,rfl,hK,.inr ⟨_,_,H.1,rfl,hlen,?_⟩⟩⟩;rw[YG];have H1:Hs _ h c cs n0 r0 t0 (some (kn+1)):=H.put;have u1:Up h M (PL.up M h (.ai (a8 c n0 r0 t0 (some (kn+1))))):=Up.rfl.put;generalize PL.up M h (.ai (a8 c n0 r0 t0 (some (kn+1))))=X at H1 u1;have HX:Hk X h c cs:=⟨_,⟨_,_,_,H1⟩,b1,b2⟩;refine .inr ⟨_,_,_,H1.1,rfl,hK,(show if decide ((16:Int)<kn+1)=true then _ else _ from a9 (λ_=>main 0 X (abA _) u1 HX) λ_=>main Xx X (aaH _) u1 HX)⟩
structure Uu (w:Wo) (n:Nat):Prop where
 a:FO w 33 (n+7) (cG n)
 g:FO w 32 (n+7) (pI n)
 b:FO w 30 (n+7) (kc n)
 f:FO w 31 (n+7) (pJ n)
 c:FO w 29 (n+7) (hV n)
theorem uV (O:Lw w):∀n,Uu w n
 | 0=>by
  have no:∀i d sp,eS[i]?=some d->(∀ds M Q,¬sp ds M Q)->FO w i 7 sp:=λi d sp h g=>FO.imp (me O.ok (by rw[O.hd];exact h) (cs:=[]) trivial) λds M Q z=>(g ds M Q z).elim;refine⟨no _ ⟨"_law_asked",aa 47,["hand","kind","kinds","stock","deep"]⟩ _ rfl ?_,no _ ⟨"_law_bag",aa 46,["hand","kind","kinds","stock","deep"]⟩ _ rfl ?_,no _ ⟨"_law_bound",aa 44,["hand","word","kind","kinds","stock","deep"]⟩ _ rfl ?_,no _ ⟨"_law_field",aa 45,["hand","kind","kinds","stock","deep"]⟩ _ rfl ?_,no _ ⟨"_law_claim",aa 43,["hand","kinds","stock","deep"]⟩ _ rfl ?_⟩
  ·rintro ds M Q ⟨h,c,cs,kp,sp,sc,st,d,k,_,_,_,z,_⟩;lia
  ·rintro ds M Q ⟨h,c,cs,kp,sp,sc,st,d,k,_,_,_,z,_⟩;lia
  ·rintro ds M Q ⟨h,c,cs,kp,sp,sc,st,d,k,_,_,_,_,z,_⟩;lia
  ·rintro ds M Q ⟨h,c,cs,kp,sp,sc,st,d,k,_,_,_,z,_⟩;lia
  ·rintro ds M Q ⟨h,c,cs,kp,sp,sc,st,d,_,_,_,z,_⟩;lia
 |n+1=>let g:=uV O n;⟨Ut O g.a g.b g.f g.g,TM O g.a g.c g.b,S6 O g.a,Th O g.a,T5 O g.a g.c⟩
variable {w:Wo}
theorem Uv {xs:List D} (h:xs.length<=63):gY xs none (some 63)=xs:=by
 have e0:HT.ax xs.length 0 none=0:=rfl;have e1:HT.ax xs.length xs.length (some 63)=xs.length:=by
  unfold HT.ax;simp only[];split <;> (try split) <;> lia
 unfold gY;rw[e0,e1,List.drop_zero,Nat.sub_zero,List.take_length]
noncomputable def Uw:B:=.cons (.ret (.ot (.cons (.c (.str "cells")) (.cons (.c (.str "next")) (.cons (.c (.str "rest")) (.cons (.c (.str "count")) .nil)))) (.cons (.op .Add (.bi .list (.cons (.sl (.v 0) .cf (.c (.int 63))) .nil)) (.rep (.lst (.cons (.c (.int 5)) .nil)) (.bi .int (.cons (.iV .Eq (.v 0) (.lst .nil)) .nil)))) (.cons (.c (.int 0)) (.cons (.c (.int 0)) (.cons (.c (.int 0)) .nil)))))) .nil
noncomputable def Ux:B:=Uw
theorem Uy:aK ["script"] ["script"] (aj (aa 35)):=⟨rfl,rfl,rfl,by decide +kernel,rfl,by decide +kernel,by decide +kernel⟩
theorem Uz:Ux.ck nm ["script"] (aj (aa 35)) (aH (aa 35))=true:=by decide +kernel
def CC:QN:=λds M Q=>∃(a:Addr) (ns:List Int),ds=[.ref a]/\Ls M a (ns.map D.int)/\ns.length<=63/\∀h c cs M',PL.Sub M M'->M h=none->Hn M' h c cs none->Q (.ref h) M'
theorem kj {M:Mp}{a l:Addr}{xs:List D}{o:MO} (h:Ls M a xs) (hl:M l=none):Ls (PL.up M l o) a xs:=by
 rcases h with h |h
 ·exact .inl (by rw[ao (aJ h hl)];exact h)
 ·exact .inr (by rw[ao (aJ h hl)];exact h)
theorem UA (O:Lw w):FO w 21 1 CC:=by
 refine a6 O.ok O.hn _ ⟨"_law_hand",aa 35,["script"]⟩ (by rw[O.hd];rfl) {} { cs:=trivial } Uy Uz λds M Q hh=>?_;obtain⟨a,ns,rfl,ha,ln,q⟩:=hh;have bn:(ns.map D.int).length<=63:=by rw[aaN];exact ln
 refine⟨rfl,λh hh=>⟨_,kj ha hh,λl hl=>⟨_,.inl ah,λcW hl2=>⟨l1,λpP j8=>⟨by decide,λCD dQ=>⟨ns.map D.int,?_,ah,?_⟩⟩⟩⟩⟩⟩
 ·exact kj (kj (kj (kj (kj ha hh) hl) hl2) j8) dQ
 have UB:=Uv bn;simp only[UB]at hl2 j8 dQ ⊢;have h5:∀{X:Mp},X=PL.up (PL.up (PL.up (PL.up (PL.up M h (.ai [])) l (.lst (ns.map D.int))) cW (.lst (ns.map D.int))) pP (.lst [.int 5])) CD (.lst [])->X pP=some (.lst [.int 5])/\X cW=some (.lst (ns.map D.int))/\X h=some (.ai [])/\PL.Sub M X:=by
  rintro X rfl;have s1:=cM (o:=.ai []) hh;have s2:=cM (o:=.lst (ns.map D.int)) hl;have s3:=cM (o:=.lst (ns.map D.int)) hl2;have s4:=cM (o:=.lst [.int 5]) j8;have s5:=cM (o:=.lst []) dQ;exact⟨s5 _ _ ah,s5 _ _ (s4 _ _ ah),s5 _ _ (s4 _ _ (s3 _ _ (s2 _ _ ah))),λc o e=>s5 _ _ (s4 _ _ (s3 _ _ (s2 _ _ (s1 _ _ e))))⟩
 obtain⟨e3,e2,YK,es⟩:=h5 rfl;generalize PL.up (PL.up (PL.up (PL.up (PL.up M h (.ai [])) l (.lst (ns.map D.int))) cW (.lst (ns.map D.int))) pP (.lst [.int 5])) CD (.lst [])=X at e3 e2 YK es;obtain⟨ys,hy,y1,y2⟩:∃ys:List Int,(aa5 (Int.toNat (if decide (ns.map D.int=[])=true then 1 else 0)) [D.int 5]).flatten=ys.map D.int/\1<=ns.length+ys.length/\ys.length<=1:=by
  by_cases hn:ns=[]
  ·exact⟨[5],by rw[hn];rfl,by simp,by simp⟩
  ·have:decide (ns.map D.int=[])=false:=decide_eq_false (λz=>hn (by simpa using z));refine⟨[],by rw[this];rfl,?_,by simp⟩;have:ns.length≠0:=λz=>hn (List.length_eq_zero_iff.mp z);lia
 refine⟨_,e3,?_,?_,?_,λWY CF=>?_⟩
 ·split <;> decide
 ·split <;> decide
 ·split <;> decide
 rw[hy];refine⟨_,_,by rw[ao (aJ e2 CF)];exact e2,ah,sz (by simp;lia),λc hc=>?_⟩;have s6:=cM (o:=.lst (ys.map D.int)) CF;have s7:=cM (o:=.lst (ns.map D.int++ys.map D.int)) hc;refine⟨s7 _ _ (s6 _ _ YK),[(.inr "cells",.ref c),(.inr "next",.int 0),(.inr "rest",.int 0),(.inr "count",.int 0)],rfl,(by show 4<=15;decide),_,aG,?_⟩;have ib:c≠h:=by rintro rfl;rw[s6 _ _ YK]at hc;cases hc
 refine q h c (ns++ys) _ (λb o e=>?_) hh ⟨⟨0,0,0,?_,?_⟩,by simp;lia,by simp;lia⟩
 ·rw[ao (aJ e hh)];exact s7 _ _ (s6 _ _ (es _ _ e))
 ·rw[ah];rfl
 ·rw[ao ib,abo];exact ah
noncomputable def CG:B:=.cons (.ret (.lst (.cons (.v 3) (.cons (.v 1) (.cons (.v 2) (.cons (.call 33 (.cons (.v 0) (.cons (.v 3) (.cons (.v 1) (.cons (.v 2) (.cons (.call 22 (.cons (.v 0) (.cons (.c (.int 6)) .nil))) .nil)))))) .nil)))))) .nil
noncomputable def UC:B:=.cons (.set 3 (.tup (.cons (.c (.str "bag")) (.cons (.ix (.v 2) (.ix (.gn (.v 2)) (.call 22 (.cons (.v 0) (.cons (.bi .len (.cons (.v 2) .nil)) .nil))))) .nil)))) .nil
noncomputable def UD:B:=.cons (.cond (.and (.iV .NotEq (.v 2) .iU) (.cmp .Eq (.call 22 (.cons (.v 0) (.cons (.c (.int 2)) .nil))) (.c (.int 0)))) UC .nil) CG
noncomputable def UE:B:=.cons (.set 3 (.call 26 (.cons (.v 0) (.cons (.c (.int 2)) .nil)))) UD
noncomputable def UG:B:=.cons (.set 2 (.call 27 (.cons (.v 0) (.cons (.c (.int 3)) .nil)))) UE
noncomputable def UH:B:=.cons (.set 1 (.call 28 (.cons (.v 0) (.cons (.call 27 (.cons (.v 0) (.cons (.c (.int 4)) .nil))) .nil)))) UG
noncomputable def UI:B:=.cons (.put (.v 0) (.c (.str "knots")) (.c (.int 0))) UH
noncomputable def UJ:B:=UI
theorem UK:aK ["hand","kinds","stock","kind"] ["hand"] (aj (aa 48)):=⟨rfl,rfl,rfl,by decide +kernel,rfl,by decide +kernel,by decide +kernel⟩
theorem UL:UJ.ck nm ["hand","kinds","stock","kind"] (aj (aa 48)) (aH (aa 48))=true:=by decide +kernel
def CH:QN:=λds M Q=>∃h c cs kn,ds=[.ref h]/\Hn M h c cs kn/\∀l kp sp k sc st q M',Up h M M'->M' l=some (.lst [kD k,.ref kp,.ref sp,qD q])->Ix M' h c cs kp sp sc st->Tk (λy=>lk y st) sc q (kD k)->dq q<=100->kd k<=8->kz k<=30->sc.length<=11->Q (.ref l) M'
noncomputable abbrev CI (w:Wo):a' w:={ cs:=[(22,eh),(27,B1),(28,B3),(26,ej 2 29),(33,cG 190)] }
theorem UM (O:Lw w):FO w 34 198 CH:=by
 refine a6 O.ok O.hn _ ⟨"_law_setting",aa 48,["hand"]⟩ (by rw[O.hd];rfl) (CI w) { cs:=⟨⟨1,by decide,ei O⟩,⟨7,by decide,Su O⟩,⟨5,by decide,Sy O⟩,⟨6,by decide,BX O⟩,⟨197,by decide,(uV O 190).a⟩,trivial⟩ } UK UL λds M Q hh=>?_;obtain⟨h,c,cs,kn,rfl,⟨⟨n0,r0,t0,H⟩,b1,b2⟩,q⟩:=hh;refine⟨rfl,.inr ⟨_,_,H.1,rfl,hlen,?_⟩⟩;rw[YG];have H1:Hn (PL.up M h (.ai (a8 c n0 r0 t0 (some 0)))) h c cs (some 0):=⟨⟨_,_,_,H.put⟩,b1,b2⟩;have u1:Up h M (PL.up M h (.ai (a8 c n0 r0 t0 (some 0)))):=Up.rfl.put;generalize PL.up M h (.ai (a8 c n0 r0 t0 (some 0)))=X at H1 u1;refine⟨h,c,cs,_,_,rfl,H1,by decide,by decide,λkp sc X1 v1 H2 n1 Z8 kl=>?_⟩;have nk:kp≠h:=nh H1 n1;have k0:M kp=none:=kI u1 n1 (H1.up (M':=M));refine⟨h,c,cs,_,kp,sc,rfl,H2,nk,Z8,kl,λpQ X2 v2 H3 D2 cW=>?_⟩;have u3:Up h M X2:=λa o n e=>v2 a o n (aJ e k0) ((u1.trans v1) a o n e);refine⟨h,c,cs,_,_,rfl,H3,by decide,by decide,λsp st X3 v3 H4 n3 Z9 pP=>?_⟩;have ns:sp≠h:=nh H3 n3;have I3:Ix X3 h c cs kp sp pQ st:=⟨⟨_,H4⟩,⟨v3 _ _ nk D2.m,D2.nd,D2.ok⟩,Z9,nk,ns,by lia⟩;have u4:=u3.trans v3;refine⟨h,c,cs,_,rfl,H4,λk X4 v4 H5 o4 z4 Y0=>?_⟩;have I4:=I3.mv v4 ⟨_,H5⟩;have u5:=u4.trans v4;have key:∀(Y:Mp) (κ:Kd),Up h M Y->Ix Y h c cs kp sp pQ st->kd κ<=8->kz κ<=30->B.w (CI w).wd nm.aL CG (bS Q) [some (.ref h),some (.ref kp),some (.ref sp),some (kD κ)] Y:=by
  intro Y κ uY IY dκ zκ;obtain⟨uK,HY⟩:=id IY.H;refine⟨h,c,cs,_,_,rfl,HY,by decide,by decide,λx X5 x0 x1 v5 H6=>?_⟩;have I5:=IY.mv v5 ⟨_,H6⟩;obtain⟨d,rfl⟩:∃d:Nat,x=d:=⟨x.toNat,by lia⟩;refine⟨h,c,cs,kp,sp,pQ,st,d,κ,rfl,I5,by lia,by lia,by lia,by lia,by lia,λqq X6 v6 H7 YI XX=>⟨l4,λl hl=>⟨_,aG,?_⟩⟩⟩;exact q l kp sp κ pQ st qq _ ((uY.trans (v5.trans v6)).new hl) ah ((I5.mv v6 H7).new hl) YI (by lia) dκ zκ cW
 refine λe he=>.inl ⟨_,_,by rw[ao (aJ I4.S.m he)];exact I4.S.m,ah,.inl ⟨rfl,?_⟩⟩;have I6:=I4.new (o:=.ai []) he;have u6:=u5.new (o:=.ai []) he;generalize PL.up X4 e (.ai [])=Y at I6 u6;have plain:=key Y k u6 I6 (by lia) (by lia);refine a9 (λc1=>?_) λc1=>aO plain;have n0:st≠[]:=by rintro rfl;cases c1
 have n1:0<st.length:=List.length_pos_iff.mpr n0;obtain⟨WZ,H6⟩:=id I6.H;refine⟨h,c,cs,_,_,rfl,H6,by decide,by decide,λx X5 x0 x1 v5 H7=>aC rfl (a9 (λ_=>?_) λ_=>key X5 k (u6.trans v5) (I6.mv v5 ⟨_,H7⟩) (by lia) (by lia))⟩;have I7:=I6.mv v5 ⟨_,H7⟩;refine j' I7.S.m (by lia) λl ys hl hy hlen _ _=>?_;have I8:=I7.new (o:=.lst (ys.map D.str)) hl;have u8:=(u6.trans v5).new (o:=.lst (ys.map D.str)) hl;have nl:=nh H7 hl;have ml:(PL.up X5 l (.lst (ys.map D.str))) l=some (.lst (ys.map D.str)):=ah;generalize PL.up X5 l (.lst (ys.map D.str))=Z at I8 u8 ml;obtain⟨W0,H8⟩:=id I8.H;refine .inr ⟨_,I8.S.m,h,c,cs,_,_,rfl,H8,by rw[fM];lia,abv (by rw[fM];lia:_<=(20:Int)) (by decide),λy X9 y0 y1 v9 aaa=>?_⟩;rw[fM]at y1;obtain⟨f,hf,ha⟩:=ji (f:=D.str) (xs:=ys) y0 (by rw[aaN,hlen];exact y1);obtain⟨κ,h1,r,h2,h3⟩:=jh (hy f hf);have I9:=I8.mv v9 ⟨_,aaa⟩;have oκ:jg κ:=by rw[<- h3];exact I9.S.ok r h2
 have z1:=oκ.z;have z2:=oκ.d;refine .inl ⟨_,_,_,.inl (v9 _ _ nl ml),rfl,ha,.inr ⟨_,_,_,I9.S.m,rfl,dP h1,l2,?_⟩⟩;have:=key X9 (.aB κ) (u8.trans v9) I9 (by rw[kd];lia) (by rw[kz];lia);rw[show kD (.aB κ)=.tup [.str "bag",kD κ] by rw[kD]]at this;exact this
variable {w:Wo}
def gA:Nat->D->Prop
 | 0,_=>False
 |n+1,d=>(∃s,d=.str s)\/∃ds,d=.tup ds/\ds.length<=100/\∀x∈ds,gA n x
theorem gA.mono:∀{n m:Nat}{d:D},gA n d->n<=m->gA m d
 |n+1,m+1,d,h,hm=>by
  rcases h with h |⟨ds,h1,h2,h3⟩
  ·exact .inl h
  ·exact .inr ⟨ds,h1,h2,λx hx=>(h3 x hx).mono (by lia)⟩
mutual
theorem uW:∀(k:Kd),kz k<=80->gA (kd k+1) (kD k)
 |.num,_=>by rw[kD,kd];exact .inr ⟨_,rfl,by decide,λx hx=>by rw[List.mem_singleton.mp hx];exact .inl ⟨_,rfl⟩⟩
 |.word,_=>by rw[kD,kd];exact .inr ⟨_,rfl,by decide,λx hx=>by rw[List.mem_singleton.mp hx];exact .inl ⟨_,rfl⟩⟩
 |.aB k,h=>by
  rw[kz]at h;rw[kD,kd];refine .inr ⟨_,rfl,by show 2<=100;decide,λx hx=>?_⟩;rcases List.mem_cons.mp hx with e |e
  ·rw[e];exact .inl ⟨_,rfl⟩
  ·rw[List.mem_singleton.mp e];exact uW k (by lia)
 |.row fs,h=>by
  rw[kz]at h;have lf:=jf fs;rw[kD,kd];refine .inr ⟨_,rfl,by show 2<=100;decide,λx hx=>?_⟩;rcases List.mem_cons.mp hx with e |e
  ·rw[e];exact .inl ⟨_,rfl⟩
  ·rw[List.mem_singleton.mp e];exact .inr ⟨_,rfl,by rw[fK];lia,CJ fs (by lia)⟩
theorem CJ:∀(fs:List (Str×Kd)),c9 fs<=80->∀x∈aM fs,gA (QG.cV fs+2) x
 |[],_,x,hx=>by rw[aM]at hx;cases hx
 |(f,k)::r,h,x,hx=>by
  rw[c9]at h;rw[aM]at hx;rw[QG.cV];rcases List.mem_cons.mp hx with e |e
  ·rw[e];refine .inr ⟨_,rfl,by show 2<=100;decide,λy hy=>?_⟩;rcases List.mem_cons.mp hy with e2 |e2
   ·rw[e2];exact .inl ⟨_,rfl⟩
   ·rw[List.mem_singleton.mp e2];exact (uW k (by lia)).mono (by lia)
  ·exact (CJ r (by lia) x e).mono (by lia)
end
noncomputable def UN:B:=.cons (.ret (.and (.gm .si (.v 0)) (.cmp .Eq (.v 0) (.v 1)))) .nil
noncomputable def UO:B:=.cons (.cond (.or (.gm .bool (.v 0)) (.cmp .NotEq (.gm .str (.v 0)) (.gm .str (.v 1)))) (.cons (.ret (.c (.bl false))) .nil) .nil) UN
noncomputable def UP:B:=.cons (.ret (.bi .all (.cons (.lc 2 [] (.many [0,1]) (.zip (.v 0) (.v 1)) .cf (.call 35 (.cons (.v 0) (.cons (.v 1) .nil)))) .nil))) .nil
noncomputable def UQ:B:=.cons (.cond (.or (.not (.gm .tuple (.v 0))) (.cmp .NotEq (.bi .len (.cons (.v 0) .nil)) (.bi .len (.cons (.v 1) .nil)))) (.cons (.ret (.c (.bl false))) .nil) .nil) UP
noncomputable def UR:B:=.cons (.cond (.gm .tuple (.v 1)) UQ .nil) UO
noncomputable def US:B:=UR
theorem UT:aK ["found","due"] ["found","due"] (aj (aa 49)):=⟨rfl,rfl,rfl,by decide +kernel,rfl,by decide +kernel,by decide +kernel⟩
theorem UU:US.ck nm ["found","due"] (aj (aa 49)) (aH (aa 49))=true:=by decide +kernel
def uX (n:Nat):QN:=λds M Q=>∃d,ds=[d,d]/\gA n d/\Q (.bl true) M
theorem CK (O:Lw w):∀n,FO w 35 n (uX n)
 | 0=>FO.imp (me O.ok (i:=35) (d:=⟨"_law_same",aa 49,["found","due"]⟩) (by rw[O.hd];rfl) (cs:=[]) trivial) λds M Q ⟨d,_,h,_⟩=>h.elim
 |n+1=>by
  refine a6 O.ok O.hn _ ⟨"_law_same",aa 49,["found","due"]⟩ (by rw[O.hd];rfl) { cs:=[(35,uX n)] } { cs:=⟨⟨n,aaH _,CK O n⟩,trivial⟩ } UT UU λds M Q hh=>?_;obtain⟨d,rfl,hd,q⟩:=hh;rcases hd with ⟨s,rfl⟩ |⟨xs,rfl,ln,hx⟩
  ·refine⟨rfl,false,rfl,false,rfl,true,rfl,true,rfl,aC rfl (aO ⟨true,rfl,aC rfl ?_⟩)⟩;refine⟨_,aG,?_⟩;have e:decide (V.str s=V.str s)=true:=(by simp);rw[e];exact q
  ·refine⟨rfl,true,rfl,true,rfl,aC rfl ?_⟩;have e:decide (V.int (xs.length:Nat)=V.int (xs.length:Nat))=true:=(by simp);refine (show if (!decide (V.int (xs.length:Nat)=V.int (xs.length:Nat)))=true then _ else _ from ?_)
   rw[e];refine aO ?_;refine dj (λzs ys M'=>M'=M/\∃rest m,zs=acf (λx y=>D.tup [x,y]) rest rest/\(∀x∈rest,gA n x)/\ys=(aa5 m true).map D.bl/\m+rest.length<=100) ?_ ?_ _ _ _ ⟨rfl,xs,0,rfl,hx,rfl,by lia⟩
   ·rintro ys M' ⟨rfl,rest,m,_,_,rfl,Zg⟩;refine⟨aaV,aaP (by rw[aaN,ab1];lia:_<=100) (by decide),λl hl=>⟨_,.inl ah,_,cM hl,?_⟩⟩;have:(aa5 m true).all id=true:=(by simp);rw[this];exact q
   ·rintro z zs ys M' ⟨rfl,rest,m,e1,hr,rfl,Zg⟩;cases rest with
    |nil=>cases e1
    |cons x rest=>
     cases e1;rw[aaS]at Zg;refine⟨aaV,aaP (by rw[aaN,ab1];lia:_<=100) (by decide),rfl,λN hN=>⟨x,rfl,hr x aaO,hN _ _ ⟨rfl,rest,m+1,rfl,λy hy=>hr y (aaK _ hy),?_,by lia⟩⟩⟩;rw[List.replicate_succ',abo];rfl
theorem CL {sc:Sc} (nd:(sc.map (·.1)).Nodup) (ok:∀q∈sc,jg q.2):oE (aE sc) (aE sc):=by
 refine⟨rfl,λp hp=>?_⟩;obtain⟨r,hr,rfl⟩:=List.mem_map.mp hp;have h1:=pd r.2;have h2:=(ok r hr).d;exact⟨kT r.2,dP (pL nd hr),jc r.2,by lia⟩
noncomputable def UW:B:=.cons (.cond (.or (.not (.call 35 (.cons (.call 5 (.cons (.v 0) (.cons (.ix (.v 4) (.c (.int 0))) (.cons (.ix (.v 4) (.c (.int 1))) .nil)))) (.cons (.v 1) .nil)))) (.iV .NotEq (.v 4) (.lst (.cons (.v 2) (.cons (.v 3) .nil))))) (.cons (.ret (.c (.bl false))) .nil) .nil) .nil
noncomputable def UX:B:=.cons (.loop (.one 5) (.dR (.c (.int 2))) UW) (.cons (.ret (.c (.bl true))) .nil)
noncomputable def UY:B:=.cons (.set 4 (.lst (.cons (.bi .dict (.cons (.v 2) .nil)) (.cons (.bi .dict (.cons (.v 3) .nil)) .nil)))) UX
noncomputable def UZ:B:=UY
theorem U0:aK ["question","kind","kinds","stock","handed","turn"] ["question","kind","kinds","stock"] (aj (aa 50)):=⟨rfl,rfl,rfl,by decide +kernel,rfl,by decide +kernel,by decide +kernel⟩
theorem U1:UZ.ck nm ["question","kind","kinds","stock","handed","turn"] (aj (aa 50)) (aH (aa 50))=true:=by decide +kernel
def CM:QN:=λds M Q=>∃q d kp sp sc st,ds=[qD q,d,.ref kp,.ref sp]/\Dc M kp sc/\Dc M sp st/\Tk (λy=>lk y st) sc q d/\dq q<=100/\sc.length<=40/\st.length<=20/\gA 60 d/\Q (.bl true) M
noncomputable abbrev U2 (w:Wo):a' w:={ cs:=[(5,uE),(35,uX 60)] }
theorem U3 (O:Lw w) {L:bN} (hL:Lm w L):FO w 36 61 CM:=by
 refine a6 O.ok O.hn _ ⟨"_law_right",aa 50,["question","kind","kinds","stock"]⟩ (by rw[O.hd];rfl) (U2 w) { cs:=⟨⟨8,by decide,Rz O hL⟩,⟨60,by decide,CK O 60⟩,trivial⟩ } U0 U1 λds M Q hh=>?_;obtain⟨qq,d,kp,sp,sc,st,rfl,K,S,t,dd,kl,cW,aab,q⟩:=hh;refine⟨rfl,.inl ⟨_,K.m,λp hp=>.inl ⟨_,by rw[ao (aJ S.m hp)];exact S.m,λp2 bU=>⟨l2,λl hl=>?_⟩⟩⟩⟩;have s1:=cM (o:=.ai (aE sc)) hp;have s2:=cM (o:=.ai (aE st)) bU;have s3:=cM (o:=.lst [.ref p,.ref p2]) hl;have m1:=s3 _ _ (s2 _ _ (ah (M:=M) (a:=p) (o:=.ai (aE sc))));have m2:=s3 _ _ (ah (M:=PL.up M p (.ai (aE sc))) (a:=p2) (o:=.ai (aE st)));have m3:PL.up (PL.up (PL.up M p (.ai (aE sc))) p2 (.ai (aE st))) l (.lst [.ref p,.ref p2]) l=some (.lst [.ref p,.ref p2]):=ah;have ss:PL.Sub M (PL.up (PL.up (PL.up M p (.ai (aE sc))) p2 (.ai (aE st))) l (.lst [.ref p,.ref p2])):=λc o e=>s3 _ _ (s2 _ _ (s1 _ _ e));generalize PL.up (PL.up (PL.up M p (.ai (aE sc))) p2 (.ai (aE st))) l (.lst [.ref p,.ref p2])=X at m1 m2 m3 ss;refine⟨by decide,by decide,?_⟩;refine hO (λxs τ M'=>∃v,τ=[some (qD qq),some d,some (.ref kp),some (.ref sp),some (.ref l),v]/\PL.Sub X M') ?_ ?_ _ _ _ ⟨none,rfl,aG⟩
 ·rintro τ M' ⟨v,rfl,u⟩;exact⟨aaV,M,λc o e=>u _ _ (ss _ _ e),q⟩
 ·rintro x xs τ M' ⟨v,rfl,u⟩;refine⟨aaV,λN hN=>.inl ⟨_,_,_,.inl (u _ _ m3),rfl,rfl,.inl ⟨_,_,_,.inl (u _ _ m3),rfl,rfl,?_⟩⟩⟩;refine⟨p,p2,aE sc,aE st,λy=>lk y st,sc,qq,d,rfl,u _ _ m1,u _ _ m2,λy k e=>dP e,λy k e=>dP e,t,by lia,by rw[fM];lia,d,rfl,aab,l2,λe he=>?_⟩;have s5:=cM (o:=.lst [.ref kp,.ref sp]) he;refine .inr ⟨_,_,s5 _ _ (u _ _ m3),ah,rfl,λi hi=>?_,aO (hN _ _ ⟨_,rfl,λc o z=>s5 _ _ (u _ _ z)⟩)⟩;rcases (by have:i<2:=hi;lia:i=0\/i=1) with rfl |rfl
  ·exact⟨p,kp,aE sc,aE sc,rfl,rfl,s5 _ _ (u _ _ m1),s5 _ _ (u _ _ (ss _ _ K.m)),CL K.nd K.ok⟩
  ·exact⟨p2,sp,aE st,aE st,rfl,rfl,s5 _ _ (u _ _ m2),s5 _ _ (u _ _ (ss _ _ S.m)),CL S.nd S.ok⟩
noncomputable def U4:B:=.cons (.cond (.and (.cmp .GtE (.ix (.v 1) (.c (.str "next"))) (.bi .len (.cons (.ix (.v 1) (.c (.str "cells"))) .nil))) (.cmp .Gt (.v 2) (.c (.int 0)))) (.cons (.ret (.c (.bl true))) .nil) .nil) .nil
noncomputable def U5:B:=.cons (.cond (.not (.call 36 (.cons (.v 7) (.cons (.tup (.cons (.c (.str "truth")) .nil)) (.cons (.v 4) (.cons (.v 5) .nil)))))) (.cons (.ret (.c (.bl false))) .nil) .nil) U4
noncomputable def U6:B:=.cons (.set 7 (.call 29 (.cons (.v 1) (.cons (.v 4) (.cons (.v 5) (.cons (.call 22 (.cons (.v 1) (.cons (.c (.int 4)) .nil))) .nil)))))) U5
noncomputable def U7:B:=.cons (.put (.v 1) (.c (.str "knots")) (.c (.int 0))) U6
noncomputable def U8:B:=.cons (.cond (.not (.call 36 (.cons (.v 6) (.cons (.v 3) (.cons (.v 4) (.cons (.v 5) .nil)))))) (.cons (.ret (.c (.bl false))) .nil) .nil) U7
noncomputable def U9:B:=.cons (.oz [3,4,5,6] (.call 34 (.cons (.v 1) .nil))) U8
noncomputable def U':B:=.cons (.loop (.one 2) (.dR (.c (.int 8))) U9) (.cons (.ret (.c (.bl true))) .nil)
noncomputable def Va:B:=(.cons (.set 1 (.call 21 (.cons (.v 0) .nil))) U')
theorem Vb:aK ["script","hand","turn","kind","kinds","stock","question","claim"] ["script"] (aj (aa 51)):=⟨rfl,rfl,rfl,by decide +kernel,rfl,by decide +kernel,by decide +kernel⟩
theorem Vc:Va.ck nm ["script","hand","turn","kind","kinds","stock","question","claim"] (aj (aa 51)) (aH (aa 51))=true:=by decide +kernel
def mD:QN:=λds M Q=>∃(a:Addr) (ns:List Int),ds=[.ref a]/\Ls M a (ns.map D.int)/\ns.length<=63/\∀M',Q (.bl true) M'
noncomputable abbrev Vd (w:Wo):a' w:={ cs:=[(21,CC),(34,CH),(36,CM),(22,eh),(29,hV 190)] }
theorem Ve (O:Lw w) {L:bN} (hL:Lm w L):FO w 37 200 mD:=by
 refine a6 O.ok O.hn _ ⟨"law",aa 51,["script"]⟩ (by rw[O.hd];rfl) (Vd w) { cs:=⟨⟨1,by decide,UA O⟩,⟨198,by decide,UM O⟩,⟨61,by decide,U3 O hL⟩,⟨1,by decide,ei O⟩,⟨197,by decide,(uV O 190).c⟩,trivial⟩ } Vb Vc λds M Q hh=>?_;obtain⟨a,ns,rfl,ha,ln,q⟩:=hh;refine⟨rfl,a,ns,rfl,ha,ln,λh c cs M1 u1 n1 H1=>⟨by decide,by decide,?_⟩⟩;refine hO (λxs τ M'=>∃v2 v3 v4 v5 v6 v7 kn,τ=[some (.ref a),some (.ref h),v2,v3,v4,v5,v6,v7]/\(∀x∈xs,∃i:Int,x=.int i)/\Hn M' h c cs kn) ?_ ?_ _ _ _ ⟨none,none,none,none,none,none,none,rfl,λx hx=>?_,H1⟩
 ·rintro τ M' ⟨v2,v3,v4,v5,v6,v7,kn,rfl,_,H⟩;exact⟨aaV,_,aG,q _⟩
 ·rintro x xs τ M' ⟨v2,v3,v4,v5,v6,v7,kn,rfl,hx,H⟩;obtain⟨ti,rfl⟩:=hx x aaO;refine⟨aaV,λN hN=>⟨h,c,cs,kn,rfl,H,λl kp sp k sc st qq M2 u2 m2 I2 t2 d2 W6 W7 cW=>⟨_,.inl m2,rfl,?_⟩⟩⟩;have ls:=I2.ls;refine⟨qq,kD k,kp,sp,sc,st,rfl,I2.K,I2.S,t2,d2,by lia,ls,(uW k (by lia)).mono (by lia),?_⟩;obtain⟨Cc,⟨n0,r0,t0,CN⟩,b1,b2⟩:=id I2.H;refine .inr ⟨_,_,CN.1,rfl,hlen,?_⟩;rw[YG];have H3:Hn (PL.up M2 h (.ai (a8 c n0 r0 t0 (some 0)))) h c cs (some 0):=⟨⟨_,_,_,CN.put⟩,b1,b2⟩;have u3:Up h M2 (PL.up M2 h (.ai (a8 c n0 r0 t0 (some 0)))):=Up.rfl.put;generalize PL.up M2 h (.ai (a8 c n0 r0 t0 (some 0)))=X at H3 u3;refine⟨h,c,cs,_,_,rfl,H3,by decide,by decide,λy M4 y0 y1 u4 H4=>?_⟩;obtain⟨d,rfl⟩:∃d:Nat,y=d:=⟨y.toNat,by lia⟩;have I4:=(I2.mv u3 ⟨_,H3⟩).mv u4 ⟨_,H4⟩;refine⟨h,c,cs,kp,sp,sc,st,d,rfl,I4,by lia,by lia,by lia,λaac M5 u5 H5 aad Xv=>⟨l1,?_⟩⟩;have I5:=I4.mv u5 H5;refine⟨aac,tD,kp,sp,sc,st,rfl,I5.K,I5.S,aad,by lia,by lia,ls,.inr ⟨_,rfl,by decide,λx hx=>by rw[List.mem_singleton.mp hx];exact .inl ⟨_,rfl⟩⟩,?_⟩;obtain⟨W8,⟨n5,r5,W9,pR⟩,c1,c2⟩:=id H5;have go:∀v,N [some (.ref a),some (.ref h),some (.int ti),some (kD k),some (.ref kp),some (.ref sp),some (qD qq),v] M5:=λv=>hN _ _ ⟨_,_,_,_,_,_,_,rfl,λz hz=>hx z (aaK _ hz),⟨⟨_,_,_,pR⟩,c1,c2⟩⟩;refine .inr ⟨_,_,_,pR.1,rfl,Q16.hN,.inr ⟨_,_,_,pR.1,rfl,hC,.inl ⟨_,.inl pR.2,a9 (λ_=>a9 (λ_=>⟨_,aG,q _⟩) λ_=>go _) λ_=>aO (go _)⟩⟩⟩
 ·unfold dB at hx;obtain⟨i,_,rfl⟩:=List.mem_map.mp hx;exact⟨_,rfl⟩
end Q16
end
section
namespace L2
open PySem PySem.Spec PyProof.Rows
def mE (h:Heap) (p:Addr×List V):Prop:=∃its:List Value,h.get? p.1=some { cls:=.type "tuple",data:=.seq its.toArray }/\aq p.2 its/\p.2.length<=sizeLine
structure uZ (ts:List Addr) (tps:List (Addr×List V)) (a:Addr) (ns:List Int) (H:Hp):Prop where
 t:∀P∈ts,H P=some (.bj #[])
 p:∀p∈tps,H p.1=some (.tup p.2)
 s:∃o,H a=some (.cX o (.lst (ns.map V.int)))
theorem CO:∀{tps:List (Addr×List V)}{p:Addr×List V},(tps.map (·.1)).Nodup->p∈tps->tps.lookup p.1=some p.2
 |[],_,_,h=>by cases h
 |q::r,p,nd,h=>by
  rw[aaR,List.nodup_cons]at nd;rw[abb];rcases List.mem_cons.mp h with e |e
  ·rw[e];simp
  ·have ne:(p.1 == q.1)=false:=by
    simp only[beq_eq_false_iff_ne];exact λz=>nd.1 (z ▸ List.mem_map.mpr ⟨p,e,rfl⟩)
   rw[ne];exact CO nd.2 e
theorem km:∀{tps:List (Addr×List V)}{b:Addr}{xs:List V},tps.lookup b=some xs->(b,xs)∈tps
 |[],_,_,h=>by cases h
 |q::r,b,xs,h=>by
  rw[abb]at h;by_cases e:b=q.1
  ·subst e;simp at h;subst h;exact aaO
  ·have:(b == q.1)=false:=(by simpa using e);rw[this]at h;exact aaK _ (km h)
theorem Vf {P:Program}{w:World}{K:PySem.W.Frag}{mg mb:Str->Option Value}{CX:cJ}{k:Nat}{fa a:Addr}{fd:FuncData}{x:Str}{sp:Sp}{s₁:Shared}{vs:List Value}{ns:List Int}{ts:List Addr}{tps:List (Addr×List V)}
  (KX:K.In s₁.heap) (hT:∀P∈ts,s₁.heap.get? P=some (PySem.W.tabObj #[])) (jj:∀P∈ts,K.lookup P=none/\∃c,PySem.W.CodeHd s₁.heap c P) (hP:∀p∈tps,mE s₁.heap p) (mF:∀p∈tps,K.lookup p.1=none) (nd:(tps.map (·.1)).Nodup)
  (mG:∀b o,K.lookup b=some o->o.cls≠.type "list")
  (ju:s₁.heap.Ns mainGlobals mg) (hb:s₁.heap.Ns builtinsNs mb) (TD:∀x:Str,x≠"__name__"->mb x=bootBuiltins x) (TW:s₁.heap.NoLimit) (hg:s₁.gens=#[])
  (ha:s₁.heap.get? a=some { cls:=.type "list",data:=.seq vs.toArray }) (hi:IntsAre vs ns) (hl:ns.length<=sizeLine) (hr:bf k callerA)
  (F:∀base:Heap,K.In base->base.Ns mainGlobals mg->a5 P w K mg base CX k fa fd [x] sp) (Uf:∀(s:Shared) (u:Value),BindsTo s fd ⟨[u],[]⟩ [(x,u)])
  (gE:∀H:Hp,uZ ts tps a ns H->sp [.ref a] H (λv _=>v=.bl true) λ_ _ _=>False)
  (u7:∀H e s',CX [] H s₁ (λ_ _ _=>False) e s'->False) :
  codeAny (model P w) callerA (.call (.ref fa) ⟨[.ref a],[]⟩) (λr s'=>r=.ok (.ret (.bool true))/\OldK s₁.heap s'.heap/\s'.os=s₁.os/\AllBare s'.gens) s₁:=by
 have rv:=w8 hi;have lenV:=hi.length;have UF:a ∉ ts:=λz=>by have:=hT a z;rw[ha]at this;cases this
 have UV:tps.lookup a=none:=by
  cases e:tps.lookup a with
  |none=>rfl
  |some xs=>
   obtain⟨its,h1,_⟩:=hP _ (km e);rw[ha]at h1;injection h1 with h1;injection h1 with h2;injection h2 with h3;exact absurd h3 (by decide)
 have Vg:∀b,b∈ts->tps.lookup b=none:=λb hb=>by
  cases e:tps.lookup b with
  |none=>rfl
  |some xs=>
   obtain⟨its,h1,_⟩:=hP _ (km e);rw[hT b hb]at h1;injection h1 with h1;injection h1 with h2;cases h2
 obtain⟨H,hH⟩:∃H:Hp,H=λb=>if b=a then some (.cX { cls:=.type "list",data:=.seq vs.toArray } (.lst (ns.map V.int))) else if b∈ts then some (.bj #[]) else (tps.lookup b).map HO.tup:=⟨_,rfl⟩
 have h1:H a=some (.cX { cls:=.type "list",data:=.seq vs.toArray } (.lst (ns.map V.int))):=by rw[hH];exact if_pos rfl
 have h2:∀b,b∈ts->H b=some (.bj #[]):=λb hb=>by
  have n:b≠a:=λz=>UF (z ▸ hb);rw[hH];show (if b=a then _ else _)=_;rw[if_neg n,if_pos hb]
 have h3:∀b xs,tps.lookup b=some xs->H b=some (.tup xs):=λb xs e=>by
  have n:b≠a:=λz=>by rw[z,UV]at e;cases e
  have m:b ∉ ts:=λz=>by rw[Vg b z]at e;cases e
  rw[hH];show (if b=a then _ else _)=_;rw[if_neg n,if_neg m,e];rfl
 have h4:∀b,b≠a->b ∉ ts->tps.lookup b=none->H b=none:=λb n m e=>by
  rw[hH];show (if b=a then _ else _)=_;rw[if_neg n,if_neg m,e];rfl
 have cs:∀b,H b=none\/b=a\/b∈ts\/∃xs,tps.lookup b=some xs:=λb=>by
  by_cases n:b=a
  ·exact .inr (.inl n)
  by_cases m:b∈ts
  ·exact .inr (.inr (.inl m))
  cases e:tps.lookup b with
  |none=>exact .inl (h4 b n m e)
  |some xs=>exact .inr (.inr (.inr ⟨xs,rfl⟩))
 have ae:aQ P w H s₁.heap:=λb u e=>by
  rcases cs b with z |z |z |⟨xs,z⟩
  ·rw[z]at e;cases e
  ·subst z;rw[h1]at e;cases e;exact⟨ha,by rw[aaN];exact hl,vs,_,rv,ha⟩
  ·rw[h2 b z]at e;cases e;exact hT b z
  ·rw[h3 b xs z]at e;cases e;obtain⟨its,g1,g2,g3⟩:=hP _ (km z);exact⟨mL g3 g1 rfl,its,g2,⟨_,g1,rfl,0,rfl⟩⟩
 have Vh:∀b o,K.lookup b=some o->H b=none:=λb o e=>by
  rcases cs b with z |z |z |⟨xs,z⟩
  ·exact z
  ·subst z;have:=KX b o e;rw[ha]at this;cases this;exact absurd rfl (mG b _ e)
  ·rw[(jj b z).1]at e;cases e
  ·rw[mF _ (km z)]at e;cases e
 have gr:∀{b:Addr}{o:Obj},s₁.heap.get? b=some o->H b=none->(fR s₁.heap H).get? b=some o:=λe n=>C8 e n;have kN:∀{b:Addr}{o:Obj}{es:Array DictEntry}{ep:Nat},s₁.heap.get? b=some o->o.data=.dict es ep->H b=none:=λ{b o es ep} e d=>by
  rcases cs b with z |z |z |⟨xs,z⟩
  ·exact z
  ·subst z;rw[ha]at e;cases e;have d':Data.seq vs.toArray _=Data.dict es ep:=d;cases d'
  ·rw[hT b z]at e;cases e;have d':Data.fields #[]=Data.dict es ep:=d;cases d'
  ·obtain⟨its,g1,_⟩:=hP _ (km z);rw[g1]at e;cases e;have d':Data.seq its.toArray _=Data.dict es ep:=d;cases d'
 have pS:∀{b:Addr}{m:Str->Option Value},s₁.heap.Ns b m->(fR s₁.heap H).Ns b m:=λ{b m} ⟨o,es,ep,e,d,r⟩=>⟨o,es,ep,gr e (kN e d),d,r⟩;have CP:K.In (fR s₁.heap H):=λb o e=>gr (KX b o e) (Vh b o e);have aae:Mod K mg (fR s₁.heap H):=⟨CP,pS ju,⟨mb,pS hb,TD⟩,let ⟨mc,h1,h2⟩:=TW;⟨mc,pS h1,h2⟩⟩
 have e0:ir P w K mg (fR s₁.heap H) callerA [] s₁ H:=⟨rfl,aae,λb o e=>C9 e,Nat.le_of_eq (C7 _ _),trivial,λb hb=>absurd (show b∈([]:List Addr) from hb) (by simp),ae,.of_eq hg⟩;refine codeAny_mono ((F _ CP (pS ju)).kK callerA [] s₁ H ⟨[.ref a],[]⟩ [.ref a] [.ref a] _ _ hr e0 (Uf s₁ (.ref a)) (.cons rfl .nil) (gE H ⟨h2,λp hp=>h3 _ _ (CO nd hp),_,h1⟩)) λr s' h=>?_;cases r with
 |error e=>exact (u7 H e s' h).elim
 |ok fl=>
  cases fl with
  |next=>exact abY h
  |brk=>exact abY h
  |cont=>exact abY h
  |ret u=>
   obtain⟨v,H',os,bT,un,CQ,r',q⟩:=h;have q':v=.bl true:=q;subst q';obtain rfl:u=Value.bool true:=r';refine⟨rfl,⟨λb o e=>?_,λb o e=>un.there b o e (by simp)⟩,os,bT⟩;rcases cs b with z |z |z |⟨xs,z⟩
   ·exact .inl (un.keep b o e z (by intro z;exact absurd (show b∈([]:List Addr) from z) (by simp)) (by simp))
   ·subst z;have z2:=un.eo b _ _ h1;obtain⟨e2,_⟩:=CQ b _ z2;rw[ha]at e;cases e;exact .inl e2
   ·obtain⟨more,z2⟩:=un.er b _ (h2 b z);have e2:=CQ b _ z2;obtain⟨c,C⟩:=(jj b z).2;have e0:s₁.heap.get? b=some (PySem.W.tabObj #[]):=hT b z;rw[e]at e0;cases e0;exact .inr (.inl ⟨(C.tab e).isCodeTable,rfl,#[],more,rfl,e2⟩)
   ·exact .inl (un.et b xs o (h3 b xs z) e)
theorem Vi {l:PySem.W.OpenLaw}{n k:Nat}{q:Program}{loose:List Str}{XP:(Str->Option Value)->Heap->Prop}{YP:World->Heap->Prop}{d:DefRec}{K:Params->PySem.W.Frag}{CX:World->cJ}{sp:World->Sp}{x:Str}{ts:List Addr}{tps:List (Addr×List V)}
  (hn:l.most=some n) (ni:n<=sizeLine) (gL:d.params.defaults=[]) (hr:bf k callerA)
  (YL:∀(w:World) (h:Heap),YP w h->(K w.params).In h/\(∀P∈ts,h.get? P=some (PySem.W.tabObj #[]))/\∀p∈tps,mE h p)
  (jj:∀(w:World),∀P∈ts,(K w.params).lookup P=none/\∃c,PySem.W.codeHdIn (K w.params) c P=true)
  (mF:∀(w:World),∀p∈tps,(K w.params).lookup p.1=none) (nd:(tps.map (·.1)).Nodup) (mG:∀(w:World) b o,(K w.params).lookup b=some o->o.cls≠.type "list")
  (F:∀(w:World) (mg:Str->Option Value) (fa:Addr) (h:Heap),(K w.params).In h->h.Ns mainGlobals mg->mg d.name=some (.ref fa) ->
   ∃fd:FuncData,(∀(s:Shared) (u:Value),BindsTo s fd ⟨[u],[]⟩ [(x,u)]) /\
    ∀base:Heap,(K w.params).In base->base.Ns mainGlobals mg->a5 l.prog w (K w.params) mg base (CX w) k fa fd [x] (sp w))
  (gE:∀(w:World) (H:Hp) (a:Addr) (ns:List Int),ns.length<=n->uZ ts tps a ns H->sp w [.ref a] H (λv _=>v=.bl true) λ_ _ _=>False)
  (u7:∀(w:World) (H:Hp) (s:Shared) (e:Value) (s':Shared),CX w [] H s (λ_ _ _=>False) e s'->False) :
  PySem.W.WalkO q loose XP YP l.row.toRowW d [] (λf vs=>PySem.call f vs):=by
 refine Att.GQ hn gL λw s₀ s₁ mg mb fa o pm cd a3 a vs ns G Y ho hd cY hmg qM qN hlen hg=>?_;obtain⟨KX,hT,hP⟩:=YL w _ Y;obtain⟨fd,hb,YC⟩:=F w mg fa _ KX G.T.g hmg;exact Vf KX hT (λP hP=>⟨(jj w P hP).1,let ⟨c,e⟩:=(jj w P hP).2;⟨c,PySem.W.codeHd_of_K KX e⟩⟩) hP (mF w) nd (mG w) G.T.g G.T.b G.T.builtins G.T.nolimit hg qM qN (aaZ hlen ni) hr YC hb (λH YR=>gE w H a ns hlen YR) λH e s'=>u7 w H s₁ e s'
end L2
end
section
namespace Q16
open PySem PL QG
open L2
/-! ### dE Xa,out of dE Xb Go -/
def pT (K:PySem.W.Frag) (d:Ds):Prop:=∃(f:Addr) (fd:FuncData),PySem.W.nsIn K mainGlobals d.x=some (some (.ref f))/\dg K d.x d.x d.st f fd
theorem Vj {K:PySem.W.Frag}{d:Ds}{f:Addr}{oc:Value}{od an:Option Addr}{cZ:Array (Option Value)}{kV a3 pm aW ct:Value} (a:PySem.W.nsIn K mainGlobals d.x=some (some (.ref f)))
  (l:K.lookup f=some ⟨oc,od,.func (PySem.W.fnOf d.x d.x (gM d.st) (aH d.st) (aj d.st) .none kV a3 pm an aW ct),cZ⟩) (c:PySem.W.codeIn K aW d.x=true) (k:PySem.W.keepIn K (.ref f)=true):pT K d:=⟨f,_,a,qO l c k⟩
def u9 (d:Ds):Prop:=∀(kV a3 pm:Value) (an:Option Addr) (aW ct:Value) (us:List Value),us.length=d.ps.length->bindArgs (PySem.W.fnOf d.x d.x (gM d.st) (aH d.st) (aj d.st) .none kV a3 pm an aW ct) ⟨us,[]⟩=pure (d.ps.zip us)
theorem Vk {P:List Value->Prop} (h:P []):∀us,us.length=0->P us
 |[],_=>h
theorem fN {P:List Value->Prop} (h:∀a,P [a]):∀us,us.length=1->P us
 |a::us,e=>Vk (P:=λus=>P (a::us)) (h a) us (Nat.succ.inj e)
theorem cq {P:List Value->Prop} (h:∀a b,P [a,b]):∀us,us.length=2->P us
 |a::us,e=>fN (P:=λus=>P (a::us)) (h a) us (Nat.succ.inj e)
theorem hW {P:List Value->Prop} (h:∀a b c,P [a,b,c]):∀us,us.length=3->P us
 |a::us,e=>cq (P:=λus=>P (a::us)) (h a) us (Nat.succ.inj e)
theorem pU {P:List Value->Prop} (h:∀a b c d,P [a,b,c,d]):∀us,us.length=4->P us
 |a::us,e=>hW (P:=λus=>P (a::us)) (h a) us (Nat.succ.inj e)
theorem pV {P:List Value->Prop} (h:∀a b c d e,P [a,b,c,d,e]):∀us,us.length=5->P us
 |a::us,e=>pU (P:=λus=>P (a::us)) (h a) us (Nat.succ.inj e)
theorem Vl {P:List Value->Prop} (h:∀a b c d e f,P [a,b,c,d,e,f]):∀us,us.length=6->P us
 |a::us,e=>pV (P:=λus=>P (a::us)) (h a) us (Nat.succ.inj e)
def mH (K:PySem.W.Frag):List Ds->Prop
 |[]=>True
 |d::r=>(pT K d/\u9 d)/\mH K r
theorem mH.at {K:PySem.W.Frag}:∀{l:List Ds}{i:Nat}{d:Ds},mH K l->l[i]?=some d->pT K d/\u9 d
 |[],_,_,_,h=>by simp at h
 |e::r,0,d,a,h=>by simp at h;rw[<- h];exact a.1
 |e::r,i+1,d,a,h=>mH.at a.2 (by simpa using h)
def jk (K:PySem.W.Frag) (C:Addr) (d:Ds) (q:Str):Prop:=∃(f:Addr) (fd:FuncData),dg K d.x q d.st f fd/\ip K C d.x f/\b0 K fd d.ps []
theorem mI {K:PySem.W.Frag}{C:Addr}{d:Ds}{q:Str}{f:Addr}{oc:Value}{od an:Option Addr}{cZ:Array (Option Value)}{kV a3 pm aW ct:Value} (a:PySem.W.findIn K (.ref C) d.x=some (some (.ref f)))
  (l:K.lookup f=some ⟨oc,od,.func (PySem.W.fnOf d.x q (gM d.st) (aH d.st) (aj d.st) .none kV a3 pm an aW ct),cZ⟩) (c:PySem.W.codeIn K aW q=true) (k:PySem.W.keepIn K (.ref f)=true) (n:PySem.W.isFn K (.ref f)=true)
  (b:∀us:List Value,us.length=d.ps.length->bindArgs (PySem.W.fnOf d.x q (gM d.st) (aH d.st) (aj d.st) .none kV a3 pm an aW ct) ⟨us,[]⟩=pure (d.ps.zip us)):jk K C d q:=⟨f,_,qO l c k,⟨a,n,k⟩,.all b⟩
def fP (mg:Str->Option Value) (x:Str):Addr:=match mg x with
 |some (.ref f)=>f
 |_=>0
noncomputable def vc:List (Addr×D):=[(47,.tup (fI.map D.str)),(124,kD .num),(125,kD .word),(126,.tup [.str "truth"])]
def ek:List (Addr×List V):=[(47,fI.map V.str),(124,[.str "num"]),(125,[.str "word"]),(126,[.str "truth"])]
noncomputable def tP:Tp:=⟨vc,oN [dp 113 117 .none],Mr⟩
noncomputable def wO (P:Program) (w:World) (K:PySem.W.Frag) (mg:Str->Option Value) (base:Heap) (C:Addr):Wo where
 P:=P
 w:=w
 K:=K
 mg:=mg
 base:=base
 T:=tP
 ds:=eS
 gy:=nm.gy
 gv:=[.tup (fI.map D.str),kD .num,kD .word,.tup [.str "truth"]]++eS.map λd=>.ref (fP mg d.x)
 fl:=λc f=>c=C/\(f="waiting"\/f="found")
 cls:=nm.cls
 ca:=λ_=>C
 ms:=uv
 mc:=λ_=>C
 i6:=nm.i6
 sd:=λ_ z=>(ee.lookup z).map λx=>some (.ref (fP mg x))
def vd:Option (Option Value)->Option (Option Value)->Bool
 |some (some (.ref f)),some (some (.ref g))=>f == g
 |_,_=>false
theorem Vm {a b:Option (Option Value)} (h:vd a b=true):∃f,a=some (some (.ref f))/\b=some (some (.ref f)):=by
 unfold vd at h;split at h
 ·exact⟨_,rfl,by rw[eq_of_beq h]⟩
 ·cases h
theorem Vn {i:Nat}{x:Str} (h:nm.gy[i]?=some x):(i<4/\([("HAVE_MORE" : Str),"NUMBER","WORD","TRUTH"]:List Str)[i]?=some x)\/∃j d,i=4+j/\eS[j]?=some d/\d.x=x:=by
 have e:nm.gy=([("HAVE_MORE" : Str),"NUMBER","WORD","TRUTH"]:List Str)++eS.map (·.x):=rfl;rw[e]at h;by_cases hi:i<4
 ·rw[abt hi]at h;exact .inl ⟨hi,h⟩
 ·rw[abc (by show 4<=i;lia),aaU]at h;obtain⟨d,h1,h2⟩:=Option.map_eq_some_iff.mp h;exact .inr ⟨i-4,d,by lia,h1,h2⟩
theorem ve {K:PySem.W.Frag}{h:Heap}{mg:Str->Option Value}{d:Ds} (X:K.In h) (G:h.Ns mainGlobals mg) (a:pT K d) (b:u9 d):∃f fd,j5 K mg d.x d.st f fd d.ps:=by
 obtain⟨f,fd,e,F⟩:=a;exact⟨f,fd,⟨_,F⟩,F.iz b,PySem.W.mg_of X G e⟩
/-- vG dE heap Xc -/
structure mJ (K:PySem.W.Frag) (w:World) (C Xr:Addr):Prop where
 ds:mH K eS
 s0:PySem.W.nsIn K mainGlobals "HAVE_MORE"=some (some (.ref 47))
 s1:PySem.W.nsIn K mainGlobals "NUMBER"=some (some (.ref 124))
 s2:PySem.W.nsIn K mainGlobals "WORD"=some (some (.ref 125))
 s3:PySem.W.nsIn K mainGlobals "TRUTH"=some (some (.ref 126))
 bi:∀b:Bi,PySem.W.nsIn K mainGlobals b.nm=some none
 z1:PySem.W.nsIn K mainGlobals "range"=some none
 z2:PySem.W.nsIn K mainGlobals "zip"=some none
 z3:PySem.W.nsIn K mainGlobals "enumerate"=some none
 z4:PySem.W.nsIn K mainGlobals "reversed"=some none
 z5:PySem.W.nsIn K mainGlobals "isinstance"=some none
 z6:PySem.W.nsIn K mainGlobals "bool"=some none
 z7:PySem.W.nsIn K mainGlobals "str"=some none
 z8:PySem.W.nsIn K mainGlobals "set"=some none
 wa:PySem.W.nsIn K mainGlobals "Walk"=some (some (.ref C))
 wc:cI K C
 w1:dX K C "waiting"
 w2:dX K C "found"
 wm:PySem.W.makesIn K C=true
 wk:PySem.W.keepIn K (.ref C)=true
 m0:jk K C ⟨"__init__",(bC (aa 7) 0),["self"]⟩ "Walk.__init__"
 m1:jk K C ⟨"later",(bC (aa 7) 1),["self","step","question","around"]⟩ "Walk.later"
 m2:jk K C ⟨"tell",(bC (aa 7) 2),["self","result"]⟩ "Walk.tell"
 m3:jk K C ⟨"take",(bC (aa 7) 3),["self","many"]⟩ "Walk.take"
 m4:jk K C ⟨"run",(bC (aa 7) 4),["self"]⟩ "Walk.run"
 fi:PySem.W.nsIn K mainGlobals "FINISHED"=some (some (.ref Xr))
 ft:jD K w Xr
 fe:ee.all (λp=>vd (PySem.W.nsIn K Xr p.1) (PySem.W.nsIn K mainGlobals p.2))=true
 la:∃(f:Addr) (fd:FuncData),PySem.W.nsIn K mainGlobals "alike"=some (some (.ref f))/\dg K "alike" "alike" (aa 11) f fd/\fd.code=.ref 117
 lc:PySem.W.codeHdIn K 117 113=true
 lb:∃(bm:Addr) (ob:Obj),PySem.W.nsIn K mainGlobals "__builtins__"=some (some (.ref bm))/\K.lookup bm=some ob/\bm≠builtinsNs/\bm≠mainGlobals/\bm≠113/\ob.cls=.type "module"/\ob.dict=some builtinsNs/\ob.data=.plain
section
variable {P:Program}{w:World}{K:PySem.W.Frag}{mg:Str->Option Value}{base h:Heap}{C Xr:Addr}
theorem Vo (X:K.In h) (G:h.Ns mainGlobals mg) (F:mJ K w C Xr):(wO P w K mg base C).Ok where
 df:=λi d hd=>let ⟨a,b⟩:=F.ds.at hd;ve X G a b
 gv:=λi x hx=>by
  rcases Vn hx with ⟨h1,h2⟩ |⟨j,d,rfl,h1,rfl⟩
  ·have key:∀(a:Addr) (dd:D),(a,dd)∈vc->∀H M,RM tP H M->RD H dd (.ref a):=λa dd hm H M rm=>rm.aa (a,dd) hm;rcases (by lia:i=0\/i=1\/i=2\/i=3) with rfl |rfl |rfl |rfl
   ·cases h2;exact⟨_,.ref 47,PySem.W.mg_of X G F.s0,rfl,λH M rm=>key _ _ (aaO) H M rm⟩
   ·cases h2;exact⟨_,.ref 124,PySem.W.mg_of X G F.s1,rfl,λH M rm=>key _ _ (.tail _ aaO) H M rm⟩
   ·cases h2;exact⟨_,.ref 125,PySem.W.mg_of X G F.s2,rfl,λH M rm=>key _ _ (.tail _ (.tail _ aaO)) H M rm⟩
   ·cases h2;exact⟨_,.ref 126,PySem.W.mg_of X G F.s3,rfl,λH M rm=>key _ _ (.tail _ (.tail _ (.tail _ aaO))) H M rm⟩
  ·obtain⟨a,b⟩:=F.ds.at h1;obtain⟨f,fd,DF⟩:=ve X G a b;refine⟨_,.ref f,DF.mg,rfl,λH M rm=>?_⟩;have e:(wO P w K mg base C).gv.getD (4+j) .af=.ref f:=by
    show (([.tup (fI.map D.str),kD .num,kD .word,.tup [.str "truth"]]++eS.map λd=>D.ref (fP mg d.x)):List D).getD (4+j) .af=_;rw[abM,abc (by show 4<=4+j;lia)];show ((eS.map λd=>D.ref (fP mg d.x))[4+j-4]?).getD .af=_;rw[Nat.add_sub_cancel_left,aaU,h1];show D.ref (fP mg d.x)=_;unfold fP;rw[DF.mg]
   rw[e];exact RD.aw _
 bi:=λb=>PySem.W.mg_none_of X G (F.bi b)
 fl:=λc f h=>by
  obtain⟨rfl,e |e⟩:=h
  ·rw[e];exact⟨F.wc,F.w1⟩
  ·rw[e];exact⟨F.wc,F.w2⟩
 mt:=λi d hd=>by
  have mk:∀{d:Ds}{q:Str},jk K C d q->∃f fd,uo K C d f fd:=λ⟨f,fd,aaf,M1,aag⟩=>⟨f,fd,⟨_,aaf⟩,aag,M1,F.wc⟩;have kt:uv[i]?=some d:=hd
  match i,kt with
  | 0,e=>cases e;exact mk F.m0
  | 1,e=>cases e;exact mk F.m1
  | 2,e=>cases e;exact mk F.m2
  | 3,e=>cases e;exact mk F.m3
  | 4,e=>cases e;exact mk F.m4
  |n+5,e=>cases e
 cl:=λi x hx=>by
  have cr:(["Walk"]:List Str)[i]?=some x:=hx
  match i,cr with
  | 0,e=>cases e;exact⟨PySem.W.mg_of X G F.wa,λf a n=>⟨F.wm,a,n,F.wk⟩⟩
  |n+1,e=>cases e
 sd:=λi x hx=>by
  have cr:(["FINISHED"]:List Str)[i]?=some x:=hx
  match i,cr with
  | 0,e=>
   cases e;refine⟨Xr,PySem.W.mg_of X G F.fi,F.ft,λz r hr=>?_⟩;have pH:(ee.lookup z).map (λx=>some (V.ref (fP mg x)))=some r:=hr;obtain⟨y,h1,rfl⟩:=Option.map_eq_some_iff.mp pH;have hm:=PySem.mem_of_lookup h1;obtain⟨f,e1,e2⟩:=Vm (List.all_eq_true.mp F.fe (z,y) hm);refine .inr ⟨_,_,rfl,e1,?_⟩;show aaX f=aaX (fP mg y);unfold fP;rw[PySem.W.mg_of X G e2]
  |n+1,e=>cases e
 rg:=PySem.W.mg_none_of X G F.z1
 zp:=PySem.W.mg_none_of X G F.z2
 en:=PySem.W.mg_none_of X G F.z3
 rv:=PySem.W.mg_none_of X G F.z4
 ii:=PySem.W.mg_none_of X G F.z5
 bo:=PySem.W.mg_none_of X G F.z6
 sr:=PySem.W.mg_none_of X G F.z7
 st:=PySem.W.mg_none_of X G F.z8
theorem Vp:∀p∈ee,ee.lookup p.1=some p.2:=by
 have h:ee.all (λp=>decide (ee.lookup p.1=some p.2))=true:=by decide +kernel
 exact λp hp=>of_decide_eq_true (List.all_eq_true.mp h p hp)
theorem Vq (X:K.In h) (G:h.Ns mainGlobals mg) (F:mJ K w C Xr):Lw (wO P w K mg base C) where
 ok:=Vo X G F
 hn:=rfl
 hd:=rfl
 hm:=rfl
 g0:=rfl
 g1:=rfl
 g2:=rfl
 g3:=rfl
 sd:=λp hp=>by
  show (ee.lookup p.1).map (λx=>some (V.ref (fP mg x)))=_;rw[Vp p hp];rfl
 XE:=rfl
 gd:=rfl
 Yc:=rfl
 fw:=⟨rfl,.inl rfl⟩
 XN:=⟨rfl,.inr rfl⟩
 mc:=λ_ _ _=>rfl
theorem Vr (X:K.In h) (G:h.Ns mainGlobals mg) (F:mJ K w C Xr):Lm (wO P w K mg base C) (dp 113 117 ((mg "__name__").getD .none)) where
 k:=by
  obtain⟨bm,ob,b1,b2,Xk,b4,Yu,Yv,Yw,Yx⟩:=F.lb;exact⟨F.lc,⟨bm,ob,PySem.W.mg_of X G b1,b2,Xk,b4,Yu,Yv,Yw,Yx⟩,(by decide:mainGlobals≠113)⟩
 j:=λH h=>h (dp 113 117 .none) aaO
 s:=λH H' c h1 h2 h3 h4 h5=>Ms (L:=dp 113 117 .none) (λL' oO _=>by rw[List.mem_singleton.mp oO];exact⟨rfl,rfl⟩) h1 h2 h3 h4 h5
 e:=⟨_,_,_,rfl⟩
 p:=rfl
 c:=λf fd D=>by
  obtain⟨f0,Xd,e1,F0,e2⟩:=F.la;have m0:=PySem.W.mg_of X G e1;have Xs:f=f0:=by
   have:=D.mg;have m1:mg "alike"=some (.ref f):=this;rw[m0]at m1;cases m1;rfl
  subst Xs;obtain⟨n,Fn⟩:=D.fn;obtain⟨oc,od,kV,a3,pm,an,aW,ct,cZ,_,l1,_⟩:=Fn.ex;obtain⟨Vs,Vt,Vu,Vv,Vw,Vx,Vy,Vz,VA,_,l2,_⟩:=F0.ex;have kl:K.lookup f=_:=l1;rw[kl]at l2;injection l2 with l3;injection l3 with _ _ l4;injection l4 with YM;rw[YM];exact⟨e2,F0⟩
theorem law_ok {fa:Addr} (X:K.In h) (G:h.Ns mainGlobals mg) (CR:mg "law"=some (.ref fa)) (F:mJ K w C Xr) :
  ∃fd:FuncData,(∀(s:Shared) (v:Value),BindsTo s fd ⟨[v],[]⟩ [("script",v)])/\∀base:Heap,K.In base->base.Ns mainGlobals mg->a5 P w K mg base a7 200 fa fd ["script"] (bR tP mD):=by
 obtain⟨a,b⟩:=F.ds.at (i:=37) (d:=⟨"law",aa 51,["script"]⟩) rfl;obtain⟨f,fd,D⟩:=ve X G a b;have Xs:fa=f:=by
  have m1:mg "law"=some (.ref f):=D.mg;rw[CR]at m1;cases m1;rfl
 subst Xs;refine⟨fd,?_,λbase _ _=>?_⟩
 ·obtain⟨_,Fn⟩:=D.fn;obtain⟨oc,od,kV,a3,pm,an,aW,ct,cZ,rfl,lk,cY⟩:=Fn.ex;exact λs v=>.of_eq rfl
 obtain⟨d',f',At,h1,D',VB⟩:=Ve (Vq (P:=P) (base:=base) X G F) (Vr (P:=P) (base:=base) X G F);have e:d'=⟨"law",aa 51,["script"]⟩:=by
  have h2:eS[37]?=some d':=h1;have h3:eS[37]?=some ⟨"law",aa 51,["script"]⟩:=rfl;rw[h3]at h2;cases h2;rfl
 subst e;have Xs:f'=fa:=by
  have m1:mg "law"=some (.ref f'):=D'.mg;rw[CR]at m1;cases m1;rfl
 subst Xs;obtain⟨_,Fn⟩:=D.fn;obtain⟨_,VC⟩:=D'.fn;obtain⟨oc,od,kV,a3,pm,an,aW,ct,cZ,rfl,l1,_⟩:=Fn.ex;obtain⟨Vs,Vt,Vu,Vv,Vw,Vx,Vy,Vz,VA,rfl,l2,_⟩:=VC.ex;have kl:K.lookup f'=_:=l1;have cW:K.lookup f'=_:=l2;rw[kl]at cW;injection cW with l3;injection l3 with _ _ l4;injection l4 with YM;rw[YM];exact VB
end
theorem Xe {xs:List Str}{its:List Value} (h:aq (xs.map V.str) its) {H:Hp}{a:Addr} (e:H a=some (.tup (xs.map V.str))):RD H (.tup (xs.map D.str)) (.ref a):=bX.mpr ⟨a,_,rfl,e,by
 clear h e
 induction xs with
 |nil=>exact .nil
 |cons x r ih=>exact .cons (RD.aw _) ih⟩
theorem pW {H:Hp}{a:Addr}{xs:List Str} (e:H a=some (.tup (xs.map V.str))):RD H (.tup (xs.map D.str)) (.ref a):=bX.mpr ⟨a,_,rfl,e,by
 clear e
 induction xs with
 |nil=>exact .nil
 |cons x r ih=>exact .cons (RD.aw _) ih⟩
theorem CS {H:Hp}:∀ns:List Int,az H (ns.map D.int) (ns.map V.int)
 |[]=>.nil
 |n::r=>.cons (RD.aw _) (CS r)
theorem VD {H:Hp}{a:Addr}{ns:List Int} (hl:ns.length<=63) (O:uZ [113] ek a ns H):bR tP mD [.ref a] H (λv _=>v=.bl true) λ_ _ _=>False:=by
 refine⟨[.ref a],λb=>if b=a then some (.jG (ns.map D.int)) else none,λd _=>d=.bl true,⟨?_,?_,?_⟩,.cons (RD.aw _) .nil,⟨a,ns,rfl,.inr (if_pos rfl),hl,λ_=>rfl⟩,λv d H' M' _ _ rd e=>?_⟩
 ·intro p hp;have e0:=O.p (47,fI.map V.str) (by simp [ek]);have e1:=O.p (124,[.str "num"]) (by simp [ek]);have e2:=O.p (125,[.str "word"]) (by simp [ek]);have e3:=O.p (126,[.str "truth"]) (by simp [ek]);have bg:p=(47,.tup (fI.map D.str))\/p=(124,kD .num)\/p=(125,kD .word)\/p=(126,.tup [.str "truth"]):=by simpa [tP,vc] using hp
  rcases bg with rfl |rfl |rfl |rfl
  ·exact pW e0
  ·show RD H (kD .num) _;rw[kD];exact pW (xs:=["num"]) e1
  ·show RD H (kD .word) _;rw[kD];exact pW (xs:=["word"]) e2
  ·exact pW (xs:=["truth"]) e3
 ·intro L hL;rw[List.mem_singleton.mp hL];exact .inl (O.t 113 aaO)
 ·intro b o e;by_cases hb:b=a
  ·subst hb;have e':=(if_pos rfl).symm.trans e;cases e';obtain⟨ob,ho⟩:=O.s;exact⟨ob,_,ho,CS ns⟩
  ·have e':=(if_neg hb).symm.trans e;cases e'
 ·subst e;exact au.mp rd
theorem walk {l:PySem.W.OpenLaw}{q:Program}{loose:List Str}{XP:(Str->Option Value)->Heap->Prop}{YP:World->Heap->Prop}{d:DefRec}{K:Params->PySem.W.Frag} (hn:l.most=some 63) (gL:d.params.defaults=[])
  (YL:∀(w:World) (h:Heap),YP w h->(K w.params).In h/\(∀P∈[113],h.get? P=some (PySem.W.tabObj #[]))/\∀p∈ek,mE h p)
  (jj:∀(w:World),∀P∈[113],(K w.params).lookup P=none/\∃c,PySem.W.codeHdIn (K w.params) c P=true)
  (mF:∀(w:World),∀p∈ek,(K w.params).lookup p.1=none) (mG:∀(w:World) b o,(K w.params).lookup b=some o->o.cls≠.type "list")
  (F:∀(w:World) (mg:Str->Option Value) (fa:Addr) (h:Heap),(K w.params).In h->h.Ns mainGlobals mg->mg d.name=some (.ref fa) ->
   ∃fd:FuncData,(∀(s:Shared) (u:Value),BindsTo s fd ⟨[u],[]⟩ [("script",u)])/\∀base:Heap,(K w.params).In base->base.Ns mainGlobals mg->a5 l.prog w (K w.params) mg base a7 200 fa fd ["script"] (bR tP mD)) :
  PySem.W.WalkO q loose XP YP l.row.toRowW d [] (λf vs=>PySem.call f vs):=
 L2.Vi (n:=63) (k:=200) (x:="script") (ts:=[113]) (tps:=ek) (CX:=λ_=>a7) (sp:=λ_=>bR tP mD) hn (by decide) gL ⟨rfl,by decide,by decide⟩ YL jj mF (by decide) mG F (λ_ H a ns hl O=>VD hl O) λ_ _ _ _ _ z=>z
end Q16
namespace Q16
open PySem PL QG
open L2
theorem vf:∀{l:List (Addr×Obj)}{b:Addr}{o:Obj},l.lookup b=some o->(b,o)∈l
 |[],_,_,h=>by cases h
 |q::r,b,o,h=>by
  rw[abb]at h;by_cases e:b=q.1
  ·subst e;simp at h;subst h;exact aaO
  ·have:(b == q.1)=false:=(by simpa using e);rw[this]at h;exact aaK _ (vf h)
theorem VE {A B:PySem.W.Frag}{b:Addr}{o:Obj} (n:A.lookup b=none) (e:B.lookup b=some o):abG b (A++B)=some o:=by
 have n':abG b A=none:=n;have e':abG b B=some o:=e;rw[List.lookup_append,n',e'];rfl
theorem VF {A B:PySem.W.Frag}{h:Heap} (X:PySem.W.Frag.In (A++B) h) (d:A.all (λp=>(B.lookup p.1).isNone)=true):B.In h:=λb o e=>X b o (VE (by
 cases q:A.lookup b with
 |none=>rfl
 |some x=>
  have:=List.all_eq_true.mp d (b,x) (vf q);rw[e]at this;cases this) e)
theorem VG {A B:PySem.W.Frag}{h:Heap} (X:PySem.W.Frag.In (A++B) h):A.In h:=λb o e=>X b o (by
 have e':abG b A=some o:=e;rw[List.lookup_append,e'];rfl)
def CT:Value->Bool
 |.type s=>s != "list"
 |_=>true
theorem VH {K:PySem.W.Frag} (d:K.all (λp=>CT p.2.cls)=true) {b:Addr}{o:Obj} (e:K.lookup b=some o):o.cls≠.type "list":=λz=>by
 have:=List.all_eq_true.mp d (b,o) (vf e);have h2:CT o.cls=true:=this;rw[z]at h2;exact absurd h2 (by decide)
theorem pX {K:PySem.W.Frag}{h:Heap}{a:Addr}{its:Array Value}{xs:List Str} (X:K.In h) (l:K.lookup a=some { cls:=.type "tuple",data:=.seq its }) (v:aq (xs.map V.str) its.toList) (z:xs.length<=sizeLine):mE h (a,xs.map V.str):=
 ⟨its.toList,by rw[Array.toArray_toList];exact X _ _ l,v,by rw[aaN];exact z⟩
theorem VI {K:PySem.W.Frag}{w:World}{a:Addr}{es:Array DictEntry}{n:Nat} (l:K.lookup a=some ⟨.type "dict",none,.dict es n,#[]⟩) (k:PySem.W.KeysLit w.params es.toList) (lo:(a == sysModules)=false):jD K w a:=⟨⟨es,n,l,k⟩,lo⟩
theorem VJ {K:PySem.W.Frag}{T0 bm:Addr}{ob:Obj} (a:PySem.W.nsIn K mainGlobals "__builtins__"=some (some (.ref bm))) (l:K.lookup bm=some ob) (h1:bm≠builtinsNs) (h2:bm≠mainGlobals) (h3:bm≠T0) (h4:ob.cls=.type "module") (h5:ob.dict=some builtinsNs) (h6:ob.data=.plain) :
  ∃(bm:Addr) (ob:Obj),PySem.W.nsIn K mainGlobals "__builtins__"=some (some (.ref bm))/\K.lookup bm=some ob/\bm≠builtinsNs/\bm≠mainGlobals/\bm≠T0/\ob.cls=.type "module"/\ob.dict=some builtinsNs/\ob.data=.plain:=⟨bm,ob,a,l,h1,h2,h3,h4,h5,h6⟩
theorem zIn {P:Params}{h:Heap} (X:(zK P).In h):(zK1 P).In h:=VF (A:=ko P) X (by kernel_rfl)
theorem Xf:PySem.Challenge.rw_keptnest_k16_kinds_told=PySem.Challenge.rw_keptnest_k16_kinds_told/\zK1=zK1:=by k_fill;exact⟨rfl,rfl⟩
theorem Xg:PySem.Challenge.rw_keptnest_k16_kinds_told=PySem.Challenge.rw_keptnest_k16_kinds_told/\ko=ko:=by k_fill;exact⟨rfl,rfl⟩
theorem zTp {P:Params}{h:Heap} (X:(zK P).In h):∀p∈ek,mE h p:=by
 replace X:(ko P).In h:=VG (B:=zK1 P) X;intro p hp;have bg:p=(47,fI.map V.str)\/p=(124,[V.str "num"])\/p=(125,[V.str "word"])\/p=(126,[V.str "truth"]):=by simpa [ek] using hp
 rcases bg with rfl |rfl |rfl |rfl
 ·refine' pX X ?l ?v ?z
  case l=>k_is
  case v=>exact .cons ⟨_,rfl⟩ (.cons ⟨_,rfl⟩ (.cons ⟨_,rfl⟩ (.cons ⟨_,rfl⟩ (.cons ⟨_,rfl⟩ (.cons ⟨_,rfl⟩ (.cons ⟨_,rfl⟩ (.cons ⟨_,rfl⟩ (.cons ⟨_,rfl⟩ .nil))))))))
  case z=>decide
 ·refine' pX (xs:=["num"]) X ?l ?v ?z
  case l=>k_is
  case v=>exact .cons ⟨_,rfl⟩ .nil
  case z=>decide
 ·refine' pX (xs:=["word"]) X ?l ?v ?z
  case l=>k_is
  case v=>exact .cons ⟨_,rfl⟩ .nil
  case z=>decide
 ·refine' pX (xs:=["truth"]) X ?l ?v ?z
  case l=>k_is
  case v=>exact .cons ⟨_,rfl⟩ .nil
  case z=>decide
theorem zKP {P:Params}:∀p∈ek,(zK1 P).lookup p.1=none:=by
 intro p hp;have bg:p=(47,fI.map V.str)\/p=(124,[V.str "num"])\/p=(125,[V.str "word"])\/p=(126,[V.str "truth"]):=by simpa [ek] using hp
 rcases bg with rfl |rfl |rfl |rfl <;> kernel_rfl
theorem zKL {P:Params}{b:Addr}{o:Obj} (e:(zK1 P).lookup b=some o):o.cls≠.type "list":=VH (by kernel_rfl) e
theorem zF (w:World):mJ (zK1 w.params) w 95 237:=by
 refine' ⟨?ds,?s0,?s1,?s2,?s3,?bi,?z1,?z2,?z3,?z4,?z5,?z6,?z7,?z8,?wa,⟨?c1,?c2,?c3,?c4⟩,?w1,?w2,?wm,?wk,?m0,?m1,?m2,?m3,?m4,?fi,?ft,?fe,?la,?lc,?lb⟩
 case ds=>
  refine' ⟨⟨?_,λ_ _ _ _ _ _=>fN λ_=>rfl⟩,⟨⟨?_,λ_ _ _ _ _ _=>hW λ_ _ _=>rfl⟩,⟨⟨?_,λ_ _ _ _ _ _=>fN λ_=>rfl⟩,⟨⟨?_,λ_ _ _ _ _ _=>cq λ_ _=>rfl⟩,⟨⟨?_,λ_ _ _ _ _ _=>hW λ_ _ _=>rfl⟩,⟨⟨?_,λ_ _ _ _ _ _=>hW λ_ _ _=>rfl⟩,⟨⟨?_,λ_ _ _ _ _ _=>hW λ_ _ _=>rfl⟩,⟨⟨?_,λ_ _ _ _ _ _=>hW λ_ _ _=>rfl⟩,⟨⟨?_,λ_ _ _ _ _ _=>hW λ_ _ _=>rfl⟩,⟨⟨?_,λ_ _ _ _ _ _=>hW λ_ _ _=>rfl⟩,⟨⟨?_,λ_ _ _ _ _ _=>cq λ_ _=>rfl⟩,⟨⟨?_,λ_ _ _ _ _ _=>cq λ_ _=>rfl⟩,⟨⟨?_,λ_ _ _ _ _ _=>cq λ_ _=>rfl⟩,⟨⟨?_,λ_ _ _ _ _ _=>cq λ_ _=>rfl⟩,⟨⟨?_,λ_ _ _ _ _ _=>cq λ_ _=>rfl⟩,⟨⟨?_,λ_ _ _ _ _ _=>cq λ_ _=>rfl⟩,⟨⟨?_,λ_ _ _ _ _ _=>cq λ_ _=>rfl⟩,⟨⟨?_,λ_ _ _ _ _ _=>cq λ_ _=>rfl⟩,⟨⟨?_,λ_ _ _ _ _ _=>cq λ_ _=>rfl⟩,⟨⟨?_,λ_ _ _ _ _ _=>cq λ_ _=>rfl⟩,⟨⟨?_,λ_ _ _ _ _ _=>cq λ_ _=>rfl⟩,⟨⟨?_,λ_ _ _ _ _ _=>fN λ_=>rfl⟩,⟨⟨?_,λ_ _ _ _ _ _=>cq λ_ _=>rfl⟩,⟨⟨?_,λ_ _ _ _ _ _=>fN λ_=>rfl⟩,⟨⟨?_,λ_ _ _ _ _ _=>fN λ_=>rfl⟩,⟨⟨?_,λ_ _ _ _ _ _=>cq λ_ _=>rfl⟩,⟨⟨?_,λ_ _ _ _ _ _=>cq λ_ _=>rfl⟩,⟨⟨?_,λ_ _ _ _ _ _=>cq λ_ _=>rfl⟩,⟨⟨?_,λ_ _ _ _ _ _=>cq λ_ _=>rfl⟩,⟨⟨?_,λ_ _ _ _ _ _=>pU λ_ _ _ _=>rfl⟩,⟨⟨?_,λ_ _ _ _ _ _=>Vl λ_ _ _ _ _ _=>rfl⟩,⟨⟨?_,λ_ _ _ _ _ _=>pV λ_ _ _ _ _=>rfl⟩,⟨⟨?_,λ_ _ _ _ _ _=>pV λ_ _ _ _ _=>rfl⟩,⟨⟨?_,λ_ _ _ _ _ _=>pV λ_ _ _ _ _=>rfl⟩,⟨⟨?_,λ_ _ _ _ _ _=>fN λ_=>rfl⟩,⟨⟨?_,λ_ _ _ _ _ _=>cq λ_ _=>rfl⟩,⟨⟨?_,λ_ _ _ _ _ _=>pU λ_ _ _ _=>rfl⟩,⟨⟨?_,λ_ _ _ _ _ _=>fN λ_=>rfl⟩,trivial⟩⟩⟩⟩⟩⟩⟩⟩⟩⟩⟩⟩⟩⟩⟩⟩⟩⟩⟩⟩⟩⟩⟩⟩⟩⟩⟩⟩⟩⟩⟩⟩⟩⟩⟩⟩⟩⟩
  all_goals (refine' Vj ?a ?l ?c ?k;(case a=>k_is);(case l=>k_is);(case c=>k_is);(case k=>k_is))
 (case s0=>k_is);(case s1=>k_is);(case s2=>k_is);(case s3=>k_is)
 case bi=>intro b;cases b <;> k_is
 (case z1=>k_is);(case z2=>k_is);(case z3=>k_is);(case z4=>k_is);(case z5=>k_is);(case z6=>k_is);(case z7=>k_is);(case z8=>k_is)
 (case wa=>k_is);(case c1=>k_is);(case c2=>k_is);(case c3=>k_is);(case c4=>k_is);(case w1=>show PySem.W.findIn _ _ _=_;k_is);(case w2=>show PySem.W.findIn _ _ _=_;k_is);(case wm=>k_is);(case wk=>k_is)
 case m0=>refine' mI ?a ?l ?c ?k ?n (fN λ_=>rfl);(case a=>k_is);(case l=>k_is);(case c=>k_is);(case k=>k_is);(case n=>k_is)
 case m1=>refine' mI ?a ?l ?c ?k ?n (pU λ_ _ _ _=>rfl);(case a=>k_is);(case l=>k_is);(case c=>k_is);(case k=>k_is);(case n=>k_is)
 case m2=>refine' mI ?a ?l ?c ?k ?n (cq λ_ _=>rfl);(case a=>k_is);(case l=>k_is);(case c=>k_is);(case k=>k_is);(case n=>k_is)
 case m3=>refine' mI ?a ?l ?c ?k ?n (cq λ_ _=>rfl);(case a=>k_is);(case l=>k_is);(case c=>k_is);(case k=>k_is);(case n=>k_is)
 case m4=>refine' mI ?a ?l ?c ?k ?n (fN λ_=>rfl);(case a=>k_is);(case l=>k_is);(case c=>k_is);(case k=>k_is);(case n=>k_is)
 case fi=>k_is
 case ft=>refine' VI ?l ?k ?lo;(case l=>k_is);(case k=>k_keys);(case lo=>rfl)
 case fe=>kernel_rfl
 case la=>refine' ⟨_,_,?a,qO ?l ?c ?k,?e⟩;(case a=>k_is);(case l=>k_is);(case c=>k_is);(case k=>k_is);(case e=>rfl)
 case lc=>kernel_rfl
 case lb=>refine' VJ ?a ?l ?h1 ?h2 ?h3 ?h4 ?h5 ?h6;(case a=>k_is);(case l=>k_is);(case h1=>decide);(case h2=>decide);(case h3=>decide);(case h4=>rfl);(case h5=>rfl);(case h6=>rfl)
end Q16
open PySem PySem.W PyProof.Rows
set_option maxRecDepth 100000 in
set_option maxHeartbeats 0 in
theorem PySem.Challenge.cw_keptnest_k16_kinds_told_holds : PySem.Challenge.rw_keptnest_k16_kinds_told.Holds := by
 w_on
 refine PySem.W.holds_law Q16.zS fun said=>?_
 refine PySem.W.holds_open (q:=Q16.zV) (loose:=Q16.zL) (Xt:=fun s=>PySem.W.xlAt Q16.zV [] s && PySem.W.recOk (PySem.W.RowW.records (PySem.W.OpenRow.toRowW PySem.Challenge.rw_keptnest_k16_kinds_told.row)) s) (XP:=PySem.W.XL Q16.zV []) (Yf:=PySem.W.Hook.obs (PySem.W.kmHook Q16.zK Q16.zA Q16.zE Q16.zTs)) (Ya:=PySem.W.Hook.val (PySem.W.kmHook Q16.zK Q16.zA Q16.zE Q16.zTs)) (YP:=PySem.W.Hook.says (PySem.W.kmHook Q16.zK Q16.zA Q16.zE Q16.zTs)) (N:=4736) (Hq.left_two "special-get-raises" Q16.zR_false Q16.zR_true) (PySem.W.Hook.of _) (PySem.W.Hook.keeps _) (fun s e=>PySem.W.xl_of s (Bool.and_eq_true_iff.mp e).1) PySem.W.XL.keeps (by rfl) (by rfl) (by rfl) (fun s e=>PySem.W.recFacts_of (Bool.and_eq_true_iff.mp e).2) (by rfl) (by first | assumption | decide +kernel) (by decide +kernel) ⟨rfl,rfl,rfl,rfl,rfl,by decide +kernel⟩ ?hw ?hc
 case hw=>w_witness2
 k_fill
 refine Q16.walk (l:=PySem.Challenge.rw_keptnest_k16_kinds_told) (K:=Q16.zK1) rfl rfl (fun w h Y=>⟨Q16.zIn (PySem.W.km_in_of Y),PySem.W.km_tabs_of Y,Q16.zTp (PySem.W.km_in_of Y)⟩) ?KT (fun w=>Q16.zKP) (fun w b o e=>Q16.zKL e) ?F
 case KT=>
  intro w P hP
  cases List.mem_singleton.mp hP
  exact⟨by kernel_rfl,117,by kernel_rfl⟩
 case F=>
  intro w mg fa h KX G hmg
  exact Q16.law_ok KX G hmg (Q16.zF w)
#print axioms PySem.Challenge.cw_keptnest_k16_kinds_told_holds
end
