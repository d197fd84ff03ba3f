import PyProof.Rows.All
import Wide.All
import KE.KItem
import KE.KItemsList
import KE.KDictOf
import KE.LcSums
import KE.KTryMore
import Wide.FinOn
import Lean
import PyProof.EqAt
import PyProof.EqKinds
import PyProof.TupleCall
import PySem.Challenge.RW_tieseek_k32_whole_reached_as_the_web_tur
set_option Elab.async false
set_option linter.all false
set_option maxRecDepth 100000
set_option maxHeartbeats 0
open PySem renaming Addr->ac,wpAny_bind->bi,Value->bv,FuncData->ce,Shared->ci,wpAny_pure->cr,starEach->db,sizeLine->dL,model->ga,wpAny->gc,mainGlobals->ii,Program->im,World->io,eval->jp,Expr->li,foldedSetIterable->nw,Stmt->pc,Around->pi,wpAny_mono->re,attributeBase->sw,NameKind->sK,compareOp->tz,backTo->ul,wpAny_newObj_type->ut,wpAny_holding->u8,wpAny_call_entry->wf,wpAny_truthy_bool->wn,keywordEach->wv,swapsWith->ww,behindInMarks->wE,sysModules->wP,importedModules->wS,codeAny_builtin->wT,holding->xz,bootBuiltins->xL,Builtin->zn,wpAny_callSpecial?_slot->At,wpAny_setField_rec->AC,codeAny->AT,assignEach->Ch,wpAny_passesOwn->Db,scanBound->Do,backToKw->EQ,codeAny_mono->Fa,cLine->FM,Scope->FS,wpAny_setEntries_of->Gc,wpAny_comprehension_free->Go,wpAny_execs_nil->Ix,standAt->IN,wpAny_Call_Name_kw->IR,tupleKind_room_in1->KE,sizeLine_eq->No,getMethod->NE,wpAny_setState_of->Op,wpAny_assign_Name->Ps,assign->Sc,PyData->Tk,wpAny_askSetting->Tl,treeTable->TD,sliceBounds->TW,binaryOp->Uf,Keyword->UF,call_meets->UV,wpAny_pyIter_list->Wp,plainId_quiet->WP,tupleKind->XV,pickOrder->Yd,cellsFrom->Ys,callWith->Yu,wpAny_typeOf->Yz,wpAny_rule->YB,pyNext->YC,call_meetsIn->YD,letOwnedTupleGo->Zh,wpAny_fieldsOf->Zm,recursionLimit->Zn,newFunctionEnv->Zr,SetTable->Zv,valueAt->ZA,getItem->ZB,PassesOwn->ZC,wpAny_standAt->ZD,wpAny_attempt->Jaa,ExceptHandler->Jab,PlainAttrs->Jac,wpAny_Call_method->Jad,relayAll->Jae,relabel->Jaf,fits_of_scanBound->Jag,callerA->Jah,wpAny_execs_cons->Jai,pyIter->Jaj,pushCells->Jak,isTrue->Jal,IsPart->Jam,subscripted->Jan,IsRangeIter->Jao,wpAny_ite_split->Jap,BindsTo->Jaq,wpAny_seqItems->Jar,wpAny_call->Jas,typeLookup->Jat,stored->Jau,rawInt->Jav,isSubtype_type->Jaw,firstArgMember->Jax,wpAny_newList->Jaz,wpAny_Call_method0_late->JaC,wpAny_pyNext_range_end->JaD,wpAny_pyNext_list_item->JaE,wpAny_pyIter_rangeiter->JaF,typeOf->JaG,seqIndex_neg->JaI,intKind->JaK,codeAny_compStart_list->JaM,Result->JaN,wpAny_pyNext_list_end->JaO,wpAny_isTrue_Compare1->JaP,exec_Assign_Name_used->JaQ,builtinLookup_eq_fast->JaR,wpAny_field->JaS,underTheClaimsCaller->JaT,seqIndex_of->JaU,lookup_relabel_local->JaV,entryFor->JaW,compPost->JaX,compEnvC->JaY,bindArgs->JaZ,GenState->Ja0,wpAny_pyIter_range->Ja1,wpAny_load->Ja2,wpAny_Name->Ja3,truthy->Ja4,setsByText->Ja5,intKind_is->Ja6,builtinsNs->Ja7,argsOk->Ja8
open PyProof.Rows renaming envOfC->Ev,IntsAre->Fk,seqObj->PP,firstMet->Rs,AllBare->WF,boot_range->Jay,subscriptTail->JaA,firstMet_succ->JaB,subscriptTail_builtinR->JaH,pairsOf->JaJ,Subscript_->Ja9
open PySem.W renaming openEnds->Re,openSeen->Yh,openGood->Yk,exmOne->JaL
open List renaming length_map->ae,getElem?_eq_some_iff->ag,mem_singleton->aj,getElem?_map->ak,length_append->ao,mem_of_getElem?->aq,mem_cons->av,map_append->ax,mem_cons_of_mem->ay,mem_append->aA,map_cons->aB,mem_map->aC,mem_append_right->aD,length_cons->aG,length_range->aJ,mem_iff_getElem?->aL,size_toArray->aM,mem_append_left->aN,getElem?_append_left->aP,map_map->aR,mem_range->aV,length_nil->aW,length_take->aX,mem_cons_self->aY,nodup_cons->aZ,not_mem_nil->bb,length_singleton->bg,getElem?_append_right->bp,getElem?_eq_getElem->bq,take_length->br,append_assoc->bt,map_nil->bz,getElem?_eq_none->bA,mem_filterMap->bD,mem_filter->bF,length_filter_le->bG,find?_cons->bH,append_nil->bI,getLast?_cons_cons->bK,any_eq_true->bL,nodup_append->bN,getElem?_set_self->bO,length_set->bQ,getD_eq_getElem?_getD->bW,mem_or_eq_of_mem_set->bZ,length_zip->b9,getElem?_set_ne->cg,sum_cons->cj,nodup_nil->ck,lookup_cons->cp,length_eq_zero_iff->cq,eraseIdx_cons_succ->cu,filter_map->cv,getElem?_inj->cx,filter_cons->cA,all_eq_true->cB,getElem?_range->cC,pairwise_singleton->cH,reverse_cons->cP,getElem?_toArray->cT,length_drop->cV,cons_append->cW,any_cons->cY,all_cons->cZ,mem_erase_of_ne->c7,filter_sublist->de,filterMap_cons->df,map_set->di,set_cons_zero->dn,set_cons_succ->dq,pairwise_iff_getElem->dw,flatMap_cons->dA,getElem_mem->dE,getElem?_cons_succ->dF,take_of_length_le->dI,sum_nil->dJ,pairwise_lt_range->dM,of_mem_zip->dP,take_left->dZ,dropLast_concat->eh,pairwise_cons->eC,take_sublist->eJ,map_inj_left->eK,filter_congr->eL,eraseIdxIfInBounds_toArray->eM,map_snd_zip->eR,countP_cons->eS,range_succ->eY,nil_append->eZ
open PySem.Heap renaming get?_push_of_some->ah,lt_size->aH,get?_push_size->aK,get?_update_other->bR,FlyingW->bS,size_push->bX,get?_update_self->bY
open PySem.W renaming Frag->ai,nsIn->aU,mg_none_of->ba,mg_of->bu,findIn->bw,kia_one->bJ,emptyDict->bM,keepIn->bU,instObj->b8,fnOf->cb,kitOne->cy,plainGet->cz,hasDictIn->cK,hideAll_get->dc,plainOver->dy,isFn->dG,makesIn->dN,lookIn->dX,codeIn->dY,plainGet_of->ez,callWith_K->eB,methodObj->eE,takerIn->eU,hideAll->eV,OpenLaw->eW
open Int renaming toNat_natCast->au,le_refl->cI,eq_ofNat_of_zero_le->cJ,emod_lt_of_pos->dr,emod_nonneg->dQ,min_eq_right->eT,min_eq_left->fb
open Nat renaming le_refl->az,lt_of_lt_of_le->aF,ne_of_lt->aO,zero_le->aQ,le_trans->bj,lt_irrefl->bT,lt_of_le_of_lt->bV,le_succ->cf,mul_le_mul->cL,lt_succ_of_lt->cM,le_of_succ_le_succ->cO,lt_succ_self->cU,add_assoc->cX,ne_of_gt->dh,add_right_comm->dj,succ_le_succ->dD,le_of_lt->dH,zero_add->eG,le_of_eq->eI,succ_ne_zero->eP,le_of_not_lt->eQ
open PySem.F renaming plainAttrs_list->aE,type_list_append->aS,slot_list_append->aT,called_set->bP,type_list_index->cE,slot_list_index->cF,plainAttrs_dict->cG,type_list_extend->dB,slot_list_extend->dC,type_list_pop->dS,slot_list_pop->dU,slot_dict_get->dW,slot_dict_setdefault->eX
open Bool renaming false_ne_true->aI,and_eq_true->bc,eq_iff_iff->cw,false_eq_true->cD,and_eq_true_iff->c9,or_eq_true->dR,not_true->eA
open Array renaming getElem?_toList->bh,length_toList->bB,append_assoc->eD
open PyProof.Rows renaming callWith_type1->bx,boot_list->bC,boot_isinstance->bE,slot_tuple_getitem->cQ,boot_min->cR,boot_int->cS,callWith_builtin1->eO
section
open PySem PySem.W PyProof.Rows
abbrev rowAt:RowW:=PySem.Challenge.rw_tieseek_k32_whole_reached_as_the_web_tur.row.toRowW
def kc:im:=
 {rowAt.prog with main:= {rowAt.prog.main with
   body:=((((((((rowAt.prog.main.body.eraseIdx 42).eraseIdx 36).eraseIdx 30).eraseIdx 26).eraseIdx 18).eraseIdx 16).eraseIdx 10).eraseIdx 1)}}
abbrev uG:ci->Bool:=λ s=>xlAt kc [] s&&recOk rowAt.records s
theorem two_looks {W α β γ:Type} {x:W->Option α} {f:α->β} {g:α->γ} {b:β} {c:W->γ}
  (h:∀w,(x w).map f=some b) (k:∀w,(x w).map g=some (c w)) (w:W) :
  (x w).map (λ s=>(f s,g s))=some (b,c w):=by
 have h:=h w;have k:=k w;revert h k
 cases x w with
 | none=>intro h;cases h
 | some a=>intro h k;cases h;rw [<-Option.some.inj k];rfl
def Lp {α β:Type} (x:α×β):α:=x.casesOn λ a _=>a
def nH {α β:Type} (x:α×β):β:=x.casesOn λ _ b=>b
local macro_rules | `(tactic| walk_at "lk")=> `(tactic| (intro w;unfold Re fencedOpening topFrom;rw [Fast.te14082659384304107361,Fast.te14364793385576792824,Fast.te10274390034422433532,Fast.te14289696077712309145,Fast.te1435165496053646825,Fast.te4187177175401517315,Fast.te5923862056798008813];kernel_rfl))
theorem TY:∀w:io,(Re TD rowAt.prog w 8742).map
  (λ s=>(Lp (Yh kc [] (wS rowAt.prog.main.body) uG true s)))=some (Yk kc []).1:=by walk_at "lk"
theorem QJ:∀w:io,(Re TD rowAt.prog w 8742).map
  (λ s=>(Lp (nH (Yh kc [] (wS rowAt.prog.main.body) uG true s))))=some (Yk kc []).2.1:=by walk_at "lk"
theorem NO:∀w:io,(Re TD rowAt.prog w 8742).map
  (λ s=>(Lp (nH (nH (Yh kc [] (wS rowAt.prog.main.body) uG true s)))))=some (Yk kc []).2.2.1:=by walk_at "lk"
theorem K4:∀w:io,(Re TD rowAt.prog w 8742).map
  (λ s=>(Lp (nH (nH (nH (Yh kc [] (wS rowAt.prog.main.body) uG true s))))))=some (Yk kc []).2.2.2.1:=by walk_at "lk"
theorem HF:∀w:io,(Re TD rowAt.prog w 8742).map
  (λ s=>(Lp (nH (nH (nH (nH (Yh kc [] (wS rowAt.prog.main.body) uG true s)))))))=some (Yk kc []).2.2.2.2.1:=by walk_at "lk"
theorem Fx:∀w:io,(Re TD rowAt.prog w 8742).map
  (λ s=>(Lp (nH (nH (nH (nH (nH (Yh kc [] (wS rowAt.prog.main.body) uG true s))))))))=some (Yk kc []).2.2.2.2.2.1:=by walk_at "lk"
theorem Fw:∀w:io,(Re TD rowAt.prog w 8742).map
  (λ s=>(nH (nH (nH (nH (nH (nH (Yh kc [] (wS rowAt.prog.main.body) uG true s))))))))=some (Yk kc []).2.2.2.2.2.2:=by walk_at "lk"
theorem Ia:∀w:io,(Re TD rowAt.prog w 8742).map
  (λ s=>Yh kc [] (wS rowAt.prog.main.body) uG true s)=some (Yk kc []):=λ w=>(two_looks TY (two_looks QJ (two_looks NO (two_looks K4 (two_looks HF (two_looks Fx Fw)))))) w
theorem Lc {P:Prop} (_:Hook) (h:P):P:=h
local macro_rules
 | `(tactic| o_head $H)=> `(tactic| (refine Lc $H ?_;assumption))
theorem DR (hyp:PySem.Challenge.rw_tieseek_k32_whole_reached_as_the_web_tur.row.Holds):PySem.Challenge.rw_tieseek_k32_whole_reached_as_the_web_tur.row.Holds:=by
 k_head
def Rw:List ac:= [2,3,15,17,18,20,21,22,29,30,31,32,35,42,43,44,47,54,55,56,59,66,67,68,71,78,79,80,83,90,91,92,95,102,103,104,107,114,115,116,119,122,123,124,126,127,129,130,131,133,134,136,137,145,147,148,150,151,152,154,155,157,158,159,161,162,164,165,166,168,169,171,172,173,175,176,178,179,180,182,183,185,186,187,189,190,192,193,194,195,196,197,198,201,204,205,206,208,209,211,212,213,215,216,218,219,220,222,223,225,226,227,229,230,232,233,234,236,237,239,240,241,243,244,246,247,248,251,252,253,255,256,258,259,260,262,263,265,266,267,270,271,272,274,275,277,278,279,281,282,284,285,293,295,296,298,299,300,302,303,305,306,307,309,310,312,313,314,316,317,319,320,321,323,324,326,327,328,330,331,333,334,335,337,338,340,341,342,343,345,346,348,349,350,352,353,355,356,357,359,360,362,363,364,366,367,369,370,371,373,374,376,377,378,380,381,383,384,385,387,388,390,391,392,394,395,397,398,399,402,403,404,407,408,409,411,412,414,415,416,418,419,421,422,423,424,425,426,427,430,432,433,435,436,437,439,440,442,443,444,447,448,449,451,452,454,455,456,458,459,461,462,463,465,466,468,469,470,472,473,475,476,477,479,480,482,483,484,486,487,489,490,491,493,494,496,497,498,501,502,503,505,506,508,509,510,513,514,515,518,519,520,523,524,525,528,529,530,533,534,535,538,539,540,543,544,545,547,548,550,551,552,555,556,557,560,561,562,565,566,567,569,570,572,573,574,576,577,579,580,581,584,585]
theorem Vb:∀P:Params,Rw=(DR.heap_1 P).map (·.1):=λ _=>by kernel_rfl
theorem UG:∀w:io,(Re TD rowAt.prog w 8742).map
  (Hook.obs (kHook DR.heap_1 Rw Vb))=some (Hook.val (kHook DR.heap_1 Rw Vb) w):=by
 intro w;unfold Re fencedOpening topFrom;rw [Fast.te14082659384304107361,Fast.te14364793385576792824,Fast.te10274390034422433532,Fast.te14289696077712309145,Fast.te1435165496053646825,Fast.te5923862056798008813]
 kernel_rfl
theorem wSaid9:PySem.W.OpenLaw.wellSaid PySem.Challenge.rw_tieseek_k32_whole_reached_as_the_web_tur=true:=by kernel_rfl
end
theorem YA{a:Nat}(h:0<a):(0:Int)<(a:Int):=Int.ofNat_lt.2 h
theorem Ya{a b c:Int}(h:a<b)(g:b≤c):a<c:=Int.lt_of_lt_of_le h g
theorem Yb{a b c:Int}(h:a≤b)(g:b<c):a<c:=Int.lt_of_le_of_lt h g
theorem Yc{a b c:Int}(h:a≤b)(g:b≤c):a≤c:=Int.le_trans h g
theorem Ye{a b:Int}(h:a=b):a≤b:=Int.le_of_eq h
theorem Yf{a b:Int}(h:a<b)(g:b≤a):False:=Int.not_lt.2 g h
theorem Yg{a b:Int}(h:a=b):b≤a:=Int.le_of_eq h.symm
theorem Yi{a b:Int}(h:¬a<b):b≤a:=Int.not_lt.1 h
theorem Yj{a b:Int}(h:¬a≤b):b<a:=Int.not_le.1 h
theorem Yl{a b:Int}(h:a<b):a≤b:=Int.le_of_lt h
theorem Ym{a b:Int}(h:b<a):a≠b:=Int.ne_of_gt h
theorem Yn{a b:Int}(h:a<b):a≠b:=Int.ne_of_lt h
theorem Yo{a b:Nat}(h:a≤b):(a:Int)≤(b:Int):=Int.ofNat_le.2 h
theorem Yp{a b:Nat}(h:a<b):(a:Int)<(b:Int):=Int.ofNat_lt.2 h
theorem Yq{a b:Int}(h:a≤b)(g:b≤a):a=b:=Int.le_antisymm h g
theorem Yr{a b:Nat}(h:a<b):(a:Int)<@OfNat.ofNat Int b instOfNat:=Int.ofNat_lt.2 h
theorem Yt{a:Nat}:(0:Int)≤(a:Int):=Int.natCast_nonneg a
theorem Yv{a b:Nat}(h:(a:Int)<(b:Int)):a<b:=Int.ofNat_lt.1 h
theorem Yw{a:Int}:0 + a=a:=Int.zero_add a
theorem Yx{a b:Int}(h:b≤a):¬a<b:=Int.not_lt.2 h
theorem Yy{a b:Int}(h:b<a):¬a≤b:=Int.not_le.2 h
theorem Za{a b c:Nat}(h:a<b)(g:b≤c):a<c:=Nat.lt_of_lt_of_le h g
theorem Zb{a b c:Nat}(h:a≤b)(g:b<c):a<c:=Nat.lt_of_le_of_lt h g
theorem Zc{a b c:Nat}(h:a≤b)(g:b≤c):a≤c:=Nat.le_trans h g
theorem Zd{a b:Nat}(h:Nat.ble a b=true):a≤b:=Nat.le_of_ble_eq_true h
theorem Ze{a b:Nat}(h:a=b):a≤b:=Nat.le_of_eq h
theorem Zf{a b:Nat}(h:a<b)(g:b≤a):False:=Nat.not_le_of_lt h g
theorem Zg{a b:Nat}(h:a=b):b≤a:=Nat.le_of_eq h.symm
theorem Zi{a b:Nat}(h:¬a<b):b≤a:=Nat.le_of_not_lt h
theorem Zj{a b:Nat}(h:¬a≤b):b<a:=Nat.lt_of_not_le h
theorem Zk{a b:Nat}:a≤a + b:=Nat.le_add_right a b
theorem Zl{a b:Nat}(h:a<b):a≤b:=Nat.le_of_lt h
theorem Zo{a b:Nat}:a≤b + a:=Nat.le_add_left a b
theorem Zp{a b:Nat}(h:a≤b):a + 1≤b + 1:=Nat.succ_le_succ h
theorem Zq{a b:Nat}(h:a≤b)(g:b≤a):a=b:=Nat.le_antisymm h g
theorem Zs{a b:Nat}(h:a<b + 1):a≤b:=Nat.le_of_lt_succ h
theorem Zt{a b:Nat}(h:a≤b):a<b + 1:=Nat.lt_succ_of_le h
theorem Zu{a b:Nat}:a - b≤a:=Nat.sub_le a b
theorem Zw{a b c:Nat}(h:a≤b):c + a≤c + b:=Nat.add_le_add_left h c
theorem Zx{a b:Nat}(h:b≤a):¬a<b:=Nat.not_lt.2 h
theorem Zy{a b:Nat}(h:b<a):¬a≤b:=Nat.not_le.2 h
theorem Zz{a b:Nat}(h:a<b):0<b:=Nat.zero_lt_of_lt h
theorem V2{a b:Nat}(h0:b < a):a - (b + 1) < a - b:=by lia
theorem Qaa{a b c:Nat}(h0:max a c + 1 ≤ b + 1):a ≤ b ∧ c ≤ b:=by lia
theorem Qab{a b c:Nat}(h0:a ≤ c)(h1:c + 1 < b + 1):a < b:=by lia
theorem Qac{a:Int}{b c:Nat}(h0:a ≤ (↑c : Int))(h1:b = c + 1):a.toNat < b:=by lia
theorem Qad{a b c d e f:Nat}(h0:a ≤ e)(h1:b ≤ f)(h2:c + d ≤ 200)(h3:d = e + f):a + b ≤ 100000:=by lia
theorem Qae{a:Nat}(h0:a ≤ 62):a + 1 ≤ 63:=by lia
theorem Qaf{a:Nat}:0 ≤ 0 + (↑a : Int):=by lia
theorem Qag{a c d:Nat}{b:Int}(h0:(↑a : Int) ≤ b ∧ b < (↑a : Int) + (↑c : Int)):(↑a : Int) ≤ b ∧ b < (↑a : Int) + (↑(c + d) : Int):=by lia
theorem Qah{a c d:Nat}{b:Int}(h0:(↑(a + c) : Int) ≤ b ∧ b < (↑(a + c) : Int) + (↑d : Int)):(↑a : Int) ≤ b ∧ b < (↑a : Int) + (↑(c + d) : Int):=by lia
theorem Qai{a b:Nat}(h0:a = b + 1):0 < a:=by lia
theorem Qaj{a:Int}{b c d:Nat}(h0:(↑c : Int) ≤ a ∧ a < (↑c : Int) + (↑d : Int))(h1:b = c + d):0 ≤ a ∧ a < (↑b : Int):=by lia
theorem Qak{a:Nat}(h0:a ≤ 62):((↑a : Int) + 1).toNat ≤ 100000:=by lia
theorem Qal{a:Int}{b c:Nat}(h0:(↑c : Int) ≤ a ∧ a ≤ (↑b : Int)):0 ≤ a ∧ a ≤ (↑b : Int):=by lia
theorem Qam{a b:Nat}(h0:a ≤ b):(↑a : Int) - (↑b : Int) ≤ 0:=by lia
theorem Qan{a b:Nat}(h0:a + 3 * (b + 1) + 5 < Zn):a + 1 + 3 * b + 5 < Zn:=by lia
theorem Qao{a b c:Nat}:min (a - b) (c - b) ≤ c:=by lia
theorem Qap{a:Int}{b:Nat}(h0:a < 0):max 0 (min (a + (↑b : Int)) (↑b : Int)) = (↑(a + (↑b : Int)).toNat : Int):=by lia
theorem Qaq{a:Int}{b:Nat}:max 0 (min a (↑b : Int)) = (↑(min a.toNat b) : Int):=by lia
theorem Qar{a b c d:Nat}(h0:c + d ≤ dL)(h1:c = a)(h2:d = b):a + b ≤ dL:=by lia
theorem Qas{a:Int}{b:Nat}(h0:b = 12):min a.toNat b ≤ 12:=by lia
theorem Qat{a b c:Nat}(h0:b ≤ dL)(h1:c < b)(h2:min c b = a):a < dL:=by lia
theorem Qau{a:Nat}{b:Int}(h0:b = (↑a : Int)):(↑a : Int) ≤ b ∧ b < (↑a : Int) + (↑(0 + 1) : Int):=by lia
theorem Qav{a:Int}{b:Nat}(h0:(↑1 : Int) ≤ a ∧ a < (↑1 : Int) + (↑b : Int)):1 ≤ a ∧ a ≤ (↑b : Int):=by lia
theorem Qaw{a:Nat}:0 ≤ (↑a : Int) + 1:=by lia
theorem Qax{a:Int}{b:Nat}(h0:0 ≤ a ∧ a ≤ (↑b : Int)):a.toNat < b + 1:=by lia
theorem Qay{a b:Nat}(h0:(↑1 : Int) ≤ (↑a : Int) + 1 ∧ (↑a : Int) + 1 < (↑1 : Int) + (↑b : Int)):1 ≤ (↑a : Int) + 1 ∧ (↑a : Int) + 1 ≤ (↑b : Int):=by lia
theorem Qaz{a b c d:Nat}(h0:b + c ≤ d):a + b + c ≤ a + d:=by lia
theorem QaA{a:Int}{b:Nat}(h0:1 ≤ a ∧ a ≤ (↑b : Int)):(↑(a - 1).toNat : Int) + 1 = a:=by lia
theorem QaB{a d:Int}{b c:Nat}(h0:a = d + 1)(h1:c ≤ b)(h2:d ≤ (↑c : Int)):a ≤ (↑(b + 1) : Int):=by lia
theorem QaC{a:Nat}:((↑a : Int) + 1 - 1).toNat = a:=by lia
theorem QaD{a:Int}{b:Nat}(h0:1 ≤ a)(h1:a ≤ (↑b : Int)):(a - 1).toNat < b:=by lia
theorem QaE{a b:Int}(h0:a < b):a < (↑b.toNat : Int):=by lia
theorem QaF{a b c d:Nat}(h0:a + c ≤ 200)(h1:c = b + d):a + b ≤ 200:=by lia
theorem QaG{a b c d e:Nat}(h0:a = c + e)(h1:c + d ≤ 200)(h2:d = e + b):a + b ≤ 200:=by lia
theorem QaH{a:Int}{b:Nat}(h0:a ≤ (↑b : Int)):a.toNat ≤ b:=by lia
theorem QaI{a b c:Nat}(h0:a < c)(h1:b ≤ 62)(h2:c ≤ b + 1):a + 1 ≤ 63:=by lia
theorem QaJ{a b:Nat}(h0:a ≤ b + 1)(h1:b ≤ 62):a ≤ 63:=by lia
theorem QaK{a b c:Nat}(h0:c ≤ a ∧ a ≤ b):0 ≤ (↑a : Int) ∧ (↑a : Int) ≤ (↑b : Int):=by lia
theorem QaL{a b c d:Nat}(h0:c = d)(h1:d = a + 1):a + 1 ≤ b + ((↑c : Int) - 1 - -1).toNat:=by lia
theorem QaM{a b c:Nat}(h0:b = c)(h1:c ≤ 100):min a b ≤ 100000:=by lia
namespace L2
open PySem PySem.Spec PyProof.Rows
abbrev Key:=Sum Int Str
def zH:Key->bv->Bool
 | .inl k,v=>Value.isInt k v
 | .inr x,v=>Value.isStrOf x v
def Ċ (w:io):Key->Int
 | .inl k=>hashInt k
 | .inr x=>hashStr w x
theorem iF:∀{k:Key} {v:bv},zH k v=true->(∃i t,k=Sum.inl i/\v=Value.int i t)\/(∃x t,k=Sum.inr x/\v=Value.str x t)
 | .inl i,v,h=>by
  obtain⟨t,e⟩:=Value.isInt_shape (k:=i) (v:=v) h;exact .inl ⟨i,t,rfl,e⟩
 | .inr x,v,h=>by
  obtain⟨t,e⟩:=Value.isStrOf_shape (x:=x) (v:=v) h;exact .inr ⟨x,t,rfl,e⟩
theorem La (i:Int) (t:Tok):zH (.inl i) (.int i t)=true:=by simp [zH,Value.isInt]
theorem K' (x:Str) (t:Tok):zH (.inr x) (.str x t)=true:=by simp [zH,Value.isStrOf]
theorem Ua (a b:Int):decide ((Sum.inl a:Key)=Sum.inl b)=(a==b):=by
 by_cases e:a=b
 .subst e;simp
 .have h:¬(Sum.inl a:Key)=Sum.inl b:=λ q=>e (Sum.inl.inj q);rw [decide_eq_false h];exact(beq_eq_false_iff_ne.mpr e).symm
theorem T9 (a b:Str):decide ((Sum.inr a:Key)=Sum.inr b)=decide (a=b):=by
 by_cases e:a=b
 .subst e;simp
 .have h:¬(Sum.inr a:Key)=Sum.inr b:=λ q=>e (Sum.inr.inj q);rw [decide_eq_false h,decide_eq_false e]
theorem T' (a:Int) (b:Str):decide ((Sum.inl a:Key)=Sum.inr b)=false:=decide_eq_false (λ q=>nomatch q)
theorem T_ (a:Str) (b:Int):decide ((Sum.inr a:Key)=Sum.inl b)=false:=decide_eq_false (λ q=>nomatch q)
def gL (prog:im) (w:io):PySem.KeyKind prog w Key where
 is:=zH
 hash:=Ċ w
 inj:=λ v a b ha hb=>by
  rcases iF ha with ⟨i,t,rfl,rfl⟩ | ⟨x,t,rfl,rfl⟩
  .rcases iF hb with ⟨j,u,rfl,e⟩ | ⟨y,u,rfl,e⟩
   .injection e with e1 _;rw [e1]
   .exact nomatch e
  .rcases iF hb with ⟨j,u,rfl,e⟩ | ⟨y,u,rfl,e⟩
   .exact nomatch e
   .injection e with e1 _;rw [e1]
 byValue:=λ k v h=>by
  rcases iF h with ⟨i,t,rfl,rfl⟩ | ⟨x,t,rfl,rfl⟩<;>rfl
 pyHash:=λ hv h=>by
  rcases iF hv with ⟨i,t,rfl,rfl⟩ | ⟨x,t,rfl,rfl⟩
  .exact wpAny_pyHash_int h
  .exact wpAny_pyHash_str h
 eqBool:=λ hu hv h=>by
  rcases iF hu with ⟨i,t,rfl,rfl⟩ | ⟨x,t,rfl,rfl⟩
  .rcases iF hv with ⟨j,u,rfl,rfl⟩ | ⟨y,u,rfl,rfl⟩
   .rw [Ua] at h;exact wpAny_eqBool_int h
   .rw [T'] at h;exact SeqAt.EqAt.int_str i t y u _ _ _ _ h
  .rcases iF hv with ⟨j,u,rfl,rfl⟩ | ⟨y,u,rfl,rfl⟩
   .rw [T_] at h;exact SeqAt.EqAt.str_int x t j u _ _ _ _ h
   .rw [T9] at h;exact wpAny_eqBool_str h
 «strs» := λ k x t v h=>by
  rcases iF h with ⟨i,u,rfl,e⟩ | ⟨y,u,rfl,e⟩
  .exact nomatch e
  .injection e with e1 _
   subst e1
   cases v<;>rfl
theorem Fs (prog:im) (w:io) (i:Int) (t:Tok):(gL prog w).is (.inl i) (.int i t)=true:=La i t
theorem Fq (prog:im) (w:io) (x:Str) (t:Tok):(gL prog w).is (.inr x) (.str x t)=true:=K' x t
inductive V where
 | i6|bl (b:Bool)|int (i:Int)|str (x:Str)|JZ (b:Array UInt8)|UL (b:UInt64)|ref (a:ac)|ty (n:String)
 deriving DecidableEq
def RelV:V->bv->Prop
 | .i6,u=>u=Value.none
 | .bl b,u=>u=Value.bool b
 | .int i,u=>∃t,u=Value.int i t
 | .str x,u=>∃t,u=Value.str x t
 | .JZ b,u=>∃t,u=Value.bytes b t
 | .UL b,u=>∃t,u=Value.float b t
 | .ref a,u=>u=Value.ref a
 | .ty n,u=>u=Value.type n
abbrev Vals:List V->List bv->Prop:=Paired RelV
theorem Vals.length (r:Vals xs us):xs.length=us.length:=Paired.length r
theorem Vals.get:∀{xs:List V} {us:List bv} {i:Nat} {x:V},Vals xs us->xs[i]? = some x->∃u,us[i]? = some u/\RelV x u
 | _,_,_,_,.nil,e=>by simp at e
 | _,_,0,_,.cons r _,e=>by simp at e;subst e;exact⟨_,rfl,r⟩
 | _,_,i+1,x,.cons _ t,e=>by
  obtain⟨u,h1,h2⟩:=Vals.get (i:=i) (x:=x) t (by simpa using e);exact⟨u,by simpa using h1,h2⟩
theorem Vals.set (r:RelV x u):∀{xs:List V} {us:List bv} (i:Nat),Vals xs us->Vals (xs.set i x) (us.set i u)
 | _,_,_,.nil=>.nil
 | _,_,0,.cons _ t=>.cons r t
 | _,_,i+1,.cons q t=>.cons q (Vals.set r i t)
theorem Vals.append:∀{xs ys:List V} {us ws:List bv},Vals xs us->Vals ys ws->Vals (xs++ys) (us++ws)
 | _,_,_,_,.nil,s=>s
 | _,_,_,_,.cons r t,s=>.cons r (Vals.append t s)
theorem Vals.take:∀{xs:List V} {us:List bv} (n:Nat),Vals xs us->Vals (xs.take n) (us.take n)
 | _,_,0,_=>.nil
 | _,_,_+1,.nil=>.nil
 | _,_,n+1,.cons r t=>.cons r (Vals.take n t)
theorem Vals.drop:∀{xs:List V} {us:List bv} (n:Nat),Vals xs us->Vals (xs.drop n) (us.drop n)
 | _,_,0,r=>r
 | _,_,_+1,.nil=>.nil
 | _,_,n+1,.cons _ t=>Vals.drop n t
def pO:Option V->Option bv->Prop
 | some v,some u=>RelV v u
 | none,none=>True
 | _,_=>False
def KV {κ:Type}:List (κ×V)->List (κ×bv)->Prop:=Paired λ (p:κ×V) (q:κ×bv)=>p.1=q.1/\RelV p.2 q.2
def kV:Key->V
 | .inl i=>.int i
 | .inr x=>.str x
inductive HO where
  | lst (xs:List V)
  | tup (xs:List V)
  | dK (kvs:List (Key×V))|dT (kvs:List (List Key×V))
  | set (S:Int->Bool) (n:Nat)
  | ins (C dx:ac) (fs:List (Str×V))
  | own (x:ac)
  | xd (fs:List (Str×V))
  | met (f x:ac)
  | xS (lo hi:Int)
  | sW (o:Obj) (u:HO)
  | Ms (ps:Array bv)
  | ext (φ:Heap->Prop)
abbrev Hp:=ac->Option HO
def upd (H:Hp) (a:ac) (o:HO):Hp:=λ b=>if b=a then some o else H b
theorem e_:upd H a o a=some o:=by unfold upd;rw [if_pos rfl]
theorem fo (h:b≠a):upd H a o b=H b:=by unfold upd;rw [if_neg h]
theorem gA {H:Hp} {a b:ac} {o u:HO} (h:H a=some o) (h':H b=some u) (d:o≠u):a≠b:=by
 intro e;subst e;rw [h] at h';exact d (Option.some.inj h')
theorem fA {H:Hp} {a b:ac} {o:HO} (h:H a=some o) (h':H b=none):a≠b:=by
 intro e;subst e;rw [h] at h';cases h'
section
variable (P:im) (w:io)
def iz (H:Hp) (h:Heap) (a:ac):HO->Prop
 | .lst xs=>xs.length<=dL/\∃(its:List bv) (n:Nat),Vals xs its/\h.get? a=some {cls:=.type "list",data:=.seq its.toArray n}
 | .tup xs=>xs.length<=dL/\∃its:List bv,Vals xs its/\IsTup h a its.toArray
 | .dK kvs=>kvs.length<=dL/\(a==wP)=false/\∃vs,KV kvs vs/\h.DictOf (gL P w) a vs
 | .dT kvs=>kvs.length<=dL/\(a==wP)=false/\∃xs:List (List Key×ac×bv),
   Paired (λ (p:List Key×V) (q:List Key×ac×bv)=>p.1=q.1/\H q.2.1=some (.tup (p.1.map kV))/\RelV p.2 q.2.2) kvs xs/\
   ∃o es ep,h.get? a=some o/\o.ExactDict/\o.data = .dict es ep/\es.toList=xs.map (entryOfKey (XV (gL P w)))/\(xs.map (·.1)).Nodup
 | .set S n=>h.SetOf (JaK P w) a S n
 | .ins C dx fs=>H dx=some (.own a)/\fs.length<=1000/\dx≠a/\h.get? a=some (b8 C dx)/\
   ∃mA,h.Ns1 dx mA/\(∀f,pO (fs.lookup f) (mA f))/\PySem.Within mA (fs.map (·.1))
 | .own _=>∃o,h.get? a=some o
 | .xd fs=>∃mA,h.Ns1 a mA/\∀f,pO (fs.lookup f) (mA f)
 | .xS lo hi=>∃t u v,h.get? a=some {cls:=.type "range",data:=.fields #[.int lo t,.int hi u,.int 1 v]}
 | .sW o u=>h.get? a=some o/\iz H h a u
 | .Ms ps=>h.get? a=some {cls:=.none,data:=.fields ps}
 | .met f x=>h.get? a=some (eE (.ref f) (.ref x))
 | .ext φ=>φ h/\(∃o,h.get? a=some o)/\∀h1 h2:Heap,φ h1->(∀o,h1.get? a=some o->h2.get? a=some o)->φ h2
def rC (H:Hp) (h:Heap):Prop:=∀a o,H a=some o->iz P w H h a o
end
section
variable {P:im} {w:io} {H H':Hp} {h h':Heap} {a:ac} {o:HO}
theorem iz.lt (x:iz P w H h a o):a<h.objs.size:=by
 cases o with
 | lst xs=>obtain⟨_,_,_,_,e⟩:=x;exact aH e
 | tup xs=>obtain⟨_,_,_,p⟩:=x;exact p.lt
 | dK kvs=>obtain⟨_,_,_,_,o,_,_,e,_⟩:=x;exact aH e
 | dT kvs=>obtain⟨_,_,_,_,o,_,_,e,_⟩:=x;exact aH e
 | set S n=>obtain⟨o,_,_,_,e,_⟩:=x;exact aH e
 | ins C dx fs=>obtain⟨_,_,_,e,_⟩:=x;exact aH e
 | own y=>obtain⟨_,e⟩:=x;exact aH e
 | xd fs=>obtain⟨_,⟨_,_,_,e,_⟩,_⟩:=x;exact aH e
 | xS lo hi=>obtain⟨_,_,_,e⟩:=x;exact aH e
 | sW ob u=>obtain⟨e,_⟩:=x;exact aH e
 | Ms ps=>exact aH (show h.get? a=some _ from x)
 | met f y=>exact aH (show h.get? a=some _ from x)
 | ext φ=>obtain⟨_,⟨_,e⟩,_⟩:=x;exact aH e
theorem Paired.TV {α β:Type} {F G:α->β->Prop}:∀{Τ:List α} {Ρ:List β},Paired F Τ Ρ->(∀a b,F a b->G a b)->Paired G Τ Ρ
 | _,_,.nil,_=>.nil
 | _,_,.cons r t,f=>.cons (f _ _ r) (Paired.TV t f)
theorem iz.sy (x:iz P w H h a o) (k:∀b u,(b=a\/H b=some (.own a))->h.get? b=some u->h'.get? b=some u)
  (ho:∀b,H b=some (.own a)->H' b=some (.own a)) (ht:∀b xs,H b=some (.tup xs)->H' b=some (.tup xs)):iz P w H' h' a o:=by
 induction o with
 | lst xs=>obtain⟨z,its,n,r,e⟩:=x;exact⟨z,its,n,r,k _ _ (.inl rfl) e⟩
 | tup xs=>obtain⟨z,its,r,ob,e,c⟩:=x;exact⟨z,its,r,ob,k _ _ (.inl rfl) e,c⟩
 | dK kvs=>obtain⟨z,y,vs,r,ob,es,ep,e,c⟩:=x;exact⟨z,y,vs,r,ob,es,ep,k _ _ (.inl rfl) e,c⟩
 | dT kvs=>
  obtain⟨z,y,xs,r,ob,es,ep,e,c⟩:=x;exact⟨z,y,xs,Paired.TV r λ p q z=>⟨z.1,ht _ _ z.2.1,z.2.2⟩,ob,es,ep,k _ _ (.inl rfl) e,c⟩
 | set S n=>obtain⟨ob,es,ep,t,e,c⟩:=x;exact⟨ob,es,ep,t,k _ _ (.inl rfl) e,c⟩
 | ins C dx fs=>
  obtain⟨d,z,ne,e,mA,⟨od,es,ep,e2,c⟩,r⟩:=x;exact⟨ho _ d,z,ne,k _ _ (.inl rfl) e,mA,⟨od,es,ep,k _ _ (.inr d) e2,c⟩,r⟩
 | own y=>obtain⟨ob,e⟩:=x;exact⟨ob,k _ _ (.inl rfl) e⟩
 | xd fs=>obtain⟨mA,⟨od,es,ep,e,c⟩,r⟩:=x;exact⟨mA,⟨od,es,ep,k _ _ (.inl rfl) e,c⟩,r⟩
 | xS lo hi=>obtain⟨t,u,v,e⟩:=x;exact⟨t,u,v,k _ _ (.inl rfl) e⟩
 | sW ob u ih=>obtain⟨e,q⟩:=x;exact⟨k _ _ (.inl rfl) e,ih q⟩
 | Ms ps=>
  have e:h.get? a=some {cls:=.none,data:=.fields ps}:=x;show h'.get? a=some {cls:=.none,data:=.fields ps};exact k a _ (.inl rfl) e
 | met f y=>
  have e:h.get? a=some (eE (.ref f) (.ref y)):=x;show h'.get? a=some (eE (.ref f) (.ref y));exact k a _ (.inl rfl) e
 | ext φ=>obtain⟨p,⟨o,e⟩,st⟩:=x;exact⟨st _ _ p λ o q=>k _ _ (.inl rfl) q,⟨o,k _ _ (.inl rfl) e⟩,st⟩
theorem rC.lt (x:rC P w H h) (e:H a=some o):a<h.objs.size:=(x a o e).lt
theorem rC.fresh (x:rC P w H h) (e:h.objs.size<=a):H a=none:=by
 cases q:H a with
 | none=>rfl
 | some u=>exact absurd (aF (x.lt q) e) (bT _)
theorem rC.kept (x:rC P w H h) (k:∀b u,h.get? b=some u->h'.get? b=some u):rC P w H h':=λ a o e=>
 (x a o e).sy (λ b u _ q=>k b u q) (λ _ q=>q) λ _ _ q=>q
theorem rC.laid (x:rC P w H h) (k:∀b u,h.get? b=some u->h'.get? b=some u) (hp:h.objs.size<=a) (new:iz P w (upd H a o) h' a o):rC P w (upd H a o) h':=λ b u e=>by
 have hn:=x.fresh hp;by_cases hb:b=a
 .subst hb;rw [e_] at e;cases e;exact new
 .rw [fo hb] at e;exact(x b u e).sy (λ c v _ q=>k c v q) (λ c q=>by rwa [fo (fA q hn)]) λ c xs q=>by rwa [fo (fA q hn)]
end
def Rd (H:Hp) (a:ac) (u:HO):Prop:=H a=some u\/∃o,H a=some (.sW o u)
theorem Rd.ok (r:Rd H a u) (x:rC P w H h):iz P w H h a u:=by
 rcases r with r | ⟨o,r⟩
 .exact x a u r
 .obtain⟨_,q⟩:=x a _ r;exact q
def YK:Option HO->Prop
 | some (.lst _)=>True
 | some (.dK _)=>True
 | some (.dT _)=>True
 | some (.set _ _)=>True
 | some (.ins _ _ _)=>True
 | some (.ext _)=>True
 | _=>False
section
variable {P:im} {w:io} {H:Hp} {h h':Heap} {x e:ac} {o':HO}
theorem rC.write (ok:rC P w H h) (mu:YK (H x)) (he:e=x\/H e=some (.own x)) (k:∀b u,b≠e->h.get? b=some u->h'.get? b=some u) (VS:∃u,h'.get? e=some u)
  (new:iz P w (upd H x o') h' x o'):rC P w (upd H x o') h':=λ b u q=>by
 have WI:∀c y,H c=some (.own y)->c≠x:=λ c y r z=>by subst z;rw [r] at mu;exact mu
 have xZ:∀c xs,H c=some (.tup xs)->c≠x:=λ c xs r z=>by subst z;rw [r] at mu;exact mu
 by_cases hb:b=x
 .subst hb;rw [e_] at q;cases q;exact new
 .rw [fo hb] at q;by_cases Ll:b=e
  .have q':H b=some (.own x):=by
    rcases he with z|z
    .exact absurd (Ll.trans z) hb
    .rwa [Ll]
   rw [q] at q';cases q';obtain⟨v,hv⟩:=VS;exact⟨v,by rwa [Ll]⟩
  .refine(ok b u q).sy (λ c v hc r=>k c v ?_ r) (λ c r=>by rwa [fo (WI c b r)]) λ c xs r=>by rwa [fo (xZ c xs r)]
   rcases hc with rfl|hc
   .exact Ll
   .rintro rfl;rcases he with z|z
    .exact WI c b hc z
    .rw [hc] at z;cases z;exact hb rfl
end
structure Un (fs ex:List ac) (H H':Hp) (h h':Heap):Prop where
 keep:∀b o,h.get? b=some o->H b=none->b∉fs->b∉ex->h'.get? b=some o
 slot:∀b o,h.get? b=some o->H b=none->b∈fs->b∉ex->∃sl,h'.get? b=some {o with slots:=sl}
 free:∀b o,h.get? b=some o->H b=none->b∉ex->H' b=none
 there:∀b o,h.get? b=some o->b∉ex->∃o',h'.get? b=some o'
 iM:∀b xs,H b=some (.tup xs)->H' b=some (.tup xs)
 oG:∀b o u,H b=some (.sW o u)->H' b=some (.sW o u)
 qr:∀b ps,H b=some (.Ms ps)->∃more,H' b=some (.Ms (ps++more))
section
variable {fs fs' ex ex':List ac} {H H1 H2:Hp} {h h1 h2 h':Heap} {a x e:ac} {o:HO}
theorem Un.any (u:Un fs ex H H1 h h1) (q:h.get? b=some ob) (n:H b=none) (hx:b∉ex):∃sl,h1.get? b=some {ob with slots:=sl}:=by
 by_cases hb:b∈fs
 .exact u.slot b ob q n hb hx
 .exact⟨ob.slots,u.keep b ob q n hb hx⟩
theorem Un.trans (a:Un fs ex H H1 h h1) (b:Un fs ex H1 H2 h1 h2):Un fs ex H H2 h h2 where
 keep:=λ c ob q n hc hx=>b.keep c ob (a.keep c ob q n hc hx) (a.free c ob q n hx) hc hx
 slot:=λ c ob q n hc hx=>by
  obtain⟨sl,e1⟩:=a.slot c ob q n hc hx;obtain⟨Wd,e2⟩:=b.slot c _ e1 (a.free c ob q n hx) hc hx;exact⟨Wd,e2⟩
 free:=λ c ob q n hx=>by
  obtain⟨o',e1⟩:=a.there c ob q hx;exact b.free c o' e1 (a.free c ob q n hx) hx
 there:=λ c ob q hx=>by
  obtain⟨o',e1⟩:=a.there c ob q hx;exact b.there c o' e1 hx
 iM:=λ c xs q=>b.iM c xs (a.iM c xs q)
 oG:=λ c ob xs q=>b.oG c ob xs (a.oG c ob xs q)
 qr:=λ c ps q=>by
  obtain⟨m1,e1⟩:=a.qr c ps q;obtain⟨m2,e2⟩:=b.qr c _ e1;exact⟨m1++m2,by rw [e2,eD]⟩
theorem Un.kept (k:∀b u,h.get? b=some u->h'.get? b=some u):Un fs ex H H h h':=
 ⟨λ b ob q _ _ _=>k b ob q,λ b ob q _ _ _=>⟨ob.slots,k b ob q⟩,λ _ _ _ n _=>n,λ b ob q _=>⟨ob,k b ob q⟩,λ _ _ q=>q,λ _ _ _ q=>q,λ _ ps q=>⟨#[],by rw [q];simp⟩⟩
theorem Un.refl:Un fs ex H H h h:=Un.kept λ _ _ q=>q
theorem Un.laid (k:∀b u,h.get? b=some u->h'.get? b=some u) (hp:h.objs.size<=a) (hn:H a=none):Un fs ex H (upd H a o) h h' where
 keep:=λ b u q _ _ _=>k b u q
 slot:=λ b u q _ _ _=>⟨u.slots,k b u q⟩
 free:=λ b u q n _=>by rwa [fo (aO (aF (aH q) hp))]
 there:=λ b u q _=>⟨u,k b u q⟩
 iM:=λ b xs q=>by rwa [fo (fA q hn)]
 oG:=λ b u xs q=>by rwa [fo (fA q hn)]
 qr:=λ b ps q=>⟨#[],by rw [fo (fA q hn),q];simp⟩
theorem Un.write (mu:YK (H x)) (he:e=x\/H e=some (.own x)) (k:∀b u,b≠e->h.get? b=some u->h'.get? b=some u) (VS:∃u,h'.get? e=some u):Un fs ex H (upd H x o) h h':=by
 have hx:∀b,H b=none->b≠x:=λ b n z=>by subst z;rw [n] at mu;exact mu
 have hb:∀b,H b=none->b≠e:=λ b n z=>by
  subst z;rcases he with r|r
  .exact hx b n r
  .rw [n] at r;cases r
 have hm:∀b u,H b=some u->¬YK (some u)->b≠x:=λ b u q nm z=>by subst z;rw [q] at mu;exact nm mu
 refine⟨λ b u q n _ _=>k b u (hb b n) q,λ b u q n _ _=>⟨u.slots,k b u (hb b n) q⟩,λ b u q n _=>by rwa [fo (hx b n)],λ b u q _=> ?_,
  λ b xs q=>by rwa [fo (hm b _ q λ z=>z)],λ b u xs q=>by rwa [fo (hm b _ q λ z=>z)],λ b ps q=>⟨#[],by rw [fo (hm b _ q λ z=>z),q];simp⟩⟩
 by_cases Ll:b=e
 .subst Ll;exact VS
 .exact⟨u,k b u Ll q⟩
end
def Pd (h:Heap) (H:Hp):List ac:=(List.range h.objs.size).filter λ a=>(H a).isSome
def DP (h:Heap) (H:Hp):Heap:=eV h (Pd h H)
theorem Lj (h:Heap) (H:Hp):(DP h H).objs.size=h.objs.size:=PySem.W.hideAll_size _ _
theorem Ob (e:h.get? b=some o) (n:H b=none):(DP h H).get? b=some o:=
 dc _ e λ hm=>by
  have q:(H b).isSome=true:=(bF.mp hm).2;rw [n] at q;simp at q
theorem QF (e:(DP h H).get? b=some o):h.get? b=some o/\H b=none:=by
 have e':h.get? b=some o:=PySem.W.of_hideAll (Pd h H) e;refine⟨e',?_⟩
 cases q:H b with
 | none=>rfl
 | some x=>
  have hm:b∈Pd h H:=bF.mpr ⟨aV.mpr (aH e'),by simp [q]⟩;have z:(DP h H).get? b=none:=PySem.W.hideAll_none (Pd h H) hm;rw [z] at e;cases e
def Rx (g h:Heap) (L:ac):List (ac×Obj):=(List.range h.objs.size).filterMap λ a=>if a=L\/(g.get? a).isSome=true then none else (h.get? a).map λ o=>(a,o)
def rest (g h:Heap) (L d:ac):List (ac×Obj):=(Rx g h L).filter λ p=>decide (p.1≠d)
structure Mod (K:ai) (mg:Str->Option bv) (base:Heap):Prop where
 R0:K.In base
 glob:base.Ns ii mg
 blt:∃mb,base.Ns Ja7 mb/\∀x:Str,x≠"__name__"->mb x=xL x
 nolimit:base.NoLimit
structure Cx where
 prog:im
 w:io
 K:ai
 mg:Str->Option bv
 base:Heap
 A:pi
 N:List Str
 iY:ci
 jR:Hp
 env:Env
 outer:List Env
 stack:List Env
 ex:List ac
 fn:Str->Bool
 calm:Bool
 pn:List (ac×Obj)
 xe:bv->ci->Prop
def qS (l:List Env):List ac:=l.filterMap (·.frame)
abbrev Cx.fs (X:Cx):List ac:=qS X.outer
def Ì (sc:FS) (x:Str):Prop:=sc.names.lookup x=some .local\/sc.names.lookup x=some .cell\/sc.names.lookup x=some .free
def Loc (sc:FS) (x:Str):Prop:=sc.names.lookup x=some .local\/sc.names.lookup x=some .cell
def Look (env:Env) (h:Heap) (m:Str->Option bv) (x:Str) (u:bv):Prop:=
 (env.kindOf x=some .local/\m x=some u)\/((env.kindOf x=some .cell\/env.kindOf x=some .free)/\∃c,env.cells.lookup x=some c/\h.IsCell c (some u))
structure Cx.Ok (X:Cx):Prop where
 mod:Mod X.K X.mg X.base
 kind:X.env.scope.kind = .function
 glob:X.env.globals=ii
 blt:X.env.builtins=Ja7
 above:X.iY.heap.objs.size<=X.env.locals
 inj:∀x y c,X.env.cells.lookup x=some c->X.env.cells.lookup y=some c->x=y
 has:∀x,(X.env.kindOf x=some .cell\/X.env.kindOf x=some .free)->∃c,X.env.cells.lookup x=some c
 VY:∀x c,X.fn x=true->X.env.cells.lookup x=some c->X.iY.heap.objs.size<=c
 hd:X.calm=true->X.A.handled=none
 frames:X.A.frames=some X.stack
 Wc:X.stack=X.outer\/(X.stack=X.env::X.outer/\X.env.frame=some X.env.locals)
 UP:∀b∈X.ex,b≠X.env.locals/\∀x c,X.env.cells.lookup x=some c->c≠b
 bs:∀b o,X.base.get? b=some o->X.iY.heap.get? b=some o/\X.jR b=none
 L6:X.base.objs.size<=X.iY.heap.objs.size
 tY:∀b o,X.base.get? b=some o->b∉X.ex
 Ib:∀b∈X.ex,b∉X.fs
 wz:X.iY.heap.FunFrames X.base X.outer
 Se:∀b∈X.fs,X.jR b=none
structure Inv (X:Cx) (pins:List (ac×Obj)) (σ:List (Option V)) (H:Hp) (s:ci):Prop where
 ok:X.Ok
 os:s.os=X.iY.os
 bare:WF s.gens
 base:Un X.fs X.ex X.jR H X.iY.heap s.heap
 loc:∃m,s.heap.Ns X.env.locals m/\∀(i:Nat) (x:Str) (v:V),X.N[i]? = some x->σ[i]? = some (some v)->Ì X.env.scope x->∃u,RelV v u/\Look X.env s.heap m x u
 cell:∀x c,X.env.cells.lookup x=some c->∃v,s.heap.IsCell c v
 free:H X.env.locals=none
 lA:∀x c,X.env.cells.lookup x=some c->H c=none
 pin:∀p∈X.pn++pins,s.heap.get? p.1=some p.2/\H p.1=none/\p.1≠X.env.locals/\p.1∉X.fs/\∀v,p.2.data≠.cell v
 gG:rC X.prog X.w H s.heap
 len:σ.length=X.N.length
section
variable {X:Cx} {pins:List (ac×Obj)} {σ:List (Option V)} {H H':Hp} {s:ci} {h':Heap}
theorem Cx.Ok.ñ (ok:X.Ok) (e:X.base.get? b=some o):b∉X.fs:=λ hb=>by
 have:=(ok.wz.mem hb).1;rw [e] at this;cases this
theorem Inv.bs (I:Inv X pins σ H s):∀b o,X.base.get? b=some o->s.heap.get? b=some o/\H b=none:=λ b o e=>
 ⟨I.base.keep b o (I.ok.bs b o e).1 (I.ok.bs b o e).2 (I.ok.ñ e) (I.ok.tY b o e),I.base.free b o (I.ok.bs b o e).1 (I.ok.bs b o e).2 (I.ok.tY b o e)⟩
theorem Inv.bk (I:Inv X pins σ H s):∀b o,X.base.get? b=some o->s.heap.get? b=some o:=λ b o e=>(I.bs b o e).1
theorem Inv.mod (I:Inv X pins σ H s):Mod X.K X.mg X.base:=I.ok.mod
theorem Inv.vp (I:Inv X pins σ H s):X.K.In s.heap:=I.ok.mod.R0.keeps I.bk
theorem Inv.lt (I:Inv X pins σ H s):X.env.locals<s.heap.objs.size:=let ⟨_,hn,_⟩:=I.loc;hn.lt
theorem Inv.sz (I:Inv X pins σ H s):X.iY.heap.objs.size<=s.heap.objs.size:=bj I.ok.above (dH I.lt)
theorem Inv.ð (I:Inv X pins σ H s) (h:s.heap.objs.size<=a):a∉X.fs:=λ hb=>by
 obtain⟨_,o,ho,_⟩:=I.ok.wz.mem hb;exact absurd (aF (aH ho) (bj I.sz h)) (bT _)
theorem Inv.U7 (I:Inv X pins σ H s):∀x c,X.env.cells.lookup x=some c->c≠X.env.locals:=λ x c e z=>by
 obtain⟨v,o,ho,hd⟩:=I.cell x c e;obtain⟨m,⟨o',es,ep,Us,VT,_⟩,_⟩:=I.loc;rw [z,Us] at ho;cases ho;rw [VT] at hd;cases hd
theorem Inv.wz (I:Inv X pins σ H s):s.heap.FunFrames X.base X.outer:=by
 have all:∀(l:List Env),(∀b∈qS l,b∈X.fs)->X.iY.heap.FunFrames X.base l->s.heap.FunFrames X.base l:=by
  intro l
  induction l with
  | nil=>intro _ _;trivial
  | cons env r ih=>
   intro hs hl;obtain⟨hk,⟨L,o,hf,hn,ho,hd⟩,hr⟩:=hl;have hL:L∈X.fs:=hs L (by unfold qS;rw [df,hf];exact aY);obtain⟨sl,e⟩:=I.base.slot L o ho (I.ok.Se L hL) hL λ z=>I.ok.Ib L z hL;exact⟨hk,⟨L,_,hf,hn,e,hd⟩,ih (λ b hb=>hs b (by unfold qS;rw [df,hf];exact ay _ hb)) hr⟩
 exact all X.outer (λ _ hb=>hb) I.ok.wz
theorem Inv.stack (I:Inv X pins σ H s):s.heap.FunFrames X.base X.stack:=by
 rcases I.ok.Wc with e | ⟨e,hf⟩
 .rw [e];exact I.wz
 .rw [e];obtain⟨m,hn,_⟩:=I.loc;refine .cons (by rw [I.ok.kind];decide) hf hn ?_ I.wz;exact Heap.get?_none_of_le (bj I.ok.L6 I.ok.above)
theorem Inv.C_ (I:Inv X pins σ H s):∀b∈qS X.stack,b∈X.env.locals::X.fs:=λ b hb=>by
 rcases I.ok.Wc with e | ⟨e,hf⟩
 .rw [e] at hb;exact ay _ hb
 .rw [e] at hb;unfold qS at hb;rw [df,hf] at hb;exact hb
theorem Inv.yi (I:Inv X pins σ H s):∀b∈qS X.stack,H b=none:=λ b hb=>by
 rcases av.mp (I.C_ b hb) with e|hb
 .rw [e];exact I.free
 .obtain⟨_,o,ho,_⟩:=I.ok.wz.mem hb;exact I.base.free b o ho (I.ok.Se b hb) λ z=>I.ok.Ib b z hb
theorem Inv.step {g':Array Ja0} {t':Nat} {d':Drawn} {ch:List ac} (I:Inv X pins σ H s)
  (Px:∀b∈ch,(b∈X.ex\/X.iY.heap.objs.size<=b)/\b≠X.env.locals/\(∀x c,X.env.cells.lookup x=some c->c≠b)/\∀p∈X.pn++pins,p.1≠b)
  (keep:∀b o,b≠X.env.locals->b∉X.fs->b∉ch->s.heap.get? b=some o->H b=none->h'.get? b=some o)
  (slot:∀b o,b≠X.env.locals->b∈X.fs->b∉ch->s.heap.get? b=some o->H b=none->∃sl,h'.get? b=some {o with slots:=sl}) (free:∀b o,b∉ch->s.heap.get? b=some o->H b=none->H' b=none)
  (there:∀b o,b∉ch->s.heap.get? b=some o->∃o',h'.get? b=some o')
  (iM:∀b xs,H b=some (.tup xs)->H' b=some (.tup xs)) (oG:∀b o u,H b=some (.sW o u)->H' b=some (.sW o u)) (qr:∀b ps,H b=some (.Ms ps)->∃more,H' b=some (.Ms (ps++more)))
  (ns:∀m,s.heap.Ns X.env.locals m->h'.Ns X.env.locals m) (gG:rC X.prog X.w H' h') (hg:WF g') :
  Inv X pins σ H' {s with heap:=h',gens:=g',drawn:=d',toks:=t'}:=by
 have Ε:∀b o,X.iY.heap.get? b=some o->b≠X.env.locals:=λ b o e=>aO (aF (aH e) I.ok.above)
 have ZK:∀b o,X.iY.heap.get? b=some o->b∉X.ex->b∉ch:=λ b o e hx hb=>by
  rcases (Px b hb).1 with z|z
  .exact hx z
  .exact absurd (aF (aH e) z) (bT _)
 have cellK:∀x c,X.env.cells.lookup x=some c->∀v,s.heap.IsCell c v->h'.IsCell c v:=λ x c e v ⟨o,ho,hd⟩=>by
  have WT:c∉ch:=λ z=>(Px c z).2.2.1 x c e rfl;by_cases hc:c∈X.fs
  .obtain⟨sl,q⟩:=slot c o (I.U7 x c e) hc WT ho (I.lA x c e);exact⟨_,q,hd⟩
  .exact⟨o,keep c o (I.U7 x c e) hc WT ho (I.lA x c e),hd⟩
 refine⟨I.ok,I.os,hg,⟨λ b o e n hb hx=> ?_,λ b o e n hb hx=> ?_,λ b o e n hx=> ?_,λ b o e hx=> ?_,λ b xs e=>iM b xs (I.base.iM b xs e),λ b o xs e=>oG b o xs (I.base.oG b o xs e),λ b ps e=> ?_⟩,?_,λ x c e=> ?_,?_,λ x c e=> ?_,λ p hp=> ?_,gG,I.len⟩
 .exact keep b o (Ε b o e) hb (ZK b o e hx) (I.base.keep b o e n hb hx) (I.base.free b o e n hx)
 .obtain⟨sl,e1⟩:=I.base.slot b o e n hb hx;obtain⟨Wd,e2⟩:=slot b _ (Ε b o e) hb (ZK b o e hx) e1 (I.base.free b o e n hx);exact⟨Wd,e2⟩
 .obtain⟨o',e1⟩:=I.base.there b o e hx;exact free b o' (ZK b o e hx) e1 (I.base.free b o e n hx)
 .obtain⟨o',e1⟩:=I.base.there b o e hx;exact there b o' (ZK b o e hx) e1
 .obtain⟨m1,e1⟩:=I.base.qr b ps e;obtain⟨m2,e2⟩:=qr b _ e1;exact⟨m1++m2,by rw [e2,eD]⟩
 .obtain⟨m,hn,hl⟩:=I.loc;refine⟨m,ns m hn,λ i x v e1 e2 e3=> ?_⟩;obtain⟨u,r,l⟩:=hl i x v e1 e2 e3;refine⟨u,r,?_⟩;rcases l with l | ⟨k,c,e,z⟩
  .exact .inl l
  .exact .inr ⟨k,c,e,cellK x c e _ z⟩
 .obtain⟨v,z⟩:=I.cell x c e;exact⟨v,cellK x c e v z⟩
 .obtain⟨m,⟨o,_,_,ho,_⟩,_⟩:=I.loc;exact free _ o (λ z=>(Px _ z).2.1 rfl) ho I.free
 .obtain⟨v,o,ho,hd⟩:=I.cell x c e;exact free c o (λ z=>(Px c z).2.2.1 x c e rfl) ho (I.lA x c e)
 .obtain⟨e,n,ne,nf,d⟩:=I.pin p hp;have WT:p.1∉ch:=λ z=>(Px p.1 z).2.2.2 p hp rfl;exact⟨keep p.1 p.2 ne nf WT e n,free p.1 p.2 WT e n,ne,nf,d⟩
theorem Inv.un {t':Nat} (I:Inv X pins σ H s) (u:Un X.fs [] H H' s.heap h') (gG:rC X.prog X.w H' h'):Inv X pins σ H' {s with heap:=h',toks:=t'}:=by
 obtain⟨m,⟨o,es,ep,ho,r⟩,_⟩:=id I.loc;obtain⟨sl,hL⟩:=u.any ho I.free (by simp)
 exact I.step (g':=s.gens) (d':=s.drawn) (ch:= []) (λ _ z=>nomatch z) (λ b o _ hb _ e n=>u.keep b o e n hb (by simp)) (λ b o _ hb _ e n=>u.slot b o e n hb (by simp)) (λ b o _ e n=>u.free b o e n (by simp)) (λ b o _ e=>u.there b o e (by simp)) u.iM u.oG u.qr (λ m' hm=>by
  obtain⟨o',Gx,Ō,Us,r'⟩:=hm;rw [ho] at Us;cases Us;exact⟨_,Gx,Ō,hL,r'⟩) gG I.bare
theorem Inv.call {g':Array Ja0} {t':Nat} {d':Drawn} {ch:List ac} (I:Inv X pins σ H s) (u:Un (qS X.stack) ch H H' s.heap h') (gG:rC X.prog X.w H' h') (hg:WF g')
  (Px:∀b∈ch,(b∈X.ex\/X.iY.heap.objs.size<=b)/\b≠X.env.locals/\(∀x c,X.env.cells.lookup x=some c->c≠b)/\∀p∈X.pn++pins,p.1≠b) :
  Inv X pins σ H' {s with heap:=h',gens:=g',drawn:=d',toks:=t'}:=by
 obtain⟨m,⟨o,es,ep,ho,r⟩,_⟩:=id I.loc;obtain⟨sl,hL⟩:=u.any ho I.free λ z=>(Px _ z).2.1 rfl
 exact I.step (ch:=ch) Px (λ b o hL hb hc e n=>u.keep b o e n (λ z=>(av.mp (I.C_ b z)).elim hL hb) hc) (λ b o _ _ hc e n=>u.any e n hc) (λ b o hc e n=>u.free b o e n hc) (λ b o hc e=>u.there b o e hc) u.iM u.oG u.qr (λ m' hm=>by
  obtain⟨o',Gx,Ō,Us,r'⟩:=hm;rw [ho] at Us;cases Us;exact⟨_,Gx,Ō,hL,r'⟩) gG hg
theorem Inv.turned {t':Nat} {it:ac} (I:Inv X pins σ H s) (k:∀b o,b≠it->s.heap.get? b=some o->h'.get? b=some o) (hn:H it=none) (hL:it≠X.env.locals)
  (h1:it∈X.ex\/X.iY.heap.objs.size<=it) (h2:∀x c,X.env.cells.lookup x=some c->c≠it) (h3:∀p∈X.pn++pins,p.1≠it):Inv X pins σ H {s with heap:=h',toks:=t'}:=by
 have Β:∀b u,H b=some u->b≠it:=λ b u e z=>by rw [z,hn] at e;cases e
 refine I.step (g':=s.gens) (d':=s.drawn) (ch:= [it]) (λ b hb=> ?_) (λ b o _ _ hc e _=>k b o (λ z=>hc (by simp [z])) e) (λ b o _ _ hc e _=>⟨o.slots,k b o (λ z=>hc (by simp [z])) e⟩) (λ _ _ _ _ n=>n)
  (λ b o hc e=>⟨o,k b o (λ z=>hc (by simp [z])) e⟩) (λ _ _ e=>e) (λ _ _ _ e=>e) (λ b ps e=>⟨#[],by rw [e];simp⟩) (λ m hm=> ?_) (λ b u e=> ?_) I.bare
 .have e:b=it:=by simpa using hb
  subst e;exact⟨h1,hL,h2,h3⟩
 .obtain⟨o,es,ep,ho,r⟩:=hm;exact⟨o,es,ep,k _ o (Ne.symm hL) ho,r⟩
 .refine(I.gG b u e).sy (λ c v hc q=>k c v ?_ q) (λ _ q=>q) λ _ _ q=>q;rcases hc with z|z
  .rw [z];exact Β b u e
  .exact Β c _ z
theorem Inv.tok (I:Inv X pins σ H s) (t:Nat):Inv X pins σ H {s with toks:=t}:=I.un (h':=s.heap) (t':=t) Un.refl I.gG
theorem Inv.kept (I:Inv X pins σ H s) (k:∀b u,s.heap.get? b=some u->h'.get? b=some u):Inv X pins σ H {s with heap:=h',toks:=t'}:=I.un (Un.kept k) (I.gG.kept k)
theorem Inv.laid (I:Inv X pins σ H s) (k:∀b u,s.heap.get? b=some u->h'.get? b=some u) (hp:s.heap.objs.size<=a) (new:iz X.prog X.w (upd H a o) h' a o) :
  Inv X pins σ (upd H a o) {s with heap:=h',toks:=t'}:=I.un (Un.laid k hp (I.gG.fresh hp)) (I.gG.laid k hp new)
theorem Inv.write (I:Inv X pins σ H s) (mu:YK (H x)) (he:e=x\/H e=some (.own x)) (k:∀b u,b≠e->s.heap.get? b=some u->h'.get? b=some u) (VS:∃u,h'.get? e=some u)
  (new:iz X.prog X.w (upd H x o) h' x o):Inv X pins σ (upd H x o) {s with heap:=h',toks:=t'}:=I.un (Un.write mu he k VS) (I.gG.write mu he k VS new)
theorem Inv.weak (I:Inv X pins σ H s) (hl:fY.length=σ.length) (w:∀(i:Nat) v,fY[i]? = some (some v)->σ[i]? = some (some v)):Inv X pins fY H s:=
 ⟨I.ok,I.os,I.bare,I.base,let ⟨m,hn,hl'⟩:=I.loc;⟨m,hn,λ i x v e1 e2 e3=>hl' i x v e1 (w i v e2) e3⟩,I.cell,I.free,I.lA,I.pin,I.gG,hl.trans I.len⟩
theorem Inv.Jj (I:Inv X pins σ H s) (h:∀p∈Wr,s.heap.get? p.1=some p.2/\H p.1=none/\p.1≠X.env.locals/\p.1∉X.fs/\∀v,p.2.data≠.cell v):Inv X Wr σ H s:=
 ⟨I.ok,I.os,I.bare,I.base,I.loc,I.cell,I.free,I.lA,λ p hp=>(aA.mp hp).elim (λ z=>I.pin p (aN _ z)) (h p),I.gG,I.len⟩
theorem Fn {N:List Str} (hN:N.Nodup) {i j:Nat} {x:Str} (a:N[i]? = some x) (b:N[j]? = some x):i=j:=by
 obtain⟨h1,e1⟩:=ag.mp a;obtain⟨h2,e2⟩:=ag.mp b;exact(List.getElem_inj hN).mp (e1.trans e2.symm)
theorem vz {M:Model} {A:pi} {E:bv->ci->Prop} {i:Nat} {x:Str} {v:V} {u:bv} {Q:Unit->ci->Prop} (I:Inv X pins σ H s) (hN:X.N.Nodup) (hi:X.N[i]? = some x) (hx:Loc X.env.scope x) (r:RelV v u)
  (h:∀s',Inv X pins (σ.set i (some v)) H s'->(∃a,Heap.SameBut a s.heap s'.heap/\(a=X.env.locals\/X.env.cells.lookup x=some a))->Q () s') (hf:X.fn x=true\/X.env.scope.names.lookup x=some .local:=by first|exact .inl rfl|exact .inr rfl|assumption):gc M A (storeName X.env x u) Q E s:=by
 obtain⟨m,hn,hl⟩:=id I.loc;have Į:(X.env.scope.kind == .class||(X.env.scope.kind == .module&&X.env.locals != X.env.globals))=false:=by rw [I.ok.kind];rfl
 have hiσ:i<σ.length:=by rw [I.len];exact(ag.mp hi).1
 have U7:=I.U7
 have tracked:∀{a:ac} {h':Heap},(∃o,s.heap.get? a=some o/\H a=none)->Heap.SameBut a s.heap h'->rC X.prog X.w H h':=λ {a h'} ha hs b ob e=>by
  obtain⟨_,_,xh⟩:=ha;refine(I.gG b ob e).sy (λ c w' hc q=>(hs.2 c ?_).trans q) (λ _ q=>q) λ _ _ q=>q;rintro rfl;rcases hc with rfl|hc
  .rw [xh] at e;cases e
  .rw [xh] at hc;cases hc
 rcases hx with hk|hk
 .refine wpAny_storeName_local hk hn (λ h' Uu hs=> ?_) Į;obtain⟨oL,_,_,Ur,_⟩:=id hn;refine h _ ⟨I.ok,I.os,I.bare,⟨λ b o e n hb hx=> ?_,λ b o e n hb hx=> ?_,I.base.free,λ b o e hx=> ?_,I.base.iM,I.base.oG,I.base.qr⟩,⟨_,Uu,λ j y v' e1 e2 e3=> ?_⟩,λ y c e=> ?_,I.free,I.lA,λ p hp=> ?_,tracked ⟨oL,Ur,I.free⟩ hs,by simpa using I.len⟩ ⟨_,hs,.inl rfl⟩
  .exact(hs.2 b (aO (aF (aH e) I.ok.above))).trans (I.base.keep b o e n hb hx)
  .obtain⟨sl,e1⟩:=I.base.slot b o e n hb hx;exact⟨sl,(hs.2 b (aO (aF (aH e) I.ok.above))).trans e1⟩
  .obtain⟨o',e1⟩:=I.base.there b o e hx;exact⟨o',(hs.2 b (aO (aF (aH e) I.ok.above))).trans e1⟩
  .by_cases hj:j=i
   .subst hj;rw [hi] at e1;cases e1;rw [bO hiσ] at e2
    cases e2;exact⟨u,r,.inl ⟨hk,by simp⟩⟩
   .rw [cg (Ne.symm hj)] at e2;obtain⟨u',r',q⟩:=hl j y v' e1 e2 e3;refine⟨u',r',?_⟩;rcases q with ⟨k,e⟩ | ⟨k,c,e,z⟩
    .refine .inl ⟨k,?_⟩;have:y≠x:=λ e=>hj (Fn hN e1 (e▸hi));simp [this,e]
    .exact .inr ⟨k,c,e,z.sameBut hs (U7 y c e)⟩
  .obtain⟨w',z⟩:=I.cell y c e;exact⟨w',z.sameBut hs (U7 y c e)⟩
  .obtain⟨e,n,ne,nf,d⟩:=I.pin p hp;exact⟨(hs.2 p.1 ne).trans e,n,ne,nf,d⟩
 .have Ī:X.fn x=true:=by
   rcases hf with z|z
   .exact z
   .rw [z] at hk;cases hk
  obtain⟨c,hc⟩:=I.ok.has x (.inl hk);obtain⟨w',z⟩:=I.cell x c hc;refine wpAny_storeName_cell I.ok.kind hk hc z (λ h' hc' hs=> ?_);obtain⟨oc,ZV,aai⟩:=id z;refine h {s with heap:=h'} ⟨I.ok,I.os,I.bare,⟨λ b o e n hb hx=> ?_,λ b o e n hb hx=> ?_,I.base.free,λ b o e hx=> ?_,I.base.iM,I.base.oG,I.base.qr⟩,⟨m,hn.sameBut hs (Ne.symm (U7 x c hc)),λ j y v' e1 e2 e3=> ?_⟩,λ y c' e=> ?_,I.free,I.lA,λ p hp=> ?_,tracked ⟨oc,ZV,I.lA x c hc⟩ hs,by simpa using I.len⟩ ⟨c,hs,.inr hc⟩
  .exact(hs.2 b (aO (aF (aH e) (I.ok.VY x c Ī hc)))).trans (I.base.keep b o e n hb hx)
  .obtain⟨sl,e1⟩:=I.base.slot b o e n hb hx;exact⟨sl,(hs.2 b (aO (aF (aH e) (I.ok.VY x c Ī hc)))).trans e1⟩
  .obtain⟨o',e1⟩:=I.base.there b o e hx;exact⟨o',(hs.2 b (aO (aF (aH e) (I.ok.VY x c Ī hc)))).trans e1⟩
  .by_cases hj:j=i
   .subst hj;rw [hi] at e1;cases e1;rw [bO hiσ] at e2
    cases e2;exact⟨u,r,.inr ⟨.inl hk,c,hc,hc'⟩⟩
   .rw [cg (Ne.symm hj)] at e2;obtain⟨u',r',q⟩:=hl j y v' e1 e2 e3;refine⟨u',r',?_⟩;rcases q with q | ⟨k,c',e,z'⟩
    .exact .inl q
    .refine .inr ⟨k,c',e,z'.sameBut hs ?_⟩;rintro rfl;exact hj (Fn hN e1 (I.ok.inj _ _ _ e hc▸hi))
  .by_cases Z4:c'=c
   .subst Z4;exact⟨_,hc'⟩
   .obtain⟨w2,z2⟩:=I.cell y c' e;exact⟨w2,z2.sameBut hs Z4⟩
  .obtain⟨e,n,ne,nf,d⟩:=I.pin p hp;refine⟨(hs.2 p.1 ?_).trans e,n,ne,nf,d⟩;intro q;rw [q,ZV] at e;have q':oc=p.2:=Option.some.inj e;exact d w' (by rwa [<-q'])
theorem qx (I:Inv X pins σ H s) (hN:X.N.Nodup) (hi:X.N[i]? = some x) (hx:Loc X.env.scope x) (r:RelV v u)
  (h:∀s',Inv X pins (σ.set i (some v)) H s'->Q () s') (hf:X.fn x=true\/X.env.scope.names.lookup x=some .local:=by first|exact .inl rfl|exact .inr rfl|assumption):gc M A (storeName X.env x u) Q E s:=
 vz I hN hi hx r (λ s' I' _=>h s' I') hf
theorem Inv.OR (I:Inv X pins σ H s) (ho:s'.os=s.os) (u:Un (qS X.stack) ch H H' s.heap s'.heap) (gG:rC X.prog X.w H' s'.heap) (hg:WF s'.gens)
  (Px:∀b∈ch,(b∈X.ex\/X.iY.heap.objs.size<=b)/\b≠X.env.locals/\(∀x c,X.env.cells.lookup x=some c->c≠b)/\∀p∈X.pn++pins,p.1≠b):Inv X pins σ H' s':=by
 obtain⟨h',g',d',t',o'⟩:=s';have e:o'=s.os:=ho;subst e;exact I.call (g':=g') (t':=t') (d':=d') u gG hg Px
end
abbrev XK:=bv->Option ac->Hp->Prop
abbrev St:=List (Option V)
abbrev VK:=V->Hp->Prop
abbrev TE:=St->Hp->VK->Prop
abbrev TT:=St->Hp->(Bool->Hp->Prop)->Prop
abbrev TA:=St->Hp->(List V->Hp->Prop)->Prop
structure Ends where
 nx:St->Hp->Prop
 rt:VK
 bk:St->Hp->Prop:=λ _ _=>False
 ct:St->Hp->Prop:=λ _ _=>False
abbrev TS:=Ends->St->Hp->Prop
def EP (X:Cx) (pins:List (ac×Obj)) (σ:St) (Q:VK) (u:bv) (s':ci):Prop:=∃v H',Inv X pins σ H' s'/\RelV v u/\Q v H'
def TP (X:Cx) (pins:List (ac×Obj)) (σ:St) (Q:Bool->Hp->Prop) (b:Bool) (s':ci):Prop:=∃H',Inv X pins σ H' s'/\Q b H'
def AP (X:Cx) (pins:List (ac×Obj)) (σ:St) (Q:List V->Hp->Prop) (us:List bv) (s':ci):Prop:=∃vs H',Inv X pins σ H' s'/\Vals vs us/\Q vs H'
def SP (X:Cx) (pins:List (ac×Obj)) (D:Ends) (f:Flow) (s':ci):Prop:=
 match f with
 | .next=>∃fY H',Inv X pins fY H' s'/\D.nx fY H'
 | .brk=>∃fY H',Inv X pins fY H' s'/\D.bk fY H'
 | .cont=>∃fY H',Inv X pins fY H' s'/\D.ct fY H'
 | .ret u=>∃v fY H',Inv X pins fY H' s'/\RelV v u/\D.rt v H'
def PE (X:Cx) (e:li) (t:TE):Prop:=
 ∀(pins:List (ac×Obj)) (s:ci) (σ:St) (H:Hp) (Q:VK),Inv X pins σ H s->t σ H Q->gc (ga X.prog X.w) X.A (jp e X.env) (EP X pins σ Q) X.xe s
def PT (X:Cx) (e:li) (t:TT):Prop:=
 ∀(pins:List (ac×Obj)) (s:ci) (σ:St) (H:Hp) (Q:Bool->Hp->Prop),Inv X pins σ H s->t σ H Q->gc (ga X.prog X.w) X.A (Jal e X.env (jp e X.env)) (TP X pins σ Q) X.xe s
def PW (X:Cx) (e:li) (t:TT):Prop:=
 ∀(whole:Sem bv) (pins:List (ac×Obj)) (s:ci) (σ:St) (H:Hp) (Q:Bool->Hp->Prop),Inv X pins σ H s->t σ H Q->gc (ga X.prog X.w) X.A (Jal e X.env whole) (TP X pins σ Q) X.xe s
theorem PW.pt (h:PW X e t):PT X e t:=h _
def PA (X:Cx) (es:List li) (t:TA):Prop:=
 ∀(pos:Pos) (pins:List (ac×Obj)) (s:ci) (σ:St) (H:Hp) (Q:List V->Hp->Prop),Inv X pins σ H s->t σ H Q->gc (ga X.prog X.w) X.A (spliced (ul pos (db es X.env))) (AP X pins σ Q) X.xe s
def PS (X:Cx) (st:pc) (t:TS):Prop:=
 ∀(pins:List (ac×Obj)) (s:ci) (σ:St) (H:Hp) (D:Ends),Inv X pins σ H s->t D σ H->gc (ga X.prog X.w) X.A (exec st X.env) (SP X pins D) X.xe s
def wK (X:Cx) (st:List pc) (t:TS):Prop:=
 ∀(pins:List (ac×Obj)) (s:ci) (σ:St) (H:Hp) (D:Ends),Inv X pins σ H s->t D σ H->gc (ga X.prog X.w) X.A (execs st X.env) (SP X pins D) X.xe s
theorem gZ {α:Type} {t:Sem α} {Q Q':α->ci->Prop} (h:gc M A t Q E s) (hQ:∀a s,Q a s->Q' a s):gc M A t Q' E s:=re h hQ λ _ _ x=>x
section
variable {X:Cx}
def yD (i:Nat):TE:=λ σ H Q=>∃v,σ[i]? = some (some v)/\Q v H
def tC (v:V):TE:=λ _ H Q=>Q v H
theorem Te (hN:X.N[i]? = some x) (hv:Ì X.env.scope x) (hd:(x==("__debug__" : Str))=false:=by decide) (HS:(x==("__classdict__" : Str))=false:=by decide):PE X (.Name x pos) (yD i):=by
 intro pins s σ H Q I h;obtain⟨v,e,h⟩:=h;obtain⟨m,hn,hl⟩:=I.loc;obtain⟨u,r,l⟩:=hl i x v hN e hv;have fin:EP X pins σ Q u s:=⟨v,H,I,r,h⟩
 rcases l with ⟨hk,hm⟩ | ⟨hk,c,hc,Sb⟩
 .exact Ja3 (wpAny_loadName_local I.ok.kind hk hn hm fin) hd
 .rcases hk with hk|hk
  .exact Ja3 (wpAny_loadName_cell I.ok.kind hk hc Sb fin) hd
  .exact Ja3 (wpAny_loadName_free I.ok.kind hk hc Sb fin HS) hd
theorem Tp {i j pos}:PE X (.Constant (.int i) j pos) (tC (.int i)):=λ _ _ _ H _ I h=>wpAny_Constant_int ⟨.int i,H,I.tok _,⟨_,rfl⟩,h⟩
theorem Wz {b j pos}:PE X (.Constant (.bool b) j pos) (tC (.bl b)):=λ _ _ _ H _ I h=>Constant_bool ⟨.bl b,H,I,rfl,h⟩
theorem Ti {j pos}:PE X (.Constant .none j pos) (tC .i6):=λ _ _ _ H _ I h=>Constant_none ⟨.i6,H,I,rfl,h⟩
theorem M9 {x j pos}:PE X (.Constant (.str x) j pos) (tC (.str x)):=λ _ _ _ H _ I h=>Calls.Constant_str ⟨.str x,H,I.tok _,⟨_,rfl⟩,h⟩
def Gl (X:Cx) (x:Str):Prop:=X.env.kindOf x=some .globalImplicit
theorem rV (I:Inv X pins σ H s) (hg:Gl X x) (hm:X.mg x=some u) (h:Q u s)
  (hd:(x==("__debug__" : Str))=false:=by decide):gc (ga X.prog X.w) X.A (jp (.Name x pos) X.env) Q E s:=
 Calls.Name_function_global I.ok.kind hg (Calls.loadGlobal_global (by rw [I.ok.glob];exact I.mod.glob.keeps I.bk) hm h) hd
theorem lK (I:Inv X pins σ H s) (hg:Gl X x) (hm:X.mg x=none) (hv:xL x=some u) (h:Q u s)
  (hn:x≠"__name__" := by decide) (hd:(x==("__debug__" : Str))=false:=by decide):gc (ga X.prog X.w) X.A (jp (.Name x pos) X.env) Q E s:=by
 obtain⟨mb,h1,h2⟩:=I.mod.blt;exact Calls.Name_function_global I.ok.kind hg (Calls.loadGlobal_builtin (by rw [I.ok.glob];exact I.mod.glob.keeps I.bk) hm (by rw [I.ok.blt];exact h1.keeps I.bk) ((h2 x hn).trans hv) h) hd
theorem Qt (hg:Gl X x) (hm:X.mg x=some u) (r:RelV v u) (hd:(x==("__debug__" : Str))=false:=by decide):PE X (.Name x pos) (tC v):=
 λ _ _ _ H _ I h=>rV I hg hm ⟨v,H,I,r,h⟩ hd
theorem Qz (hg:Gl X x) (hm:X.mg x=none) (hv:xL x=some u) (r:RelV v u) (hn:x≠"__name__" := by decide) (hd:(x==("__debug__" : Str))=false:=by decide):PE X (.Name x pos) (tC v):=
 λ _ _ _ H _ I h=>lK I hg hm hv ⟨v,H,I,r,h⟩ hn hd
variable {a b:li} {ta tb:TE} {pos:Pos}
def PC (X:Cx) (op:CmpOp) (a b:li) (t:TE):Prop:=
 ∀(pins:List (ac×Obj)) (s:ci) (σ:St) (H:Hp) (Q:VK),Inv X pins σ H s->t σ H Q->
  gc (ga X.prog X.w) X.A (jp a X.env) (λ v j4=>gc (ga X.prog X.w) X.A (jp b X.env) (λ u jD=>gc (ga X.prog X.w) X.A (tz op v u) (EP X pins σ Q) X.xe jD) X.xe j4) X.xe s
def tB (t:TE):TT:=λ σ H Q=>t σ H λ x H1=>∃c,x = .bl c/\Q c H1
theorem Ts (h:PC X op a b t) (h1:wE op b=false:=by first|exact zw _ (by decide) (by decide)|rfl):PE X (.Compare a [op] [b] pos) t:=λ pins s σ H Q I hw=>wpAny_Compare1 (h pins s σ H Q I hw) h1
theorem S5 (h:PC X op a b t) (h1:wE op b=false:=by first|exact zw _ (by decide) (by decide)|rfl):PT X (.Compare a [op] [b] pos) (tB t):=by
 intro pins s σ H Q I hw;refine JaP (gZ (h pins s σ H _ I hw) λ v s1 h1=>gZ h1 λ u s2 h2=>gZ h2 λ c s3 zq=> ?_) h1;obtain⟨x,H1,I1,r1,q1⟩:=zq;obtain⟨d,rfl,q⟩:=q1
 cases r1;exact wn ⟨H1,I1,q⟩
theorem S3 (h:PE X e t) (he:∀whole,Jal e X.env whole=(do let v <-whole;IN e.pos;xz [v] (Ja4 v)):=by intro _;rfl):PT X e (tB t):=by
 intro pins s σ H Q I hw;refine isTrue_plain (gZ (h pins s σ H _ I hw) λ v s1 zq=> ?_) (he _);obtain⟨x,H1,I1,r1,q1⟩:=zq;obtain⟨d,rfl,q⟩:=q1
 cases r1;exact wn ⟨H1,I1,q⟩
variable {tA Pe:TT} {rest:List li}
def PZ (t u:TT):TT:=λ σ H Q=>t σ H λ c H1=>if c=true then u σ H1 Q else Q false H1
def Y0 (t u:TT):TT:=λ σ H Q=>t σ H λ c H1=>if c=true then Q true H1 else u σ H1 Q
def PU (t:TT):TT:=λ σ H Q=>t σ H λ c H1=>Q (!c) H1
theorem pw_and1 (ha:PT X a tA):PW X (.BoolOp .And [a] pos) tA:=by
 intro wh pins s σ H Q I h;refine isTrue_and (gZ (ha pins s σ H Q I h) λ c s1 e=> ?_)
 cases c with
 | true=>exact isTrue_and_nil e
 | false=>exact e
theorem pw_or1 (ha:PT X a tA):PW X (.BoolOp .Or [a] pos) tA:=by
 intro wh pins s σ H Q I h;refine isTrue_or (gZ (ha pins s σ H Q I h) λ c s1 e=> ?_)
 cases c with
 | false=>exact isTrue_or_nil e
 | true=>exact e
theorem pw_and (ha:PT X a tA) (hb:PW X (.BoolOp .And (b::rest) pos) Pe):PW X (.BoolOp .And (a::b::rest) pos) (PZ tA Pe):=by
 intro wh pins s σ H Q I h;refine isTrue_and (gZ (ha pins s σ H _ I h) λ c s1 zq=> ?_);obtain⟨H1,I1,q1⟩:=zq
 cases c with
 | true=>exact hb wh pins s1 σ H1 Q I1 q1
 | false=>exact⟨H1,I1,q1⟩
theorem pw_or (ha:PT X a tA) (hb:PW X (.BoolOp .Or (b::rest) pos) Pe):PW X (.BoolOp .Or (a::b::rest) pos) (Y0 tA Pe):=by
 intro wh pins s σ H Q I h;refine isTrue_or (gZ (ha pins s σ H _ I h) λ c s1 zq=> ?_);obtain⟨H1,I1,q1⟩:=zq
 cases c with
 | true=>exact⟨H1,I1,q1⟩
 | false=>exact hb wh pins s1 σ H1 Q I1 q1
theorem S4 (ha:PT X a tA):PT X (.UnaryOp .Not a pos) (PU tA):=by
 intro pins s σ H Q I h;exact isTrue_not (ha pins s σ H (λ c H1=>Q (!c) H1) I h)
def IX (ta tb:TE):TE:=λ σ H Q=>ta σ H λ x H1=>∃c,x = .bl c/\if c=true then tb σ H1 Q else Q (.bl false) H1
def PR (ta tb:TE):TE:=λ σ H Q=>ta σ H λ x H1=>∃c,x = .bl c/\if c=true then Q (.bl true) H1 else tb σ H1 Q
def IQ (ta:TE):TE:=λ σ H Q=>ta σ H λ x H1=>∃c,x = .bl c/\Q (.bl (!c)) H1
theorem Tg {op} (h:PE X a t):PE X (.BoolOp op [a] pos) t:=λ pins s σ H Q I hw=>BoolOp_one (h pins s σ H Q I hw)
theorem Tu (ha:PE X a ta) (hb:PE X (.BoolOp .And (b::rest) pos) tb):PE X (.BoolOp .And (a::b::rest) pos) (IX ta tb):=by
 intro pins s σ H Q I h;refine BoolOp_and (gZ (ha pins s σ H _ I h) λ v s1 zq=> ?_);obtain⟨x,H1,I1,r1,q1⟩:=zq;obtain⟨c,rfl,q1⟩:=q1
 cases r1;refine wn ?_
 cases c with
 | true=>exact hb pins s1 σ H1 Q I1 q1
 | false=>exact⟨.bl false,H1,I1,rfl,q1⟩
theorem Wu (ha:PE X a ta) (hb:PE X (.BoolOp .Or (b::rest) pos) tb):PE X (.BoolOp .Or (a::b::rest) pos) (PR ta tb):=by
 intro pins s σ H Q I h;refine BoolOp_or (gZ (ha pins s σ H _ I h) λ v s1 zq=> ?_);obtain⟨x,H1,I1,r1,q1⟩:=zq;obtain⟨c,rfl,q1⟩:=q1
 cases r1;refine wn ?_
 cases c with
 | false=>exact hb pins s1 σ H1 Q I1 q1
 | true=>exact⟨.bl true,H1,I1,rfl,q1⟩
theorem Th (ha:PE X a ta):PE X (.UnaryOp .Not a pos) (IQ ta):=by
 intro pins s σ H Q I h;refine UnaryOp_ (gZ (ha pins s σ H _ I h) λ v s1 zq=> ?_);obtain⟨x,H1,I1,r1,q1⟩:=zq;obtain⟨c,rfl,q1⟩:=q1
 cases r1;exact not_of (wn ⟨.bl (!c),H1,I1,rfl,q1⟩)
def Y1 (t:TT) (ta tb:TE):TE:=λ σ H Q=>t σ H λ c H1=>if c=true then ta σ H1 Q else tb σ H1 Q
theorem Nf (hc:PT X c tA) (ha:PE X a ta) (hb:PE X b tb):PE X (.IfExp c a b pos) (Y1 tA ta tb):=by
 intro pins s σ H Q I h;refine wpAny_IfExp (gZ (hc pins s σ H _ I h) λ d s1 zq=> ?_);obtain⟨H1,I1,q1⟩:=zq
 cases d with
 | true=>exact ha pins s1 σ H1 Q I1 q1
 | false=>exact hb pins s1 σ H1 Q I1 q1
end
def gg (K:ai) (H:Hp) (a:ac) (xs:List V):Prop:=
 Rd H a (.lst xs)\/
  ∃(o:Obj) (its:Array bv) (n:Nat),K.lookup a=some o/\o.cls = .type "list"/\o.dict=none/\o.data = .seq its n/\its.size<=dL/\Vals xs its.toList
def oV (K:ai) (H:Hp) (a:ac) (xs:List V):Prop:=
 Rd H a (.tup xs)\/
  ∃(o:Obj) (its:Array bv) (n:Nat),K.lookup a=some o/\o.cls = .type "tuple"/\o.data = .seq its n/\its.size<=dL/\Vals xs its.toList
def Š:bv->Option V
 | .none=>some .i6
 | .bool b=>some (.bl b)
 | .int i _=>some (.int i)
 | .str x _=>some (.str x)
 | .bytes b _=>some (.JZ b)
 | .float b _=>some (.UL b)
 | .ref a=>some (.ref a)
 | .type n=>some (.ty n)
 | _=>none
theorem RelV.abs (r:RelV x u):Š u=some x:=by
 cases x with
 | i6=>cases r;rfl
 | bl _=>cases r;rfl
 | int _=>obtain⟨t,rfl⟩:=r;rfl
 | str _=>obtain⟨t,rfl⟩:=r;rfl
 | JZ _=>obtain⟨t,rfl⟩:=r;rfl
 | UL _=>obtain⟨t,rfl⟩:=r;rfl
 | ref _=>cases r;rfl
 | ty _=>cases r;rfl
theorem RelV.inj (r:RelV x u) (q:RelV y u):x=y:=Option.some.inj (r.abs.symm.trans q.abs)
theorem Vals.inj:∀{xs ys:List V} {us:List bv},Vals xs us->Vals ys us->xs=ys
 | _,_,_,.nil,.nil=>rfl
 | _,_,_,.cons r t,.cons r' t'=>by rw [r.inj r',Vals.inj t t']
section
variable {X:Cx} {pins:List (ac×Obj)} {σ:St} {H:Hp} {s:ci} {a:ac} {xs ys:List V}
theorem gg.of {K:ai} (h:H a=some (.lst xs)):gg K H a xs:=.inl (.inl h)
theorem oV.of {K:ai} (h:H a=some (.tup xs)):oV K H a xs:=.inl (.inl h)
theorem Inv.list (I:Inv X pins σ H s) (h:gg X.K H a xs):∃its:List bv,Vals xs its/\PlainL s.heap a its.toArray/\xs.length<=dL:=by
 rcases h with h | ⟨o,its,n,hk,hc,hd,hs,hz,r⟩
 .obtain⟨z,its,n,r,e⟩:=h.ok I.gG;exact⟨its,r,⟨_,n,e,rfl,rfl,rfl⟩,z⟩
 .refine⟨its.toList,r,⟨o,n,I.vp a o hk,hc,hd,by simpa using hs⟩,?_⟩;have e:=r.length;simp only [bB] at e;exact Zc (Ze e) hz
theorem Inv.tuple (I:Inv X pins σ H s) (h:oV X.K H a xs):∃its:List bv,Vals xs its/\IsTup s.heap a its.toArray/\xs.length<=dL:=by
 rcases h with h | ⟨o,its,n,hk,hc,hs,hz,r⟩
 .obtain⟨z,its,r,p⟩:=h.ok I.gG;exact⟨its,r,p,z⟩
 .refine⟨its.toList,r,⟨o,I.vp a o hk,hc,n,by simpa using hs⟩,?_⟩;have e:=r.length;simp only [bB] at e;exact Zc (Ze e) hz
theorem Inv.NP (I:Inv X pins σ H s) (h:gg X.K H a xs) (h':gg X.K H a ys):xs=ys:=by
 obtain⟨its,r,⟨o,n,e,_,_,d⟩,_⟩:=I.list h;obtain⟨its',r',⟨o',n',e',_,_,d'⟩,_⟩:=I.list h';rw [e] at e';cases e';rw [d] at d';injection d' with d1 _
 have:its=its':=by simpa using congrArg Array.toList d1
 subst this;exact r.inj r'
theorem Inv.Kh (I:Inv X pins σ H s) (h:oV X.K H a xs) (h':oV X.K H a ys):xs=ys:=by
 obtain⟨its,r,⟨o,e,_,n,d⟩,_⟩:=I.tuple h;obtain⟨its',r',⟨o',e',_,n',d'⟩,_⟩:=I.tuple h';rw [e] at e';cases e';rw [d] at d';injection d' with d1 _
 have:its=its':=by simpa using congrArg Array.toList d1
 subst this;exact r.inj r'
end
abbrev Cx.sx (X:Cx) (E:bv->ci->Prop):Cx:= {X with xe:=E}
abbrev Cx.ZI (X:Cx):Cx:=X.sx λ _ _=>False
theorem Cx.Ok.sx {X:Cx} (ok:X.Ok) (E:bv->ci->Prop):(X.sx E).Ok:=
 ⟨ok.mod,ok.kind,ok.glob,ok.blt,ok.above,ok.inj,ok.has,ok.VY,ok.hd,ok.frames,ok.Wc,ok.UP,ok.bs,ok.L6,ok.tY,ok.Ib,ok.wz,ok.Se⟩
theorem Cx.Ok.nG {X:Cx} {E:bv->ci->Prop} (ok:(X.sx E).Ok):X.Ok:=
 ⟨ok.mod,ok.kind,ok.glob,ok.blt,ok.above,ok.inj,ok.has,ok.VY,ok.hd,ok.frames,ok.Wc,ok.UP,ok.bs,ok.L6,ok.tY,ok.Ib,ok.wz,ok.Se⟩
section
variable {X:Cx} {pins:List (ac×Obj)} {σ:St} {H:Hp} {s:ci} {E:bv->ci->Prop}
theorem Inv.sx (I:Inv X pins σ H s) (E:bv->ci->Prop):Inv (X.sx E) pins σ H s:=⟨I.ok.sx E,I.os,I.bare,I.base,I.loc,I.cell,I.free,I.lA,I.pin,I.gG,I.len⟩
theorem Inv.nG (I:Inv (X.sx E) pins σ H s):Inv X pins σ H s:=⟨I.ok.nG,I.os,I.bare,I.base,I.loc,I.cell,I.free,I.lA,I.pin,I.gG,I.len⟩
theorem SP.nG (h:SP (X.sx E) pins D f s'):SP X pins D f s':=by
 cases f with
 | next=>obtain⟨fY,H',I,q⟩:=h;exact⟨fY,H',I.nG,q⟩
 | brk=>obtain⟨fY,H',I,q⟩:=h;exact⟨fY,H',I.nG,q⟩
 | cont=>obtain⟨fY,H',I,q⟩:=h;exact⟨fY,H',I.nG,q⟩
 | ret u=>obtain⟨v,fY,H',I,r,q⟩:=h;exact⟨v,fY,H',I.nG,r,q⟩
theorem wK.ZI {st:List pc} {t:TS} (h:wK X.ZI st t):wK X st t:=λ pins s σ H D I hw=>
 re (h pins s σ H D (I.sx _) hw) (λ _ _ q=>q.nG) λ _ _ z=>False.elim z
end
section
variable {X:Cx} {st:pc} {rest:List pc} {t u:TS} {e:li} {te:TE} {pos:Pos}
def IS:TS:=λ D σ H=>D.nx σ H
def Mt (t u:TS):TS:=λ D σ H=>t {D with nx:=u D} σ H
theorem Qi:wK X [] IS:=λ _ _ σ H _ I h=>Ix ⟨σ,H,I,h⟩
theorem MZ (h1:PS X st t) (h2:wK X rest u):wK X (st::rest) (Mt t u):=by
 intro pins s σ H D I h;refine Jai (gZ (h1 pins s σ H {D with nx:=u D} I h) λ f s1 q=> ?_)
 cases f with
 | next=>
  obtain⟨fY,H',I',q⟩:=q;exact h2 pins s1 fY H' D I' q
 | ret v=>exact q
 | brk=>exact q
 | cont=>exact q
theorem Qh (h1:PS X st t):wK X [st] t:=by
 intro pins s σ H D I h;refine Jai (gZ (h1 pins s σ H D I h) λ f s1 q=> ?_)
 cases f with
 | next=>exact Ix q
 | ret v=>exact q
 | brk=>exact q
 | cont=>exact q
theorem Inv.quiet (I:Inv X pins σ H s):interactive X.env=false:=by simp [interactive,I.ok.kind]
def IV (te:TE):TS:=λ D σ H=>te σ H λ _ H1=>D.nx σ H1
theorem Ql (he:PE X e te) (hs:ww e none pos.line X.env=pure false:=by rfl):PS X (.Expr e pos) (IV te):=by
 intro pins s σ H D I h;exact wpAny_Expr_any (gZ (he pins s σ H _ I h) λ v s1 ⟨x,H1,I1,r1,q1⟩=>⟨σ,H1,I1,q1⟩) I.quiet hs
def PQ (te:TE):TS:=λ D σ H=>te σ H D.rt
theorem S7 (he:PE X e te):PS X (.Return (some e) pos) (PQ te):=by
 intro pins s σ H D I h;exact wpAny_Return_some (gZ (he pins s σ H _ I h) λ v s1 ⟨x,H1,I1,r1,q1⟩=>⟨x,σ,H1,I1,r1,q1⟩)
def Kp (c:TT) (t u:TS):TS:=λ D σ H=>c σ H λ b H1=>if b=true then t D σ H1 else u D σ H1
theorem Wq (hc:PT X c tc) (ha:wK X a t) (hb:wK X b u):PS X (.If c a b pos) (Kp tc t u):=by
 intro pins s σ H D I h;refine wpAny_If (gZ (hc pins s σ H _ I h) λ d s1 zq=> ?_);obtain⟨H1,I1,q1⟩:=zq
 cases d with
 | true=>exact ha pins s1 σ H1 D I1 q1
 | false=>exact hb pins s1 σ H1 D I1 q1
end
abbrev TG:=V->St->Hp->(St->Hp->Prop)->Prop
abbrev YH:=List V->St->Hp->(St->Hp->Prop)->Prop
def PG (X:Cx) (target:li) (t:TG):Prop:=
 ∀(pins:List (ac×Obj)) (s:ci) (σ:St) (H:Hp) (v:V) (u:bv) (Q:St->Hp->Prop),Inv X pins σ H s->RelV v u->t v σ H Q->
  gc (ga X.prog X.w) X.A (Sc target X.env u) (λ _ s'=>∃fY H',Inv X pins fY H' s'/\Q fY H') X.xe s
def Sr (X:Cx) (ts:List li) (t:YH):Prop:=
 ∀(pins:List (ac×Obj)) (s:ci) (σ:St) (H:Hp) (vs:List V) (us:List bv) (Q:St->Hp->Prop),Inv X pins σ H s->Vals vs us->t vs σ H Q->
  gc (ga X.prog X.w) X.A (assignInOrder ((Ch ts X.env).map (·.2)) us) (λ _ s'=>∃fY H',Inv X pins fY H' s'/\Q fY H') X.xe s
abbrev YF:=V->V->V->Hp->(Hp->Prop)->Prop
def Vj (X:Cx) (t:YF):Prop:=
 ∀(pins:List (ac×Obj)) (s:ci) (σ:St) (H:Hp) (o i v:V) (ov iv u:bv) (Q:Hp->Prop),Inv X pins σ H s->RelV o ov->RelV i iv->RelV v u->t o i v H Q->
  gc (ga X.prog X.w) X.A (setItem ov iv u) (λ _ s'=>∃H',Inv X pins σ H' s'/\Q H') X.xe s
section
variable {X:Cx} {pos:Pos}
def nj (i:Nat):TG:=λ v σ H Q=>Q (σ.set i (some v)) H
theorem Qr (hN:X.N.Nodup) (hi:X.N[i]? = some x) (hx:Loc X.env.scope x) (hf:X.fn x=true\/X.env.scope.names.lookup x=some .local:=by first|exact .inl rfl|exact .inr rfl|assumption):PG X (.Name x pos) (nj i):=by
 intro pins s σ H v u Q I r h;exact Ps (qx I hN hi hx r (λ s' I'=>⟨_,H,I',h⟩) hf)
def Q8:YH:=λ vs σ H Q=>vs = []/\Q σ H
def JM (t:TG) (u:YH):YH:=λ vs σ H Q=>∃v r,vs=v::r/\t v σ H λ fY H'=>u r fY H' Q
theorem Qq:Sr X [] Q8:=by
 intro pins s σ H vs us Q I r h;obtain⟨e,h⟩:=h;subst e
 cases r;exact assignInOrder_nil ⟨σ,H,I,h⟩
theorem M8 (h1:PG X e t) (h2:Sr X es u)
  (hs:(Ch (e::es) X.env).map (·.2)=Sc e X.env::(Ch es X.env).map (·.2):=by rfl):Sr X (e::es) (JM t u):=by
 intro pins s σ H vs us Q I r h;obtain⟨v,vr,e1,h⟩:=h;subst e1
 cases r with
 | cons r rr=>
  rw [hs];refine assignInOrder_cons (gZ (h1 pins s σ H _ _ _ I r h) λ _ s1 zq=> ?_);obtain⟨GL,H1,I1,q1⟩:=zq;exact h2 pins s1 GL H1 _ _ Q I1 rr q1
def Q4 (K:ai) (n:Nat) (t:YH):TG:=λ v σ H Q=>∃a xs,v = .ref a/\oV K H a xs/\xs.length=n/\t xs σ H Q
theorem Tc (hc:X.calm=true) (h:Sr X es t)
  (hn:(Ch es X.env).length=n:=by rfl) (nQ:(Ch es X.env).findIdx? (·.1)=none:=by rfl):PG X (.Tuple es k pos) (Q4 X.K n t):=by
 intro pins s σ H v u Q I r hw;obtain⟨a,xs,e1,hq,hl,hw⟩:=hw;subst e1
 cases r;obtain⟨its,rv,ht,hz⟩:=I.tuple hq;refine assign_Tuple_tuple (I.ok.hd hc) ht (by simp [hn,<-hl,rv.length]) nQ λ h' hx=> ?_;have I1:Inv X pins σ H {s with heap:=h'}:=I.kept (t':=s.toks) λ b o e=>hx b o (aO (aH e)) e;exact h pins _ σ H xs _ Q I1 (by simpa using rv) hw
def Q5 (to ti:TE) (t:YF):TG:=λ v σ H Q=>to σ H λ o H1=>ti σ H1 λ i H2=>t o i v H2 λ H3=>Q σ H3
theorem Td (ho:PE X o to) (hi:PE X i ti) (hs:Vj X t)
  (ha:∀v,Sc (.Subscript o i pos) X.env v=(do
   let ov <-xz [v] (jp o X.env)
   let iv <-xz [v,ov] (jp i X.env)
   IN pos
   xz [v,ov,iv] (setItem ov iv v)
   release [v,ov,iv] []):=by intro _;rfl):PG X (.Subscript o i pos) (Q5 to ti t):=by
 intro pins s σ H v u Q I r h;rw [ha];refine bi (u8 (gZ (ho pins s σ H _ I h) λ ov s1 zq=> ?_));obtain⟨x,H1,I1,r1,q1⟩:=zq;refine bi (u8 (gZ (hi pins s1 σ H1 _ I1 q1) λ iv s2 zq=> ?_));obtain⟨y,H2,I2,r2,q2⟩:=zq;refine bi (ZD (bi (u8 (gZ (hs pins s2 σ H2 x y v ov iv u _ I2 r1 r2 r q2) λ _ s3 zq=> ?_))));obtain⟨H3,I3,q3⟩:=zq;exact wpAny_release ⟨σ,H3,I3,q3⟩
def xO (te:TE) (g:TG):TS:=λ D σ H=>te σ H λ x H1=>g x σ H1 D.nx
theorem S9 (he:PE X e te) (hg:PG X tg g) (hs:swapsWithSole [tg] e pos.line X.env=pure false:=by rfl) (hw:swappedStores [tg] e X.env=pure none:=by rfl)
  (h1:(Ch [tg] X.env).map (·.2) = [Sc tg X.env]:=by rfl):PS X (.Assign [tg] e pos) (xO te g):=by
 intro pins s σ H D I h;refine wpAny_Assign_stores (gZ (he pins s σ H _ I h) λ v s1 zq=> ?_) hs hw;obtain⟨x,H1,I1,r1,q1⟩:=zq;rw [h1];exact gZ (hg pins s1 σ H1 x v _ I1 r1 q1) λ _ s2 q=>q
theorem S6 (hN:X.N.Nodup) (hi:X.N[i]? = some x) (hx:Loc X.env.scope x) (he:PE X e te) (hs:ww e (some (.Name x pos')) pos.line X.env=pure false:=by rfl) (hf:X.fn x=true\/X.env.scope.names.lookup x=some .local:=by first|exact .inl rfl|exact .inr rfl|assumption) :
  PS X (.Assign [.Name x pos'] e pos) (xO te (nj i)):=by
 intro pins s σ H D I h;refine wpAny_Assign_Name (gZ (he pins s σ H _ I h) λ v s1 zq=> ?_) hs;obtain⟨y,H1,I1,r1,q1⟩:=zq;exact qx I1 hN hi hx r1 (λ s2 I2=>⟨_,H1,I2,q1⟩) hf
end
section
variable {X:Cx} {pos:Pos}
def C1 (c:TT) (tb:TS):TS:=λ D σ H=>∃W:Nat->St->Hp->Prop,(∃m,W m σ H)/\∀m σ H,W m σ H->
 c σ H λ b H1=>if b=true then ∃N:St->Hp->Prop,(∀fY H',N fY H'->∃m',m'<m/\W m' fY H')/\tb {D with nx:=N,ct:=N,bk:=D.nx} σ H1 else D.nx σ H1
theorem M0 (hp:ZC (ga X.prog X.w) X.A X.env X.xe) (hc:PT X c tc) (hb:wK X body tb):PS X (.While c body [] pos) (C1 tc tb):=by
 intro pins s σ H D I h;obtain⟨W,⟨m0,w0⟩,turn⟩:=h;refine wpAny_While (codeAny_whileLoop (λ n s'=>∃fY H',Inv X pins fY H' s'/\W n fY H') ?_ m0 ⟨σ,H,I,w0⟩);rintro n s1 ⟨GL,H1,I1,w1⟩;refine Db hp (gZ (hc pins s1 GL H1 _ I1 (turn n GL H1 w1)) λ b s2 zq=> ?_);obtain⟨H2,I2,q2⟩:=zq
 cases b with
 | true=>
  obtain⟨N,hN,q2⟩:=q2;rw [if_pos rfl];refine Db hp (gZ (hb pins s2 GL H2 _ I2 q2) λ f s3 q3=> ?_)
  cases f with
  | next=>
   obtain⟨yW,H3,I3,n3⟩:=q3;obtain⟨m',hm,w3⟩:=hN yW H3 n3;exact⟨m',hm,yW,H3,I3,w3⟩
  | cont=>
   obtain⟨yW,H3,I3,n3⟩:=q3;obtain⟨m',hm,w3⟩:=hN yW H3 n3;exact⟨m',hm,yW,H3,I3,w3⟩
  | brk=>exact q3
  | ret v=>exact q3
 | false=>
  rw [if_neg aI];exact Ix ⟨GL,H2,I2,q2⟩
end
structure It where
 go:Nat->Hp->Prop
 CW:Nat->Hp->V->Hp->Prop
 stop:Nat->Hp->Prop
def sH (X:Cx) (pins:List (ac×Obj)) (H:Hp) (b:ac):Prop:=
 H b=none/\b≠X.env.locals/\b∉X.fs/\(b∈X.ex\/X.iY.heap.objs.size<=b)/\(∀x c,X.env.cells.lookup x=some c->c≠b)/\∀p∈X.pn++pins,p.1≠b
theorem Inv.Ba (I:Inv X pins σ H s) (hb:s.heap.objs.size<=b) (hn:H' b=none):sH X pins H' b:=by
 refine⟨hn,dh (aF I.lt hb),I.ð hb,.inr (bj I.sz hb),λ x c e z=> ?_,λ p hp z=> ?_⟩
 .obtain⟨v,q⟩:=I.cell x c e;exact absurd (aF q.lt (by rwa [z])) (bT _)
 .exact absurd (aF (aH (I.pin p hp).1) (by rwa [z])) (bT _)
structure Turn (P:im) (w:io) (K:ai) (tg:li) (J:It) (fp:List ac) (it:ac) (tn:Nat->Heap->Prop):Prop where
 mem:it∈fp
 obj:∀i h,tn i h->∀b∈fp,∃o,h.get? b=some o/\∀v,o.data≠.cell v
 keep:∀i h h',tn i h->(∀b∈fp,∀o,h.get? b=some o->h'.get? b=some o)->tn i h'
 item:∀(X:Cx),X.prog=P->X.w=w->X.K=K->X.calm=true->∀(i:Nat) (pins:List (ac×Obj)) (s:ci) (σ:St) (H:Hp) (E:bv->ci->Prop),Inv X pins σ H s->(∀b∈fp,sH X pins H b)->tn i s.heap->J.go i H->
  gc (ga P w) X.A (YC (.ref it)) (λ r s1=>∃u,r=some u/\
   gc (ga P w) X.A (Zh tg (.ref it) u) (λ _ s2=>∃x H',Inv X pins σ H' s2/\RelV x u/\J.CW i H x H'/\tn (i+1) s2.heap/\∀b∈fp,H' b=none) E s1) E s
 done:∀(X:Cx),X.prog=P->X.w=w->X.K=K->X.calm=true->∀(i:Nat) (pins:List (ac×Obj)) (s:ci) (σ:St) (H:Hp) (E:bv->ci->Prop),Inv X pins σ H s->(∀b∈fp,sH X pins H b)->tn i s.heap->J.stop i H->
  gc (ga P w) X.A (YC (.ref it)) (λ r s1=>r=none/\Inv X pins σ H s1) E s
 self:∀(A:pi) (i:Nat) (s:ci) (Q:bv->ci->Prop) (E:bv->ci->Prop),tn i s.heap->Q (.ref it) s->gc (ga P w) A (Jaj (.ref it)) Q E s
abbrev TI:=St->Hp->(It->Hp->Prop)->Prop
def Ï (X:Cx) (pins:List (ac×Obj)) (σ:St) (tg:li) (R:It->Hp->Prop) (VN:bv) (s2:ci):Prop:=
 ∃(it:ac) (fp:List ac) (tn:Nat->Heap->Prop) (J:It) (H':Hp),VN = .ref it/\Inv X pins σ H' s2/\Turn X.prog X.w X.K tg J fp it tn/\tn 0 s2.heap/\(∀b∈fp,sH X pins H' b)/\R J H'
def PI (X:Cx) (tg iter:li) (wi:TI):Prop:=
 ∀(pins:List (ac×Obj)) (s:ci) (σ:St) (H:Hp) (R:It->Hp->Prop),Inv X pins σ H s->wi σ H R->
  gc (ga X.prog X.w) X.A (jp iter X.env) (λ v s1=>gc (ga X.prog X.w) X.A (Jaj v) (Ï X pins σ tg R) X.xe s1) X.xe s
theorem JK (ho:s.heap.get? it=some o) (hc:o.cls = .type n) (hd:o.data = .fields vs)
  (hn : ["enumerate","zip","dict_itemiterator","dict_reverseitemiterator","odict_iterator","itertools.zip_longest","itertools.pairwise"].contains n=false) (hQ:Q () s):gc M A (Zh tg (.ref it) u) Q E s:=by
 unfold Zh
 cases tg<;>first
  | exact cr hQ
  | (cases u<;>first
    | exact cr hQ
    | (refine bi (Ja2 ho ?_)
       rw [hc,hd];show gc M A (if (["enumerate","zip","dict_itemiterator","dict_reverseitemiterator","odict_iterator","itertools.zip_longest","itertools.pairwise"].contains n&&vs[0]? == some (Jav _))=true then _ else _) Q E s;rw [if_neg (by intro h;rw [hn,Bool.false_and] at h;cases h)];exact cr hQ))
def Sv (K:ai) (a:ac):It:=
 ⟨λ i H=>∃xs x,gg K H a xs/\xs[i]? = some x,λ i H x H'=>H'=H/\∀xs,gg K H a xs->xs[i]? = some x,λ i H=>∃xs,gg K H a xs/\xs.length<=i⟩
def YM (K:ai) (a:ac):It:=
 ⟨λ i H=>∃xs x,oV K H a xs/\xs[i]? = some x,λ i H x H'=>H'=H/\∀xs,oV K H a xs->xs[i]? = some x,λ i H=>∃xs,oV K H a xs/\xs.length<=i⟩
def Su (lo:Int) (n:Nat):It:=⟨λ i _=>i<n,λ i H x H'=>H'=H/\x = .int (lo+i),λ i _=>n<=i⟩
theorem Kd {P:im} {w:io} {K:ai} {tg:li} (a it:ac):Turn P w K tg (Sv K a) [it] it (λ i h=>h.IsListIter it a i) where
 mem:=by simp
 obj:=λ i h st b hb=>by
  have e:b=it:=by simpa using hb
  subst e;obtain⟨o,e,c,d⟩:=st;exact⟨o,e,λ v z=>by rw [d] at z;cases z⟩
 keep:=λ i h h' st k=>st.at λ o e=>k it (by simp) o e
 item:=by
  intro X hP hw hK hc i pins s σ H E I hf st hg;subst hP hw hK;obtain⟨xs,x,hq,hx⟩:=hg;obtain⟨its,rv,p,hz⟩:=I.list hq;obtain⟨u,hu,ru⟩:=rv.get hx;obtain⟨f0,f1,f2,f3,f4,f5⟩:=hf it (by simp);refine JaE st p.isList (x:=u) (by simpa using hu) λ h' Ey sb=> ?_;have I1:Inv X pins σ H {s with heap:=h'}:=I.turned (t':=s.toks) (λ b o hb e=>(sb.2 b hb).trans e) f0 f1 f3 f4 f5;obtain⟨o,e,c,d⟩:=id Ey;exact⟨u,rfl,JK (s:= {s with heap:=h'}) e c d (by decide) ⟨x,H,I1,ru,⟨rfl,λ ys hy=>by rwa [I.NP hy hq]⟩,Ey,λ b hb=>(hf b hb).1⟩⟩
 done:=by
  intro X hP hw hK hc i pins s σ H E I hf st hg;subst hP hw hK;obtain⟨xs,hq,hx⟩:=hg;obtain⟨its,rv,p,hz⟩:=I.list hq;obtain⟨f0,f1,f2,f3,f4,f5⟩:=hf it (by simp);have hl:=rv.length;exact JaO (I.ok.hd hc) st p.isList (by simp;exact Zc (Zg hl) hx) λ h' eb=>⟨rfl,I.turned (t':=s.toks) (λ b o hb e=>eb b o hb e) f0 f1 f3 f4 f5⟩
 self:=λ _ _ _ _ _ st h=>wpAny_pyIter_listiter st h
theorem GG {P:im} {w:io} {K:ai} {tg:li} (a it:ac):Turn P w K tg (YM K a) [it] it (λ i h=>h.IsTupleIter it a i) where
 mem:=by simp
 obj:=λ i h st b hb=>by
  have e:b=it:=by simpa using hb
  subst e;obtain⟨o,e,c,d⟩:=st;exact⟨o,e,λ v z=>by rw [d] at z;cases z⟩
 keep:=λ i h h' st k=>st.at λ o e=>k it (by simp) o e
 item:=by
  intro X hP hw hK hc i pins s σ H E I hf st hg;subst hP hw hK;obtain⟨xs,x,hq,hx⟩:=hg;obtain⟨its,rv,p,hz⟩:=I.tuple hq;obtain⟨u,hu,ru⟩:=rv.get hx;obtain⟨f0,f1,f2,f3,f4,f5⟩:=hf it (by simp);refine wpAny_pyNext_tuple_item st (show s.heap.IsTuple a its.toArray from p) (x:=u) (by simpa using hu) λ h' Ey sb=> ?_;have I1:Inv X pins σ H {s with heap:=h'}:=I.turned (t':=s.toks) (λ b o hb e=>(sb.2 b hb).trans e) f0 f1 f3 f4 f5;obtain⟨o,e,c,d⟩:=id Ey;exact⟨u,rfl,JK (s:= {s with heap:=h'}) e c d (by decide) ⟨x,H,I1,ru,⟨rfl,λ ys hy=>by rwa [I.Kh hy hq]⟩,Ey,λ b hb=>(hf b hb).1⟩⟩
 done:=by
  intro X hP hw hK hc i pins s σ H E I hf st hg;subst hP hw hK;obtain⟨xs,hq,hx⟩:=hg;obtain⟨its,rv,p,hz⟩:=I.tuple hq;obtain⟨f0,f1,f2,f3,f4,f5⟩:=hf it (by simp);have hl:=rv.length;exact wpAny_pyNext_tuple_end (I.ok.hd hc) st (show s.heap.IsTuple a its.toArray from p) (by simp;exact Zc (Zg hl) hx) λ h' eb=>⟨rfl,I.turned (t':=s.toks) (λ b o hb e=>eb b o hb e) f0 f1 f3 f4 f5⟩
 self:=λ _ _ _ _ _ st h=>wpAny_pyIter_tupleiter st h
theorem GH {P:im} {w:io} {K:ai} {tg:li} (it:ac) (lo:Int) (n:Nat):Turn P w K tg (Su lo n) [it] it (λ i h=>Jao h it (lo+(i:Nat)*1) ((n:Int)-(i:Nat)) 1) where
 mem:=by simp
 obj:=λ i h st b hb=>by
  have e:b=it:=by simpa using hb
  subst e
  exact⟨_,st,λ v z=>by
   have z':Data.fields _=Data.cell v:=z
   cases z'⟩
 keep:=λ i h h' st k=>k it (by simp) _ st
 item:=by
  intro X hP hw hK hc i pins s σ H E I hf st hg;subst hP hw hK;obtain⟨f0,f1,f2,f3,f4,f5⟩:=hf it (by simp);have W:=Walks.range (prog:=X.prog) (w:=X.w) (I.ok.hd hc) it lo 1 n;refine W.item i s _ _ hg st λ v h' tk hv Ey kk=> ?_;obtain⟨t,rfl⟩:=hv;have I1:Inv X pins σ H {s with heap:=h',toks:=tk}:=I.turned (λ b o hb e=>kk b o (by simpa using hb) e) f0 f1 f3 f4 f5;refine⟨_,rfl,JK (s:= {s with heap:=h',toks:=tk}) (n:="range_iterator") Ey rfl rfl (by decide) ⟨.int (lo+i),H,I1,⟨t,?_⟩,⟨rfl,rfl⟩,Ey,λ b hb=>(hf b hb).1⟩⟩;rw [Int.mul_one]
 done:=by
  intro X hP hw hK hc i pins s σ H E I hf st hg;subst hP hw hK;obtain⟨f0,f1,f2,f3,f4,f5⟩:=hf it (by simp);exact JaD (I.ok.hd hc) st (by have:n<=i:=hg;exact Qam this) λ h' eb=>⟨rfl,I.turned (t':=s.toks) (λ b o hb e=>eb b o hb e) f0 f1 f3 f4 f5⟩
 self:=λ _ _ _ _ _ st h=>JaF st h
section
variable {X:Cx} {tg:li}
def N5 (K:ai) (tl:TE):TI:=λ σ H R=>tl σ H λ x H1=>∃a,x = .ref a/\(∃xs,gg K H1 a xs)/\R (Sv K a) H1
def Xb (K:ai) (tl:TE):TI:=λ σ H R=>tl σ H λ x H1=>∃a,x = .ref a/\(∃xs,oV K H1 a xs)/\R (YM K a) H1
theorem Jk {l:li} {tl:TE} (hl:PE X l tl):PI X tg l (N5 X.K tl):=by
 intro pins s σ H R I h;refine gZ (hl pins s σ H _ I h) λ v s1 zq=> ?_;obtain⟨x,H1,I1,r1,q1⟩:=zq;obtain⟨a,e,⟨xs,hq⟩,q⟩:=q1;subst e
 cases r1;obtain⟨its,rv,p,hz⟩:=I1.list hq;refine Wp p.isList ?_;refine⟨s1.heap.objs.size,[s1.heap.objs.size],_,_,H1,rfl,I1.kept (t':=s1.toks) λ b o e=>ah _ e,Kd a _,⟨_,aK _ rfl,rfl,rfl⟩,λ b hb=> ?_,q⟩;have e:b=s1.heap.objs.size:=by simpa using hb
 subst e;exact I1.Ba (az _) (I1.gG.fresh (az _))
theorem Ta {l:li} {tl:TE} (hl:PE X l tl):PI X tg l (Xb X.K tl):=by
 intro pins s σ H R I h;refine gZ (hl pins s σ H _ I h) λ v s1 zq=> ?_;obtain⟨x,H1,I1,r1,q1⟩:=zq;obtain⟨a,e,⟨xs,hq⟩,q⟩:=q1;subst e
 cases r1;obtain⟨its,rv,p,hz⟩:=I1.tuple hq;refine wpAny_pyIter_tuple (show s1.heap.IsTuple a its.toArray from p) ?_;refine⟨s1.heap.objs.size,[s1.heap.objs.size],_,_,H1,rfl,I1.kept (t':=s1.toks) λ b o e=>ah _ e,GG a _,⟨_,aK _ rfl,rfl,rfl⟩,λ b hb=> ?_,q⟩;have e:b=s1.heap.objs.size:=by simpa using hb
 subst e;exact I1.Ba (az _) (I1.gG.fresh (az _))
theorem E6 {lo hi:Int} {tk:Nat} (I:Inv X pins σ H s) (h1 : -(2 ^ 62)<=lo) (h2:lo<2 ^ 62) (h3 : -(2 ^ 62)<=hi) (h4:hi<2 ^ 62)
  (q:R (Su lo (hi-lo).toNat) H):gc (ga X.prog X.w) X.A (Jaj (.ref s.heap.objs.size)) (Ï X pins σ tg R) E {s with heap:=s.heap.push {cls:=.type "range",data:=.fields #[.int lo t,.int hi u,.int 1 v]},toks:=tk}:=by
 refine Ja1 (IsRange.new ..) (small_one h1 h2 h3 h4) ?_;have I1:Inv X pins σ H {s with heap:=s.heap.push {cls:=.type "range",data:=.fields #[.int lo t,.int hi u,.int 1 v]},toks:=tk}:=I.kept λ b o e=>ah _ e
 refine⟨(s.heap.push {cls:=.type "range",data:=.fields #[.int lo t,.int hi u,.int 1 v]}).objs.size,[(s.heap.push {cls:=.type "range",data:=.fields #[.int lo t,.int hi u,.int 1 v]}).objs.size],_,_,H,rfl,
  I1.kept (t':=tk) λ b o e=>ah _ e,GH _ lo (hi-lo).toNat,?_,λ b hb=> ?_,q⟩
 .have e1:lo+((0:Nat):Int)*1=lo:=by simp
  have e2:(((hi-lo).toNat:Nat):Int)-((0:Nat):Int)=Builtin.Range.rangeSize lo hi 1:=by rw [rangeSize_one];split<;>lia
  show Jao _ _ (lo+((0:Nat):Int)*1) ((((hi-lo).toNat:Nat):Int)-((0:Nat):Int)) 1;rw [e1,e2];exact aK _ rfl
 .have e:b=(s.heap.push {cls:=.type "range",data:=.fields #[.int lo t,.int hi u,.int 1 v]}).objs.size:=by simpa using hb
  subst e;exact I1.Ba (az _) (I1.gG.fresh (az _))
def R6 (ta:TA):TI:=λ σ H R=>ta σ H λ vs H1=>∃j:Int,vs = [.int j]/\-(2 ^ 62)<=j/\j<2 ^ 62/\R (Su 0 j.toNat) H1
def R5 (ta:TA):TI:=λ σ H R=>ta σ H λ vs H1=>∃i j:Int,vs = [.int i,.int j]/\(-(2 ^ 62)<=i/\i<2 ^ 62/\-(2 ^ 62)<=j/\j<2 ^ 62)/\R (Su i (j-i).toNat) H1
theorem KI (hg:Gl X "range") (hm:X.mg "range" = none) (ha:PA X [a] ta) (hs:db [a] X.env = [(false,jp a X.env)]:=by rfl):PI X tg (.Call (.Name "range" p) [a] [] pos) (R6 ta):=by
 intro pins s σ H R I h;refine Call_ (lK I hg hm Jay (bx (gZ (ha pos pins s σ H _ I h) λ us s1 zq=> ?_) hs rfl));obtain⟨vs,H1,I1,r1,q1⟩:=zq;obtain⟨j,e,q1,q2,q⟩:=q1;subst e
 cases r1 with
 | cons r rr=>
  cases rr;obtain⟨t,rfl⟩:=r;exact call_range_1 (E6 I1 (by lia) (by lia) q1 q2 (by simpa using q))
theorem KH (hg:Gl X "range") (hm:X.mg "range" = none) (ha:PA X [a,b] ta) (hs:db [a,b] X.env = [(false,jp a X.env),(false,jp b X.env)]:=by rfl) (JG:db [b] X.env = [(false,jp b X.env)]:=by rfl) :
  PI X tg (.Call (.Name "range" p) [a,b] [] pos) (R5 ta):=by
 intro pins s σ H R I h;refine Call_ (lK I hg hm Jay (bx (gZ (ha pos pins s σ H _ I h) λ us s1 zq=> ?_) (by rw [hs,JG]) (by rw [JG];rfl)));obtain⟨vs,H1,I1,r1,q1⟩:=zq;obtain⟨i,j,e,⟨q1,q2,q3,q4⟩,q⟩:=q1;subst e
 cases r1 with
 | cons r rr=>
  cases rr with
  | cons r' rr=>
   cases rr;obtain⟨t,rfl⟩:=r;obtain⟨t',rfl⟩:=r';exact call_range_2 (E6 I1 q1 q2 q3 q4 q)
def SJ (wi:TI) (g:TG) (tb:TS):TS:=λ D σ H=>wi σ H λ J H1=>∃W:Nat->Nat->St->Hp->Prop,(∃m,W 0 m σ H1)/\∀i m σ H,W i m σ H->
 (J.stop i H/\D.nx σ H)\/(J.go i H/\∃N:St->Hp->Prop,(∀fY H',N fY H'->∃m',m'<m/\W (i+1) m' fY H')/\∀x H',J.CW i H x H'->g x σ H' λ l7 H2=>tb {D with nx:=N,ct:=N,bk:=D.nx} l7 H2)
def qO (fp:List ac) (h:Heap):List (ac×Obj):=fp.filterMap λ b=>(h.get? b).map λ o=>(b,o)
theorem kQ (hb:b∈fp) (e:h.get? b=some o):(b,o)∈qO fp h:=bD.mpr ⟨b,hb,by rw [e];rfl⟩
theorem KZ (hp:p∈qO fp h):p.1∈fp/\h.get? p.1=some p.2:=by
 obtain⟨b,hb,e⟩:=bD.mp hp
 cases q:h.get? b with
 | none=>rw [q] at e;cases e
 | some o=>
  rw [q] at e;have e':(b,o)=p:=Option.some.inj e;subst e';exact⟨hb,q⟩
theorem Inv.pinned (I:Inv X pins σ H s) (hf:∀b∈fp,sH X pins H b) (ho:∀b∈fp,∃o,s.heap.get? b=some o/\∀v,o.data≠.cell v):Inv X (pins++qO fp s.heap) σ H s:=
 I.Jj λ p hp=>(aA.mp hp).elim (λ z=>I.pin p (aD _ z)) λ z=>by
  obtain⟨hb,e⟩:=KZ z;obtain⟨f0,f1,f2,_⟩:=hf p.1 hb;obtain⟨o,e',d⟩:=ho p.1 hb;rw [e] at e';cases e';exact⟨e,f0,f1,f2,d⟩
theorem Inv.qw (I:Inv X (pins++pl) σ H s):Inv X pins σ H s:=I.Jj λ p hp=>I.pin p (aD _ (aN _ hp))
theorem M6 (hp:ZC (ga X.prog X.w) X.A X.env X.xe) (hc:X.calm=true) (hi:PI X tg iter wi) (hg:PG X tg g) (hb:wK X body tb)
  (hs:∀x,nw iter X.env x=pure x:=by intro _;rfl):PS X (.For tg iter body [] pos) (SJ wi g tb):=by
 intro pins s σ H D I h;refine wpAny_For (gZ (hi pins s σ H _ I h) λ v s1 h1=>gZ h1 λ VN s2 h2=> ?_) hs;obtain⟨it,fp,tn,J,H2,e,I2,T,LY,f2,W,⟨m0,w0⟩,turn⟩:=h2;subst e;have stat:∀{H':Hp},(∀b∈fp,H' b=none)->∀b∈fp,sH X pins H' b:=λ hn b hb=>⟨hn b hb,(f2 b hb).2⟩
 refine codeAny_forLoop_any (λ n s'=>∃i fY H',Inv X pins fY H' s'/\tn i s'.heap/\(∀b∈fp,H' b=none)/\W i n fY H') ?_ m0 ⟨0,σ,H2,I2,LY,λ b hb=>(f2 b hb).1,w0⟩;rintro n s3 ⟨i,yW,H3,I3,LX,Sf,w3⟩;rcases turn i n yW H3 w3 with ⟨stop,qn⟩ | ⟨go,N,hN,step⟩
 .refine Db hp (gZ (T.done X rfl rfl rfl hc i pins s3 yW H3 X.xe I3 (stat Sf) LX stop) λ r s4 zq=> ?_);obtain⟨hr,I4⟩:=zq;subst hr;exact Ix ⟨yW,H3,I4,qn⟩
 .refine Db hp (gZ (T.item X rfl rfl rfl hc i pins s3 yW H3 X.xe I3 (stat Sf) LX go) λ r s4 zq=> ?_);obtain⟨u,hr,h4⟩:=zq;subst hr;refine Db hp (gZ h4 λ _ s5 zq=> ?_);obtain⟨x,H5,I5,r5,y5,MA,XJ⟩:=zq;have YO:=I5.pinned (stat XJ) (T.obj _ _ MA);refine Db hp (gZ (hg _ s5 yW H5 x u _ YO r5 (step x H5 y5)) λ _ s6 zq=> ?_);obtain⟨Ý,H6,I6,q6⟩:=zq;refine Db hp (gZ (hb _ s6 Ý H6 _ I6 q6) λ f s7 q7=> ?_)
  have again:∀{yV:St} {H7:Hp},Inv X (pins++qO fp s5.heap) yV H7 s7->N yV H7->∃m,m<n/\∃i fY H',Inv X pins fY H' s7/\tn i s7.heap/\(∀b∈fp,H' b=none)/\W i m fY H':=λ {yV H7} I7 n7=>by
   obtain⟨m',hm,w7⟩:=hN yV H7 n7;refine⟨m',hm,i+1,yV,H7,I7.qw,T.keep _ _ _ MA λ b hb o e=>(I7.pin (b,o) (aD _ (aD _ (kQ hb e)))).1,λ b hb=> ?_,w7⟩;obtain⟨o,e,d⟩:=T.obj _ _ MA b hb;exact(I7.pin (b,o) (aD _ (aD _ (kQ hb e)))).2.1
  cases f with
  | next=>obtain⟨yV,H7,I7,n7⟩:=q7;exact again I7 n7
  | cont=>obtain⟨yV,H7,I7,n7⟩:=q7;exact again I7 n7
  | brk=>obtain⟨yV,H7,I7,q7⟩:=q7;exact⟨yV,H7,I7.qw,q7⟩
  | ret v=>obtain⟨x7,yV,H7,I7,r7,q7⟩:=q7;exact⟨x7,yV,H7,I7.qw,r7,q7⟩
end
theorem jb {K:ai} {a:ac} {xs:List V} {g:TG} {tb:TS} {D:Ends} {σ:St} {H:Hp} (Pv:Nat->St->Hp->Prop) (h0:Pv 0 σ H) (hl:∀i σ H,i<=xs.length->Pv i σ H->gg K H a xs)
  (hs:∀i x σ H,xs[i]? = some x->Pv i σ H->g x σ H λ l7 H2=>tb {D with nx:=Pv (i+1),ct:=Pv (i+1),bk:=D.nx} l7 H2) (hd:∀σ H,Pv xs.length σ H->D.nx σ H) :
  ∃W:Nat->Nat->St->Hp->Prop,(∃m,W 0 m σ H)/\∀i m σ H,W i m σ H->
   ((Sv K a).stop i H/\D.nx σ H)\/((Sv K a).go i H/\∃N:St->Hp->Prop,(∀fY H',N fY H'->∃m',m'<m/\W (i+1) m' fY H')/\∀x H',(Sv K a).CW i H x H'->g x σ H' λ l7 H2=>tb {D with nx:=N,ct:=N,bk:=D.nx} l7 H2):=by
 refine⟨λ i m σ H=>m=xs.length-i/\i<=xs.length/\Pv i σ H,⟨xs.length,by simp,aQ _,h0⟩,?_⟩;rintro i m σ H ⟨rfl,hi,p⟩;have q:=hl i σ H hi p;by_cases iT:i<xs.length
 .refine .inr ⟨⟨xs,xs[i],q,by simp [iT]⟩,Pv (i+1),λ fY H' p'=>⟨xs.length-(i+1),V2 iT,rfl,iT,p'⟩,λ x H' y=> ?_⟩;obtain⟨e,y⟩:=y;subst e;exact hs i x σ _ (y xs q) p
 .have e:i=xs.length:=by exact Zq hi (Zi iT)
  subst e;exact .inl ⟨⟨xs,q,az _⟩,hd σ H p⟩
theorem Q9 {K:ai} {a:ac} {xs:List V} {g:TG} {tb:TS} {D:Ends} {σ:St} {H:Hp} (Pv:Nat->St->Hp->Prop) (h0:Pv 0 σ H) (hl:∀i σ H,i<=xs.length->Pv i σ H->oV K H a xs)
  (hs:∀i x σ H,xs[i]? = some x->Pv i σ H->g x σ H λ l7 H2=>tb {D with nx:=Pv (i+1),ct:=Pv (i+1),bk:=D.nx} l7 H2) (hd:∀σ H,Pv xs.length σ H->D.nx σ H) :
  ∃W:Nat->Nat->St->Hp->Prop,(∃m,W 0 m σ H)/\∀i m σ H,W i m σ H->
   ((YM K a).stop i H/\D.nx σ H)\/((YM K a).go i H/\∃N:St->Hp->Prop,(∀fY H',N fY H'->∃m',m'<m/\W (i+1) m' fY H')/\∀x H',(YM K a).CW i H x H'->g x σ H' λ l7 H2=>tb {D with nx:=N,ct:=N,bk:=D.nx} l7 H2):=by
 refine⟨λ i m σ H=>m=xs.length-i/\i<=xs.length/\Pv i σ H,⟨xs.length,by simp,aQ _,h0⟩,?_⟩;rintro i m σ H ⟨rfl,hi,p⟩;have q:=hl i σ H hi p;by_cases iT:i<xs.length
 .refine .inr ⟨⟨xs,xs[i],q,by simp [iT]⟩,Pv (i+1),λ fY H' p'=>⟨xs.length-(i+1),V2 iT,rfl,iT,p'⟩,λ x H' y=> ?_⟩;obtain⟨e,y⟩:=y;subst e;exact hs i x σ _ (y xs q) p
 .have e:i=xs.length:=by exact Zq hi (Zi iT)
  subst e;exact .inl ⟨⟨xs,q,az _⟩,hd σ H p⟩
theorem j7 {lo:Int} {n:Nat} {g:TG} {tb:TS} {D:Ends} {σ:St} {H:Hp} (Pv:Nat->St->Hp->Prop) (h0:Pv 0 σ H)
  (hs:∀i σ H,i<n->Pv i σ H->g (.int (lo+i)) σ H λ l7 H2=>tb {D with nx:=Pv (i+1),ct:=Pv (i+1),bk:=D.nx} l7 H2) (hd:∀σ H,Pv n σ H->D.nx σ H) :
  ∃W:Nat->Nat->St->Hp->Prop,(∃m,W 0 m σ H)/\∀i m σ H,W i m σ H->
   ((Su lo n).stop i H/\D.nx σ H)\/((Su lo n).go i H/\∃N:St->Hp->Prop,(∀fY H',N fY H'->∃m',m'<m/\W (i+1) m' fY H')/\∀x H',(Su lo n).CW i H x H'->g x σ H' λ l7 H2=>tb {D with nx:=N,ct:=N,bk:=D.nx} l7 H2):=by
 refine⟨λ i m σ H=>m=n-i/\i<=n/\Pv i σ H,⟨n,by simp,aQ _,h0⟩,?_⟩;rintro i m σ H ⟨rfl,hi,p⟩;by_cases iT:i<n
 .refine .inr ⟨iT,Pv (i+1),λ fY H' p'=>⟨n-(i+1),V2 iT,rfl,iT,p'⟩,λ x H' y=> ?_⟩;obtain⟨e,y⟩:=y;subst e y;exact hs i σ _ iT p
 .have e:i=n:=by exact Zq hi (Zi iT)
  subst e;exact .inl ⟨az _,hd σ H p⟩
theorem Mc (Pv:St->Hp->Prop) (μ:St->Hp->Nat) (h0:Pv σ H)
  (hs:∀σ H,Pv σ H->c σ H λ b H1=>if b=true then tb {D with nx:=λ fY H'=>Pv fY H'/\μ fY H'<μ σ H,ct:=λ fY H'=>Pv fY H'/\μ fY H'<μ σ H,bk:=D.nx} σ H1 else D.nx σ H1)
  (mono:∀σ H Q Q',(∀b H1,Q b H1->Q' b H1)->c σ H Q->c σ H Q'):C1 c tb D σ H:=by
 refine⟨λ m σ H=>m=μ σ H/\Pv σ H,⟨_,rfl,h0⟩,?_⟩;rintro m σ H ⟨rfl,p⟩;refine mono σ H _ _ (λ b H1 q=> ?_) (hs σ H p)
 cases b with
 | true=>exact⟨_,λ fY H' ⟨p',l⟩=>⟨_,l,rfl,p'⟩,q⟩
 | false=>exact q
abbrev R2:=V->V->Hp->VK->Prop
def uj (X:Cx) (f:bv->bv->Sem bv) (r:R2):Prop:=
 ∀(pins:List (ac×Obj)) (s:ci) (σ:St) (H:Hp) (x y:V) (v u:bv) (Q:VK),Inv X pins σ H s->RelV x v->RelV y u->r x y H Q->
  gc (ga X.prog X.w) X.A (f v u) (EP X pins σ Q) X.xe s
def Í (X:Cx) (f:bv->Sem bv) (r:V->Hp->VK->Prop):Prop:=
 ∀(pins:List (ac×Obj)) (s:ci) (σ:St) (H:Hp) (x:V) (v:bv) (Q:VK),Inv X pins σ H s->RelV x v->r x H Q->
  gc (ga X.prog X.w) X.A (f v) (EP X pins σ Q) X.xe s
def kL (X:Cx) (f:bv) (r:List V->Hp->VK->Prop):Prop:=
 ∀(pins:List (ac×Obj)) (s:ci) (σ:St) (H:Hp) (xs:List V) (us:List bv) (Q:VK),Inv X pins σ H s->Vals xs us->r xs H Q->
  gc (ga X.prog X.w) X.A (call f us) (EP X pins σ Q) X.xe s
def š (X:Cx) (r:V->Hp->(Bool->Hp->Prop)->Prop):Prop:=
 ∀(pins:List (ac×Obj)) (s:ci) (σ:St) (H:Hp) (x:V) (v:bv) (Q:Bool->Hp->Prop),Inv X pins σ H s->RelV x v->r x H Q->
  gc (ga X.prog X.w) X.A (Ja4 v) (TP X pins σ Q) X.xe s
def Ko (r:R2) (ta tb:TE):TE:=λ σ H Q=>ta σ H λ x H1=>tb σ H1 λ y H2=>r x y H2 Q
def YY (r:V->Hp->VK->Prop) (ta:TE):TE:=λ σ H Q=>ta σ H λ x H1=>r x H1 Q
def rI (C:Int->Int->Prop) (g:Int->Int->V):R2:=λ x y H Q=>∃i j,x = .int i/\y = .int j/\C i j/\Q (g i j) H
def Ph (g:Int->Int->V):R2:=λ x y H Q=>∃i j,x = .int i/\y = .int j/\Q (g i j) H
def rU (g:Int->V):V->Hp->VK->Prop:=λ x H Q=>∃i,x = .int i/\Q (g i) H
section
variable {X:Cx} {a b c:li} {ta tb tc:TE} {pos:Pos}
theorem U_ (ha:PE X a ta) (hb:PE X b tb) {pins:List (ac×Obj)} {s:ci} {σ:St} {H:Hp} {R:V->V->Hp->Prop} (I:Inv X pins σ H s)
  (h:ta σ H λ x H1=>tb σ H1 λ y H2=>R x y H2) {Q:bv->ci->Prop} {f:bv->bv->Sem bv}
  (hf:∀v u s2 x y H2,Inv X pins σ H2 s2->RelV x v->RelV y u->R x y H2->gc (ga X.prog X.w) X.A (f v u) Q X.xe s2) :
  gc (ga X.prog X.w) X.A (jp a X.env) (λ v j4=>gc (ga X.prog X.w) X.A (jp b X.env) (λ u jD=>gc (ga X.prog X.w) X.A (f v u) Q X.xe jD) X.xe j4) X.xe s:=by
 refine gZ (ha pins s σ H _ I h) λ v s1 zq=> ?_;obtain⟨x,H1,I1,r1,q1⟩:=zq;refine gZ (hb pins s1 σ H1 _ I1 q1) λ u s2 zq=> ?_;obtain⟨y,H2,I2,r2,q2⟩:=zq;exact hf v u s2 x y H2 I2 r1 r2 q2
theorem Wv {op:Operator} {r:R2} (ho:uj X (Uf op) r) (ha:PE X a ta) (hb:PE X b tb):PE X (.BinOp a op b pos) (Ko r ta tb):=by
 intro pins s σ H Q I h;exact wpAny_BinOp (U_ ha hb I h λ v u s2 x y H2 I2 rx ry q=>ho pins s2 σ H2 x y v u Q I2 rx ry q)
theorem Ws (ho:Í X (unaryOp op) r) (ha:PE X a ta):PE X (.UnaryOp op a pos) (YY r ta):=by
 intro pins s σ H Q I h;exact UnaryOp_ (gZ (ha pins s σ H _ I h) λ v s1 ⟨x,H1,I1,r1,q1⟩=>ho pins s1 σ H1 x v Q I1 r1 q1)
theorem ZF {f:bv->bv->Sem bv} {C:Int->Int->Prop} {g:Int->Int->Int}
  (rule:∀(i j:Int) (t u:Tok) (s:ci) (Q:bv->ci->Prop) (E:bv->ci->Prop),C i j->Q (.int (g i j) s.toks) {s with toks:=s.toks+1}->gc (ga X.prog X.w) X.A (f (.int i t) (.int j u)) Q E s) :
  uj X f (rI C λ i j=>.int (g i j)):=by
 intro pins s σ H x y v u Q I rx ry h;obtain⟨i,j,rfl,rfl,hc,q⟩:=h;obtain⟨t,rfl⟩:=rx;obtain⟨t',rfl⟩:=ry;exact rule i j t t' s _ _ hc ⟨.int (g i j),H,I.tok _,⟨_,rfl⟩,q⟩
theorem WD {f:bv->bv->Sem bv} {g:Int->Int->Int}
  (rule:∀(i j:Int) (t u:Tok) (s:ci) (Q:bv->ci->Prop) (E:bv->ci->Prop),Q (.int (g i j) s.toks) {s with toks:=s.toks+1}->gc (ga X.prog X.w) X.A (f (.int i t) (.int j u)) Q E s) :
  uj X f (Ph λ i j=>.int (g i j)):=by
 intro pins s σ H x y v u Q I rx ry h;obtain⟨i,j,rfl,rfl,q⟩:=h;obtain⟨t,rfl⟩:=rx;obtain⟨t',rfl⟩:=ry;exact rule i j t t' s _ _ ⟨.int (g i j),H,I.tok _,⟨_,rfl⟩,q⟩
theorem QC {f:bv->bv->Sem bv} {g:Int->Int->Bool}
  (rule:∀(i j:Int) (t u:Tok) (s:ci) (Q:bv->ci->Prop) (E:bv->ci->Prop),Q (.bool (g i j)) s->gc (ga X.prog X.w) X.A (f (.int i t) (.int j u)) Q E s) :
  uj X f (Ph λ i j=>.bl (g i j)):=by
 intro pins s σ H x y v u Q I rx ry h;obtain⟨i,j,rfl,rfl,q⟩:=h;obtain⟨t,rfl⟩:=rx;obtain⟨t',rfl⟩:=ry;exact rule i j t t' s _ _ ⟨.bl (g i j),H,I,rfl,q⟩
def Vs (i j:Int):Prop:=0<j/\j<1073741824
def Vq (i j:Int):Prop:=0<=j/\j<=1000000/\i.natAbs<2 ^ 64
def Vr (i j:Int):Prop:=(-(2 ^ 64)<i/\i<2 ^ 64)\/(-(2 ^ 64)<j/\j<2 ^ 64)
theorem Vr.ok (h:Vr i j):IntMulOk i j:=by
 rcases h with ⟨h1,h2⟩ | ⟨h1,h2⟩
 .exact .of_left (intBits_le_64 h1 h2)
 .exact .of_right (intBits_le_64 h1 h2)
theorem iN:uj X (Uf .Add) (Ph λ i j=>.int (i+j)):=WD λ _ _ _ _ _ _ _ q=>add_int q
theorem pq:uj X (Uf .Sub) (Ph λ i j=>.int (i-j)):=WD λ _ _ _ _ _ _ _ q=>sub_int q
theorem tV:uj X (Uf .Mult) (rI Vr λ i j=>.int (i*j)):=ZF λ _ _ _ _ _ _ _ hc q=>mul_int q hc.ok
theorem gK:uj X (Uf .FloorDiv) (rI Vs λ i j=>.int (i/j)):=ZF λ i j _ _ _ _ _ hc q=>by
 have h1:(0:Int)<j:=hc.1;have h2:j<1073741824:=hc.2;exact floordiv_int (Ym h1) (by rwa [Int.fdiv_eq_ediv_of_nonneg i (Yl h1)]) (.inl (PyProof.noPylong_small (by omega)))
theorem gz:uj X (Uf .Mod) (rI (λ _ j=>0<j) λ i j=>.int (i%j)):=ZF λ i j _ _ _ _ _ hc q=>by
 have h1:(0:Int)<j:=hc;exact mod_int' (Ym hc) (by rwa [Int.fmod_eq_emod_of_nonneg i (Yl hc)])
theorem zk:uj X (Uf .Pow) (rI Vq λ i j=>.int (i ^ j.toNat)):=ZF λ _ _ _ _ _ _ _ hc q=>pow_int_small hc.1 hc.2.1 hc.2.2 q
theorem unI {f:bv->Sem bv} {g:Int->Int}
  (rule:∀(i:Int) (t:Tok) (s:ci) (Q:bv->ci->Prop) (E:bv->ci->Prop),Q (.int (g i) s.toks) {s with toks:=s.toks+1}->gc (ga X.prog X.w) X.A (f (.int i t)) Q E s) :
  Í X f (rU λ i=>.int (g i)):=by
 intro pins s σ H x v Q I rx h;obtain⟨i,rfl,q⟩:=h;obtain⟨t,rfl⟩:=rx;exact rule i t s _ _ ⟨.int (g i),H,I.tok _,⟨_,rfl⟩,q⟩
theorem tI:Í X (unaryOp .USub) (rU λ i=>.int (-i)):=unI λ _ _ _ _ _ q=>neg_int q
end
def P5:V->V->Bool
 | .i6,.i6=>true | .i6,.int _=>true | .int _,.i6=>true | .i6,.bl _=>true | .bl _,.i6=>true | .i6,.str _=>true | .str _,.i6=>true
 | .int _,.int _=>true | .bl _,.bl _=>true | .str _,.str _=>true | .JZ _,.JZ _=>true
 | .int _,.str _=>true | .str _,.int _=>true | .bl _,.str _=>true | .str _,.bl _=>true
 | _,_=>false
def Y':R2:=λ x y H Q=>P5 x y=true/\Q (.bl (decide (x=y))) H
def ç:R2:=λ x y H Q=>P5 x y=true/\Q (.bl (!decide (x=y))) H
theorem JU:decide (V.int i=V.int j)=(i==j):=by
 rw [cw];simp
theorem OH:decide (V.bl i=V.bl j)=(i==j):=by
 rw [cw];simp
theorem JT:decide (V.str i=V.str j)=(i==j):=by
 rw [cw];simp
theorem JV:decide (V.JZ i=V.JZ j)=(i.toList==j.toList):=by
 rw [cw]
 cases i
 cases j;simp
section
variable {X:Cx} {a b c:li} {ta tb tc:TE} {pos:Pos}
theorem gI (I:Inv X pins σ H s) (q:Q (.bl k) H) (e:k=k'):EP X pins σ Q (.bool k') s:=by
 subst e;exact⟨.bl k,H,I,rfl,q⟩
theorem iE:uj X (tz .Eq) Y':=by
 intro pins s σ H x y v u Q I rx ry h;obtain⟨hs,q⟩:=h
 cases x with
 | i6=>
  cases rx
  cases y with
  | i6=>cases ry;exact PySem.EqNone.eq_none_none (gI I q (by simp))
  | bl j=>cases ry;exact PySem.EqNone.eq_none_bool (gI I q (by simp))
  | int j=>obtain⟨t',rfl⟩:=ry;exact PySem.EqNone.eq_none_int (gI I q (by simp))
  | str j=>obtain⟨t',rfl⟩:=ry;exact PySem.EqNone.eq_none_str (gI I q (by simp))
  | _=>exact absurd (show false=true from hs) aI
 | bl i=>
  cases rx
  cases y with
  | i6=>cases ry;exact PySem.EqNone.eq_bool_none (gI I q (by simp))
  | bl j=>cases ry;exact eq_bool (gI I q OH)
  | str j=>obtain⟨t',rfl⟩:=ry;exact PySem.EqMixed.eq_bool_str (gI I q (by simp))
  | _=>exact absurd (show false=true from hs) aI
 | int i=>
  obtain⟨t,rfl⟩:=rx
  cases y with
  | i6=>cases ry;exact PySem.EqNone.eq_int_none (gI I q (by simp))
  | int j=>obtain⟨t',rfl⟩:=ry;exact eq_int (gI I q JU)
  | str j=>obtain⟨t',rfl⟩:=ry;exact PySem.EqMixed.eq_int_str (gI I q (by simp))
  | _=>exact absurd (show false=true from hs) aI
 | str i=>
  obtain⟨t,rfl⟩:=rx
  cases y with
  | i6=>cases ry;exact PySem.EqNone.eq_str_none (gI I q (by simp))
  | bl j=>cases ry;exact PySem.EqMixed.eq_str_bool (gI I q (by simp))
  | int j=>obtain⟨t',rfl⟩:=ry;exact PySem.EqMixed.eq_str_int (gI I q (by simp))
  | str j=>obtain⟨t',rfl⟩:=ry;exact eq_str (gI I q JT)
  | _=>exact absurd (show false=true from hs) aI
 | JZ i=>
  obtain⟨t,rfl⟩:=rx
  cases y with
  | JZ j=>obtain⟨t',rfl⟩:=ry;exact PySem.W.eq_bytes (gI I q JV)
  | _=>exact absurd (show false=true from hs) aI
 | _=>cases y<;>exact absurd (show false=true from hs) aI
theorem mC:uj X (tz .NotEq) ç:=by
 intro pins s σ H x y v u Q I rx ry h;obtain⟨hs,q⟩:=h
 cases x with
 | i6=>
  cases rx
  cases y with
  | i6=>cases ry;exact PySem.EqNone.ne_none_none (gI I q (by simp))
  | bl j=>cases ry;exact PySem.EqNone.ne_none_bool (gI I q (by simp))
  | int j=>obtain⟨t',rfl⟩:=ry;exact PySem.EqNone.ne_none_int (gI I q (by simp))
  | str j=>obtain⟨t',rfl⟩:=ry;exact PySem.EqNone.ne_none_str (gI I q (by simp))
  | _=>exact absurd (show false=true from hs) aI
 | bl i=>
  cases rx
  cases y with
  | i6=>cases ry;exact PySem.EqNone.ne_bool_none (gI I q (by simp))
  | bl j=>cases ry;exact ne_bool (gI I q (congrArg not OH))
  | str j=>obtain⟨t',rfl⟩:=ry;exact PySem.EqMixed.ne_bool_str (gI I q (by simp))
  | _=>exact absurd (show false=true from hs) aI
 | int i=>
  obtain⟨t,rfl⟩:=rx
  cases y with
  | i6=>cases ry;exact PySem.EqNone.ne_int_none (gI I q (by simp))
  | int j=>obtain⟨t',rfl⟩:=ry;exact ne_int (gI I q (congrArg not JU))
  | str j=>obtain⟨t',rfl⟩:=ry;exact PySem.EqMixed.ne_int_str (gI I q (by simp))
  | _=>exact absurd (show false=true from hs) aI
 | str i=>
  obtain⟨t,rfl⟩:=rx
  cases y with
  | i6=>cases ry;exact PySem.EqNone.ne_str_none (gI I q (by simp))
  | bl j=>cases ry;exact PySem.EqMixed.ne_str_bool (gI I q (by simp))
  | int j=>obtain⟨t',rfl⟩:=ry;exact PySem.EqMixed.ne_str_int (gI I q (by simp))
  | str j=>obtain⟨t',rfl⟩:=ry;exact ne_str (gI I q (congrArg not JT))
  | _=>exact absurd (show false=true from hs) aI
 | JZ i=>
  obtain⟨t,rfl⟩:=rx
  cases y with
  | JZ j=>obtain⟨t',rfl⟩:=ry;exact PySem.W.ne_bytes (gI I q (congrArg not JV))
  | _=>exact absurd (show false=true from hs) aI
 | _=>cases y<;>exact absurd (show false=true from hs) aI
theorem oy:uj X (tz .Lt) (Ph λ i j=>.bl (decide (i<j))):=QC λ _ _ _ _ _ _ _ q=>lt_int q
theorem RU:uj X (tz .LtE) (Ph λ i j=>.bl (decide (i<=j))):=QC λ _ _ _ _ _ _ _ q=>le_int q
theorem Js:uj X (tz .Gt) (Ph λ i j=>.bl (decide (j<i))):=QC λ _ _ _ _ _ _ _ q=>gt_int q
theorem Nw:uj X (tz .GtE) (Ph λ i j=>.bl (decide (j<=i))):=QC λ _ _ _ _ _ _ _ q=>ge_int q
theorem KO:uj X (tz .In) (λ x y H Q=>∃i j,x = .str i/\y = .str j/\Q (.bl (!(Builtin.Str.occurrences j i 0 j.length 1).isEmpty)) H):=by
 intro pins s σ H x y v u Q I rx ry h;obtain⟨i,j,rfl,rfl,q⟩:=h;obtain⟨t,rfl⟩:=rx;obtain⟨t',rfl⟩:=ry;exact in_str (gI I q rfl)
theorem Nv:uj X (tz .Is) (λ x y H Q=>y = .i6/\Q (.bl (decide (x = .i6))) H):=by
 intro pins s σ H x y v u Q I rx ry h;obtain⟨rfl,q⟩:=h
 cases ry;refine is_none_gen (gI I q ?_)
 cases x<;>first
  | (cases rx;rfl)
  | (obtain⟨t,rfl⟩:=rx;rfl)
theorem Jr:uj X (tz .IsNot) (λ x y H Q=>y = .i6/\Q (.bl (!decide (x = .i6))) H):=by
 intro pins s σ H x y v u Q I rx ry h;obtain⟨rfl,q⟩:=h
 cases ry;refine isnot_none_gen (gI I q ?_)
 cases x<;>first
  | (cases rx;rfl)
  | (obtain⟨t,rfl⟩:=rx;rfl)
theorem fO (b:li) (h:op≠.In:=by decide) (h2:op≠.NotIn:=by decide):wE op b=false:=by
 have e1:(op==CmpOp.In)=false:=by cases op<;>first|rfl|exact absurd rfl h
 have e2:(op==CmpOp.NotIn)=false:=by cases op<;>first|rfl|exact absurd rfl h2
 cases b<;>simp [wE,e1,e2]
theorem Qx {op:CmpOp} {r:R2} (ho:uj X (tz op) r) (ha:PE X a ta) (hb:PE X b tb) (hm:wE op b=false):PE X (.Compare a [op] [b] pos) (Ko r ta tb):=by
 intro pins s σ H Q I h;exact wpAny_Compare1 (U_ ha hb I h λ v u s2 x y H2 I2 rx ry q=>ho pins s2 σ H2 x y v u Q I2 rx ry q) hm
def EK (t:TE):TT:=λ σ H Q=>t σ H λ x H'=>∃k,x = .bl k/\Q k H'
theorem Qe (ho:uj X (tz op) r) (ha:PE X a ta) (hb:PE X b tb) (hm:wE op b=false):PT X (.Compare a [op] [b] pos) (EK (Ko r ta tb)):=by
 intro pins s σ H Q I h
 refine JaP (gZ (ha pins s σ H _ I h) λ v s1 ⟨x,H1,I1,r1,q1⟩=>gZ (hb pins s1 σ H1 _ I1 q1) λ u s2 ⟨y,H2,I2,r2,q2⟩=>
  gZ (ho pins s2 σ H2 x y v u _ I2 r1 r2 q2) λ c s3 ⟨z,H3,I3,r3,k,e,q3⟩=> ?_) hm
 subst e
 cases r3;exact wn ⟨H3,I3,q3⟩
def Vh (K:ai) (x:V) (H:Hp) (k:Bool):Prop:=
 match x with
 | .i6=>k=false
 | .bl b=>k=b
 | .int i=>k=(i != 0)
 | .str y=>y.length<=dL/\k=((y.length:Int)!=0)
 | .JZ y=>y.size<=dL/\k=((y.size:Int)!=0)
 | .ref p=>(∃xs,gg K H p xs/\k = !xs.isEmpty)\/(∃xs,oV K H p xs/\k = !xs.isEmpty)\/∃kvs,H p=some (.dK kvs)/\k = !kvs.isEmpty
 | _=>False
theorem HP {κ:Type} {kvs:List (κ×V)} {vs:List (κ×bv)} (r:KV kvs vs):(!vs.isEmpty) = !kvs.isEmpty:=by
 cases r<;>rfl
theorem zJ (r:Vals xs its):(!its.toArray.isEmpty) = !xs.isEmpty:=by
 cases r<;>simp
theorem tZ:(dL:Nat)<2 ^ 63:=by rw [No];decide
theorem SF:š X (λ x H Q=>∃k,Vh X.K x H k/\Q k H):=by
 intro pins s σ H x v Q I rx h;obtain⟨k,e,q⟩:=h;have hl:=tZ;have hs:dL=16777216:=No
 cases x with
 | i6=>
  cases rx;have e':k=false:=e;subst e';exact truthy_none ⟨H,I,q⟩
 | bl b=>
  cases rx;have e':k=b:=e;subst e';exact wn ⟨H,I,q⟩
 | int i=>
  obtain⟨t,rfl⟩:=rx;have e':k=(i != 0):=e;subst e';exact PySem.P.truthy_int ⟨H,I,q⟩
 | str y=>
  obtain⟨t,rfl⟩:=rx;obtain⟨hy,e'⟩:y.length<=dL/\k=((y.length:Int)!=0):=e;subst e';exact PySem.P.truthy_str (by lia) ⟨H,I.tok _,q⟩
 | JZ y=>
  obtain⟨t,rfl⟩:=rx;obtain⟨hy,e'⟩:y.size<=dL/\k=((y.size:Int)!=0):=e;subst e';exact PySem.W.truthy_bytes (Zc hy (Zc (Ze hs) (Zd rfl))) ⟨H,I.tok _,q⟩
 | ref p=>
  cases rx;have e':(∃xs,gg X.K H p xs/\k = !xs.isEmpty)\/(∃xs,oV X.K H p xs/\k = !xs.isEmpty)\/∃kvs,H p=some (.dK kvs)/\k = !kvs.isEmpty:=e;rcases e' with ⟨xs,hx,e'⟩ | ⟨xs,hx,e'⟩ | ⟨kvs,hx,e'⟩
  .subst e';obtain⟨its,r,pl,hz⟩:=I.list hx;have hlen:=r.length;exact wpAny_truthy_list pl.isList (by simp only [aM];lia) ⟨H,I.tok _,by rwa [zJ r]⟩
  .subst e';obtain⟨its,r,pl,hz⟩:=I.tuple hx;have hlen:=r.length;exact truthy_tuple pl (by simp only [aM];lia) ⟨H,I.tok _,by rwa [zJ r]⟩
  .subst e';obtain⟨hz,hS,vs,r,m⟩:kvs.length<=dL/\(p==wP)=false/\∃vs,KV kvs vs/\s.heap.DictOf (gL X.prog X.w) p vs:=I.gG p _ hx;have hlen:kvs.length=vs.length:=Paired.length r;exact wpAny_truthy_dict hS m (by lia) ⟨H,I.tok _,by rwa [HP r]⟩
 | _=>exact(show False from e).elim
theorem MY (ha:PE X a ta) (he:∀whole,Jal a X.env whole=(do let v <-whole;IN a.pos;xz [v] (Ja4 v))) :
  PT X a (λ σ H Q=>ta σ H λ x H'=>∃k,Vh X.K x H' k/\Q k H'):=by
 intro pins s σ H Q I h;exact isTrue_plain (gZ (ha pins s σ H _ I h) λ v s1 ⟨x,H1,I1,r1,q1⟩=>SF pins s1 σ H1 x v Q I1 r1 q1) (he _)
theorem G5:uj X (Uf .Add) (λ x y H Q=>∃i j,x = .str i/\y = .str j/\i.length+j.length<=dL/\Q (.str (i++j)) H):=by
 intro pins s σ H x y v u Q I rx ry h;obtain⟨i,j,rfl,rfl,hz,q⟩:=h;obtain⟨t,rfl⟩:=rx;obtain⟨t',rfl⟩:=ry;exact add_str (λ t' tk=>⟨.str (i++j),H,I.tok _,⟨_,rfl⟩,q⟩) hz
theorem vals1 (r:Vals [x] us):∃u,us = [u]/\RelV x u:=by
 cases r with
 | cons r1 r2=>cases r2;exact⟨_,rfl,r1⟩
theorem vals2 (r:Vals [x,y] us):∃u w',us = [u,w']/\RelV x u/\RelV y w':=by
 cases r with
 | cons r1 r2=>
  cases r2 with
  | cons r3 r4=>cases r4;exact⟨_,_,rfl,r1,r3⟩
theorem OQ:kL X (.builtin "abs") (λ xs H Q=>∃i,xs = [.int i]/\Q (.int (if i<0 then -i else i)) H):=by
 intro pins s σ H xs us Q I r h;obtain⟨i,rfl,q⟩:=h;obtain⟨u,rfl,t,rfl⟩:=vals1 r;exact call_abs_int λ u tk=>⟨.int (if i<0 then -i else i),H,I.tok _,⟨_,rfl⟩,q⟩
theorem wC (hc:X.calm=true):kL X (.builtin "min") (λ xs H Q=>∃i j,xs = [.int i,.int j]/\Q (.int (if j<i then j else i)) H):=by
 intro pins s σ H xs us Q I r h;obtain⟨i,j,rfl,q⟩:=h;obtain⟨u,w',rfl,⟨t,rfl⟩,⟨t',rfl⟩⟩:=vals2 r;refine min_two_ints (I.ok.hd hc) λ h' tk k=>⟨_,H,I.kept k,?_,q⟩
 by_cases hj:j<i
 .rw [if_pos hj,if_pos hj];exact⟨_,rfl⟩
 .rw [if_neg hj,if_neg hj];exact⟨_,rfl⟩
theorem wD:kL X (.type "int") (λ xs H Q=>(∃i,xs = [.int i]/\Q (.int i) H)\/∃k,xs = [.bl k]/\Q (.int (if k then 1 else 0)) H):=by
 intro pins s σ H xs us Q I r h;rcases h with ⟨i,rfl,q⟩ | ⟨k,rfl,q⟩
 .obtain⟨u,rfl,t,rfl⟩:=vals1 r;exact call_int_int ⟨.int i,H,I,⟨_,rfl⟩,q⟩
 .obtain⟨u,rfl,r1⟩:=vals1 r
  cases r1;exact call_int_bool ⟨.int (if k then 1 else 0),H,I.tok _,⟨_,rfl⟩,q⟩
end
structure Iz (h:Heap) (x dx C:ac) (mA:Str->Option bv):Prop where
 obj:h.get? x=some (b8 C dx)
 ns:h.Ns1 dx mA
 ne:dx≠x
theorem K5 {h:Heap} {dx:ac} {mA:Str->Option bv} (n:h.Ns1 dx mA):∃od,h.get? dx=some od/\∀name,dX name od=some (mA name):=by
 obtain⟨o,es,ep,ho,hd,hk,_,hm⟩:=n;refine⟨o,ho,λ name=> ?_⟩;have e:=hm name;unfold nsFind findBy at e;rw [<-Array.find?_toList] at e;unfold dX;rw [hd];dsimp only
 split
 .rename_i y q
  rw [q] at e;exact congrArg some e
 .rename_i q
  rw [q] at e
  have a:es.toList.any (·.refKey)=false:=by
   rw [List.any_eq_false];intro y hy;obtain⟨z,t,Uz⟩:=hk y (Array.mem_toList_iff.mp hy);simp [DictEntry.refKey,Uz]
  have a':¬es.toList.any (·.refKey)=true:=by rw [a];exact aI
  rw [if_neg a'];exact congrArg some e
theorem Iz.look (I:Iz h x dx C mA):∃od,PySem.W.InstAt h x (b8 C dx) C (some od)/\∀name,dX name od=some (mA name):=
 let ⟨od,ho,hl⟩:=K5 I.ns
 ⟨od,⟨I.obj,rfl,rfl,ho⟩,hl⟩
section
variable {prog:im} {w:io} {A:pi} {E:bv->ci->Prop} {s:ci} {K:ai} {x dx C f:ac} {mA:Str->Option bv} {name:Str} {v:bv}
theorem get_map (X:K.In s.heap) (I:Iz s.heap x dx C mA) (hg:cz K C name=true) (hh:cK K C=true)
  (ha:bw K (.ref C) name=some none) (hv:mA name=some v) (hv':PySem.W.handedIn v=true) (h:Q v {s with toks:=s.toks+1}) :
  gc (ga prog w) A (getAttr (.ref x) name expr) Q E s:=by
 obtain⟨od,J,hl⟩:=I.look;exact PySem.W.get_value X J (ez hg).1 (PySem.W.findObj_own hh ha rfl (by rw [hl,hv])) hv' h
theorem Of (X:K.In s.heap) (I:Iz s.heap x dx C mA) (hg:cz K C name=true)
  (hf:bw K (.ref C) name=some (some (.ref f))) (ht:dG K (.ref f)=true) (hv:mA name=none) (h:Q (.ref f,[.ref x]) s) :
  gc (ga prog w) A (NE (.ref x) name pl) Q E s:=by
 obtain⟨od,J,hl⟩:=I.look;exact PySem.W.method_fn X J (ez hg).1 (ez hg).2 hf (beq_iff_eq.mp ht) (by show (dX name od).map (·.isSome)=some false;rw [hl,hv];rfl) h
theorem P2 (X:K.In s.heap) (I:Iz s.heap x dx C mA)
  (hs:bw K (.ref C) "__setattr__" = some (some (.builtin "object.__setattr__"))) (hp:dy K C=true) (ht:eU K C name=some none) (hh:cK K C=true)
  (hw:PySem.Within mA ns) (hsz:ns.length<=dL)
  (h:∀h',Iz h' x dx C (λ y=>if y=name then some v else mA y)->Heap.SameBut dx s.heap h'->Q () {s with heap:=h',toks:=s.toks+2}) :
  gc (ga prog w) A (setAttr (.ref x) name v) Q E s:=by
 obtain⟨od,J,hl⟩:=I.look;refine PySem.W.set_plain X J hs (PySem.W.osa_open (s:= {s with toks:=s.toks+1}) (r:=none) X J hp ht λ b=> ?_);obtain⟨cd,hc,VT⟩:=PySem.W.any_some hh;have hx:s.heap.get? x=some ⟨.ref C,some dx,.plain,#[]⟩:=I.obj;refine bi (cr (bi (bi (wpAny_loadPart hx (bi (PySem.W.Looks.here (s:= {s with toks:=s.toks+1}) (PySem.W.looks_clsIn X hc) ?_))))));rw [VT];refine cr (a:=some dx) (bi (cr (bi ?_)));refine wpAny_nsSet1 (s:= {s with toks:=s.toks+1}) I.ns λ h' Ut JG=> ?_;obtain⟨oD,esD,epD,hoD,hdD,hcD⟩:=Ut.count (PySem.Within.cons name v hw);refine bi (wpAny_lookBehind hoD (by rw [hdD];exact pastItsLine_dict (bj hcD (by rw [aG];exact Zp hsz))) ?_);exact cr (h _ ⟨(JG.2 _ (Ne.symm I.ne)).trans I.obj,Ut,I.ne⟩ JG)
theorem NM (X:K.In s.heap) (hm:dN K C=true)
  (hi:bw K (.ref C) "__init__" = some (some (.ref f))) (hf:PySem.W.typeIn K (.ref f)=some (.type "function"))
  (h:AT (ga prog w) (A.under (.builtin "type.__call__" ⟨.ref C::vs,kw⟩)) (.call (.ref f) ⟨.ref (s.heap.objs.size+1)::vs,kw⟩) (PySem.W.InitBack (s.heap.objs.size+1) R)
   {s with heap:=(s.heap.push bM).push (b8 C s.heap.objs.size)}) :
  AT (ga prog w) A (.call (.ref C) ⟨vs,kw⟩) R s:=by
 obtain⟨hh,g,d,t,os⟩:=s;exact PySem.W.make_core (PySem.W.makes_of X hm) (PySem.W.looks_findIn X hi) (λ self=>PySem.W.bind_fn X self hf) (.inl rfl) h
end
def ou (f:Str) (v:V):List (Str×V)->List (Str×V)
 | []=> [(f,v)]
 | (g,x)::r=>if g=f then (g,v)::r else (g,x)::ou f v r
theorem xb (f g:Str) (v:V):∀fs:List (Str×V),(ou f v fs).lookup g=if g=f then some v else fs.lookup g
 | []=>by
  show List.lookup g [(f,v)]=_;by_cases h:g=f
  .have hb:(g==f)=true:=beq_iff_eq.mpr h;simp only [List.lookup,hb,if_pos h]
  .have hb:(g==f)=false:=beq_eq_false_iff_ne.mpr h;simp only [List.lookup,hb,if_neg h]
 | (k,x)::r=>by
  have ih:=xb f g v r;rw [show ou f v ((k,x)::r)=(if k=f then (k,v)::r else (k,x)::ou f v r) from rfl];by_cases hk:k=f
  .rw [if_pos hk];by_cases h:g=k
   .have hb:(g==k)=true:=beq_iff_eq.mpr h;simp only [List.lookup,hb,if_pos (h.trans hk)]
   .have hb:(g==k)=false:=beq_eq_false_iff_ne.mpr h;simp only [List.lookup,hb,if_neg (λ e:g=f=>h (e.trans hk.symm))]
  .rw [if_neg hk];by_cases h:g=k
   .have hb:(g==k)=true:=beq_iff_eq.mpr h;simp only [List.lookup,hb,if_neg (λ e:g=f=>hk (h.symm.trans e))]
   .have hb:(g==k)=false:=beq_eq_false_iff_ne.mpr h;simp only [List.lookup,hb];exact ih
theorem wq (f:Str) (v:V):∀fs:List (Str×V),f∈(ou f v fs).map (·.1)/\∀g,g∈fs.map (·.1)->g∈(ou f v fs).map (·.1)
 | []=>⟨by simp [ou],λ g h=>by simp at h⟩
 | (k,x)::r=>by
  obtain⟨i1,i2⟩:=wq f v r;rw [show ou f v ((k,x)::r)=(if k=f then (k,v)::r else (k,x)::ou f v r) from rfl];by_cases hk:k=f
  .rw [if_pos hk];subst hk;exact⟨by simp,λ g h=>by simpa using h⟩
  .rw [if_neg hk];refine⟨?_,λ g h=> ?_⟩
   .rw [aB];exact ay _ i1
   .rw [aB] at h⊢;rcases av.mp h with e|e
    .exact av.mpr (.inl e)
    .exact ay _ (i2 g e)
theorem lq (f:Str) (v:V):∀fs:List (Str×V),(ou f v fs).length<=fs.length+1
 | []=>by simp [ou]
 | (k,x)::r=>by
  have ih:=lq f v r;rw [show ou f v ((k,x)::r)=(if k=f then (k,v)::r else (k,x)::ou f v r) from rfl];by_cases hk:k=f
  .rw [if_pos hk,aG,aG];exact Zk
  .rw [if_neg hk,aG,aG];exact Zp ih
theorem pO.some_of (r:pO (some v) o):∃u,o=some u/\RelV v u:=by
 cases o with
 | none=>exact(show False from r).elim
 | some u=>exact⟨u,rfl,r⟩
theorem pO.none_of (r:pO none o):o=none:=by
 cases o with
 | none=>rfl
 | some u=>exact(show False from r).elim
theorem Lm (r:RelV v u):PySem.W.handedIn u=true:=by
 cases v with
 | i6=>cases (show u=Value.none from r);rfl
 | bl b=>cases (show u=Value.bool b from r);rfl
 | int i=>obtain⟨t,e⟩:=(show ∃t,u=Value.int i t from r);cases e;rfl
 | str x=>obtain⟨t,e⟩:=(show ∃t,u=Value.str x t from r);cases e;rfl
 | JZ b=>obtain⟨t,e⟩:=(show ∃t,u=Value.bytes b t from r);cases e;rfl
 | UL b=>obtain⟨t,e⟩:=(show ∃t,u=Value.float b t from r);cases e;rfl
 | ref a=>cases (show u=Value.ref a from r);rfl
 | ty n=>cases (show u=Value.type n from r);rfl
section
variable {P:im} {w:io} {H H':Hp} {h h':Heap} {a C dx:ac} {fs fs':List (Str×V)}
theorem yo (gG:rC P w H h) (e:H a=some (.ins C dx fs)):∃mA,Iz h a dx C mA/\(∀f,pO (fs.lookup f) (mA f))/\PySem.Within mA (fs.map (·.1))/\fs.length<=1000/\H dx=some (.own a):=by
 obtain⟨d,z,ne,ob,mA,n,r,q⟩:=(show iz P w H h a (.ins C dx fs) from gG a _ e)
 exact⟨mA,⟨ob,n,ne⟩,r,q,z,d⟩
end
structure Ew (K:ai) (C:ac):Prop where
 pg:cz K C Str.empty=true
 hd:cK K C=true
 po:dy K C=true
 sa:bw K (.ref C) "__setattr__" = some (some (.builtin "object.__setattr__"))
theorem Ew.get {K:ai} {C:ac} (c:Ew K C) (f:Str):cz K C f=true:=c.pg
def mS (K:ai) (C:ac) (f:Str):Prop:=bw K (.ref C) f=some none
theorem mS.Wa {K:ai} {C:ac} {f:Str} (n:mS K C f):eU K C f=some none:=by
 unfold eU;rw [show bw K (.ref C) f=some none from n];rfl
structure Meth (K:ai) (C:ac) (m:Str) (f:ac):Prop where
 at_:bw K (.ref C) m=some (some (.ref f))
 fn:dG K (.ref f)=true
 kp:bU K (.ref f)=true
section
variable {X:Cx} {pins:List (ac×Obj)} {σ:St} {H:Hp} {s:ci} {a C dx:ac} {fs:List (Str×V)} {f:Str} {v:V} {A:pi} {E:bv->ci->Prop}
theorem HV (I:Inv X pins σ H s) (e:H a=some (.ins C dx fs)) (c:Ew X.K C) (n:mS X.K C f) (l:fs.lookup f=some v)
  (h:∀u s',Inv X pins σ H s'->RelV v u->Q u s'):gc (ga X.prog X.w) A (getAttr (.ref a) f b) Q E s:=by
 obtain⟨mA,O,r,_,_,_⟩:=yo I.gG e;obtain⟨u,hu,ru⟩:=pO.some_of (v:=v) (o:=mA f) (by rw [<-l];exact r f);exact get_map I.vp O (c.get f) c.hd n hu (Lm ru) (h u _ (I.tok _) ru)
theorem zT (I:Inv X pins σ H s) (e:H a=some (.ins C dx fs)) (c:Ew X.K C) (k:Meth X.K C m g) (l:fs.lookup m=none)
  (h:Q (.ref g,[.ref a]) s):gc (ga X.prog X.w) A (NE (.ref a) m pl) Q E s:=by
 obtain⟨mA,O,r,_,_,_⟩:=yo I.gG e;have hn:mA m=none:=pO.none_of (by rw [<-l];exact r m);exact Of I.vp O (c.get m) k.at_ k.fn hn h
theorem GN (I:Inv X pins σ H s) (e:H a=some (.ins C dx fs)) (c:Ew X.K C) (n:mS X.K C f) (hl:fs.length<1000) (ry:RelV y u)
  (h:∀s',Inv X pins σ (upd H a (.ins C dx (ou f y fs))) s'->Q () s'):gc (ga X.prog X.w) A (setAttr (.ref a) f u) Q E s:=by
 obtain⟨mA,O,r,wi,_,ho⟩:=yo I.gG e;have hz:(fs.map (·.1)).length<=dL:=by rw [ae,No];exact Zl (Za hl (Zd rfl))
 refine P2 I.vp O c.sa c.po n.Wa c.hd wi hz λ h' O' sb=>h _ ?_;have hd:∃o,h'.get? dx=some o:=let ⟨o,_,_,e',_⟩:=O'.ns;⟨o,e'⟩;refine I.write (x:=a) (e:=dx) (by rw [e];exact True.intro) (.inr ho) (λ b q hb z=>(sb.2 b hb).trans z) hd ?_;refine⟨by rwa [fo O.ne],?_,O.ne,O'.obj,_,O'.ns,λ g=> ?_,λ g hg=> ?_⟩
 .have:=lq f y fs;exact Zc this hl
 .show pO ((ou f y fs).lookup g) (if g=f then some u else mA g);rw [xb];by_cases q:g=f
  .rwa [if_pos q,if_pos q]
  .rw [if_neg q,if_neg q];exact r g
 .by_cases q:g=f
  .rw [q];exact(wq f y fs).1
  .refine(wq f y fs).2 g (wi g λ z=>hg ?_);show (if g=f then some u else mA g)=none
   rwa [if_neg q]
theorem Inv.made (I:Inv X pins σ H s):Inv X pins σ (upd (upd H s.heap.objs.size (.own (s.heap.objs.size+1))) (s.heap.objs.size+1) (.ins C s.heap.objs.size []))
  {s with heap:=(s.heap.push bM).push (b8 C s.heap.objs.size)}:=by
 have e1:(s.heap.push bM).get? s.heap.objs.size=some bM:=aK s.heap rfl
 have e2:((s.heap.push bM).push (b8 C s.heap.objs.size)).get? (s.heap.objs.size+1)=some (b8 C s.heap.objs.size):=by
  have:=aK (s.heap.push bM) (o:=b8 C s.heap.objs.size) rfl
  rwa [bX] at this
 have e3:(s.heap.push bM).Ns s.heap.objs.size (λ _=>none):=⟨bM,#[],_,e1,rfl,(λ e he=>absurd he (by simp)),λ _=>rfl⟩
 have I1:=I.laid (a:=s.heap.objs.size) (o:=.own (s.heap.objs.size+1)) (h':=s.heap.push bM) (t':=s.toks) (λ b u q=>ah _ q) (az _) ⟨_,e1⟩;refine I1.laid (a:=s.heap.objs.size+1) (o:=.ins C s.heap.objs.size []) (t':=s.toks) (λ b u q=>ah _ q) (eI (bX _ _)) ?_;have ne:s.heap.objs.size≠s.heap.objs.size+1:=aO (cU _);refine⟨by rw [fo ne,e_],aQ _,ne,e2,λ _=>none,(Heap.Ns1.of_empty e3).at λ o q=>ah _ q,λ _=>True.intro,λ y hy=>absurd rfl hy⟩
theorem Rv (hb:sw e f env (jp e env)=jp e env)
  (h:gc (ga prog w) A (jp e env) (λ o j4=>gc (ga prog w) A (getAttr o f true) Q E j4) E s):gc (ga prog w) A (jp (.Attribute e f pos) env) Q E s:=
 Attribute_any_ h (by rw [arm_eval_Attribute,hb])
end
def C4 (K:ai) (ta:TE) (f:Str):TE:=λ σ H Q=>ta σ H λ x H1=>∃a C dx fs v,x = .ref a/\H1 a=some (.ins C dx fs)/\Ew K C/\mS K C f/\fs.lookup f=some v/\Q v H1
def P7 (K:ai) (ta tv:TE) (f:Str):TS:=λ D σ H=>tv σ H λ y H1=>ta σ H1 λ x H2=>∃a C dx fs,x = .ref a/\H2 a=some (.ins C dx fs)/\Ew K C/\mS K C f/\fs.length<1000/\
 D.nx σ (upd H2 a (.ins C dx (ou f y fs)))
section
variable {X:Cx} {o e value:li} {f:Str} {pos pos' Mq:Pos} {ta tv:TE}
theorem Ng (he:PE X e ta) (hb:sw e f X.env (jp e X.env)=jp e X.env):PE X (.Attribute e f pos) (C4 X.K ta f):=by
 intro pins s σ H Q I h;refine Rv hb (gZ (he pins s σ H _ I h) λ u s1 zq=> ?_);obtain⟨x,H1,I1,rx,a,C,dx,fs,v,ex,ea,c,n,l,q⟩:=zq;subst ex;obtain rfl:u=Value.ref a:=rx;exact HV I1 ea c n l λ u' s2 I2 ru=>⟨v,H1,I2,ru,q⟩
theorem S8 (ha:PE X o ta) (hv:PE X value tv) (hs:ww value (some (.Attribute o f pos')) pos.line X.env=pure false):PS X (.Assign [.Attribute o f pos'] value pos) (P7 X.K ta tv f):=by
 intro pins s σ H D I h;refine plainObj_wpAny_Assign_Attribute (gZ (hv pins s σ H _ I h) λ u s1 ⟨y,H1,I1,ry,q⟩=>gZ (ha pins s1 σ H1 _ I1 q) λ ov s2 zq=> ?_) hs;obtain⟨x,H2,I2,rx,a,C,dx,fs,ex,ea,c,n,l,q2⟩:=zq;subst ex;obtain rfl:ov=Value.ref a:=rx;exact GN I2 ea c n l ry λ s3 I3=>⟨σ,_,I3,q2⟩
end
section
variable {X:Cx} {pins:List (ac×Obj)} {σ:St} {H:Hp} {s:ci} {A:pi} {E:bv->ci->Prop} {Q:bv->ci->Prop} {c:bv} {b:Bool}
inductive wJ (K:ai) (H:Hp):V->bv->Prop where
 | i6:wJ K H .i6 (.type "NoneType")
 | bl (x:Bool):wJ K H (.bl x) (.type "bool")
 | int (i:Int):wJ K H (.int i) (.type "int")
 | str (x:Str):wJ K H (.str x) (.type "str")
 | UL (x:UInt64):wJ K H (.UL x) (.type "float")
 | lst {a:ac} {xs:List V} (e:H a=some (.lst xs)):wJ K H (.ref a) (.type "list")
 | sW {a:ac} {o:Obj} {xs:List V} (e:H a=some (.sW o (.lst xs))):wJ K H (.ref a) (.type "list")
 | tup {a:ac} {xs:List V} (e:H a=some (.tup xs)):wJ K H (.ref a) (.type "tuple")
 | dK {a:ac} {kvs:List (Key×V)} (e:H a=some (.dK kvs)):wJ K H (.ref a) (.type "dict")
 | dT {a:ac} {kvs:List (List Key×V)} (e:H a=some (.dT kvs)):wJ K H (.ref a) (.type "dict")
 | ins {a C dx:ac} {fs:List (Str×V)} (e:H a=some (.ins C dx fs)) (cl:Ew K C) (ha:bw K (.ref C) "__class__" = some (some (.builtin "object.__class__")))
   (hn:PySem.W.specialIn K (.builtin "object.__class__") "__get__" = some (some (.builtin "getset_descriptor.__get__"))) (ι:PySem.W.takesIn K (.builtin "object.__class__")=some true)
   (hm:PySem.W.mroIn K C (.type "object")=some true):wJ K H (.ref a) (.ref C)
theorem Ld (I:Inv X pins σ H s) (rx:RelV x u) (ty:wJ X.K H x t) (e:cy X.K t c=some b) (h:∀tk,Q (.bool b) {s with toks:=tk}) :
  gc (ga X.prog X.w) A (call (.builtin "isinstance") [u,c]) Q E s:=by
 cases ty with
 | i6=>cases (show u=Value.none from rx);exact bJ PySem.W.kitx_none I.vp True.intro e (λ z=>nomatch z) h
 | bl y=>cases (show u=Value.bool y from rx);exact bJ PySem.W.kitx_bool I.vp True.intro e (λ z=>nomatch z) h
 | int i=>obtain⟨t,q⟩:=(show ∃t,u=Value.int i t from rx);cases q;exact bJ PySem.W.kitx_int I.vp True.intro e (λ z=>nomatch z) h
 | str y=>obtain⟨t,q⟩:=(show ∃t,u=Value.str y t from rx);cases q;exact bJ PySem.W.kitx_str I.vp True.intro e (λ z=>nomatch z) h
 | UL y=>obtain⟨t,q⟩:=(show ∃t,u=Value.float y t from rx);cases q;exact bJ PySem.W.kitx_float I.vp True.intro e (λ z=>nomatch z) h
 | @lst a xs ea=>
  cases (show u=Value.ref a from rx);obtain⟨_,_,n,_,h1⟩:=(show iz X.prog X.w H s.heap a (.lst xs) from I.gG a _ ea)
  exact bJ PySem.W.kitx_list I.vp ⟨_,h1,rfl⟩ e (λ z=>nomatch z) h
 | @sW a ob xs ea=>
  cases (show u=Value.ref a from rx);obtain⟨_,_,_,n,_,h1⟩:=(show iz X.prog X.w H s.heap a (.sW ob (.lst xs)) from I.gG a _ ea)
  exact bJ PySem.W.kitx_list I.vp ⟨_,h1,rfl⟩ e (λ z=>nomatch z) h
 | @tup a xs ea=>
  cases (show u=Value.ref a from rx);obtain⟨_,_,_,p⟩:=(show iz X.prog X.w H s.heap a (.tup xs) from I.gG a _ ea)
  obtain⟨o,h1,h2,_⟩:=p;exact bJ PySem.W.kitx_tuple I.vp ⟨o,h1,h2⟩ e (λ z=>nomatch z) h
 | @dK a kvs ea=>
  cases (show u=Value.ref a from rx);obtain⟨_,_,vs,_,p⟩:=(show iz X.prog X.w H s.heap a (.dK kvs) from I.gG a _ ea)
  obtain⟨o,es,ep,h1,h2,_⟩:=p;exact bJ PySem.W.kitx_dict I.vp ⟨o,h1,h2.1⟩ e (λ z=>nomatch z) h
 | @dT a kvs ea=>
  cases (show u=Value.ref a from rx);obtain⟨_,_,xs,_,o,es,ep,h1,h2,_⟩:=(show iz X.prog X.w H s.heap a (.dT kvs) from I.gG a _ ea)
  exact bJ PySem.W.kitx_dict I.vp ⟨o,h1,h2.1⟩ e (λ z=>nomatch z) h
 | @ins a C dx fs ea cl ha hn ι hm=>
  cases (show u=Value.ref a from rx);obtain⟨mA,O,_⟩:=yo I.gG ea;obtain⟨od,J,_⟩:=O.look;exact bJ (PySem.W.kitx_own (cl.get _) cl.hd ha hn ι hm) I.vp J e (λ z=>nomatch z) h
end
structure jc (k:Nat) (A:pi):Prop where
 hd:A.handled=none
 dp:A.depth+3*k+5<Zn
 un:A.units+16*k+200<FM
theorem jc.mono (r:jc k A) (h:j<=k):jc j A:=⟨r.hd,by have:=r.dp;lia,by have:=r.un;lia⟩
theorem jc.deeper (r:jc (k+1) A) (env:Env):jc k (A.deeper env):=
 ⟨r.hd,by have:=r.dp;show A.depth+1+3*k+5<_;exact Qan this,by have:=r.un;show A.units+3+16*k+200<_;lia⟩
theorem HD {A:pi} {C:ac} {us:List bv} {kw:List (Str×bv)}:(A.under (.builtin "type.__call__" ⟨.ref C::us,kw⟩)).depth=A.depth+1:=by
 first|rfl|simp [Around.under,Code.weight,Code.isCreation,Code.isGuard,Code.isCaller,Code.frames,Code.isFrame,guardIds]
theorem HC {A:pi} {C:ac} {us:List bv} {kw:List (Str×bv)}:(A.under (.builtin "type.__call__" ⟨.ref C::us,kw⟩)).units=A.units+1:=by
 first|rfl|simp [Around.under,Code.cUnits,Code.frames,Code.isFrame]
theorem jc.make (r:jc (k+1) A) (C:ac) (us:List bv) (kw:List (Str×bv)):jc k (A.under (.builtin "type.__call__" ⟨.ref C::us,kw⟩)):=
 ⟨r.hd,by have:=r.dp;rw [HD];exact Qan this,by have:=r.un;rw [HC];lia⟩
theorem jc.depth (r:jc k A):A.depth<Zn:=by have:=r.dp;lia
theorem jc.units (r:jc k A):A.units+64<FM:=by have:=r.un;lia
def AX:TA:=λ _ H Q=>Q [] H
def EL (ta:TE) (tr:TA):TA:=λ σ H Q=>ta σ H λ x H1=>tr σ H1 λ xs H2=>Q (x::xs) H2
section
variable {X:Cx} {e:li} {es:List li} {te:TE} {t:TA} {pos:Pos}
theorem G4:PA X [] AX:=λ _ _ _ _ H Q I h=>Calls.spliced_nil ⟨[],H,I,.nil,h⟩
theorem Dr (ha:PE X e te) (hr:PA X es t) (hs:db (e::es) X.env=(false,jp e X.env)::db es X.env:=by rfl):PA X (e::es) (EL te t):=by
 intro pos pins s σ H Q I h;rw [hs];show gc _ _ (spliced ((false,jp e X.env)::ul pos (db es X.env))) _ _ s;refine Calls.spliced_cons (gZ (ha pins s σ H _ I h) λ u s1 zq=> ?_);obtain⟨x,H1,I1,r1,q1⟩:=zq;exact gZ (hr pos pins s1 σ H1 _ I1 q1) λ us s2 ⟨xs,H2,I2,r2,q2⟩=>⟨x::xs,H2,I2,.cons r1 r2,q2⟩
def PN (t:TA):TE:=λ σ H Q=>t σ H λ xs H1=>xs.length<=dL/\∀p,H1 p=none->Q (.ref p) (upd H1 p (.tup xs))
def PV (t:TA):TE:=λ σ H Q=>t σ H λ xs H1=>xs.length<=dL/\∀p,H1 p=none->Q (.ref p) (upd H1 p (.lst xs))
theorem Tf {x1} (h:PA X es t):PE X (.Tuple es x1 pos) (PN t):=by
 intro pins s σ H Q I hq;refine wpAny_Tuple_spliced (gZ (h pos pins s σ H _ I hq) λ us s1 ⟨xs,H1,I1,r,z,q⟩=>⟨by rwa [<-r.length],?_⟩);have hf:H1 s1.heap.objs.size=none:=I1.gG.fresh (az _);refine⟨.ref s1.heap.objs.size,upd H1 s1.heap.objs.size (.tup xs),I1.laid (t':=s1.toks) (λ b u e=>ah _ e) (az _) ?_,rfl,q _ hf⟩;exact⟨z,us,r,⟨_,aK _ rfl,rfl,_,rfl⟩⟩
theorem Nb (h:PA X es t):PE X (.List es pos) (PV t):=by
 intro pins s σ H Q I hq;refine wpAny_List_spliced (gZ (h pos pins s σ H _ I hq) λ us s1 ⟨xs,H1,I1,r,z,q⟩=>⟨by rwa [<-r.length],?_⟩);have hf:H1 s1.heap.objs.size=none:=I1.gG.fresh (az _);refine⟨.ref s1.heap.objs.size,upd H1 s1.heap.objs.size (.lst xs),I1.laid (t':=s1.toks) (λ b u e=>ah _ e) (az _) ?_,rfl,q _ hf⟩;exact⟨z,us,0,r,aK _ rfl⟩
end
abbrev Sp:=List V->Hp->VK->XK->Prop
abbrev Bj:=List Env->Hp->ci->XK->bv->ci->Prop
structure IG (P:im) (w:io) (K:ai) (mg:Str->Option bv) (base:Heap) (A:pi) (outer:List Env) (s:ci) (H:Hp):Prop where
 frames:A.frames=some outer
 mod:Mod K mg base
 bs:∀b o,base.get? b=some o->s.heap.get? b=some o/\H b=none
 L6:base.objs.size<=s.heap.objs.size
 wz:s.heap.FunFrames base outer
 Se:∀b∈qS outer,H b=none
 gG:rC P w H s.heap
 bare:WF s.gens
def CE (outer:List Env) (P:im) (w:io) (H:Hp) (s:ci) (Q:VK) (u:bv) (s':ci):Prop:=
 ∃v H',s'.os=s.os/\WF s'.gens/\Un (qS outer) [] H H' s.heap s'.heap/\rC P w H' s'.heap/\RelV v u/\Q v H'
def CR (CX:Bj) (outer:List Env) (P:im) (w:io) (H:Hp) (s:ci) (Q:VK) (E:XK) (r:JaN) (s':ci):Prop:=
 match r with
 | .ok (.ret u)=>CE outer P w H s Q u s'
 | .ok _=>False
 | .error e=>CX outer H s E e s'
structure fX (P:im) (w:io) (K:ai) (mg:Str->Option bv) (base:Heap) (CX:Bj) (k:Nat) (f:ac) (fd:ce) (ps:List Str) (sp:Sp):Prop where
 len:∀vs H Q E,sp vs H Q E->vs.length=ps.length
 run:∀(A:pi) (outer:List Env) (s:ci) (H:Hp) (args:Args) (us:List bv) (vs:List V) (Q:VK) (E:XK),jc k A->IG P w K mg base A outer s H->Jaq s fd args (ps.zip us)->Vals vs us->sp vs H Q E->
  AT (ga P w) A (.call (.ref f) args) (CR CX outer P w H s Q E) s
theorem fX.mono {P:im} {w:io} {K:ai} {mg:Str->Option bv} {base:Heap} {CX:Bj} {j k:Nat} {f:ac} {fd:ce} {ps:List Str} {sp:Sp} (F:fX P w K mg base CX j f fd ps sp) (h:j<=k) :
  fX P w K mg base CX k f fd ps sp:=⟨F.len,λ A outer s H args us vs Q E hr=>F.run A outer s H args us vs Q E (hr.mono h)⟩
theorem IG.make {P:im} {w:io} {K:ai} {mg:Str->Option bv} {base:Heap} {A:pi} {outer:List Env} {s:ci} {H:Hp} (e:IG P w K mg base A outer s H) (C:ac) (us:List bv) (kw:List (Str×bv)) :
  IG P w K mg base (A.under (.builtin "type.__call__" ⟨.ref C::us,kw⟩)) outer s H:=⟨by first|exact e.frames|(simpa [Around.under,Code.envs,Code.isFrame,pushEnvs] using e.frames),e.mod,e.bs,e.L6,e.wz,e.Se,e.gG,e.bare⟩
section
variable {X:Cx} {pins:List (ac×Obj)} {σ:St} {H:Hp} {s s':ci}
theorem Inv.UX (I:Inv X pins σ H s):IG X.prog X.w X.K X.mg X.base X.A X.stack s H:=
 ⟨I.ok.frames,I.ok.mod,I.bs,bj I.ok.L6 I.sz,I.stack,I.yi,I.gG,I.bare⟩
theorem Inv.after (I:Inv X pins σ H s) (h:CE X.stack X.prog X.w H s Q u s'):EP X pins σ Q u s':=by
 obtain⟨v,H',os,bare,un,gG,r,q⟩:=h;obtain⟨hh,g,d,t,os'⟩:=s';obtain rfl:os'=s.os:=os;exact⟨v,H',I.call (h':=hh) (g':=g) (d':=d) (t':=t) (ch:= []) un gG bare (λ b z=>absurd z (by simp)),r,q⟩
end
def wO (sp:Sp) (qT:List V) (E:XK) (t:TA):TE:=λ σ H Q=>t σ H λ vs H1=>sp (vs++qT) H1 Q E
def sI (C:ac) (m:Str) (sp:Sp) (qT:List V) (E:XK) (ta:TE) (t:TA):TE:=λ σ H Q=>ta σ H λ x H1=>∃a dx fs,x = .ref a/\H1 a=some (.ins C dx fs)/\fs.lookup m=none/\
 t σ H1 λ vs H2=>sp (x::(vs++qT)) H2 Q E
def IT (C:ac) (sp:Sp) (qT:List V) (E:XK) (t:TA):TE:=λ σ H Q=>t σ H λ vs H1=>∀x dx,H1 x=none->H1 dx=none->dx≠x->
 sp (.ref x::(vs++qT)) (upd (upd H1 dx (.own x)) x (.ins C dx [])) (λ v H2=>v = .i6/\Q (.ref x) H2) E
def Binds (K:ai) (fd:ce) (ps:List Str) (ds:List bv):Prop:=
 ∀(s:ci) (us:List bv),K.In s.heap->(us++ds).length=ps.length->Jaq s fd ⟨us,[]⟩ (ps.zip (us++ds))
theorem Binds.all {K:ai} {fd:ce} {ps:List Str} (h:∀us:List bv,us.length=ps.length->JaZ fd ⟨us,[]⟩=pure (ps.zip us)):Binds K fd ps []:=λ s us _ hl=>by
 rw [bI] at hl⊢;exact .of_eq (h us hl)
def Passes (CX:Bj) (X:Cx) (E:XK):Prop:=∀(pins:List (ac×Obj)) (σ:St) (H:Hp) (s:ci) (e:bv) (s':ci),Inv X pins σ H s->CX X.stack H s E e s'->X.xe e s'
section
variable {X:Cx} {CX:Bj} {k:Nat} {f C:ac} {fd:ce} {ps:List Str} {sp:Sp} {qT:List V} {ds:List bv} {E:XK} {x m:Str} {p pos apos:Pos} {e o:li} {es:List li} {ta:TE} {t:TA}
theorem GX (F:fX X.prog X.w X.K X.mg X.base CX k f fd ps sp) (hr:jc k X.A) (hb:Binds X.K fd ps ds) (hd:Vals qT ds) (hx:Passes CX X E)
  (I:Inv X pins σ H s) (r:Vals vs us) (h:sp (vs++qT) H Q E):gc (ga X.prog X.w) X.A (call (.ref f) us) (EP X pins σ Q) X.xe s:=by
 have r2:Vals (vs++qT) (us++ds):=r.append hd;have hl:(us++ds).length=ps.length:=by rw [<-r2.length];exact F.len _ _ _ _ h
 refine Jas (Fa (F.run X.A X.stack s H ⟨us,[]⟩ (us++ds) (vs++qT) Q E hr I.UX (hb s us I.vp hl) r2 h) λ r s' hq=> ?_)
 cases r with
 | error e=>exact hx pins σ H s e s' I hq
 | ok fl=>
  cases fl with
  | ret u=>exact I.after hq
  | next=>exact False.elim hq
  | brk=>exact False.elim hq
  | cont=>exact False.elim hq
theorem Qy (F:fX X.prog X.w X.K X.mg X.base CX k f fd ps sp) (hr:jc k X.A) (hg:Gl X x) (hm:X.mg x=some (.ref f)) (hk:bU X.K (.ref f)=true) (hb:Binds X.K fd ps ds) (hd:Vals qT ds) (hx:Passes CX X E)
  (ha:PA X (e::es) t) (zQ:(x==("__debug__" : Str))=false:=by decide) (he:db (e::es) X.env=(false,jp e X.env)::db es X.env:=by rfl) (uu:(ul pos (db es X.env)).any (·.1)=false:=by rfl) :
  PE X (.Call (.Name x p) (e::es) [] pos) (wO sp qT E t):=by
 intro pins s σ H Q I h;refine IR (rV I hg hm ?_ zQ);refine eB (h₀:=X.base) I.ok.mod.R0 hk (gZ (ha pos pins s σ H _ I h) λ us s1 ⟨vs,H1,I1,r,q⟩=>⟨I1.vp,?_⟩) he uu;exact GX F hr hb hd hx I1 r q
theorem Jm (he:PE X o ta) (c:Ew X.K C) (hm:Meth X.K C m f) (F:fX X.prog X.w X.K X.mg X.base CX k f fd ps sp) (hr:jc k X.A) (hb:Binds X.K fd ps ds) (hd:Vals qT ds) (hx:Passes CX X E) (ha:PA X (e::es) t)
  (nQ:db (e::es) X.env=(false,jp e X.env)::db es X.env:=by rfl) (uu:(ul pos (db es X.env)).any (·.1)=false:=by rfl)
  (ht:jp (.Call (.Attribute o m apos) (e::es) [] pos) X.env=(do
   let ov <-jp o X.env
   IN apos.atName
   let (f,first) <-xz [ov] (NE ov m pl)
   Yu pos f first (ul pos (db (e::es) X.env)) (EQ pos (wv [] X.env))):=by rfl) :
  PE X (.Call (.Attribute o m apos) (e::es) [] pos) (sI C m sp qT E ta t):=by
 intro pins s σ H Q I h;refine PySem.W.methodCall_KW (pl:=pl) (gZ (he pins s σ H _ I h) λ u s1 zq=> ?_) ht;obtain⟨x,H1,I1,rx,a,dx,fs,ex,ea,l,q⟩:=zq;subst ex;obtain rfl:u=Value.ref a:=rx;refine zT I1 ea c hm l ?_;refine eB (first:= [.ref a]) (h₀:=X.base) I.ok.mod.R0 hm.kp (gZ (ha pos pins s1 σ H1 _ I1 q) λ us s2 ⟨vs,H2,I2,r,q2⟩=>⟨I2.vp,?_⟩) nQ uu;exact GX (us:=.ref a::us) (vs:=.ref a::vs) F hr hb hd hx I2 (.cons rfl r) q2
theorem M' (he:PE X o ta) (c:Ew X.K C) (hm:Meth X.K C m f) (F:fX X.prog X.w X.K X.mg X.base CX k f fd ps sp) (hr:jc k X.A) (hb:Binds X.K fd ps ds) (hd:Vals qT ds) (hx:Passes CX X E)
  (ht:jp (.Call (.Attribute o m apos) [] [] pos) X.env=(do
   let ov <-jp o X.env
   IN apos.atName
   let (f,first) <-xz [ov] (NE ov m pl)
   Yu pos f first (ul pos (db [] X.env)) (EQ pos (wv [] X.env))):=by rfl) :
  PE X (.Call (.Attribute o m apos) [] [] pos) (sI C m sp qT E ta AX):=by
 intro pins s σ H Q I h;refine PySem.W.methodCall_KW (pl:=pl) (gZ (he pins s σ H _ I h) λ u s1 zq=> ?_) ht;obtain⟨x,H1,I1,rx,a,dx,fs,ex,ea,l,q⟩:=zq;subst ex;obtain rfl:u=Value.ref a:=rx;refine zT I1 ea c hm l ?_;exact PySem.W.callWith_K0 (first:= [.ref a]) I1.vp hm.kp (GX (us:= [.ref a]) (vs:= [.ref a]) F hr hb hd hx I1 (.cons rfl .nil) q)
structure Mk (K:ai) (C f:ac):Prop where
 makes:dN K C=true
 init:bw K (.ref C) "__init__" = some (some (.ref f))
 fn:dG K (.ref f)=true
 kp:bU K (.ref C)=true
theorem MM (M:Mk X.K C f) (F:fX X.prog X.w X.K X.mg X.base CX k f fd ps sp) (hr:jc (k+1) X.A) (hb:Binds X.K fd ps ds) (hd:Vals qT ds)
  (hx:Passes CX X E) (I:Inv X pins σ H s) (r:Vals vs us)
  (h:∀x dx,H x=none->H dx=none->dx≠x->sp (.ref x::(vs++qT)) (upd (upd H dx (.own x)) x (.ins C dx [])) (λ v H2=>v = .i6/\Q (.ref x) H2) E) :
  gc (ga X.prog X.w) X.A (call (.ref C) us) (EP X pins σ Q) X.xe s:=by
 have hq:=h (s.heap.objs.size+1) s.heap.objs.size (I.gG.fresh (cf _)) (I.gG.fresh (az _)) (aO (cU _));have I2:=Inv.made (C:=C) I;have r2:Vals (V.ref (s.heap.objs.size+1)::(vs++qT)) (Value.ref (s.heap.objs.size+1)::(us++ds)):=.cons rfl (r.append hd)
 have hl:(Value.ref (s.heap.objs.size+1)::us++ds).length=ps.length:=by
  have e:=r2.length;rw [F.len _ _ _ _ hq] at e;exact e.symm
 refine Jas (NM (f:=f) I.vp M.makes M.init (beq_iff_eq.mp M.fn) (Fa (F.run _ X.stack _ _ ⟨Value.ref (s.heap.objs.size+1)::us,[]⟩ (Value.ref (s.heap.objs.size+1)::(us++ds)) _ _ E (hr.make C us [])
  (I2.UX.make C us []) (hb _ (Value.ref (s.heap.objs.size+1)::us) I2.vp hl) r2 hq) λ r s' Xj=> ?_))
 cases r with
 | error e=>exact hx pins σ _ _ e s' I2 Xj
 | ok fl=>
  cases fl with
  | ret u=>
   obtain⟨v,H',I3,rv,ev,q3⟩:=I2.after Xj;subst ev;exact⟨rv,⟨V.ref (s.heap.objs.size+1),H',I3,rfl,q3⟩⟩
  | next=>exact False.elim Xj
  | brk=>exact False.elim Xj
  | cont=>exact False.elim Xj
theorem Na (M:Mk X.K C f) (F:fX X.prog X.w X.K X.mg X.base CX k f fd ps sp) (hr:jc (k+1) X.A) (hg:Gl X x) (hm:X.mg x=some (.ref C)) (hb:Binds X.K fd ps ds) (hd:Vals qT ds) (hx:Passes CX X E)
  (zQ:(x==("__debug__" : Str))=false:=by decide):PE X (.Call (.Name x p) [] [] pos) (IT C sp qT E AX):=by
 intro pins s σ H Q I h;refine IR (rV I hg hm ?_ zQ);exact PySem.W.callWith_K0 I.vp M.kp (MM (us:= []) M F hr hb hd hx I .nil h)
end
section
variable {X:Cx} {CX:Bj} {k:Nat} {f C:ac} {fd:ce} {ps ks:List Str} {sp:Sp} {E:XK} {x m:Str} {p pos apos aag:Pos} {e o:li} {es:List li} {kws:List UF} {te ta:TE} {t tk:TA} {nm:Option Str}
variable {g:List bv->List bv->List bv} {gV:List V->List V->List V}
end
structure fI (N P:List Str) (sc:FS):Prop where
 kind:sc.kind = .function
 co:sc.isCoroutine=false
 gen:sc.isGenerator=false
 nd:N.Nodup
 pre:N.take P.length=P
 par:∀x∈P,sc.names.lookup x=some .local\/sc.names.lookup x=some .cell
 TQ:∀y∈sc.names,y.2≠.free
theorem Ct {kindOf:Str->Option sK} {x:Str}:∀{binds:List (Str×bv)} {m:Str->Option bv},(∀v,(x,v)∉binds)->bindL kindOf binds m x=m x
 | [],_,_=>rfl
 | (n,v)::r,m,h=>by
  unfold bindL;rw [Ct λ w hw=>h w (ay _ hw)]
  split
  .have:x≠n:=by rintro rfl;exact h v aY
   simp [this]
  .rfl
theorem Cv {kindOf:Str->Option sK} {x:Str}:∀{binds:List (Str×bv)} {m:Str->Option bv},(∀v,(x,v)∉binds)->bindC kindOf binds m x=m x
 | [],_,_=>rfl
 | (n,v)::r,m,h=>by
  unfold bindC;rw [Cv λ w hw=>h w (ay _ hw)]
  split
  .rfl
  .have:x≠n:=by rintro rfl;exact h v aY
   simp [this]
theorem Cu {kindOf:Str->Option sK} {x:Str} {v:bv}:∀{P:List Str} {vs:List bv} {i:Nat} {m:Str->Option bv},P.Nodup->P[i]? = some x->vs[i]? = some v->kindOf x=some .local->
  bindL kindOf (P.zip vs) m x=some v
 | [],_,_,_,_,h,_,_=>by simp at h
 | _::_,[],_,_,_,_,h,_=>by simp at h
 | p::P,w::vs,0,m,nd,h1,h2,hk=>by
  simp at h1 h2;subst h1;subst h2;show bindL kindOf ((p,w)::P.zip vs) m p=_;unfold bindL;rw [Ct λ v hv=>(aZ.mp nd).1 (dP hv).1,if_pos hk];simp
 | p::P,w::vs,i+1,m,nd,h1,h2,hk=>by
  show bindL kindOf ((p,w)::P.zip vs) m x=_;unfold bindL;exact Cu (i:=i) (aZ.mp nd).2 (by simpa using h1) (by simpa using h2) hk
theorem Cw {kindOf:Str->Option sK} {x:Str} {v:bv}:∀{P:List Str} {vs:List bv} {i:Nat} {m:Str->Option bv},P.Nodup->P[i]? = some x->vs[i]? = some v->kindOf x≠some .local->
  bindC kindOf (P.zip vs) m x=some v
 | [],_,_,_,_,h,_,_=>by simp at h
 | _::_,[],_,_,_,_,h,_=>by simp at h
 | p::P,w::vs,0,m,nd,h1,h2,hk=>by
  simp at h1 h2;subst h1;subst h2;show bindC kindOf ((p,w)::P.zip vs) m p=_;unfold bindC;rw [Cv λ v hv=>(aZ.mp nd).1 (dP hv).1,if_neg hk];simp
 | p::P,w::vs,i+1,m,nd,h1,h2,hk=>by
  show bindC kindOf ((p,w)::P.zip vs) m x=_;unfold bindC;exact Cw (i:=i) (aZ.mp nd).2 (by simpa using h1) (by simpa using h2) hk
def start (N:List Str) (vs:List V):St:=vs.map some++List.replicate (N.length-vs.length) none
def Ag (CX:Bj) (P:im) (w:io) (K:ai) (mg:Str->Option bv) (base:Heap) (N:List Str) (qual:Str) (scope:FS) (f:ac) (cd:bv) (A:pi) (outer:List Env) (s:ci) (H:Hp) (E:XK):Cx where
 prog:=P
 w:=w
 K:=K
 mg:=mg
 base:=base
 A:=A.deeper (Ev qual scope s.heap.objs.size f cd)
 N:=N
 iY:=s
 jR:=H
 env:=Ev qual scope s.heap.objs.size f cd
 outer:=outer
 stack:=Ev qual scope s.heap.objs.size f cd::outer
 ex:= []
 calm:=true
 fn:=λ _=>true
 pn:= []
 xe:=λ e s'=>gc (ga P w) (A.deeper (Ev qual scope s.heap.objs.size f cd)) (leaving (Ev qual scope s.heap.objs.size f cd) e) (λ _ SU=>CX outer H s E e SU) (λ e' SU=>CX outer H s E e' SU) s'
theorem FX {sc:FS} {n:Nat} {x:Str} (h:sc.names.lookup x=some .cell):∃c,(Ys n sc.names []).lookup x=some c:=by
 have q:=PySem.W.cellsFrom_some sc.names n [] (.inl h);exact Option.isSome_iff_exists.mp q
theorem Le {CX:Bj} {P:im} {w:io} {K:ai} {mg:Str->Option bv} {base:Heap} {N ps:List Str} {qual:Str} {scope:FS} {f:ac} {cd:bv} {A:pi} {outer:List Env} {s s1:ci} {H:Hp} {E:XK} {us:List bv} {vs:List V}
  (S:fI N ps scope) (hd:A.handled=none) (e0:IG P w K mg base A outer s H) (hl:vs.length=ps.length) (r:Vals vs us)
  (x:InCallC s s.heap.objs.size (bindL (Ev qual scope s.heap.objs.size f cd).kindOf (ps.zip us) λ _=>none) (Ys (s.heap.objs.size+1) scope.names []) (bindC (Ev qual scope s.heap.objs.size f cd).kindOf (ps.zip us) λ _=>none) s1) :
  Inv (Ag CX P w K mg base N qual scope f cd A outer s H E) [] (start N vs) H s1:=by
 have uu:ps.length<=N.length:=by have:=congrArg List.length S.pre;rw [aX] at this;lia
 obtain⟨h1,tk,rfl,hk⟩:=x.done;have WM:∀b:ac,b∉(Ag CX P w K mg base N qual scope f cd A outer s H E).ex:=λ b z=>absurd (show b∈([]:List ac) from z) (by simp)
 refine⟨⟨e0.mod,S.kind,rfl,rfl,az _,λ y z c h1 h2=> ?_,λ y hy=> ?_,λ y c _ h=> ?_,λ _=>hd,Around.frames_deeper e0.frames,.inr ⟨rfl,rfl⟩,λ b z=>absurd z (WM b),e0.bs,e0.L6,λ b _ _=>WM b,λ b z=>absurd z (WM b),e0.wz,e0.Se⟩,
  rfl,e0.bare,Un.kept hk,⟨_,x.toInCall.ns,λ i y v h1 h2 h3=> ?_⟩,λ y c h=>⟨_,x.cell y c h⟩,e0.gG.fresh (az _),λ y c h=> ?_,λ p hp=>absurd (show p∈([]:List (ac×Obj)) from hp) (by simp),e0.gG.kept hk,?_⟩
 .exact name_of_addr x.apart (PySem.mem_of_lookup h1) (PySem.mem_of_lookup h2)
 .have hy:scope.names.lookup y=some .cell\/scope.names.lookup y=some .free:=hy;rcases hy with hy|hy
  .exact FX hy
  .exact absurd rfl (S.TQ _ (PySem.mem_of_lookup hy))
 .exact dH (x.above y c (PySem.mem_of_lookup h))
 .have hi:i<vs.length:=by
   unfold start at h2;by_cases hi:i<vs.length
   .exact hi
   .rw [bp (by simpa using hi)] at h2;rw [List.getElem?_replicate] at h2
    split at h2<;>cases h2
  have ha:vs[i]? = some v:=by
   unfold start at h2;rw [aP (by simpa using hi),ak] at h2
   cases e:vs[i]? with
   | none=>rw [e] at h2;cases h2
   | some a=>rw [e] at h2;cases h2;rfl
  obtain⟨u,hu,rv⟩:=r.get ha
  have hp:ps[i]? = some y:=by
   rwa [<-S.pre,List.getElem?_take_of_lt (Za hi (Ze hl))]
  have Ζ:ps.Nodup:=by rw [<-S.pre];exact S.nd.sublist (eJ _ _)
  refine⟨u,rv,?_⟩;rcases S.par y (aq hp) with k|k
  .exact .inl ⟨k,Cu Ζ hp hu k⟩
  .obtain⟨c,e⟩:=FX (n:=s.heap.objs.size+1) k;refine .inr ⟨.inl k,c,e,?_⟩;have q:=x.cell y c e;rw [Cw Ζ hp hu (by show scope.names.lookup y≠_;rw [k];decide)] at q;exact q
 .exact e0.gG.fresh (dH (x.above y c (PySem.mem_of_lookup h)))
 .unfold start;show _=N.length;rw [ao,ae,List.length_replicate];lia
theorem Sg {CX:Bj} {P:im} {w:io} {K:ai} {mg:Str->Option bv} {base:Heap} {k:Nat} {f:ac} {name qual:Str} {params:Arguments} {body:List pc} {scope:FS} {dV kV doc pm iw ct oc:bv} {an od:Option ac}
  {RT:Array (Option bv)} {N ps:List Str} {sp:Sp} (lk:K.lookup f=some ⟨oc,od,.func (cb name qual params body scope dV kV doc pm an iw ct),RT⟩) (HS:dY K iw qual=true) (S:fI N ps scope)
  (len:∀vs H Q E,sp vs H Q E->vs.length=ps.length)
  (zR:∀(A:pi) (outer:List Env) (s:ci) (H:Hp) (vs:List V) (Q:VK) (E:XK),jc k (A.deeper (Ev qual scope s.heap.objs.size f iw))->sp vs H Q E->
   ∃t,wK (Ag CX P w K mg base N qual scope f iw A outer s H E) body t/\t {nx:=λ _ H'=>Q .i6 H',rt:=Q} (start N vs) H) :
  fX P w K mg base CX (k+1) f (cb name qual params body scope dV kV doc pm an iw ct) ps sp:=by
 refine⟨len,λ A outer s H args us vs Q E hr e0 hb r L1=> ?_⟩;have hl:=len _ _ _ _ L1;have KX:K.In s.heap:=e0.mod.R0.keeps λ b o e=>(e0.bs b o e).1;have lim:s.heap.NoLimit:=e0.mod.nolimit.keeps λ b o e=>(e0.bs b o e).1
 have Xw:∀y∈ps.zip us,scope.names.lookup y.1=some .local\/(scope.names.lookup y.1=some .cell/\((Ys (s.heap.objs.size+1) scope.names []).lookup y.1).isSome=true):=λ ⟨n,v⟩ hy=>by
  rcases S.par n (dP hy).1 with q|q
  .exact .inl q
  .exact .inr ⟨q,PySem.W.cellsFrom_some _ _ _ (.inl q)⟩
 refine codeAny_call_function hr.depth (KX _ _ lk) rfl S.co S.gen rfl (PySem.W.codeRec_of KX HS) (hb _ _ _ _ ?_);refine wpAny_newFunctionEnv_cells S.kind Xw λ env he s1 x=> ?_;subst he;refine⟨lim.keeps x.toInCall.keep,codeAny_func ?_⟩;obtain⟨t,ht,hq⟩:=zR A outer s H vs Q E (hr.deeper _) L1;have I:Inv (Ag CX P w K mg base N qual scope f iw A outer s H E) [] (start N vs) H s1:=Le S hr.hd e0 hl r x;refine re (ht [] s1 (start N vs) H _ I hq) (λ fl s' hs=> ?_) λ e s' hs=>hs
 have fin:∀{fY:St} {H':Hp} {v:V} {u:bv},Inv (Ag CX P w K mg base N qual scope f iw A outer s H E) [] fY H' s'->RelV v u->Q v H'->CE outer P w H s Q u s':=
  λ {fY H' v u} J rv q=>⟨v,H',J.os,J.bare,J.base,J.gG,rv,q⟩
 cases fl with
 | ret u=>
  obtain⟨v,fY,H',J,rv,q⟩:=hs;exact fin J rv q
 | next=>
  obtain⟨fY,H',J,q⟩:=hs;exact fin (v:=V.i6) (u:=Value.none) J rfl q
 | brk=>
  obtain⟨_,_,_,q⟩:=hs;exact False.elim q
 | cont=>
  obtain⟨_,_,_,q⟩:=hs;exact False.elim q
section
variable {X:Cx} {x:Str} {p pos:Pos} {e:li} {es:List li} {t:TA} {id T:String} {r:List V->Hp->VK->Prop}
def Vy (r:List V->Hp->VK->Prop) (t:TA):TE:=λ σ H Q=>t σ H λ vs H1=>r vs H1 Q
theorem Nt (hc:kL X (.builtin id) r) (hg:Gl X x) (hm:X.mg x=none) (hv:xL x=some (.builtin id)) (ha:PA X (e::es) t) (hn:x≠"__name__" := by decide) (zQ:(x==("__debug__" : Str))=false:=by decide)
  (he:db (e::es) X.env=(false,jp e X.env)::db es X.env:=by rfl) (uu:(ul pos (db es X.env)).any (·.1)=false:=by rfl):PE X (.Call (.Name x p) (e::es) [] pos) (Vy r t):=by
 intro pins s σ H Q I h;refine IR (lK I hg hm hv ?_ hn zQ);exact eO (gZ (ha pos pins s σ H _ I h) λ us s1 ⟨vs,H1,I1,r1,q1⟩=>hc pins s1 σ H1 vs us Q I1 r1 q1) he uu
theorem KJ (hc:kL X (.type T) r) (hg:Gl X x) (hm:X.mg x=none) (hv:xL x=some (.type T)) (ha:PA X (e::es) t) (hn:x≠"__name__" := by decide) (zQ:(x==("__debug__" : Str))=false:=by decide)
  (he:db (e::es) X.env=(false,jp e X.env)::db es X.env:=by rfl) (uu:(ul pos (db es X.env)).any (·.1)=false:=by rfl):PE X (.Call (.Name x p) (e::es) [] pos) (Vy r t):=by
 intro pins s σ H Q I h;refine IR (lK I hg hm hv ?_ hn zQ);exact bx (gZ (ha pos pins s σ H _ I h) λ us s1 ⟨vs,H1,I1,r1,q1⟩=>hc pins s1 σ H1 vs us Q I1 r1 q1) he uu
end
end L2
namespace HT
open PySem PyProof.Rows
section
open PySem.SeqAt
open PySem.AutoSeq1 (wpAny_loadPart')
open PySem.MeetsSeq PySem.MeetsSeq2 PySem.MeetsSeq3
end
section
variable {prog:im} {w:io} {A:pi} {E:bv->ci->Prop} {s:ci}
def jW (n d:Nat):Option Int->Nat
 | none=>d
 | some v=>if v<0 then (v+(n:Int)).toNat else min v.toNat n
theorem E2 (n d:Nat):jW n d none=d:=rfl
theorem Jc (n d k:Nat):jW n d (some (k:Int))=min k n:=by
 show (if (k:Int)<0 then ((k:Int)+(n:Int)).toNat else min (k:Int).toNat n)=min k n;rw [if_neg (Yx Yt),au]
theorem SO (n d:Nat) (hd:d<=n) (o:Option Int):jW n d o<=n:=by
 cases o with
 | none=>exact hd
 | some v=>
  show (if v<0 then (v+(n:Int)).toNat else min v.toNat n)<=n;by_cases hv:v<0
  .rw [if_pos hv];lia
  .rw [if_neg hv];exact Nat.min_le_right _ _
theorem JX (v:Int) (n d:Nat):(if v<0 then max (v+(n:Int)) 0 else min v (n:Int))=((jW n d (some v):Nat):Int):=by
 show (if v<0 then max (v+(n:Int)) 0 else min v (n:Int))=(((if v<0 then (v+(n:Int)).toNat else min v.toNat n):Nat):Int);by_cases hv:v<0
 .simp only [if_pos hv];lia
 .simp only [if_neg hv];lia
theorem Iv (lo hi:Option Int) (n:Nat):Builtin.Slice.sliceAdjust lo hi 1 (n:Int)=(((jW n 0 lo:Nat):Int),((jW n n hi:Nat):Int)):=by
 have h1:¬((1:Int)<0):=by exact Yx (by decide)
 unfold Builtin.Slice.sliceAdjust;simp only [h1,if_false];refine Prod.ext ?_ ?_
 .cases lo with
  | none=>rfl
  | some v=>exact JX v n 0
 .cases hi with
  | none=>rfl
  | some v=>exact JX v n n
theorem G3 (i j:Nat):Builtin.Slice.slicePlaces (i:Int) (j:Int) 1=j-i:=by
 unfold Builtin.Slice.slicePlaces;have h1:(1:Int)>0:=by exact by decide
 simp only [h1,if_true,Int.ediv_one]
 split<;>lia
theorem yU (p:Jam v o) (h:Q o s):gc (ga prog w) A (Builtin.Slice.slicePartIndex v) Q E s:=by
 cases p with
 | none=>exact slicePart_none h
 | int i t=>exact slicePart_int h
theorem vB {sl:ac} {vl vu:bv} {lo hi:Option Int} {n:Nat} {Q:Int×Int×Nat->ci->Prop} (hs:s.heap.IsSliceOf sl vl vu .none) (pl:Jam vl lo) (pu:Jam vu hi)
  (h:Q (((jW n 0 lo:Nat):Int),1,jW n n hi-jW n 0 lo) s):gc (ga prog w) A (Builtin.Slice.sliceApplied (.ref sl) (pure (n:Int))) Q E s:=by
 obtain⟨os,Xk,hcs,Z2⟩:=id hs;unfold Builtin.Slice.sliceApplied Builtin.Slice.sliceFields;refine bi (bi (JaS Xk Z2 (x:=vl) rfl (bi (JaS Xk Z2 (x:=vu) rfl (bi (JaS Xk Z2 (x:=.none) rfl (cr ?_)))))));refine bi (slicePart_none ?_);show gc _ _ (if ((1:Int)==0)=true then _ else _) _ _ s;rw [if_neg (by decide)];refine bi (yU pl (bi (yU pu (bi (cr ?_)))));show gc _ _ (match Builtin.Slice.sliceAdjust lo hi 1 (n:Int) with|(lo,hi)=>pure (lo,(1:Int),Builtin.Slice.slicePlaces lo hi 1)) _ _ s;rw [Iv lo hi n];show gc _ _ (pure (((jW n 0 lo:Nat):Int),(1:Int),Builtin.Slice.slicePlaces ((jW n 0 lo:Nat):Int) ((jW n n hi:Nat):Int) 1)) _ _ s;rw [G3];exact cr h
theorem M7 (xs:Array bv) (i k:Nat):((List.range k).filterMap λ (m:Nat)=>xs[((i:Int)+(m:Int)*1).toNat]?).toArray=((xs.toList.drop i).take k).toArray:=by
 have e:(λ (m:Nat)=>xs[((i:Int)+(m:Int)*1).toNat]?)=λ m=>xs[i+m]? := by
  funext m
  have:((i:Int)+(m:Int)*1).toNat=i+m:=by exact (Nat.add_assoc _ _ _).symm
  rw [this]
 rw [e];have:=pick_run xs i k;rw [List.filterMap_map] at this;have e2:((λ x=>xs[x]?)∘λ x=>i+x)=λ m=>xs[i+m]? := rfl;rw [e2] at this;rw [this]
theorem uW {t sl:ac} {items:Array bv} {vl vu:bv} {lo hi:Option Int} {Q:bv->ci->Prop} (ht:IsTup s.heap t items) (hs:s.heap.IsSliceOf sl vl vu .none) (pl:Jam vl lo) (pu:Jam vu hi)
  (hw:¬(jW items.size 0 lo=0/\jW items.size items.size hi=items.size))
  (h:Q (.ref s.heap.objs.size) {s with heap:=s.heap.push {cls:=.type "tuple",data:=.seq ((items.toList.drop (jW items.size 0 lo)).take (jW items.size items.size hi-jW items.size 0 lo)).toArray}})
  (hsz:items.size<=dL):gc (ga prog w) A (ZB (.ref t) (.ref sl)) Q E s:=by
 have JF:sizeOk (.seq ((items.toList.drop (jW items.size 0 lo)).take (jW items.size items.size hi-jW items.size 0 lo)).toArray):=by
  show ((items.toList.drop (jW items.size 0 lo)).take (jW items.size items.size hi-jW items.size 0 lo)).toArray.size<=dL;rw [aM,aX,cV,bB];omega
 have hj:jW items.size items.size hi<=items.size:=SO _ _ (az _) hi;obtain⟨os,Xk,hcs,Z2⟩:=id hs;have hTs:s.TypeIs (.ref sl) "slice" := ⟨os,Xk,hcs⟩
 unfold ZB
 try with_reducible refine u8 ?_
 first|refine bi (cr ?_)|skip
 refine bi (wpAny_sequenceKey ht.typeIs (by decide) ?_)
 refine bi (At (name:=Str.ofString "__getitem__") ht.typeIs cQ
  (wf cQ ht.typeIs entry_tuple_getitem ?_ (args_tuple_getitem _ _)))
 show gc _ _ (Builtin.Tuple.tupleItemsOf (.ref t) >>= _) _ _ s;refine bi (tupleItemsOf_ ht ?_);refine bi (Yz hTs ?_);rw [if_pos (by decide)];refine bi (vB hs pl pu ?_)
 have Ě:¬((((jW items.size 0 lo:Nat):Int)==0&&(1:Int)==1&&(jW items.size items.size hi-jW items.size 0 lo)==items.size)=true):=by
  intro q;rw [bc,bc] at q;have q1:((jW items.size 0 lo:Nat):Int)=0:=eq_of_beq q.1.1;have q2:jW items.size items.size hi-jW items.size 0 lo=items.size:=eq_of_beq q.2;exact hw ⟨Int.ofNat.inj q1,Zq hj (Zc (Zg q2) Zu)⟩
 show gc _ _ (if (((jW items.size 0 lo:Nat):Int)==0&&(1:Int)==1&&(jW items.size items.size hi-jW items.size 0 lo)==items.size)=true then _ else _) _ _ s;rw [if_neg Ě,M7]
 first
  | exact bi (m:=Builtin.Tuple.tupleExact _) (ut (cr ⟨_,rfl,cr h⟩) JF)
  | exact bi (m:=Builtin.Tuple.tupleExact _) (ut (bi (cr (cr ⟨_,rfl,cr h⟩))) JF)
  | exact bi (bi (m:=Builtin.Tuple.tupleExact _) (ut (cr (cr ⟨_,rfl,cr h⟩)) JF))
  | exact bi (bi (m:=Builtin.Tuple.tupleExact _) (ut (cr ⟨_,rfl,cr h⟩) JF))
end
end HT
namespace L2
open PySem PySem.Spec PyProof.Rows
abbrev TO:=St->Hp->(Option Int->Hp->Prop)->Prop
def PO (X:Cx) (e:Option li) (t:TO):Prop:=
 ∀(pins:List (ac×Obj)) (s:ci) (σ:St) (H:Hp) (Q:Option Int->Hp->Prop),Inv X pins σ H s->t σ H Q->
  gc (ga X.prog X.w) X.A (evalPart e X.env) (λ u s'=>∃o H',Inv X pins σ H' s'/\Jam u o/\Q o H') X.xe s
def yg:TO:=λ _ H Q=>Q none H
def IP (t:TE):TO:=λ σ H Q=>t σ H λ x H1=>∃i,x = .int i/\Q (some i) H1
theorem intsAre_of:∀{us:List bv},Vals (ns.map V.int) us->Fk us ns:=by
 induction ns with
 | nil=>intro us r;rw [bz] at r;cases r;exact .nil
 | cons n ns ih=>
  intro us r;rw [aB] at r
  cases r with
  | cons r1 r2=>
   obtain⟨t,e⟩:=r1;subst e;exact .cons n t (ih r2)
section
variable {X:Cx} {e:li} {te:TE} {lo hi:Option li} {tl th:TO} {pos p2:Pos}
theorem Qo:PO X none yg:=by
 intro pins s σ H Q I h;rw [evalPart_none];exact cr ⟨none,H,I,.none,h⟩
theorem Qn (h:PE X e te):PO X (some e) (IP te):=by
 intro pins s σ H Q I hw;rw [evalPart_some];refine gZ (h pins s σ H _ I hw) λ u s1 zq=> ?_;obtain⟨x,H1,I1,r1,q1⟩:=zq;obtain⟨i,rfl,q⟩:=q1;obtain⟨t,rfl⟩:=r1;exact⟨some i,H1,I1,.int i t,q⟩
def YI (X:Cx) (r:V->Option Int->Option Int->Hp->VK->Prop):Prop:=
 ∀(pins:List (ac×Obj)) (s:ci) (σ:St) (H:Hp) (x:V) (v vl vu:bv) (lo hi:Option Int) (sl:ac) (Q:VK),Inv X pins σ H s->RelV x v->s.heap.IsSliceOf sl vl vu .none->Jam vl lo->Jam vu hi->r x lo hi H Q->
  ∃T id,Jat (.type T) "__getitem__" = pure (some (.builtin id))/\s.TypeIs v T/\gc (ga X.prog X.w) X.A (ZB v (.ref sl)) (EP X pins σ Q) X.xe s
def YZ (r:V->Option Int->Option Int->Hp->VK->Prop) (te:TE) (tl th:TO):TE:=λ σ H Q=>te σ H λ x H1=>tl σ H1 λ l H2=>th σ H2 λ u H3=>r x l u H3 Q
theorem M_ (hr:YI X r) (he:PE X e te) (hl:PO X lo tl) (hu:PO X hi th):PE X (.Subscript e (.Slice lo hi none p2) pos) (YZ r te tl th):=by
 intro pins s σ H Q I h;refine Ja9 (gZ (he pins s σ H _ I h) λ v s1 zq=> ?_);obtain⟨x,H1,I1,r1,q1⟩:=zq;refine wpAny_Slice (gZ (hl pins s1 σ H1 _ I1 q1) λ vl s2 ⟨l,H2,I2,pl,q2⟩=>gZ (hu pins s2 σ H2 _ I2 q2) λ vu s3 zq=> ?_);obtain⟨u,H3,I3,pu,q3⟩:=zq;rw [evalPart_none];refine cr ?_;have I4:Inv X pins σ H3 {s3 with heap:=s3.heap.push {cls:=.type "slice",data:=.fields #[vl,vu,.none]}}:=I3.kept (t':=s3.toks) λ b ob q=>ah _ q;obtain⟨T,id,hT,ht,hg⟩:=hr pins {s3 with heap:=s3.heap.push {cls:=.type "slice",data:=.fields #[vl,vu,.none]}} σ H3 x v vl vu l u s3.heap.objs.size Q I4 r1 (Heap.IsSliceOf.new ..) pl pu q3;show gc (ga X.prog X.w) X.A (JaA e (.Slice lo hi none p2) v (.ref s3.heap.objs.size)) (EP X pins σ Q) X.xe {s3 with heap:=s3.heap.push {cls:=.type "slice",data:=.fields #[vl,vu,.none]}};exact tail_any (ops:= [.ref s3.heap.objs.size,v]) ht hT hg (by with_unfolding_all rfl)
def sE (xs:List V) (lo hi:Option Int):List V:=(xs.drop (HT.jW xs.length 0 lo)).take (HT.jW xs.length xs.length hi-HT.jW xs.length 0 lo)
theorem xx (xs:List V) (lo hi:Option Int):(sE xs lo hi).length<=xs.length:=by
 unfold sE;rw [aX,cV];exact Qao
def å (K:ai):V->Option Int->Option Int->Hp->VK->Prop:=λ x lo hi H Q=>∃a xs,x = .ref a/\oV K H a xs/\
 ¬(HT.jW xs.length 0 lo=0/\HT.jW xs.length xs.length hi=xs.length)/\∀p,H p=none->Q (.ref p) (upd H p (.tup (sE xs lo hi)))
theorem SN:YI X (å X.K):=by
 intro pins s σ H x v vl vu lo hi sl Q I rx hs pl pu h;obtain⟨a,xs,rfl,hx,hw,q⟩:=h
 cases rx;obtain⟨its,r,ht,hz⟩:=I.tuple hx;have hlen:its.toArray.size=xs.length:=by rw [aM];exact r.length.symm
 refine⟨"tuple",_,cQ.lookup,ht.typeIs,?_⟩;refine HT.uW ht hs pl pu (by rwa [hlen]) ?_ (by rwa [hlen]);rw [hlen];refine⟨.ref s.heap.objs.size,_,I.laid (t':=s.toks) (o:=.tup (sE xs lo hi)) (λ b ob q=>ah _ q) (az _) ?_,rfl,q _ (I.gG.fresh (az _))⟩;exact⟨bj (xx xs lo hi) hz,_,(r.drop (HT.jW xs.length 0 lo)).take (HT.jW xs.length xs.length hi-HT.jW xs.length 0 lo),IsTup.new _ _⟩
end
def N1 (n:Nat) (i:Int):Option Nat:=if 0<=i then (if i<n then some i.toNat else none) else if -(n:Int)<=i then some (i+n).toNat else none
def vq {α:Type} (xs:List α) (i:Int):Option α:=(N1 xs.length i).bind λ j=>xs[j]?
theorem JC (h:N1 n i=some j):seqIndex? i n=some j/\j<n/\-(n:Int)<=i/\i<n:=by
 unfold N1 at h;by_cases h0:0<=i
 .rw [if_pos h0] at h;by_cases h1:i<n
  .rw [if_pos h1] at h;have e:i.toNat=j:=Option.some.inj h;exact⟨by rw [JaU h0 h1,e],by lia,by lia,h1⟩
  .rw [if_neg h1] at h;cases h
 .rw [if_neg h0] at h;by_cases h1 : -(n:Int)<=i
  .rw [if_pos h1] at h;have e:(i+n).toNat=j:=Option.some.inj h;exact⟨by rw [JaI (Yj h0) h1,e],by lia,h1,Ya (Yj h0) Yt⟩
  .rw [if_neg h1] at h;cases h
theorem Ef {α:Type} {xs:List α} {v:α} (h:vq xs i=some v):∃j,seqIndex? i xs.length=some j/\xs[j]? = some v/\j<xs.length/\-(xs.length:Int)<=i/\i<xs.length:=by
 unfold vq at h
 cases e:N1 xs.length i with
 | none=>rw [e] at h;cases h
 | some j=>
  rw [e] at h;obtain⟨h1,h2,h3,h4⟩:=JC e;exact⟨j,h1,h,h2,h3,h4⟩
theorem nB {α:Type} {xs:List α} {j:Nat} {v:α} (h:xs[j]? = some v):vq xs (j:Int)=some v:=by
 have hj:j<xs.length:=(ag.mp h).1
 have e:N1 xs.length (j:Int)=some j:=by
  unfold N1;rw [if_pos Yt,if_pos (Yp hj)];simp
 unfold vq;rwa [e]
theorem Aq {α:Type} (xs:List α) (v:α):vq (xs ++ [v]) (-1)=some v:=by
 have hl:(xs ++ [v]).length=xs.length+1:=by simp
 have e:N1 (xs ++ [v]).length (-1)=some xs.length:=by
  unfold N1;rw [hl,if_neg (by decide),if_pos (by lia)]
  congr 1
  lia
 unfold vq;rw [e];show (xs ++ [v])[xs.length]? = some v;simp
def El (b:li):Prop:=∀o i,Jan b false o i=operate [o,i] (ZB o i)
def Ss (X:Cx) (r:R2):Prop:=
 ∀(value slice:li) (pins:List (ac×Obj)) (s:ci) (σ:St) (H:Hp) (x y:V) (v u:bv) (Q:VK),Inv X pins σ H s->RelV x v->RelV y u->r x y H Q->
  Jan slice false v u=operate [v,u] (ZB v u)->gc (ga X.prog X.w) X.A (JaA value slice v u) (EP X pins σ Q) X.xe s
def V3 (X:Cx) (id:String) (r:V->List V->Hp->VK->Prop):Prop:=
 ∀(pins:List (ac×Obj)) (s:ci) (σ:St) (H:Hp) (x:V) (xs:List V) (v:bv) (us:List bv) (Q:VK),Inv X pins σ H s->RelV x v->Vals xs us->r x xs H Q->
  gc (ga X.prog X.w) X.A (call (.builtin id) (v::us)) (EP X pins σ Q) X.xe s
section
variable {X:Cx} {a b:li} {ta tb:TE} {pos:Pos}
theorem Wx {r:R2} (hr:Ss X r) (ha:PE X a ta) (hb:PE X b tb) (hs:El b):PE X (.Subscript a b pos) (Ko r ta tb):=by
 intro pins s σ H Q I h;exact Ja9 (U_ ha hb I h λ v u s2 x y H2 I2 rx ry q=>hr a b pins s2 σ H2 x y v u Q I2 rx ry q (hs _ _))
def MX (K:ai):R2:=λ x y H Q=>∃p xs i v,x = .ref p/\y = .int i/\gg K H p xs/\vq xs i=some v/\Q v H
def E7 (K:ai):R2:=λ x y H Q=>∃p xs i v,x = .ref p/\y = .int i/\oV K H p xs/\vq xs i=some v/\Q v H
def S0:R2:=λ x y H Q=>∃z i c,x = .str z/\y = .int i/\z.length<=dL/\vq z.cps.toList i=some c/\Q (.str ⟨#[c]⟩) H
theorem fP:Ss X (MX X.K):=by
 intro value slice pins s σ H x y v u Q I rx ry h hs;obtain⟨p,xs,i,z,rfl,rfl,hq,he,q⟩:=h
 cases rx;obtain⟨t,rfl⟩:=ry;obtain⟨its,r,pl,hz⟩:=I.list hq;obtain⟨j,h1,h2,h3,h4,h5⟩:=Ef he;obtain⟨w,ew,GW⟩:=r.get h2;have hl:=r.length;have hn:=tZ;have fin:EP X pins σ Q w s:=⟨z,H,I,GW,q⟩
 by_cases h0:0<=i
 .have hj:i.toNat=j:=by
   rw [JaU h0 h5] at h1;exact Option.some.inj h1
  exact item_listR pl.isList h0 (by lia) (by rw [hj];simpa using ew) fin hs
 .have hj:(i+(its.toArray.size:Int)).toNat=j:=by
   rw [JaI (Yj h0) h4] at h1;rw [aM,<-hl];exact Option.some.inj h1
  exact JaH (x:=w) pl.isList.typeIs slot_list_getitem.lookup
   (wpAny_getItem_list_neg (Q:=λ r s'=>r=w/\EP X pins σ Q r s') pl.isList (Yj h0) (by rw [aM]<;>lia) (by lia) (by rw [hj];simpa using ew) ⟨rfl,fin⟩) hs
theorem fB:Ss X (E7 X.K):=by
 intro value slice pins s σ H x y v u Q I rx ry h hs;obtain⟨p,xs,i,z,rfl,rfl,hq,he,q⟩:=h
 cases rx;obtain⟨t,rfl⟩:=ry;obtain⟨its,r,pl,hz⟩:=I.tuple hq;obtain⟨j,h1,h2,h3,h4,h5⟩:=Ef he;obtain⟨w,ew,GW⟩:=r.get h2;have hl:=r.length;have hn:=tZ;have fin:EP X pins σ Q w s:=⟨z,H,I,GW,q⟩
 exact JaH (x:=w) pl.typeIs slot_tuple_getitem.lookup
  (getItem_tuple (j:=j) (Q:=λ r s'=>r=w/\EP X pins σ Q r s') pl (by lia) (by lia) (by rwa [aM,<-hl]) (by simpa using ew) ⟨rfl,fin⟩) hs
theorem HM:Ss X S0:=by
 intro value slice pins s σ H x y v u Q I rx ry h hs;obtain⟨z,i,c,rfl,rfl,hz,he,q⟩:=h;obtain⟨t,rfl⟩:=rx;obtain⟨t',rfl⟩:=ry;obtain⟨j,h1,h2,h3,h4,h5⟩:=Ef he;have hl:z.cps.toList.length=z.length:=by simp [Str.length]
 rw [hl] at h1 h4 h5;have hn:=tZ
 exact tail_any (typeIs_str s z t) slot_str_getitem.lookup (getItem_str (c:=c) (by
  have e1:decide (i < -(2 ^ 63:Int))=false:=decide_eq_false (by lia);have e2:decide (i≥2 ^ 63)=false:=decide_eq_false (by lia);rw [e1,e2,Bool.or_false]) (by rw [h1];simpa using h2) ⟨.str ⟨#[c]⟩,H,I.tok _,⟨_,rfl⟩,q⟩) hs
theorem HA (its:List bv) (n j:Nat) (u:bv):Obj.mapSeq (·.setIfInBounds j u) {cls:=.type "list",data:=.seq its.toArray n} = {cls:=.type "list",data:=.seq (its.set j u).toArray n}:=by
 simp [Obj.mapSeq]
theorem Inv.lst (I:Inv X pins σ H s) (h:H p=some (.lst xs)) :
  ∃(its:List bv) (n:Nat),Vals xs its/\s.heap.get? p=some {cls:=.type "list",data:=.seq its.toArray n}/\xs.length<=dL:=by
 obtain⟨z,its,n,r,e⟩:=I.gG p _ h;exact⟨its,n,r,e,z⟩
theorem Inv.TX {pins:List (ac×Obj)} {σ:St} {H:Hp} {s:ci} {p:ac} {xs ys:List V} {its its':List bv} {n n':Nat} {f:Obj->Obj} (I:Inv X pins σ H s) (h:H p=some (.lst xs))
  (ho:s.heap.get? p=some {cls:=.type "list",data:=.seq its.toArray n}) (hf:f {cls:=.type "list",data:=.seq its.toArray n} = {cls:=.type "list",data:=.seq its'.toArray n'}) (r:Vals ys its') (hz:ys.length<=dL) (t:Nat) :
  Inv X pins σ (upd H p (.lst ys)) {s with heap:=s.heap.update p f,toks:=t}:=by
 have e:(s.heap.update p f).get? p=some {cls:=.type "list",data:=.seq its'.toArray n'}:=by
  rw [bY f ho (by rw [hf]<;>rfl),hf]
 refine I.write (x:=p) (e:=p) (by rw [h];trivial) (.inl rfl) (λ b u hb q=>(bR _ _ (Ne.symm hb)).trans q) ⟨_,e⟩ ?_;exact⟨hz,its',n',r,e⟩
def MW:V->V->V->Hp->(Hp->Prop)->Prop:=λ o i v H Q=>∃p xs k j,o = .ref p/\i = .int k/\H p=some (.lst xs)/\N1 xs.length k=some j/\Q (upd H p (.lst (xs.set j v)))
theorem set_list:Vj X MW:=by
 intro pins s σ H o i v ov iv u Q I ro ri rv h;obtain⟨p,xs,k,j,rfl,rfl,hp,hj,q⟩:=h
 cases ro;obtain⟨t,rfl⟩:=ri;obtain⟨its,n,r,ho,hz⟩:=I.lst hp;obtain⟨h1,h2,h3,h4⟩:=JC hj;have hl:=r.length;have hn:=tZ
 have I':Inv X pins σ (upd H p (.lst (xs.set j v))) {s with heap:=s.heap.update p (Obj.mapSeq (·.setIfInBounds j u))}:=
  I.TX hp ho (HA its n j u) (r.set rv j) (by rwa [bQ]) s.toks
 by_cases h0:0<=k
 .have hk:k.toNat=j:=by
   rw [JaU h0 h4] at h1;exact Option.some.inj h1
  exact PySem.W.ki_setAt ho h0 (by lia) (by rwa [aM,<-hl]) (by rw [hk];exact⟨_,I',q⟩)
 .have hk:(k+(its.toArray.size:Int)).toNat=j:=by
   rw [JaI (Yj h0) h3] at h1;rw [aM,<-hl];exact Option.some.inj h1
  exact PySem.W.ki_setBack ho (Yj h0) (by rwa [aM,<-hl]) (by lia) (by rw [hk];exact⟨_,I',q⟩)
theorem Dd (lo hi:Option Int) (n:Nat):(TW lo hi none n).1=((HT.jW n 0 lo:Nat):Int)/\(TW lo hi none n).2.1=((HT.jW n n hi:Nat):Int)/\(TW lo hi none n).2.2=1:=by
 refine⟨?_,?_,rfl⟩
 .cases lo with
  | none=>simp [TW,HT.jW]
  | some i=>
   simp only [TW,HT.jW,Option.getD_none,show (1:Int)>0 by decide,if_true];by_cases h:i<0
   .simp only [h,if_true]<;>exact Qap h
   .simp only [h,if_false]<;>exact Qaq
 .cases hi with
  | none=>simp [TW,HT.jW]
  | some i=>
   simp only [TW,HT.jW,Option.getD_none,show (1:Int)>0 by decide,if_true];by_cases h:i<0
   .simp only [h,if_true]<;>exact Qap h
   .simp only [h,if_false]<;>exact Qaq
theorem AY (its:List bv) (lo hi:Option Int):slicePick its.toArray lo hi none=((its.drop (HT.jW its.length 0 lo)).take (HT.jW its.length its.length hi-HT.jW its.length 0 lo)).toArray:=by
 obtain⟨h1,h2,h3⟩:=Dd lo hi its.toArray.size;unfold slicePick;rw [h1,h2,h3];simp only [sliceRange_one,pick_run,aM]<;>rfl
def Wn (K:ai):V->Option Int->Option Int->Hp->VK->Prop:=λ x lo hi H Q=>∃a xs,x = .ref a/\gg K H a xs/\∀p,H p=none->Q (.ref p) (upd H p (.lst (sE xs lo hi)))
theorem m_:YI X (Wn X.K):=by
 intro pins s σ H x v vl vu lo hi sl Q I rx hs pl pu h;obtain⟨a,xs,rfl,hx,q⟩:=h
 cases rx;obtain⟨its,r,ht,hz⟩:=I.list hx;have hlen:=r.length;refine⟨"list",_,slot_list_getitem.lookup,ht.isList.typeIs,?_⟩;refine wpAny_getItem_list_slice ht.isList hs pl pu .none (by simp) ?_ (by rw [aM]<;>exact Zc (Zg hlen) hz);rw [AY,<-hlen];refine⟨.ref s.heap.objs.size,_,I.laid (t':=s.toks) (o:=.lst (sE xs lo hi)) (λ b ob q=>ah _ q) (az _) ?_,rfl,q _ (I.gG.fresh (az _))⟩;exact⟨bj (xx xs lo hi) hz,_,0,(r.drop (HT.jW xs.length 0 lo)).take (HT.jW xs.length xs.length hi-HT.jW xs.length 0 lo),aK _ rfl⟩
def kx:V->Bool
 | .i6=>true
 | .bl _=>true
 | .int _=>true
 | .str _=>true
 | _=>false
def xl:V->V->Bool
 | .i6,.i6=>true
 | .bl a,.bl b=>a==b
 | .bl a,.int b=>(if a then 1 else 0)==b
 | .int a,.bl b=>a==(if b then 1 else 0)
 | .int a,.int b=>a==b
 | .str a,.str b=>a==b
 | _,_=>false
theorem UU (ry:RelV y u) (rx:RelV x v) (fy:kx y=true) (fx:kx x=true):SeqAt.EqAt A s u v (xl y x):=by
 cases y with
 | i6=>
  cases ry
  cases x with
  | i6=>cases rx;exact SeqAt.EqAt.same _
  | bl b=>cases rx;exact SeqAt.EqAt.none_bool b
  | int b=>obtain⟨t,rfl⟩:=rx;exact SeqAt.EqAt.none_int b t
  | str b=>obtain⟨t,rfl⟩:=rx;exact SeqAt.EqAt.none_str b t
  | _=>exact absurd (show false=true from fx) aI
 | bl a=>
  cases ry
  cases x with
  | i6=>cases rx;exact SeqAt.EqAt.bool_none a
  | bl b=>cases rx;exact SeqAt.EqAt.bool_bool a b
  | int b=>obtain⟨t,rfl⟩:=rx;exact SeqAt.EqAt.bool_int a b t
  | str b=>obtain⟨t,rfl⟩:=rx;exact SeqAt.EqAt.bool_str a b t
  | _=>exact absurd (show false=true from fx) aI
 | int a=>
  obtain⟨t',rfl⟩:=ry
  cases x with
  | i6=>cases rx;exact SeqAt.EqAt.int_none a t'
  | bl b=>cases rx;exact SeqAt.EqAt.int_bool a t' b
  | int b=>obtain⟨t,rfl⟩:=rx;exact SeqAt.EqAt.int_int a t' b t
  | str b=>obtain⟨t,rfl⟩:=rx;exact SeqAt.EqAt.int_str a t' b t
  | _=>exact absurd (show false=true from fx) aI
 | str a=>
  obtain⟨t',rfl⟩:=ry
  cases x with
  | i6=>cases rx;exact SeqAt.EqAt.str_none a t'
  | bl b=>cases rx;exact SeqAt.EqAt.str_bool a t' b
  | int b=>obtain⟨t,rfl⟩:=rx;exact SeqAt.EqAt.str_int a t' b t
  | str b=>obtain⟨t,rfl⟩:=rx;exact SeqAt.EqAt.str_str a t' b t
  | _=>exact absurd (show false=true from fx) aI
 | _=>exact absurd (show false=true from fy) aI
def BX (x:V) (u:bv):Bool:=match u with
 | .none=>xl .i6 x
 | .bool b=>xl (.bl b) x
 | .int i _=>xl (.int i) x
 | .str z _=>xl (.str z) x
 | _=>false
theorem DW (r:RelV y u) (f:kx y=true):BX x u=xl y x:=by
 cases y with
 | i6=>cases r;rfl
 | bl b=>cases r;rfl
 | int i=>obtain⟨t,rfl⟩:=r;rfl
 | str z=>obtain⟨t,rfl⟩:=r;rfl
 | _=>exact absurd (show false=true from f) aI
theorem ve:∀{xs:List V} {us:List bv},Vals xs us->xs.all kx=true->us.any (BX x)=xs.any λ y=>xl y x
 | _,_,.nil,_=>rfl
 | y::xs,u::us,.cons r t,f=>by
  rw [cZ,bc] at f;rw [cY,cY,DW r f.1,ve t f.2]
theorem mG (rx:RelV x v) (fx:kx x=true):∀{xs:List V} {us:List bv},Vals xs us->xs.all kx=true->∀u∈us,SeqAt.EqAt A s u v (BX x u)
 | _,_,.nil,_=>λ u hu=>by cases hu
 | y::xs,u::us,.cons r t,f=>λ u' hu=>by
  rw [cZ,bc] at f;rcases av.mp hu with rfl|hu
  .rw [DW r f.1];exact UU r rx f.1 fx
  .exact mG rx fx t f.2 u' hu
def Uc (x:V) (xs:List V):Bool:=xs.any λ y=>xl y x
def Wo (K:ai) (neg:Bool):R2:=λ x y H Q=>∃p xs,y = .ref p/\(gg K H p xs\/oV K H p xs)/\kx x=true/\xs.all kx=true/\Q (.bl (if neg then !Uc x xs else Uc x xs)) H
theorem BE:uj X (tz .In) (Wo X.K false):=by
 intro pins s σ H x y v u Q I rx ry h;obtain⟨p,xs,rfl,hq,fx,fs,q⟩:=h
 cases ry;rcases hq with hq|hq
 .obtain⟨its,r,pl,hz⟩:=I.list hq;refine SeqAt.in_listAt (BX x) pl.isList (λ w hw=>mG rx fx r fs w (by simpa using hw)) ⟨.bl _,H,I,rfl,?_⟩
  rwa [show its.toArray.any (BX x)=its.any (BX x) by simp,ve r fs]
 .obtain⟨its,r,pl,hz⟩:=I.tuple hq;refine SeqAt.in_tupleAt (BX x) pl (λ w hw=>mG rx fx r fs w (by simpa using hw)) ⟨.bl _,H,I,rfl,?_⟩
  rwa [show its.toArray.any (BX x)=its.any (BX x) by simp,ve r fs]
theorem pA:uj X (tz .NotIn) (Wo X.K true):=by
 intro pins s σ H x y v u Q I rx ry h;obtain⟨p,xs,rfl,hq,fx,fs,q⟩:=h
 cases ry;rcases hq with hq|hq
 .obtain⟨its,r,pl,hz⟩:=I.list hq;refine SeqAt.notIn_listAt (BX x) pl.isList (λ w hw=>mG rx fx r fs w (by simpa using hw)) ⟨.bl _,H,I,rfl,?_⟩
  rwa [show its.toArray.any (BX x)=its.any (BX x) by simp,ve r fs]
 .obtain⟨its,r,pl,hz⟩:=I.tuple hq;refine SeqAt.notIn_tupleAt (BX x) pl (λ w hw=>mG rx fx r fs w (by simpa using hw)) ⟨.bl _,H,I,rfl,?_⟩
  rwa [show its.toArray.any (BX x)=its.any (BX x) by simp,ve r fs]
theorem fQ:kL X (.builtin "len") (λ xs H Q=>∃p ys,xs = [.ref p]/\(gg X.K H p ys\/oV X.K H p ys)/\Q (.int ys.length) H):=by
 intro pins s σ H xs us Q I r h;obtain⟨p,ys,rfl,hq,q⟩:=h;obtain⟨u,rfl,rx⟩:=vals1 r
 cases rx;have hn:=tZ;rcases hq with hq|hq
 .obtain⟨its,r',pl,hz⟩:=I.list hq;have hlen:=r'.length;exact Calls.call_len_list pl.isList (by simp only [aM]<;>lia) ⟨.int ys.length,H,I.tok _,⟨s.toks+1,by rw [aM,hlen]⟩,q⟩
 .obtain⟨its,r',pl,hz⟩:=I.tuple hq;have hlen:=r'.length;exact len_tuple pl (by simp only [aM]<;>lia) ⟨.int ys.length,H,I.tok _,⟨s.toks+1,by rw [aM,hlen]⟩,q⟩
theorem Eb:kL X (.builtin "len") (λ xs H Q=>∃z,xs = [.str z]/\z.length<=dL/\Q (.int z.length) H):=by
 intro pins s σ H xs us Q I r h;obtain⟨z,rfl,hz,q⟩:=h;obtain⟨u,rfl,t,rfl⟩:=vals1 r;have hn:=tZ;exact len_str (by lia) ⟨.int z.length,H,I.tok _,⟨_,rfl⟩,q⟩
theorem u7:kL X (.type "list") (λ xs H Q=>∃p ys,xs = [.ref p]/\(gg X.K H p ys\/oV X.K H p ys)/\∀l,H l=none->Q (.ref l) (upd H l (.lst ys))):=by
 intro pins s σ H xs us Q I r h;obtain⟨p,ys,rfl,hq,q⟩:=h;obtain⟨u,rfl,rx⟩:=vals1 r
 cases rx
 have fin:∀(its:List bv),Vals ys its->ys.length<=dL->∀(h':Heap) (c':Nat),(∀b o',s.heap.get? b=some o'->h'.get? b=some o')->
   h'.get? s.heap.objs.size=some {cls:=.type "list",dict:=none,data:=.seq its.toArray c',slots:= #[]}->EP X pins σ Q (.ref s.heap.objs.size) {s with heap:=h'}:=λ its r' hz h' c' kp e=>
  ⟨.ref s.heap.objs.size,_,I.laid (t':=s.toks) kp (az _) (show iz X.prog X.w _ h' _ (.lst ys) from ⟨hz,its,c',r',e⟩),rfl,q _ (I.gG.fresh (az _))⟩
 rcases hq with hq|hq
 .obtain⟨its,r',pl,hz⟩:=I.list hq;have hlen:=r'.length;obtain⟨o,ho,hc,n,hd⟩:=pl.isList;exact call_list_seq p (.inl rfl) ho hc hd (λ h' c' kp e=>fin its r' hz h' c' kp e) (by simp only [aM]<;>exact Zc (Zg hlen) hz)
 .obtain⟨its,r',pl,hz⟩:=I.tuple hq;have hlen:=r'.length;obtain⟨o,ho,hc,n,hd⟩:=pl;exact call_list_seq p (.inr rfl) ho hc hd (λ h' c' kp e=>fin its r' hz h' c' kp e) (by simp only [aM]<;>exact Zc (Zg hlen) hz)
def Vw (K:ai) (T:String) (x:V) (H:Hp):Prop:=match x with
 | .str _=>T="str"
 | .int _=>T="int"
 | .ref p=>(T="list"/\∃xs,gg K H p xs)\/(T="tuple"/\∃o,K.lookup p=some o/\o.cls = .type "tuple"/\o.dict=none)\/
   (T="dict"/\((∃kvs,H p=some (.dK kvs))\/∃kvs,H p=some (.dT kvs)))\/(T="set"/\∃S n,H p=some (.set S n))
 | _=>False
theorem Mo (I:Inv X pins σ H s) (r:RelV x v) (ty:Vw X.K T x H) :
  s.TypeIs v T/\∀a,v = .ref a->∃ob,s.heap.get? a=some ob/\ob.dict=none:=by
 cases x with
 | str z=>
  obtain⟨t,rfl⟩:=r
  cases (show T="str" from ty);exact⟨typeIs_str s z t,λ _ e=>nomatch e⟩
 | int i=>
  obtain⟨t,rfl⟩:=r
  cases (show T="int" from ty);exact⟨typeIs_int s i t,λ _ e=>nomatch e⟩
 | ref p=>
  cases r;rcases ty with ⟨rfl,xs,hq⟩ | ⟨rfl,o,hk,hc,hd⟩ | ⟨rfl,hk⟩ | ⟨rfl,S,n,hk⟩
  .obtain⟨its,_,pl,_⟩:=I.list hq;refine⟨pl.isList.typeIs,λ a e=> ?_⟩
   cases e;obtain⟨o,n,e,c,hd,_⟩:=pl;exact⟨o,e,hd⟩
  .refine⟨⟨o,I.vp p o hk,hc⟩,λ a e=> ?_⟩
   cases e;exact⟨o,I.vp _ o hk,hd⟩
  .have z:∃o,s.heap.get? p=some o/\o.ExactDict:=by
    rcases hk with ⟨kvs,hk⟩ | ⟨kvs,hk⟩
    .obtain⟨_,_,_,_,o,_,_,e,ex,_⟩:=I.gG p _ hk;exact⟨o,e,ex⟩
    .obtain⟨_,_,_,_,o,_,_,e,ex,_⟩:=I.gG p _ hk;exact⟨o,e,ex⟩
   obtain⟨o,e,ex⟩:=z;refine⟨⟨o,e,ex.1⟩,λ a e2=> ?_⟩
   cases e2;exact⟨o,e,ex.2.1⟩
  .obtain⟨o,_,_,_,e,ex,_⟩:=I.gG p _ hk;refine⟨⟨o,e,ex.1⟩,λ a e2=> ?_⟩
   cases e2;exact⟨o,e,ex.2.1⟩
 | _=>exact False.elim ty
def PY (K:ai) (T:String) (r:V->List V->Hp->VK->Prop) (to:TE):TE:=λ σ H Q=>to σ H λ x H1=>Vw K T x H1/\r x [] H1 Q
def Wb (K:ai) (T:String) (r:V->List V->Hp->VK->Prop) (to:TE) (t:TA):TE:=λ σ H Q=>to σ H λ x H1=>Vw K T x H1/\t σ H1 λ xs H2=>r x xs H2 Q
variable {o e:li} {es:List li} {to:TE} {t:TA} {name:Str} {apos gY:Pos} {T id:String} {r:V->List V->Hp->VK->Prop}
theorem Tt (pa:Jac T) (slot:Slot T name id) (QM:JaG (.builtin id)=pure (.type "method_descriptor")) (hm:V3 X id r) (ho:PE X o to)
  (oF:sw o name X.env (jp o X.env)=jp o X.env:=by rfl) (oE:(apos.endLine==gY.line)=true:=by rfl):PE X (.Call (.Attribute o name apos) [] [] gY) (PY X.K T r to):=by
 intro pins s σ H Q I h;refine JaC oF oE (gZ (ho pins s σ H _ I h) λ v s1 zq=> ?_);obtain⟨x,H1,I1,r1,ty,q1⟩:=zq;obtain⟨h1,h2⟩:=Mo I1 r1 ty;exact⟨T,id,pa,slot,QM,h1,h2,Calls.callWith_builtin rfl (PySem.evalArgs_none (hm pins s1 σ H1 x [] v [] Q I1 r1 .nil q1))⟩
theorem RQ (pa:Jac T) (slot:Slot T name id) (QM:JaG (.builtin id)=pure (.type "method_descriptor")) (hm:V3 X id r) (ho:PE X o to) (ha:PA X (e::es) t)
  (oF:sw o name X.env (jp o X.env)=jp o X.env:=by rfl)
  (Oc:((ul gY (db (e::es) X.env)).all (λ x=> !x.1)&&(EQ gY (wv [] X.env)).all (λ x=>x.1.isSome)
   && decide ((e::es).length+([]:List UF).length+(if ([]:List UF).isEmpty then 0 else 1)<30))=true:=by rfl)
  (oE:(apos.endLine==gY.line)=true:=by rfl) (hs:db (e::es) X.env=(false,jp e X.env)::db es X.env:=by rfl) (zN:(ul gY (db es X.env)).any (·.1)=false:=by rfl) :
  PE X (.Call (.Attribute o name apos) (e::es) [] gY) (Wb X.K T r to t):=by
 intro pins s σ H Q I h;refine wpAny_Call_method_late oF Oc oE rfl (gZ (ho pins s σ H _ I h) λ v s1 zq=> ?_);obtain⟨x,H1,I1,r1,ty,q1⟩:=zq;obtain⟨h1,h2⟩:=Mo I1 r1 ty;refine⟨T,id,pa,slot,QM,h1,h2,?_⟩;have hA:=ha gY pins s1 σ H1 _ I1 q1;rw [hs] at hA⊢;refine Calls.callWith_builtin (by show (false||(ul gY (db es X.env)).any (·.1))=false;rw [zN]<;>rfl) (Calls.evalArgs_plain ?_);exact gZ hA λ us s2 ⟨vs,H2,I2,r2,q2⟩=>hm pins s2 σ H2 x vs v us Q I2 r1 r2 q2
end
def Vm (X:Cx) (id:String) (r:V->List V->Hp->VK->Prop):Prop:=
 ∀(pins:List (ac×Obj)) (s:ci) (σ:St) (H:Hp) (x:V) (xs:List V) (v:bv) (us:List bv) (Q:VK),Inv X pins σ H s->RelV x v->Vals xs us->r x xs H Q->
  gc (ga X.prog X.w) X.A (call (.builtin id) (v::us)) (EP X pins σ Q) X.xe s
theorem Vals.one:∀{x:V} {us:List bv},Vals [x] us->∃u,us = [u]/\RelV x u:=by
 intro x us h
 cases h with
 | cons r t=>
  cases t;exact⟨_,rfl,r⟩
theorem Vals.two:∀{x y:V} {us:List bv},Vals [x,y] us->∃u v,us = [u,v]/\RelV x u/\RelV y v:=by
 intro x y us h
 cases h with
 | cons r t=>
  cases t with
  | cons q n=>
   cases n;exact⟨_,_,rfl,r,q⟩
theorem Vals.zero:∀{us:List bv},Vals [] us->us = []
 | _,.nil=>rfl
theorem Vals.dropLast (h:Vals xs us):Vals xs.dropLast us.dropLast:=by
 induction h with
 | nil=>exact .nil
 | cons r t ih=>
  cases t with
  | nil=>exact .nil
  | cons q t'=>exact .cons r ih
theorem Vals.eraseIdx:∀{xs:List V} {us:List bv} (i:Nat),Vals xs us->Vals (xs.eraseIdx i) (us.eraseIdx i)
 | _,_,_,.nil=>.nil
 | _,_,0,.cons _ t=>t
 | _,_,i+1,.cons r t=>.cons r (Vals.eraseIdx i t)
theorem Vals.reverse (h:Vals xs us):Vals xs.reverse us.reverse:=by
 induction h with
 | nil=>exact .nil
 | cons r t ih=>rw [cP,cP];exact Vals.append ih (.cons r .nil)
theorem Ic {α:Type} (l:List α):l.eraseIdx (l.length-1)=l.dropLast:=by
 induction l with
 | nil=>rfl
 | cons a r ih=>
  cases r with
  | nil=>rfl
  | cons b r=>
   have e:(a::b::r).length-1=((b::r).length-1)+1:=by
    have h1:(a::b::r).length=r.length+2:=rfl;have h2:(b::r).length=r.length+1:=rfl;exact rfl
   rw [e,cu,ih]
   all_goals rfl
section
variable {X:Cx} {pins:List (ac×Obj)} {σ:St} {H:Hp} {s:ci} {l b:ac} {xs ys zs:List V}
theorem Inv.NN {its its':List bv} {n:Nat} {f:Array bv->Array bv} {t':Nat} (I:Inv X pins σ H s) (hH:H l=some (.lst xs))
  (e:s.heap.get? l=some {cls:=.type "list",data:=.seq its.toArray n}) (hf:f its.toArray=its'.toArray) (hv:Vals ys its') (hz:ys.length<=dL) :
  Inv X pins σ (upd H l (.lst ys)) {s with heap:=s.heap.update l (Obj.mapSeq f),toks:=t'}:=by
 have q:=PySem.IsL.update e f;rw [hf] at q;refine I.write (x:=l) (e:=l) (by rw [hH];exact trivial) (.inl rfl) (λ b' u hb hu=>(bR s.heap (Obj.mapSeq f) (Ne.symm hb)).trans hu) ⟨_,q⟩ ?_;exact⟨hz,its',_,hv,q⟩
theorem Inv.TZ (I:Inv X pins σ H s) (hv:Vals ys its) (hz:ys.length<=dL) :
  Inv X pins σ (upd H s.heap.objs.size (.lst ys)) {s with heap:=s.heap.push {cls:=.type "list",data:=.seq its.toArray},toks:=t'}:=
 I.laid (λ _ _ q=>ah _ q) (az _) ⟨hz,its,0,hv,aK _ rfl⟩
theorem Inv.fresh (I:Inv X pins σ H s):H s.heap.objs.size=none:=I.gG.fresh (az _)
theorem Inv.zy (I:Inv X pins σ H s) (hH:H l=some (.lst xs)):xs.length<=dL/\∃(its:List bv) (n:Nat),Vals xs its/\xs.length=its.length/\s.heap.get? l=some {cls:=.type "list",data:=.seq its.toArray n}:=by
 obtain⟨z,its,n,r,e⟩:=I.gG l _ hH;exact⟨z,its,n,r,r.length,e⟩
theorem NC (h:n<=dL):Builtin.List.listTooLong n=false:=by
 unfold Builtin.List.listTooLong;exact decide_eq_false (by lia)
end
section
variable {X:Cx}
def Dp:V->List V->Hp->VK->Prop:=λ x vs H Q=>∃l xs y,x = .ref l/\vs = [y]/\H l=some (.lst xs)/\xs.length<dL/\Q .i6 (upd H l (.lst (xs ++ [y])))
theorem gE:Vm X "list.append" Dp:=by
 intro pins s σ H x vs v us Q I rx rv h;obtain⟨l,xs,y,rfl,rfl,hH,hz,q⟩:=h
 cases rx;obtain⟨u,rfl,ru⟩:=rv.one;obtain⟨z,its,n,r,hl,e⟩:=I.zy hH;refine UV F.slot_list_append ⟨_,e,rfl⟩ F.entry_list_append (F.args_list_append_2 _ _) (PySem.list_append l its.toArray n u (by rw [aM];exact Zc (Zg hl) z)) ⟨e,?_⟩;refine⟨.i6,_,I.NN (its':=its ++ [u]) hH e (by simp) (r.append (.cons ru .nil)) ?_,rfl,q⟩;rw [ao,bg];exact hz
def Qa:V->List V->Hp->VK->Prop:=λ x vs H Q=>∃l b xs zs,x = .ref l/\vs = [.ref b]/\H l=some (.lst xs)/\H b=some (.lst zs)/\xs.length+zs.length<=dL/\Q .i6 (upd H l (.lst (xs++zs)))
theorem wd:Vm X "list.extend" Qa:=by
 intro pins s σ H x vs v us Q I rx rv h;obtain⟨l,b,xs,zs,rfl,rfl,hH,hB,hz,q⟩:=h
 cases rx;obtain⟨u,rfl,ru⟩:=rv.one
 cases ru;obtain⟨z,its,n,r,hl,e⟩:=I.zy hH;obtain⟨z2,HN,n2,r2,BN,e2⟩:=I.zy hB;have hsz:its.toArray.size+HN.toArray.size<=dL:=by rw [aM,aM];exact Qar hz hl BN
 have Xu:¬(!its.toArray.isEmpty&&Builtin.List.listTooLong (its.toArray.size+HN.toArray.size))=true:=by
  rw [NC hsz,Bool.and_false];exact aI
 refine UV F.slot_list_extend ⟨_,e,rfl⟩ F.entry_list_extend (F.args_list_extend_2 _ _)
  (AutoSeq1.list_extend_list_list_0 l its.toArray n b HN.toArray n2 Xu (by rw [aM];exact Zc (Zg hl) z) (Zc hsz Zk)) ⟨e,e2,?_⟩
 refine⟨.i6,_,I.NN (its':=its++HN) hH e (by simp) (r.append r2) ?_,rfl,q⟩;rw [ao];exact hz
def æ:V->List V->Hp->VK->Prop:=λ x vs H Q=>∃l xs y,x = .ref l/\vs = []/\H l=some (.lst xs)/\xs[xs.length-1]? = some y/\Q y (upd H l (.lst xs.dropLast))
theorem Hv:Vm X "list.pop" æ:=by
 intro pins s σ H x vs v us Q I rx rv h;obtain⟨l,xs,y,rfl,rfl,hH,hy,q⟩:=h
 cases rx;have Ē:=rv.zero;subst Ē;obtain⟨z,its,n,r,hl,e⟩:=I.zy hH;obtain⟨u,hu,ru⟩:=r.get hy
 have VO:its.toArray[its.toArray.size-1]? = some u:=by
  show its.toArray[its.length-1]? = some u
  rwa [<-bh,<-hl]
 refine UV F.slot_list_pop ⟨_,e,rfl⟩ F.entry_list_pop (F.args_list_pop_1 _) (MeetsSeq.list_pop_last l its.toArray n u VO (by rw [aM];exact Zc (Zg hl) z)) ⟨e,?_⟩;refine⟨y,_,I.NN (its':=its.dropLast) hH e ?_ r.dropLast ?_,ru,q⟩
 .show its.toArray.eraseIdxIfInBounds (its.toArray.size-1)=its.dropLast.toArray;rw [aM,eM,Ic]
 .rw [List.length_dropLast];exact Zc Zu z
def zg:V->List V->Hp->VK->Prop:=λ x vs H Q=>∃l xs,x = .ref l/\vs = []/\H l=some (.lst xs)/\Q .i6 (upd H l (.lst xs.reverse))
theorem Hu:Vm X "list.reverse" zg:=by
 intro pins s σ H x vs v us Q I rx rv h;obtain⟨l,xs,rfl,rfl,hH,q⟩:=h
 cases rx;have Ē:=rv.zero;subst Ē;obtain⟨z,its,n,r,hl,e⟩:=I.zy hH;refine UV F.slot_list_reverse ⟨_,e,rfl⟩ F.entry_list_reverse (F.args_list_reverse_1 _) (AutoSeq1.list_reverse_list_0 l its.toArray n (by rw [aM];exact Zc (Zg hl) z)) ⟨e,?_⟩;refine⟨.i6,_,I.NN (its':=its.reverse) hH e (by simp) r.reverse ?_,rfl,q⟩;rw [List.length_reverse];exact z
def S1:R2:=λ x y H Q=>∃l b xs zs,x = .ref l/\y = .ref b/\H l=some (.lst xs)/\H b=some (.lst zs)/\xs.length+zs.length<=dL/\∀p,H p=none->Q (.ref p) (upd H p (.lst (xs++zs)))
theorem mD:uj X (Uf .Add) S1:=by
 intro pins s σ H x y v u Q I rx ry h;obtain⟨l,b,xs,zs,rfl,rfl,hH,hB,hz,q⟩:=h
 cases rx
 cases ry;obtain⟨z,its,n,r,hl,e⟩:=I.zy hH;obtain⟨z2,HN,n2,r2,BN,e2⟩:=I.zy hB;refine PySem.P.add_list e e2 ?_ (by rw [aM,aM];exact Qar hz hl BN);have ea:its.toArray++HN.toArray=(its++HN).toArray:=by simp
 rw [ea];exact⟨.ref _,_,I.TZ (t':=s.toks) (r.append r2) (by rw [ao];exact hz),rfl,q _ I.fresh⟩
end
section
variable {prog:im} {w:io} {A:pi} {E:bv->ci->Prop} {s:ci}
end
section
variable {X:Cx}
end
end L2
namespace Att
open PySem PySem.W PySem.Calls PyProof.Rows
theorem x4:∀(ns:List Int) (vs:List bv),WellAll P h vs (ns.map WData.int)->Fk vs ns:=by
 intro ns
 induction ns with
 | nil=>
  intro vs w;rw [bz] at w
  cases w;exact .nil
 | cons n ns ih=>
  intro vs w;rw [aB] at w
  cases w with
  | cons a b=>
   cases a;exact .cons _ _ (ih _ b)
theorem Kx {l:OpenLaw} {n:Nat} (hn:l.most=some n) {P:Params} {h:Heap} {args:List WData} {vals:List bv}
  (QO:l.row.toRowW.claim.pre args=true) (R8:WellAll P h vals args) :
  ∃a vs ns,vals = [Value.ref a]/\args = [WData.list (ns.map WData.int)]/\h.get? a=some {cls:=.type "list",data:=.seq vs.toArray}/\Fk vs ns/\ns.length<=n:=by
 have HQ:WShape.hasAll [] args [.list .int]=true:=(pre_splitW QO).1;have hc:l.pre.holds [] {args:=args}=true:=(pre_splitW QO).2;obtain⟨d,r,rfl,h1,h2⟩:=hasAllW_cons HQ;obtain rfl:=hasAllW_nil h2;obtain⟨xs,rfl,h3⟩:=hasW_list h1;obtain⟨ns,rfl⟩:=items_int h3
 have hlen:ns.length<=n:=by
  unfold OpenLaw.pre at hc
  have h4:(WTm.not (.lt (.lit (.int (n:Int))) (.len (.arg 0)))).holds [] {args:= [.list (ns.map .int)]}=true:=by
   have h4:=(holds_andW hc).1;rw [hn] at h4;exact h4
  have h5:=condW_of h4 (w_not (w_lt w_lit (w_len_list (w_arg rfl))));rw [ae] at h5;refine eQ λ q=> ?_;have q':(n:Int)<((ns.length:Nat):Int):=by exact Yp q
  first
   | (rw [decide_eq_true q'] at h5;exact absurd h5 (by decide))
   | (simp at h5;omega)
 cases R8 with
 | cons w1 w2=>
  cases w2
  cases w1 with
  | list ho į=>exact⟨_,_,ns,rfl,rfl,ho,x4 ns _ į,hlen⟩
theorem KA (l:OpenLaw) (args:List WData):l.row.toRowW.claim.post args (.bool true) args=true:=
 postW_of (r:=l.row.toRowW) (X:=(true==true))
  (show WShape.has [] (.bool true) .bool=true by first|rfl|decide|simp [WShape.has,WShape.arms,WShape.armsAll])
  (show (WTm.eq .res (.lit (.bool true))).value [] {args:=args,res:=some (.bool true),after:=args}=some (.bool (true==true)) from w_eq_bool (w_res rfl) w_lit) rfl
theorem F9 {l:OpenLaw} {n:Nat} {q:im} {loose:List Str} {XP:(Str->Option bv)->Heap->Prop} {YP:io->Heap->Prop} {d:DefRec}
  (hn:l.most=some n) (Xy:d.params.defaults = [])
  (call:∀(w:io) (iY j4:ci) (mg mb:Str->Option bv) (fa:ac) (o:Obj) (pm cd doc:bv) (a:ac) (vs:List bv) (ns:List Int),
   Ground q loose [] XP w iY mg mb j4.heap->YP w j4.heap->
   j4.heap.get? fa=some o->o.data = .func (docDef d.name d.params d.body d.scope pm cd doc)->j4.heap.CodeRec cd d.name->mg d.name=some (.ref fa)->
   j4.heap.get? a=some {cls:=.type "list",data:=.seq vs.toArray}->Fk vs ns->ns.length<=n->j4.gens = #[]->
   AT (ga l.prog w) Jah (.call (.ref fa) ⟨[.ref a],[]⟩) (λ r s'=>r = .ok (.ret (.bool true))/\OldK j4.heap s'.heap/\s'.os=j4.os/\WF s'.gens) j4) :
  WalkO q loose XP YP l.row.toRowW d [] (λ f vs=>PySem.call f vs):=by
 intro w iY j4 mg mb G Y fa o pm cd doc dV kV ho hd HS hD Xs hg args vals as QO aaj hrd R8 hlo;obtain rfl:dV = .none:=Dflts.none hD Xy;obtain rfl:kV = .none:=Dflts.noKw hD;obtain⟨a,vs,ns,rfl,rfl,Uq,hints,hlen⟩:=Kx hn QO R8;refine enter_call (Fa (call w iY j4 mg mb fa o pm cd doc a vs ns G Y ho (fd_plain hd) HS Xs Uq hints hlen hg) λ r s' hq=> ?_);obtain⟨rfl,h2,h3,h4⟩:=hq;exact⟨.inl ⟨.bool true,.bool true,[],rfl,λ _=>rfl,.bool true,KA l _,λ _=>⟨List.Pairwise.nil,λ _ hm=>(nomatch hm)⟩⟩,h2,h3,h4⟩
section
variable {prog:im} {w:io} {A:pi} {E:bv->ci->Prop} {s:ci} {K:Frag}
end
end Att
namespace L2
open PySem PySem.Spec PyProof.Rows
theorem Bm:∀{vs:List bv} {ns:List Int},Fk vs ns->Vals (ns.map V.int) vs
 | _,_,.nil=>.nil
 | _,_,.cons n t h=>.cons ⟨t,rfl⟩ (Bm h)
def Vl (H:Hp):Prop:=∀b,H b=none\/∃o xs,H b=some (.sW o (.lst xs))
theorem NT {P:im} {w:io} {K:ai} {mg mb:Str->Option bv} {CX:Bj} {k:Nat} {fa a:ac} {fd:ce} {x:Str} {sp:Sp} {j4:ci} {vs:List bv} {ns:List Int}
  (KX:K.In j4.heap) (τ:j4.heap.Ns ii mg) (hb:j4.heap.Ns Ja7 mb) (hbb:∀x:Str,x≠"__name__"->mb x=xL x) (Ġ:j4.heap.NoLimit) (hg:j4.gens = #[])
  (ha:j4.heap.get? a=some {cls:=.type "list",data:=.seq vs.toArray}) (hi:Fk vs ns) (hl:ns.length<=dL) (hr:jc k Jah)
  (F:∀base:Heap,K.In base->base.Ns ii mg->fX P w K mg base CX k fa fd [x] sp) (Xz:∀(s:ci) (u:bv),Jaq s fd ⟨[u],[]⟩ [(x,u)])
  (L1:∀H:Hp,Vl H->gg K H a (ns.map V.int)->sp [.ref a] H (λ v _=>v = .bl true) λ _ _ _=>False)
  (ĸ:∀H e s',CX [] H j4 (λ _ _ _=>False) e s'->False) :
  AT (ga P w) Jah (.call (.ref fa) ⟨[.ref a],[]⟩) (λ r s'=>r = .ok (.ret (.bool true))/\OldK j4.heap s'.heap/\s'.os=j4.os/\WF s'.gens) j4:=by
 have rv:=Bm hi;have Ă:=hi.length
 have core:∀H:Hp,Vl H->gg K H a (ns.map V.int)->rC P w H j4.heap->(∀b,H b≠none->b=a)->(H a≠none->K.lookup a=none)->
   AT (ga P w) Jah (.call (.ref fa) ⟨[.ref a],[]⟩) (λ r s'=>r = .ok (.ret (.bool true))/\OldK j4.heap s'.heap/\s'.os=j4.os/\WF s'.gens) j4:=by
  intro H hO hS gG hA hK;have J2:∀{b:ac} {o:Obj},j4.heap.get? b=some o->H b=none->(DP j4.heap H).get? b=some o:=λ e n=>Ob e n
  have WM:∀{b:ac} {o:Obj} {es:Array DictEntry} {ep:Nat},j4.heap.get? b=some o->o.data = .dict es ep->H b=none:=λ {b o es ep} e d=>by
   cases q:H b with
   | none=>rfl
   | some u=>
    have e':b=a:=hA b (by rw [q];simp);subst e';rw [ha] at e;cases e;have d':Data.seq vs.toArray _=Data.dict es ep:=d
    cases d'
  have ZH:∀{b:ac} {m:Str->Option bv},j4.heap.Ns b m->(DP j4.heap H).Ns b m:=λ {b m} ⟨o,es,ep,e,d,r⟩=>⟨o,es,ep,J2 e (WM e d),d,r⟩
  have hKb:K.In (DP j4.heap H):=λ b o e=>J2 (KX b o e) (by
   cases q:H b with
   | none=>rfl
   | some u=>
    have e':b=a:=hA b (by rw [q];simp);subst e';rw [hK (by rw [q];simp)] at e;cases e)
  have hM:Mod K mg (DP j4.heap H):=⟨hKb,ZH τ,⟨mb,ZH hb,hbb⟩,let ⟨mc,h1,h2⟩:=Ġ;⟨mc,ZH h1,h2⟩⟩
  have e0:IG P w K mg (DP j4.heap H) Jah [] j4 H:=⟨rfl,hM,λ b o e=>QF e,eI (Lj _ _),trivial,λ b hb=>absurd (show b∈([]:List ac) from hb) (by simp),gG,.of_eq hg⟩
  refine Fa ((F _ hKb (ZH τ)).run Jah [] j4 H ⟨[.ref a],[]⟩ [.ref a] [.ref a] _ _ hr e0 (Xz j4 (.ref a)) (.cons rfl .nil) (L1 H hO hS)) λ r s' h=> ?_
  cases r with
  | error e=>exact(ĸ H e s' h).elim
  | ok fl=>
   cases fl with
   | next=>exact False.elim h
   | brk=>exact False.elim h
   | cont=>exact False.elim h
   | ret u=>
    obtain⟨v,H',os,bare,un,ę,r',q⟩:=h;have q':v = .bl true:=q;subst q';obtain rfl:u=Value.bool true:=r';refine⟨rfl,OldK.of_keep λ b o e=> ?_,os,bare⟩
    cases q:H b with
    | none=>exact un.keep b o e q (by intro z;exact absurd (show b∈([]:List ac) from z) (by simp)) (by simp)
    | some u=>
     rcases hO b with z | ⟨ob,xs,z⟩
     .rw [q] at z;cases z
     .have z2:=un.oG b ob _ z;obtain⟨e1,_⟩:=gG b _ z;obtain⟨e2,_⟩:=ę b _ z2;rw [e] at e1;cases e1;exact e2
 cases hk:K.lookup a with
 | some o=>
  have e:=KX a o hk;rw [ha] at e
  cases e;refine core (λ _=>none) (λ _=>.inl rfl) (.inr ⟨_,vs.toArray,_,hk,rfl,rfl,rfl,by rwa [aM,Ă],by simpa using rv⟩) (λ b u z=>by have z':(none:Option HO)=some u:=z;cases z') (λ b z=>absurd rfl z) λ z=>absurd rfl z
 | none=>
  refine core (λ b=>if b=a then some (.sW {cls:=.type "list",data:=.seq vs.toArray} (.lst (ns.map V.int))) else none) (λ b=> ?_) (.inl (.inr ⟨{cls:=.type "list",data:=.seq vs.toArray},if_pos rfl⟩)) (λ b u z=> ?_) (λ b z=> ?_) λ _=>hk
  .by_cases hb:b=a
   .exact .inr ⟨_,_,if_pos hb⟩
   .exact .inl (if_neg hb)
  .by_cases hb:b=a
   .have z':=(if_pos hb).symm.trans z
    cases z';subst hb;exact⟨ha,by rwa [ae],vs,_,rv,ha⟩
   .have z':=(if_neg hb).symm.trans z
    cases z'
  .by_cases hb:b=a
   .exact hb
   .exact absurd (if_neg hb) z
abbrev KOf {K:ai} {h:Heap} (_:K.In h):ai:=K
theorem PF {l:eW} {n k:Nat} {q:im} {loose:List Str} {XP:(Str->Option bv)->Heap->Prop} {YP:io->Heap->Prop} {d:DefRec} {K:Params->ai} {CX:io->Bj} {sp:io->Sp} {x:Str}
  (hn:l.most=some n) (Ut:n<=dL) (Xy:d.params.defaults = []) (hr:jc k Jah)
  (hY:∀(w:io) (h:Heap),YP w h->(K w.params).In h)
  (F:∀(w:io) (mg:Str->Option bv) (fa:ac) (h:Heap),(K w.params).In h->h.Ns ii mg->mg d.name=some (.ref fa)->
   ∃fd:ce,(∀(s:ci) (u:bv),Jaq s fd ⟨[u],[]⟩ [(x,u)])/\
    ∀base:Heap,(K w.params).In base->base.Ns ii mg->fX l.prog w (K w.params) mg base (CX w) k fa fd [x] (sp w))
  (L1:∀(w:io) (H:Hp) (a:ac) (ns:List Int),ns.length<=n->Vl H->gg (K w.params) H a (ns.map V.int)->sp w [.ref a] H (λ v _=>v = .bl true) λ _ _ _=>False)
  (ĸ:∀(w:io) (H:Hp) (s:ci) (e:bv) (s':ci),CX w [] H s (λ _ _ _=>False) e s'->False) :
  PySem.W.WalkO q loose XP YP l.row.toRowW d [] (λ f vs=>PySem.call f vs):=by
 refine Att.F9 hn Xy λ w iY j4 mg mb fa o pm cd doc a vs ns G Y ho hd HS Xs Uq hints hlen hg=> ?_;have KX:=hY w _ Y;obtain⟨fd,hb,hF⟩:=F w mg fa _ KX G.T.g Xs;exact NT KX G.T.g G.T.b G.T.builtins G.T.nolimit hg Uq hints (bj hlen Ut) hr hF hb (λ H hO hS=>L1 w H a ns hlen hO hS) λ H e s'=>ĸ w H j4 e s'
def inClass (s:pc) (j:Nat):pc:=match s with
 | .ClassDef _ _ _ body _ _ _ _ _ _ _=>body.getD j (.Pass ⟨0,0,0,0⟩)
 | _=>.Pass ⟨0,0,0,0⟩
def nr (s:pc):Arguments:=match s with
 | .FunctionDef _ a _ _ _ _ _ _ _ _=>a
 | _=> {posonlyargs:= [],args:= [],vararg:=none,kwonlyargs:= [],kw_defaults:= [],kwarg:=none,defaults:= []}
def ky (s:pc):List pc:=match s with
 | .FunctionDef _ _ b _ _ _ _ _ _ _=>b
 | _=> []
def fC (s:pc):FS:=match s with
 | .FunctionDef _ _ _ _ _ _ sc _ _ _=>sc
 | _=> {kind:=.function,names:= [],isGenerator:=false,isCoroutine:=false}
abbrev E0:XK:=λ _ _ _=>False
structure Pb (K:ai) (x qual:Str) (st:pc) (f:ac) (fd:ce):Prop where
 ex:∃(oc:bv) (od:Option ac) (kV doc pm:bv) (an:Option ac) (iw ct:bv) (RT:Array (Option bv)),
  fd=cb x qual (nr st) (ky st) (fC st) .none kV doc pm an iw ct/\K.lookup f=some ⟨oc,od,.func fd,RT⟩/\dY K iw qual=true
 kp:bU K (.ref f)=true
section
variable {P:im} {w:io} {K:ai} {mg:Str->Option bv} {base:Heap}
theorem UK {x qual:Str} {st:pc} {f:ac} {oc:bv} {od:Option ac} {kV doc pm:bv} {an:Option ac} {iw ct:bv} {RT:Array (Option bv)} (l:K.lookup f=some ⟨oc,od,.func (cb x qual (nr st) (ky st) (fC st) .none kV doc pm an iw ct),RT⟩)
  (c:dY K iw qual=true) (k:bU K (.ref f)=true):Pb K x qual st f (cb x qual (nr st) (ky st) (fC st) .none kV doc pm an iw ct):=⟨⟨_,_,_,_,_,_,_,_,_,rfl,l,c⟩,k⟩
theorem Pb.binds {x qual:Str} {st:pc} {f:ac} {fd:ce} {ps:List Str} (F:Pb K x qual st f fd)
  (h:∀(kV doc pm:bv) (an:Option ac) (iw ct:bv) (us:List bv),us.length=ps.length->JaZ (cb x qual (nr st) (ky st) (fC st) .none kV doc pm an iw ct) ⟨us,[]⟩=pure (ps.zip us)):Binds K fd ps []:=by
 obtain⟨oc,od,kV,doc,pm,an,iw,ct,RT,rfl,lk,HS⟩:=F.ex;exact .all (h kV doc pm an iw ct)
end
theorem jO (hr:jc k A):A.units+1<FM:=bV (Nat.add_le_add_left (by decide:1<=64) _) hr.units
section
variable {X:Cx}
theorem pv (i:Nat) (hN:X.N[i]? = some x:=by rfl) (hv:Ì X.env.scope x:=by first|exact Or.inl rfl|exact Or.inr (Or.inl rfl)|exact Or.inr (Or.inr rfl)) (hd:(x==("__debug__" : Str))=false:=by decide)
  (HS:(x==("__classdict__" : Str))=false:=by decide):PE X (.Name x pos) (yD i):=Te hN hv hd HS
end
theorem W_ {A B:Prop} (h:B):if false=true then A else B:=by
 rwa [if_neg aI]
theorem W9 {A B:Prop} (h:A):if true=true then A else B:=by
 rwa [if_pos rfl]
def fw (H H':Hp):Prop:=∀b o,H b=some o->H' b=some o
theorem fw.refl (H:Hp):fw H H:=λ _ _ h=>h
theorem fw.trans (a:fw H H1) (b:fw H1 H2):fw H H2:=λ c o h=>b c o (a c o h)
theorem fw.free (e:fw H H') (h:H' l=Option.none):H l=Option.none:=by
 cases q:H l with
 | none=>rfl
 | some o=>
  rw [e l o q] at h
  cases h
theorem fw.seq {K:ai} {H H':Hp} {a:ac} {xs:List V} (e:fw H H') (h:gg K H a xs):gg K H' a xs:=by
 rcases h with (h | ⟨o,h⟩)|h
 .exact .inl (.inl (e _ _ h))
 .exact .inl (.inr ⟨o,e _ _ h⟩)
 .exact .inr h
section
variable {κ:Type} [DecidableEq κ]
def hV (kvs:List (κ×V)) (k:κ):Option V:=(kvs.find? λ kv=>decide (kv.1=k)).map (·.2)
def putK (kvs:List (κ×V)) (k:κ) (v:V):List (κ×V):=
 if (kvs.any λ kv=>decide (kv.1=k))=true then kvs.map (λ kv=>if kv.1=k then (kv.1,v) else kv) else kvs ++ [(k,v)]
def oI (kvs:List (κ×V)) (k:κ):List (κ×V):=kvs.filter λ kv=>decide (kv.1≠k)
theorem Mn:hV ([]:List (κ×V)) k=none:=rfl
theorem iH {p:κ×V} {r:List (κ×V)} {k:κ} (e:p.1=k):hV (p::r) k=some p.2:=by simp [hV,bH,e]
theorem iI {p:κ×V} {r:List (κ×V)} {k:κ} (e:¬p.1=k):hV (p::r) k=hV r k:=by simp [hV,bH,e]
theorem nZ (k:κ):∀kvs:List (κ×V),(kvs.any λ kv=>decide (kv.1=k))=(hV kvs k).isSome
 | []=>rfl
 | p::r=>by
  rw [cY];by_cases e:p.1=k
  .simp only [iH e,decide_eq_true e,Bool.true_or,Option.isSome_some]
  .rw [iI e,decide_eq_false e,Bool.false_or];exact nZ k r
theorem EG (k j:κ) (y:V):∀kvs:List (κ×V),hV (kvs.map λ kv=>if kv.1=k then (kv.1,y) else kv) j=(hV kvs j).map λ x=>if j=k then y else x
 | []=>rfl
 | p::r=>by
  have ih:=EG k j y r;rw [aB];by_cases h:p.1=k
  .rw [if_pos h];by_cases e:p.1=j
   .rw [iH (p:=(p.1,y)) e,iH e,Option.map_some,if_pos (e.symm.trans h)]
   .rw [iI (p:=(p.1,y)) e,iI e,ih]
  .rw [if_neg h];by_cases e:p.1=j
   .rw [iH (p:=p) e,iH e,Option.map_some,if_neg (λ z=>h (e.trans z))]
   .rw [iI (p:=p) e,iI e,ih]
theorem Bn (k j:κ) (y:V):∀kvs:List (κ×V),hV kvs k=none->hV (kvs ++ [(k,y)]) j=if j=k then some y else hV kvs j
 | [],_=>by
  by_cases e:k=j
  .rw [if_pos e.symm];exact iH (p:=(k,y)) e
  .rw [if_neg (λ z=>e z.symm)];exact iI (p:=(k,y)) e
 | p::r,hn=>by
  rw [cW];have hk:¬p.1=k:=λ z=>by rw [iH z] at hn;cases hn
  rw [iI hk] at hn;have ih:=Bn k j y r hn;by_cases e:p.1=j
  .rw [iH e,iH e,if_neg (λ z=>hk (e.trans z))]
  .rw [iI e,iI e,ih]
theorem EF (kvs:List (κ×V)) (k j:κ) (y:V):hV (putK kvs k y) j=if j=k then some y else hV kvs j:=by
 unfold putK;by_cases a:(kvs.any λ kv=>decide (kv.1=k))=true
 .rw [if_pos a,EG];rw [nZ] at a;by_cases e:j=k
  .obtain⟨x,hx⟩:=Option.isSome_iff_exists.mp a;rw [if_pos e,e,hx,Option.map_some,if_pos rfl]
  .rw [if_neg e]
   cases hV kvs j with
   | none=>rfl
   | some x=>rw [Option.map_some,if_neg e]
 .rw [if_neg a];refine Bn k j y kvs ?_;rw [nZ] at a
  cases q:hV kvs k with
  | none=>rfl
  | some x=>rw [q] at a;exact(a rfl).elim
theorem nh (kvs:List (κ×V)) (k:κ) (v:V):(putK kvs k v).length<=kvs.length+1:=by
 unfold putK
 split
 .rw [ae];exact Zk
 .rw [ao,aG,aW];exact Nat.le_refl _
theorem mB {kvs:List (κ×V)} {k:κ} (v:V) (h:hV kvs k=none):putK kvs k v=kvs ++ [(k,v)]:=by
 unfold putK;rw [nZ,h];exact if_neg (by decide)
theorem pO.oC (r:pO o u):o.isSome=u.isSome:=by
 cases o with
 | none=>cases u with
  | none=>rfl
  | some _=>exact(show False from r).elim
 | some _=>cases u with
  | none=>exact(show False from r).elim
  | some _=>rfl
theorem pO.getD (r:pO o u) (rd:RelV d d'):RelV (o.getD d) (u.getD d'):=by
 cases o with
 | none=>cases u with
  | none=>exact rd
  | some _=>exact(show False from r).elim
 | some _=>cases u with
  | none=>exact(show False from r).elim
  | some _=>exact r
theorem KV.val {kvs:List (κ×V)} {vs:List (κ×bv)} (r:KV kvs vs) (k:κ):pO (hV kvs k) (ZA vs k):=by
 unfold KV at r
 induction r with
 | nil=>exact True.intro
 | @cons p q ps qs h t ih=>
  obtain⟨h1,h2⟩:=h;by_cases e:p.1=k
  .have e':q.1=k:=h1.symm.trans e;have b:ZA (q::qs) k=some q.2:=by simp [ZA,bH,e']
   rwa [iH e,b]
  .have e':¬q.1=k:=λ z=>e (h1.trans z);have b:ZA (q::qs) k=ZA qs k:=by simp [ZA,bH,e']
   rwa [iI e,b]
theorem KV.any (r:KV kvs vs) (k:κ):(kvs.any λ kv=>decide (kv.1=k))=vs.any λ kv=>decide (kv.1=k):=by
 unfold KV at r
 induction r with
 | nil=>rfl
 | cons h t ih=>rw [cY,cY,ih,h.1]
theorem KV.SW (r:KV kvs vs) (k:κ) (ry:RelV y u) :
  KV (kvs.map λ kv=>if kv.1=k then (kv.1,y) else kv) (vs.map λ kv=>if kv.1=k then (kv.1,u) else kv):=by
 unfold KV at r⊢
 induction r with
 | nil=>exact .nil
 | @cons p q ps qs h t ih=>
  rw [aB,aB];refine .cons ?_ ih;obtain⟨h1,h2⟩:=h;by_cases e:p.1=k
  .rw [if_pos e,if_pos (h1.symm.trans e)];exact⟨h1,ry⟩
  .rw [if_neg e,if_neg (λ z=>e (h1.trans z))];exact⟨h1,h2⟩
theorem KV.put (r:KV kvs vs) (k:κ) (ry:RelV y u):KV (putK kvs k y) (Jau vs k u):=by
 unfold putK Jau;rw [r.any k];by_cases e:(vs.any λ kv=>decide (kv.1=k))=true
 .rw [if_pos e,if_pos e];exact r.SW k ry
 .rw [if_neg e,if_neg e];exact Paired.snoc r ⟨rfl,ry⟩
theorem KV.drop (r:KV kvs vs) (k:κ):KV (oI kvs k) (without vs k):=by
 unfold KV at r⊢;unfold oI without
 induction r with
 | nil=>exact .nil
 | @cons p q ps qs h t ih=>
  obtain⟨h1,h2⟩:=h;rw [cA,cA];by_cases e:p.1=k
  .have a:¬decide (p.1≠k)=true:=by simp [e]
   have b:¬decide (q.1≠k)=true:=by simp [h1.symm.trans e]
   rwa [if_neg a,if_neg b]
  .have e':¬q.1=k:=λ z=>e (h1.trans z);have a:decide (p.1≠k)=true:=by simp [e]
   have b:decide (q.1≠k)=true:=by simp [e']
   rw [if_pos a,if_pos b];exact .cons ⟨h1,h2⟩ ih
theorem KV.keys {kvs:List (κ×V)} {vs:List (κ×bv)} (r:KV kvs vs):kvs.map (·.1)=vs.map (·.1):=by
 unfold KV at r
 induction r with
 | nil=>rfl
 | cons h t ih=>rw [aB,aB,ih,h.1]
theorem KV.length (r:KV kvs vs):kvs.length=vs.length:=Paired.length r
theorem OD (kvs:List (κ×V)) (k:κ):(oI kvs k).length<=kvs.length:=bG _ _
end
theorem uU (r:RelV (kV k) u):(gL P w).is k u=true:=by
 cases k with
 | inl i=>obtain⟨t,e⟩:=(show ∃t,u=Value.int i t from r);subst e;exact Fs P w i t
 | inr x=>obtain⟨t,e⟩:=(show ∃t,u=Value.str x t from r);subst e;exact Fq P w x t
theorem BM:∀{ks:List Key} {us:List bv},Vals (ks.map kV) us->ItemsAre (gL P w) ks us
 | [],_,r=>by rw [bz] at r;cases r;exact .nil
 | k::ks,_,r=>by
  rw [aB] at r
  cases r with
  | cons h t=>exact .cons (uU h) (BM t)
abbrev KT (H:Hp):List (List Key×V)->List (List Key×ac×bv)->Prop:=Paired λ p q=>p.1=q.1/\H q.2.1=some (.tup (p.1.map kV))/\RelV p.2 q.2.2
theorem KT.val {H:Hp} {kvs:List (List Key×V)} {xs:List (List Key×ac×bv)} (r:KT H kvs xs) (k:List Key):pO (hV kvs k) ((atKey xs k).map (·.2)):=by
 induction r with
 | nil=>exact True.intro
 | @cons p q ps qs h t ih=>
  obtain⟨h1,_,h2⟩:=h;by_cases e:p.1=k
  .have e':q.1=k:=h1.symm.trans e;have b:atKey (q::qs) k=some q.2:=by simp [atKey,bH,e']
   rwa [iH e,b]
  .have e':¬q.1=k:=λ z=>e (h1.trans z);have b:atKey (q::qs) k=atKey qs k:=by simp [atKey,bH,e']
   rwa [iI e,b]
theorem KT.SW (r:KT H kvs xs) (k:List Key) (ry:RelV y u) :
  KT H (kvs.map λ kv=>if kv.1=k then (kv.1,y) else kv) (xs.map (putAt k u)):=by
 induction r with
 | nil=>exact .nil
 | @cons p q ps qs h t ih=>
  rw [aB,aB];refine .cons ?_ ih;obtain⟨h1,h2,h3⟩:=h;unfold putAt;by_cases e:p.1=k
  .rw [if_pos e,if_pos (h1.symm.trans e)];exact⟨h1,h2,ry⟩
  .rw [if_neg e,if_neg (λ z=>e (h1.trans z))];exact⟨h1,h2,h3⟩
theorem KT.put (r:KT H kvs xs) (k:List Key) (hb:H b=some (.tup (k.map kV))) (ry:RelV y u) :
  KT H (putK kvs k y) (storedH xs k b u):=by
 have e:(kvs.any λ kv=>decide (kv.1=k))=(atKey xs k).isSome:=by
  rw [nZ,(r.val k).oC,Option.isSome_map]
 unfold putK storedH;rw [e];by_cases q:(atKey xs k).isSome=true
 .rw [if_pos q,if_pos q];exact r.SW k ry
 .rw [if_neg q,if_neg q];exact Paired.snoc r ⟨rfl,hb,ry⟩
theorem KT.keeps (r:KT H kvs xs) (ht:∀b ys,H b=some (.tup ys)->H' b=some (.tup ys)):KT H' kvs xs:=
 Paired.TV r λ _ _ z=>⟨z.1,ht _ _ z.2.1,z.2.2⟩
section
variable {P:im} {w:io} {H:Hp} {h:Heap} {a:ac}
theorem RO (ok:rC P w H h) (e:Rd H a u):iz P w H h a u:=e.ok ok
theorem p8 (ok:rC P w H h) (e:Rd H a (.dK kvs)):kvs.length<=dL/\(a==wP)=false/\∃vs,KV kvs vs/\h.DictOf (gL P w) a vs:=
 show iz P w H h a (.dK kvs) from RO ok e
theorem OE (ok:rC P w H h) (e:H a=some (.dK kvs)):kvs.length<=dL/\(a==wP)=false/\∃vs,KV kvs vs/\h.DictOf (gL P w) a vs:=p8 ok (.inl e)
theorem t4 (ok:rC P w H h) (e:H a=some (.tup (ks.map kV))):(XV (gL P w)).is h ks a:=by
 obtain⟨_,its,r,o,h1,h2,n,h3⟩:=(show iz P w H h a (.tup (ks.map kV)) from ok a _ e)
 exact⟨o,its.toArray,n,h1,h2,h3,by simpa using BM r⟩
theorem zW (ok:rC P w H h) (e:Rd H a (.dT kvs)):kvs.length<=dL/\(a==wP)=false/\
  ∃xs,KT H kvs xs/\h.DictOfH (XV (gL P w)) a xs:=by
 obtain⟨z,y,xs,r,o,es,ep,h1,h2,h3,h4,h5⟩:=(show iz P w H h a (.dT kvs) from RO ok e)
 refine⟨z,y,xs,r,o,es,ep,h1,h2,h3,h4,λ x hx=> ?_,h5⟩
 have all:∀{l:List (List Key×V)} {m:List (List Key×ac×bv)},KT H l m->∀x∈m,(XV (gL P w)).is h x.1 x.2.1:=by
  intro l m q
  induction q with
  | nil=>intro x hx;exact nomatch hx
  | @cons p q ps qs hq t ih=>
   intro x hx;rcases av.mp hx with e|hx
   .subst e;exact t4 ok (by rw [<-hq.1];exact hq.2.1)
   .exact ih x hx
 exact all r x hx
theorem Sl (ok:rC P w H h) (e:H a=some (.dT kvs)):kvs.length<=dL/\(a==wP)=false/\
  ∃xs,KT H kvs xs/\h.DictOfH (XV (gL P w)) a xs:=zW ok (.inl e)
end
def lM (H:Hp) (a:ac) (y:V) (r:Option V):Prop:=
 (∃kvs k,Rd H a (.dK kvs)/\y=kV k/\r=hV kvs k)\/∃kvs k b,Rd H a (.dT kvs)/\y = .ref b/\H b=some (.tup (k.map kV))/\r=hV kvs k
def AQ (H:Hp) (a:ac) (y v:V) (H':Hp):Prop:=
 (∃kvs k,H a=some (.dK kvs)/\y=kV k/\kvs.length<dL/\H'=upd H a (.dK (putK kvs k v)))\/
 ∃kvs k b,H a=some (.dT kvs)/\y = .ref b/\H b=some (.tup (k.map kV))/\kvs.length<dL/\H'=upd H a (.dT (putK kvs k v))
theorem lM.k {H:Hp} {a:ac} {kvs:List (Key×V)} {k:Key} (e:H a=some (.dK kvs)):lM H a (kV k) (hV kvs k):=.inl ⟨kvs,k,.inl e,rfl,rfl⟩
theorem lM.t {H:Hp} {a b:ac} {kvs:List (List Key×V)} {k:List Key} (e:H a=some (.dT kvs)) (eb:H b=some (.tup (k.map kV))):lM H a (.ref b) (hV kvs k):=.inr ⟨kvs,k,b,.inl e,rfl,eb,rfl⟩
theorem AQ.k {H:Hp} {a:ac} {kvs:List (Key×V)} {k:Key} {v:V} (e:H a=some (.dK kvs)) (hl:kvs.length<dL):AQ H a (kV k) v (upd H a (.dK (putK kvs k v))):=.inl ⟨kvs,k,e,rfl,hl,rfl⟩
theorem AQ.t {H:Hp} {a b:ac} {kvs:List (List Key×V)} {k:List Key} {v:V} (e:H a=some (.dT kvs)) (eb:H b=some (.tup (k.map kV))) (hl:kvs.length<dL) :
  AQ H a (.ref b) v (upd H a (.dT (putK kvs k v))):=.inr ⟨kvs,k,b,e,rfl,eb,hl,rfl⟩
section
variable {X:Cx} {pins:List (ac×Obj)} {σ:St} {H:Hp} {s:ci} {a:ac} {y v:V} {u r:bv} {o:Option V} {A:pi} {E:bv->ci->Prop}
theorem Inv.big (I:Inv X pins σ H s):wP<s.heap.objs.size:=by
 have h:ii<s.heap.objs.size:=(I.mod.glob.keeps I.bk).lt;exact Nat.lt_trans (by decide) h
theorem Ly (hu:A.units+1<FM) (I:Inv X pins σ H s) (g:lM H a y (some v)) (ry:RelV y u) (h:∀w' s',Inv X pins σ H s'->RelV v w'->Q w' s') :
  gc (ga X.prog X.w) A (ZB (.ref a) u) Q E s:=by
 rcases g with ⟨kvs,k,e,ey,l⟩ | ⟨kvs,k,b,e,ey,eb,l⟩
 .subst ey;obtain⟨z,hd,vs,rel,dd⟩:=p8 I.gG e;obtain⟨w',hw,GW⟩:=pO.some_of (v:=v) (o:=ZA vs k) (by rw [l];exact rel.val k);exact wpAny_getItem_of (uU ry) dd.mapOf hw (h w' _ (I.tok _) GW)
 .subst ey
  cases (show u=Value.ref b from ry);obtain⟨z,hd,xs,rel,dd⟩:=zW I.gG e;obtain⟨w',hw,GW⟩:=pO.some_of (v:=v) (o:=(atKey xs k).map (·.2)) (by rw [l];exact rel.val k);obtain⟨p,hp,QP⟩:=Option.map_eq_some_iff.mp hw;refine wpAny_getItem_heap (KE hu) (t4 I.gG eb) dd hp ?_;rw [QP];exact h w' _ (I.tok _) GW
theorem Ŗ (hu:A.units+1<FM) (I:Inv X pins σ H s) (g:lM H a y o) (ry:RelV y u) (h:∀s',Inv X pins σ H s'->Q (.bool o.isSome) s') :
  gc (ga X.prog X.w) A (tz .In u (.ref a)) Q E s:=by
 rcases g with ⟨kvs,k,e,ey,l⟩ | ⟨kvs,k,b,e,ey,eb,l⟩
 .subst ey;obtain⟨z,hd,vs,rel,dd⟩:=p8 I.gG e;refine wpAny_in_of (uU ry) hd dd.mapOf ?_;rw [<-(rel.val k).oC,<-l];exact h _ (I.tok _)
 .subst ey
  cases (show u=Value.ref b from ry);obtain⟨z,hd,xs,rel,dd⟩:=zW I.gG e;refine wpAny_in_heap (KE hu) (t4 I.gG eb) hd dd ?_;have q:=(rel.val k).oC;rw [Option.isSome_map] at q;rw [<-q,<-l];exact h _ (I.tok _)
theorem Rl (hu:A.units+1<FM) (I:Inv X pins σ H s) (g:lM H a y o) (ry:RelV y u) (h:∀s',Inv X pins σ H s'->Q (.bool (!o.isSome)) s') :
  gc (ga X.prog X.w) A (tz .NotIn u (.ref a)) Q E s:=by
 rcases g with ⟨kvs,k,e,ey,l⟩ | ⟨kvs,k,b,e,ey,eb,l⟩
 .subst ey;obtain⟨z,hd,vs,rel,dd⟩:=p8 I.gG e;refine wpAny_notIn_of (uU ry) hd dd.mapOf ?_;rw [<-(rel.val k).oC,<-l];exact h _ (I.tok _)
 .subst ey
  cases (show u=Value.ref b from ry);obtain⟨z,hd,xs,rel,dd⟩:=zW I.gG e;refine wpAny_notIn_heap (KE hu) (t4 I.gG eb) hd dd ?_;have q:=(rel.val k).oC;rw [Option.isSome_map] at q;rw [<-q,<-l];exact h _ (I.tok _)
theorem uY (I:Inv X pins σ H s) (mu:YK (H a)) (hs:Heap.SameBut a s.heap h') (he:∃q,h'.get? a=some q) (new:iz X.prog X.w (upd H a ob) h' a ob) :
  Inv X pins σ (upd H a ob) {s with heap:=h',toks:=t'}:=
 I.write (x:=a) (e:=a) mu (.inl rfl) (λ b q hb z=>(hs.2 b hb).trans z) he new
theorem DY (z:kvs.length<=dL) (hd:(a==wP)=false) (rel:KV kvs vs) (dd:h'.DictOf (gL P w) a vs) :
  iz P w H' h' a (.dK kvs):=⟨z,hd,vs,rel,dd⟩
theorem Lx (hu:A.units+1<FM) (I:Inv X pins σ H s) (g:AQ H a y v H') (ry:RelV y u) (rv:RelV v r) (h:∀s',Inv X pins σ H' s'->Q () s') :
  gc (ga X.prog X.w) A (setItem (.ref a) u r) Q E s:=by
 rcases g with ⟨kvs,k,e,ey,l,eH⟩ | ⟨kvs,k,b,e,ey,eb,l,eH⟩
 .subst ey eH;obtain⟨z,hd,vs,rel,dd⟩:=OE I.gG e;have hz:vs.length<=dL:=by rwa [<-rel.length]
  have hl:(putK kvs k v).length<=dL:=by have:=nh kvs k v;exact Zc this l
  refine wpAny_setItem_pairs (hsz:=hz) (uU ry) dd λ h' L5 hs=>h _ ?_;have he:∃q,h'.get? a=some q:=let ⟨q,_,_,hq,_⟩:=L5;⟨q,hq⟩;exact uY I (by rw [e];exact True.intro) hs he (DY hl hd (rel.put k rv) L5)
 .subst ey eH
  cases (show u=Value.ref b from ry);obtain⟨z,hd,xs,rel,dd⟩:=Sl I.gG e;have hz:xs.length<=dL:=by rwa [<-Paired.length rel]
  have hl:(putK kvs k v).length<=dL:=by have:=nh kvs k v;exact Zc this l
  refine wpAny_setItem_heap (hsz:=hz) (KE hu) (t4 I.gG eb) dd λ h' L5 hs=>h _ ?_;obtain⟨q,es,ep,hq,h2,h3,h4,_,h5⟩:=L5;refine uY I (by rw [e];exact True.intro) hs ⟨q,hq⟩ ⟨hl,hd,_,(rel.put k eb rv).keeps λ c ys ec=> ?_,q,es,ep,hq,h2,h3,h4,h5⟩
  rwa [fo (gA ec e (λ z=>nomatch z))]
end
section
variable {X:Cx} {pins:List (ac×Obj)} {σ:St} {H:Hp} {s:ci} {a:ac} {kvs:List (Key×V)} {k:Key} {u:bv} {A:pi} {E:bv->ci->Prop}
theorem X0 (I:Inv X pins σ H s) (e:H a=some (.dK kvs)) (ry:RelV (kV k) u) (l:hV kvs k=some v) (hm:more = []\/∃x,more = [x])
  (h:∀w' s',Inv X pins σ (upd H a (.dK (oI kvs k))) s'->RelV v w'->Q w' s'):gc (ga X.prog X.w) A (call (.builtin "dict.pop") (.ref a::u::more)) Q E s:=by
 obtain⟨z,hd,vs,rel,dd⟩:=OE I.gG e;obtain⟨w',hw,GW⟩:=pO.some_of (v:=v) (o:=ZA vs k) (by rw [<-l];exact rel.val k)
 have hp:(keyPart u).isSome=true:=by
  cases k with
  | inl i=>obtain⟨t,q⟩:=(show ∃t,u=Value.int i t from ry);subst q;rfl
  | inr x=>obtain⟨t,q⟩:=(show ∃t,u=Value.str x t from ry);subst q;rfl
 have ha:Ja8 "dict.pop" ⟨.ref a::u::more,[]⟩:=by
  rcases hm with q | ⟨x,q⟩
  .subst q;exact PySem.F.args_dict_pop_2 _ _
  .subst q;exact PySem.F.args_dict_pop_3 _ _ _
 refine YD PySem.F.slot_dict_pop dd.typeIs PySem.F.entry_dict_pop ha (meets_dict_pop_there (gL X.prog X.w) a (uU ry) more hm hp)
  ⟨vs,w',dd,by rwa [<-rel.length],hw,λ h' L5 hs=>h w' _ ?_ GW⟩
 have he:∃q,h'.get? a=some q:=let ⟨q,_,_,hq,_⟩:=L5;⟨q,hq⟩;exact uY I (by rw [e];exact True.intro) hs he (DY (bj (OD kvs k) z) hd (rel.drop k) L5)
theorem X1 (I:Inv X pins σ H s) (e:Rd H a (.dK kvs)) (h:∀t s',Inv X pins σ H s'->Q (.int kvs.length t) s'):gc (ga X.prog X.w) A (call (.builtin "len") [.ref a]) Q E s:=by
 obtain⟨z,hd,vs,rel,dd⟩:=p8 I.gG e;refine call_len_dict hd dd (by rw [<-rel.length];rw [No] at z;lia) ?_;rw [<-rel.length];exact h _ _ (I.tok _)
end
def RC (i:li):Prop:=∀ov iv,Jan i false ov iv=operate [ov,iv] (ZB ov iv)
theorem P1 {prog:im} {w:io} {A:pi} {E:bv->ci->Prop} {s:ci} {env:Env} {value slice:li} {pos:Pos} {T id:String} {Q:bv->ci->Prop}
  (hl:Jat (.type T) "__getitem__" = pure (some (.builtin id))) (hs:RC slice)
  (h:gc (ga prog w) A (jp value env) (λ o j4=>gc (ga prog w) A (jp slice env) (λ i jD=>jD.TypeIs o T/\gc (ga prog w) A (ZB o i) Q E jD) E j4) E s) :
  gc (ga prog w) A (jp (.Subscript value slice pos) env) Q E s:=by
 refine Ja9 (re h (λ o j4 Gw=>re Gw (λ i jD XB=> ?_) λ _ _ x=>x) λ _ _ x=>x);obtain⟨hT,XB⟩:=XB;unfold JaA;refine bi ?_;rw [getitemInPython_of_ne hT.not_modules];refine bi (wpAny_specialOf hT hl ?_)
 have fin:gc (ga prog w) A (Jan slice false o i) (λ r Pg=>gc (ga prog w) A (letTemporaryGo value o r >>= λ _=>pure r) Q E Pg) E jD:=by
  rw [hs o i];exact wpAny_operating (re XB (λ r Pg Z6=>bi (wpAny_letTemporaryGo (cr Z6))) λ _ _ x=>x)
 first
  | exact cr (bi fin)
  | exact bi (cr (bi fin))
  | exact bi fin
theorem FO (I:Inv X pins σ H s) (g:lM H a y o):s.TypeIs (.ref a) "dict" := by
 rcases g with ⟨kvs,k,e,_,_⟩ | ⟨kvs,k,b,e,_,_,_⟩
 .obtain⟨_,_,vs,_,dd⟩:=p8 I.gG e;exact dd.typeIs
 .obtain⟨_,_,xs,_,dd⟩:=zW I.gG e;exact dd.typeIs
def Bp (td ty:TE):TE:=λ σ H Q=>td σ H λ x H1=>ty σ H1 λ y H2=>∃a v,x = .ref a/\lM H2 a y (some v)/\Q v H2
def PX (ty td:TE):TE:=λ σ H Q=>ty σ H λ y H1=>td σ H1 λ x H2=>∃a o,x = .ref a/\lM H2 a y o/\Q (.bl o.isSome) H2
def yh (ty td:TE):TE:=λ σ H Q=>ty σ H λ y H1=>td σ H1 λ x H2=>∃a o,x = .ref a/\lM H2 a y o/\Q (.bl (!o.isSome)) H2
def Jd (td ty tv:TE):TS:=λ D σ H=>tv σ H λ v H1=>td σ H1 λ x H2=>ty σ H2 λ y H3=>∃a H4,x = .ref a/\AQ H3 a y v H4/\D.nx σ H4
section
variable {X:Cx} {o i e value:li} {pos pos' Mq:Pos} {td ty tv:TE}
theorem Qw (hu:X.A.units+1<FM) (ho:PE X o td) (hi:PE X i ty) (hs:RC i):PE X (.Subscript o i pos) (Bp td ty):=by
 intro pins s σ H Q I h;refine P1 PySem.F.slot_dict_getitem.lookup hs (gZ (ho pins s σ H _ I h) λ u s1 ⟨x,H1,I1,rx,q1⟩=>gZ (hi pins s1 σ H1 _ I1 q1) λ iv s2 zq=> ?_);obtain⟨y,H2,I2,ry,a,v,ex,g,q2⟩:=zq;subst ex;obtain rfl:u=Value.ref a:=rx;exact⟨FO I2 g,Ly hu I2 g ry λ w' s3 I3 GW=>⟨v,H2,I3,GW,q2⟩⟩
theorem Tv (hu:X.A.units+1<FM) (hi:PE X i ty) (ho:PE X o td):PC X .In i o (PX ty td):=by
 intro pins s σ H Q I h;refine gZ (hi pins s σ H _ I h) λ iv s1 ⟨y,H1,I1,ry,q1⟩=>gZ (ho pins s1 σ H1 _ I1 q1) λ u s2 zq=> ?_;obtain⟨x,H2,I2,rx,a,ov,ex,g,q2⟩:=zq;subst ex;obtain rfl:u=Value.ref a:=rx;exact Ŗ hu I2 g ry λ s3 I3=>⟨.bl ov.isSome,H2,I3,rfl,q2⟩
theorem KN (hu:X.A.units+1<FM) (hi:PE X i ty) (ho:PE X o td):PC X .NotIn i o (yh ty td):=by
 intro pins s σ H Q I h;refine gZ (hi pins s σ H _ I h) λ iv s1 ⟨y,H1,I1,ry,q1⟩=>gZ (ho pins s1 σ H1 _ I1 q1) λ u s2 zq=> ?_;obtain⟨x,H2,I2,rx,a,ov,ex,g,q2⟩:=zq;subst ex;obtain rfl:u=Value.ref a:=rx;exact Rl hu I2 g ry λ s3 I3=>⟨.bl (!ov.isSome),H2,I3,rfl,q2⟩
theorem Qm (hu:X.A.units+1<FM) (ho:PE X o td) (hi:PE X i ty) (hv:PE X value tv) (hs:ww value (some (.Subscript o i pos')) pos.line X.env=pure false) :
  PS X (.Assign [.Subscript o i pos'] value pos) (Jd td ty tv):=by
 intro pins s σ H D I h;refine wpAny_Assign_Subscript (gZ (hv pins s σ H _ I h) λ r s1 ⟨v,H1,I1,rv,q1⟩=>gZ (ho pins s1 σ H1 _ I1 q1) λ u s2 ⟨x,H2,I2,rx,q2⟩=>gZ (hi pins s2 σ H2 _ I2 q2) λ iv s3 zq=> ?_) hs;obtain⟨y,H3,I3,ry,a,H4,ex,g,q3⟩:=zq;subst ex;obtain rfl:u=Value.ref a:=rx;exact Lx hu I3 g ry rv λ s4 I4=>⟨σ,H4,I4,q3⟩
end
theorem OF (h:Heap) (hb:wP<h.objs.size):iz P w H (h.push {cls:=.type "dict",data:=.dict #[]}) h.objs.size (.dK []):=
 ⟨aQ _,beq_eq_false_iff_ne.mpr (Ne.symm (aO hb)),[],.nil,Heap.DictOf.new h⟩
theorem OC (h:Heap) (hb:wP<h.objs.size):iz P w H (h.push {cls:=.type "dict",data:=.dict #[]}) h.objs.size (.dT []):=
 ⟨aQ _,beq_eq_false_iff_ne.mpr (Ne.symm (aO hb)),[],.nil,_,#[],0,aK _ rfl,⟨rfl,rfl,rfl⟩,rfl,rfl,ck⟩
def C8:TE:=λ _ H Q=>∀p,H p=none->Q (.ref p) (upd H p (.dK []))
section
variable {X:Cx} {pos:Pos}
theorem Nj:PE X (.Dict [] [] pos) C8:=λ pins s σ H Q I h=>
 wpAny_Dict_empty ⟨.ref s.heap.objs.size,_,I.laid (a:=s.heap.objs.size) (o:=.dK []) (t':=s.toks) (λ _ _ q=>ah _ q) (az _) (OF s.heap I.big),rfl,h _ (I.gG.fresh (az _))⟩
end
def pC (kvs more:List (Key×V)):List (Key×V):=more.foldl (λ acc kv=>putK acc kv.1 kv.2) kvs
theorem KV.merge:∀{more:List (Key×V)} {rs:List (Key×bv)} {kvs:List (Key×V)} {vs:List (Key×bv)},KV more rs->KV kvs vs->KV (pC kvs more) (merged vs rs):=by
 intro more rs kvs vs r;unfold KV at r
 induction r generalizing kvs vs with
 | nil=>intro q;exact q
 | @cons p q ps qs h t ih=>
  intro r0
  have e:KV (putK kvs p.1 p.2) (Jau vs q.1 q.2):=by
   have:=r0.put p.1 h.2
   rwa [<-h.1]
  exact ih e
theorem sT:∀(more kvs:List (Key×V)),(pC kvs more).length<=kvs.length+more.length
 | [],kvs=>by show kvs.length<=kvs.length+0;exact Zk
 | p::r,kvs=>by
  have h1:=sT r (putK kvs p.1 p.2);have h2:=nh kvs p.1 p.2;show (pC (putK kvs p.1 p.2) r).length<=_;rw [aG];lia
structure M1 (X:Cx) (o:li) (m:Str) (apos:Pos) (e:li) (gY:Pos):Prop where
 base:sw o m X.env (jp o X.env)=jp o X.env
 jr:((ul gY (db [e] X.env)).all (λ x=> !x.1)&&(EQ gY (wv [] X.env)).all (λ x=>x.1.isSome)
  && decide (([e]:List li).length+([]:List UF).length+(if ([]:List UF).isEmpty then 0 else 1)<30))=true
 line:(apos.endLine==gY.line)=true
 trees:ul gY (db [e] X.env) = [(false,jp e X.env)]
structure M2 (X:Cx) (o:li) (m:Str) (apos:Pos) (e f:li) (gY:Pos):Prop where
 base:sw o m X.env (jp o X.env)=jp o X.env
 jr:((ul gY (db [e,f] X.env)).all (λ x=> !x.1)&&(EQ gY (wv [] X.env)).all (λ x=>x.1.isSome)
  && decide (([e,f]:List li).length+([]:List UF).length+(if ([]:List UF).isEmpty then 0 else 1)<30))=true
 line:(apos.endLine==gY.line)=true
 trees:ul gY (db [e,f] X.env) = [(false,jp e X.env),(false,jp f X.env)]
def Ñ (H:Hp) (a:ac):Prop:=(∃kvs,Rd H a (.dK kvs))\/∃kvs,Rd H a (.dT kvs)
theorem zK (I:Inv X pins σ H s) (d:Ñ H a) :
  s.TypeIs (.ref a) "dict"/\(∀b,Value.ref a = .ref b->∃ob,s.heap.get? b=some ob/\ob.dict=none)/\(a==wP)=false:=by
 rcases d with ⟨kvs,e⟩ | ⟨kvs,e⟩
 .obtain⟨_,hd,vs,_,dd⟩:=p8 I.gG e;refine⟨dd.typeIs,λ b q=> ?_,hd⟩
  cases q;obtain⟨ob,_,_,h1,h2,_⟩:=dd;exact⟨ob,h1,h2.2.1⟩
 .obtain⟨_,hd,xs,_,dd⟩:=zW I.gG e;refine⟨dd.typeIs,λ b q=> ?_,hd⟩
  cases q;obtain⟨ob,_,_,h1,h2,_⟩:=dd;exact⟨ob,h1,h2.2.1⟩
section
variable {X:Cx} {pins:List (ac×Obj)} {σ:St} {H:Hp} {s:ci} {a:ac} {y d:V} {u r:bv} {o:Option V} {A:pi} {E:bv->ci->Prop}
theorem U4 (hu:A.units+1<FM) (I:Inv X pins σ H s) (g:lM H a y o) (ry:RelV y u) (rd:RelV d r) (h:∀w' s',Inv X pins σ H s'->RelV (o.getD d) w'->Q w' s') :
  gc (ga X.prog X.w) A (call (.builtin "dict.get") [.ref a,u,r]) Q E s:=by
 rcases g with ⟨kvs,k,e,ey,l⟩ | ⟨kvs,k,b,e,ey,eb,l⟩
 .subst ey;obtain⟨z,hd,vs,rel,dd⟩:=p8 I.gG e;refine YD dW dd.typeIs PySem.F.entry_dict_get (PySem.F.args_dict_get_3 _ _ _) (meets_dict_get_default (gL X.prog X.w) a (uU ry) hd r) ⟨_,dd.mapOf,h _ _ (I.tok _) ?_⟩;rw [l];exact(rel.val k).getD rd
 .subst ey
  cases (show u=Value.ref b from ry);obtain⟨z,hd,xs,rel,dd⟩:=zW I.gG e;refine YD dW dd.typeIs PySem.F.entry_dict_get (PySem.F.args_dict_get_3 _ _ _) (meetsH_dict_get_default (XV (gL X.prog X.w)) a b hd r) ⟨KE hu,k,xs,t4 I.gG eb,dd,h _ _ (I.tok _) ?_⟩;rw [l];exact(rel.val k).getD rd
end
def C9 (td ty tx:TE):TE:=λ σ H Q=>td σ H λ x H1=>∃a,x = .ref a/\Ñ H1 a/\ty σ H1 λ y H2=>tx σ H2 λ z H3=>∃o,lM H3 a y o/\Q (o.getD z) H3
def C7 (td ty:TE):TE:=λ σ H Q=>td σ H λ x H1=>∃a,x = .ref a/\Ñ H1 a/\ty σ H1 λ y H2=>∃kvs k v,H2 a=some (.dK kvs)/\y=kV k/\hV kvs k=some v/\Q v (upd H2 a (.dK (oI kvs k)))
section
variable {X:Cx} {o e f:li} {apos gY:Pos} {td ty tx:TE}
theorem Nn (hu:X.A.units+1<FM) (ho:PE X o td) (he:PE X e ty) (hf:PE X f tx) (m:M2 X o "get" apos e f gY):PE X (.Call (.Attribute o "get" apos) [e,f] [] gY) (C9 td ty tx):=by
 intro pins s σ H Q I h;refine Jad m.base m.jr m.line cG dW PySem.F.type_dict_get (gZ (ho pins s σ H _ I h) λ u s1 zq=> ?_);obtain⟨x,H1,I1,rx,a,ex,d,q1⟩:=zq;subst ex;obtain rfl:u=Value.ref a:=rx;obtain⟨t1,t2,_⟩:=zK I1 d;refine⟨t1,t2,?_⟩;rw [m.trees]
 refine Calls.callWith_builtin rfl (Calls.evalArgs_plain (Calls.spliced_cons (gZ (he pins s1 σ H1 _ I1 q1) λ iv s2 ⟨y,H2,I2,ry,q2⟩=>
  Calls.spliced_cons (gZ (hf pins s2 σ H2 _ I2 q2) λ fv s3 ⟨z,H3,I3,rz,ov,g,q3⟩=>Calls.spliced_nil ?_))))
 exact U4 hu I3 g ry rz λ w' s4 I4 GW=>⟨_,H3,I4,GW,q3⟩
theorem Ni (ho:PE X o td) (he:PE X e ty) (m:M1 X o "pop" apos e gY):PE X (.Call (.Attribute o "pop" apos) [e] [] gY) (C7 td ty):=by
 intro pins s σ H Q I h;refine Jad m.base m.jr m.line cG PySem.F.slot_dict_pop PySem.F.type_dict_pop (gZ (ho pins s σ H _ I h) λ u s1 zq=> ?_);obtain⟨x,H1,I1,rx,a,ex,d,q1⟩:=zq;subst ex;obtain rfl:u=Value.ref a:=rx;obtain⟨t1,t2,_⟩:=zK I1 d;refine⟨t1,t2,?_⟩;rw [m.trees];refine Calls.callWith_builtin rfl (Calls.evalArgs_plain (Calls.spliced_cons (gZ (he pins s1 σ H1 _ I1 q1) λ iv s2 ⟨y,H2,I2,ry,kvs,k,v,ea,ey,l,q2⟩=>Calls.spliced_nil ?_)));subst ey;exact X0 I2 ea ry l (.inl rfl) λ w' s3 I3 GW=>⟨v,_,I3,GW,q2⟩
end
section
variable {X:Cx} {pins:List (ac×Obj)} {σ:St} {H:Hp} {s:ci} {a:ac} {kvs:List (Key×V)} {A:pi} {E:bv->ci->Prop}
end
section
variable {X:Cx} {pins:List (ac×Obj)} {σ:St} {H:Hp} {s:ci} {a:ac} {y:V} {u:bv} {A:pi} {E:bv->ci->Prop}
end
end L2
namespace L2
open PySem
section
variable {X:Cx}
theorem r9:kL X (.builtin "len") (λ xs H Q=>∃a kvs,xs = [V.ref a]/\H a=some (.dK kvs)/\Q (.int kvs.length) H):=by
 intro pins s σ H xs us Q I r h;obtain⟨a,kvs,rfl,ha,q⟩:=h;obtain⟨u,rfl,ru⟩:=vals1 r
 cases ru;exact X1 I (.inl ha) λ t s' I'=>⟨.int kvs.length,H,I',⟨t,rfl⟩,q⟩
end
section
variable {κ:Type} [DecidableEq κ]
theorem yk:∀{l:List κ} {k:κ},l.Nodup->¬k∈l->(l ++ [k]).Nodup
 | [],k,_,_=>by simp
 | a::r,k,h,hk=>by
  obtain⟨h1,h2⟩:=aZ.mp h;show (a::(r ++ [k])).Nodup;refine aZ.mpr ⟨λ m=> ?_,yk h2 λ m=>hk (av.mpr (Or.inr m))⟩;rcases aA.mp m with q|q
  .exact h1 q
  .exact hk (av.mpr (Or.inl (aj.mp q).symm))
end
end L2
namespace L2
open PySem PySem.Spec PyProof.Rows
def V4 (z:Str):It:=⟨λ i _=>i<z.cps.size,λ i H v H'=>H'=H/\∃c,z.cps[i]? = some c/\v = .str ⟨#[c]⟩,λ i _=>i=z.cps.size⟩
theorem yB {P:im} {w:io} {K:ai} {y:Str} {py:Pos} {n:Nat} {Pv:Nat->bv->Prop} {St:Nat->Heap->Prop} {it:ac} {J:It}
  (W:∀A:pi,A.handled=none->Walks P w A it [it] [it] n Pv St) (hS:∀(A:pi) (i:Nat) (s:ci) (Q:bv->ci->Prop) (E:bv->ci->Prop),St i s.heap->Q (.ref it) s->gc (ga P w) A (Jaj (.ref it)) Q E s)
  (ho:∀i h,St i h->∃o,h.get? it=some o/\∀v,o.data≠.cell v) (hf:∀i h h',St i h->(∀b∈[it],∀o,h.get? b=some o->h'.get? b=some o)->St i h')
  (hgo:∀i H,J.go i H->i<n) (Xg:∀i H,J.stop i H->i=n) (hy:∀i H v,J.go i H->Pv i v->∃z,RelV z v/\J.CW i H z H):Turn P w K (.Name y py) J [it] it St where
 mem:=by simp
 obj:=λ i h st b hb=>by
  obtain rfl:b=it:=by simpa using hb
  exact ho i h st
 keep:=hf
 item:=by
  intro X hP hw hK hc i pins s σ H E I fp st hg;subst hP hw hK;obtain⟨f0,f1,f2,f3,f4,f5⟩:=fp it (by simp);refine(W X.A (I.ok.hd hc)).item i s _ _ (hgo i H hg) st λ v h' tk hP Ey k=>⟨v,rfl,?_⟩
  obtain⟨z,rz,yz⟩:=hy i H v hg hP;have I1:Inv X pins σ H {s with heap:=h',toks:=tk}:=I.turned (λ b o hb e=>k b o (by simpa using hb) e) f0 f1 f3 f4 f5;exact cr ⟨z,H,I1,rz,yz,Ey,λ b hb=>(fp b hb).1⟩
 done:=by
  intro X hP hw hK hc i pins s σ H E I fp st hg;subst hP hw hK;obtain⟨f0,f1,f2,f3,f4,f5⟩:=fp it (by simp);have e:=Xg i H hg;subst e;exact(W X.A (I.ok.hd hc)).done s _ _ st λ h' tk k=>⟨rfl,I.turned (λ b o hb e=>k b o (by simpa using hb) e) f0 f1 f3 f4 f5⟩
 self:=hS
section
variable {X:Cx} {y:Str} {py:Pos}
def Ud (te:TE):TI:=λ σ H R=>te σ H λ v H1=>∃z,v = .str z/\R (V4 z) H1
theorem JD (i:Nat) (H:Hp) (v:bv) (_:(V4 z).go i H) (h:SignAt z i v):∃u,RelV u v/\(V4 z).CW i H u H:=by
 obtain⟨c,t,e,rfl⟩:=h;exact⟨.str ⟨#[c]⟩,⟨t,rfl⟩,rfl,c,e,rfl⟩
theorem Tb (h:PE X e te):PI X (.Name y py) e (Ud te):=by
 intro pins s σ H R I hw;refine gZ (h pins s σ H _ I hw) λ v s1 zq=> ?_;obtain⟨z,H1,I1,r1,q1⟩:=zq;obtain⟨z,rfl,q⟩:=q1;obtain⟨t,rfl⟩:=r1
 have fin:∀{ty:String} (o:Obj),o.data = .fields #[.str z t,.int 0 0]->o.cls = .type ty->o.isFreed=false->
   Turn X.prog X.w X.K (.Name y py) (V4 z) [s1.heap.objs.size] s1.heap.objs.size (λ i h=>h.IsStrIter s1.heap.objs.size ty z t i)->
   Ï X pins σ (.Name y py) R (.ref s1.heap.objs.size) {s1 with heap:=s1.heap.push o}:=λ {ty} o ho hc ĩ T=>by
  refine⟨s1.heap.objs.size,[s1.heap.objs.size],_,V4 z,H1,rfl,I1.kept (t':=s1.toks) λ b o e=>ah _ e,T,⟨o,aK _ ĩ,hc,ho⟩,λ b hb=> ?_,q⟩;obtain rfl:b=s1.heap.objs.size:=by simpa using hb
  exact I1.Ba (az _) (I1.gG.fresh (az _))
 have nc:∀{ty:String} (i:Nat) (h:Heap),h.IsStrIter s1.heap.objs.size ty z t i->∃o,h.get? s1.heap.objs.size=some o/\∀v,o.data≠.cell v:=λ i h ⟨o,e,c,d⟩=>⟨o,e,λ v z=>by rw [d] at z;cases z⟩
 have kp:∀{ty:String} (i:Nat) (h h':Heap),h.IsStrIter s1.heap.objs.size ty z t i->(∀b∈[s1.heap.objs.size],∀o,h.get? b=some o->h'.get? b=some o)->h'.IsStrIter s1.heap.objs.size ty z t i:=
  λ i h h' ⟨o,e,c,d⟩ k=>⟨o,k _ (by simp) o e,c,d⟩
 cases ha:z.cps.all (· < 128)
 .exact wpAny_pyIter_wide ha (fin _ rfl rfl rfl (yB (λ A hA=>Walks.strWide hA _ z t) (λ A i s Q E st h=>wpAny_pyIter_striter_wide st h) nc kp (λ _ _ h=>h) (λ _ _ h=>h) JD))
 .exact wpAny_pyIter_ascii ha (fin _ rfl rfl rfl (yB (λ A hA=>Walks.strAscii hA _ z t) (λ A i s Q E st h=>wpAny_pyIter_striter_ascii st h) nc kp (λ _ _ h=>h) (λ _ _ h=>h) JD))
end
theorem Ck (J:Nat->ci->Prop)
  (turn:∀n s,J n s->gc (ga prog w) A (YC it) (λ r j4=>match r with
   | none=>R (.ok .next) j4
   | some v=>gc (ga prog w) A (Zh tg it v) (λ _ Wh=>gc (ga prog w) A (Sc tg env v) (λ _ jD=>
     gc (ga prog w) A (forIn ifs true λ c r=>if r=true then do let ok <-Jal c env (jp c env);pure (ForInStep.yield ok) else pure (ForInStep.yield r)) (λ ok Pg=>
      if ok=true then gc (ga prog w) A (jp elt env) (λ x Vz=>gc (ga prog w) A (call (.builtin "list.append") [acc,x]) (λ _ ű=>∃m,m<n/\J m ű) (λ _ _=>False) Vz) (λ _ _=>False) Pg
      else ∃m,m<n/\J m Pg) (λ _ _=>False) jD) (λ _ _=>False) Wh) (λ _ _=>False) j4) (λ _ _=>False) s)
  (n:Nat) (h:J n s):AT (ga prog w) A (.compLoop (.ListComp elt [⟨tg,iter,ifs,0⟩] scope pos) 0 it acc env) R s:=by
 refine codeAny_loop rfl J (λ n s hJ=> ?_) n h;show gc (ga prog w) A (Sem.onRaise (compTurn (.ListComp elt [⟨tg,iter,ifs,0⟩] scope pos) 0 it acc env) (λ e=>do noteFrame e env;theTreesLotGoes e)) _ _ s;refine wpAny_noted ?_;rw [compTurn_list];have no:∀{E:bv->ci->Prop} (a:bv) (b:ci),False->E a b:=λ _ _ z=>z.elim;refine bi (ZD (bi (re (turn n s hJ) (λ r j4 Gw=> ?_) no)))
 cases r with
 | none=>exact cr Gw
 | some v=>
  refine bi (re Gw (λ _ Wh Gw=> ?_) no);refine bi (re Gw (λ _ jD XB=> ?_) no);refine bi (re XB (λ ok Pg Z6=> ?_) no)
  cases ok with
  | false=>exact cr ⟨rfl,Z6⟩
  | true=>
   refine bi (bi (re Z6 (λ x Vz h_4=> ?_) no));exact bi (re h_4 (λ _ ű h_5=>cr (cr ⟨rfl,h_5⟩)) no)
abbrev Cx.xB (X:Cx) (scope:FS) (cl:List (Str×ac)) (C:ac) (N:List Str) (iY:ci) (jR:Hp) (ex:List ac):Cx:=
 {X with env:=JaY scope cl C X.env,N:=N,iY:=iY,jR:=jR,outer:=X.stack,stack:=X.stack,ex:=ex,fn:=λ _=>false,pn:= [],xe:=λ _ _=>False}
structure qp (sc so:FS) (x:Str) (N XN:List Str) (fr:List Nat):Prop where
 kind:sc.kind = .function
 Ht:∀y∈sc.names,y.2≠.cell
 names:∀y∈sc.names,y.2 = .local->sc.names.lookup y.1=some .local
 hx:sc.names.lookup x=some .local
 nd:N.Nodup
 UT:N=x::fr.map (λ j=>XN.getD j "")
 Đ:∀j∈fr,j<XN.length
 XI:∀y∈sc.names,y.2 = .free->so.names.lookup y.1=some .cell\/so.names.lookup y.1=some .free
 Ď:∀j∈fr,sc.names.lookup (XN.getD j "")=some .free
 qv:∀j∈fr,so.names.lookup (XN.getD j "")≠some .local
def gp (env:Env):List (Str×sK)->List (Str×ac)->List (Str×ac)
 | [],acc=>acc
 | (n,k)::r,acc=>if k == .free then (match env.cells.lookup n with|some c=>gp env r ((n,c)::acc)|none=>gp env r acc) else gp env r acc
theorem FW (env:Env):∀(l:List (Str×sK)) (acc:List (Str×ac)),(∀y∈l,y.2 = .free->∃c,env.cells.lookup y.1=some c)->
  (forIn (m:=Sem) l acc λ (y:Str×sK) (cs:List (Str×ac))=>if y.2 == .free then do let a <-cellOf env y.1;pure (ForInStep.yield ((y.1,a)::cs)) else pure (ForInStep.yield cs))=pure (gp env l acc)
 | [],acc,_=>rfl
 | (n,k)::r,acc,h=>by
  have ih:=λ acc=>FW env r acc λ y hy=>h y (ay _ hy);rw [List.forIn_cons];by_cases hk:k = .free
  .subst hk;obtain⟨c,e⟩:=h (n,.free) aY rfl;simp only [cellOf,e,gp,beq_self_eq_true,if_true];exact ih _
  .have hb:(k==NameKind.free)=false:=by simpa using hk
   simp only [hb,gp,cD,if_false];exact ih _
theorem yu (env:Env) (sc:FS) (h:∀y∈sc.names,y.2 = .free->∃c,env.cells.lookup y.1=some c):closureFor sc env=pure (gp env sc.names []):=by
 unfold closureFor;have e:=FW env sc.names [] h;exact(congrArg (λ t:Sem _=>t >>= λ cs=>pure cs) e).trans rfl
theorem mK (env:Env):∀(l:List (Str×sK)) (acc:List (Str×ac)),(∀y c,acc.lookup y=some c->env.cells.lookup y=some c)->∀y c,(gp env l acc).lookup y=some c->env.cells.lookup y=some c
 | [],acc,h=>h
 | (n,k)::r,acc,h=>by
  unfold gp
  split
  .split
   .rename_i c e
    refine mK env r _ λ y c' q=> ?_;rw [cp] at q
    cases hy:y==n with
    | true=>
     rw [hy] at q
     cases q;have:y=n:=by simpa using hy
     subst this;exact e
    | false=>
     rw [hy] at q;exact h y c' q
   .exact mK env r acc h
  .exact mK env r acc h
theorem pJ (env:Env):∀(l:List (Str×sK)) (acc:List (Str×ac)) (y:Str),(∃c,acc.lookup y=some c)->∃c,(gp env l acc).lookup y=some c
 | [],_,_,h=>h
 | (n,k)::r,acc,y,h=>by
  unfold gp
  split
  .split
   .refine pJ env r _ y ?_;rw [cp]
    cases y==n with
    | true=>exact⟨_,rfl⟩
    | false=>exact h
   .exact pJ env r acc y h
  .exact pJ env r acc y h
theorem j6 (env:Env):∀(l:List (Str×sK)) (acc:List (Str×ac)) (y:Str),(y,NameKind.free)∈l->(∃c,env.cells.lookup y=some c)->∃c,(gp env l acc).lookup y=some c
 | [],_,_,h,_=>nomatch h
 | (n,k)::r,acc,y,h,hc=>by
  unfold gp;rcases av.mp h with e|hm
  .cases e;obtain⟨c,e⟩:=hc;rw [if_pos (by rfl),e];exact pJ env r _ _ ⟨c,by simp [cp]⟩
  .split
   .split
    .exact j6 env r _ y hm hc
    .exact j6 env r acc y hm hc
   .exact j6 env r acc y hm hc
def O5 (f:Str×sK->Str×sK):Prop:=∀p,f p=p\/(p.2 = .free/\f p=(p.1,.cell))
theorem jw {y n:Str} {k:sK} {r:List (Str×sK)}:List.lookup y ((n,k)::r)=if y=n then some k else r.lookup y:=by
 rw [cp];by_cases h:y=n
 .rw [if_pos h,show (y==n)=true by simpa using h]
 .rw [if_neg h,show (y==n)=false by simpa using h]
theorem BD {f:Str×sK->Str×sK} (hf:O5 f):∀{names:List (Str×sK)} {y:Str} {k:sK},(names.map f).lookup y=some k->(k = .cell\/k = .free)->(∀z∈names,z.2≠.cell)->(y,NameKind.free)∈names
 | [],_,_,h,_,_=>by simp at h
 | (n,j)::r,y,k,h,hk,hc=>by
  rw [aB] at h;have go:r.lookup y=r.lookup y->(r.map f).lookup y=some k->(y,NameKind.free)∈(n,j)::r:=λ _ h'=>ay _ (BD hf h' hk λ z hz=>hc z (ay _ hz));rcases hf (n,j) with e | ⟨e1,e⟩
  .rw [e,jw] at h;by_cases hy:y=n
   .rw [if_pos hy] at h
    cases h;rcases hk with rfl|rfl
    .exact absurd rfl (hc (n,.cell) aY)
    .rw [hy];exact aY
   .rw [if_neg hy] at h;exact go rfl h
  .rw [e,jw] at h;by_cases hy:y=n
   .rw [hy,show j=NameKind.free from e1];exact aY
   .rw [if_neg hy] at h;exact go rfl h
theorem qN {f:Str×sK->Str×sK} (hf:O5 f):∀{names:List (Str×sK)} {y:Str},names.lookup y=some .free->(names.map f).lookup y=some .cell\/(names.map f).lookup y=some .free
 | [],_,h=>by simp at h
 | (n,j)::r,y,h=>by
  rw [jw] at h;rw [aB];rcases hf (n,j) with e | ⟨e1,e⟩
  .rw [e,jw];by_cases hy:y=n
   .rw [if_pos hy] at h⊢
    cases h;exact .inr rfl
   .rw [if_neg hy] at h⊢;exact qN hf h
  .rw [e,jw];by_cases hy:y=n
   .rw [if_pos hy];exact .inl rfl
   .rw [if_neg hy] at h⊢;exact qN hf h
theorem uK (env:Env):O5 λ (n,k)=>if (k==NameKind.free&&env.scope.kind == .function&&env.kindOf n==some .cell) then (n,NameKind.cell) else (n,k):=λ ⟨n,k⟩=>by
 by_cases h:(k==NameKind.free&&env.scope.kind == .function&&env.kindOf n==some .cell)=true
 .refine .inr ⟨?_,if_pos h⟩;have h1:=(c9.mp (c9.mp h).1).1
  simpa using h1
 .exact .inl (if_neg h)
theorem uJ (h:(Jaf sc env).names.lookup y=some k) (hk:k = .cell\/k = .free) (hc:∀z∈sc.names,z.2≠.cell):(y,NameKind.free)∈sc.names:=
 BD (uK env) h hk hc
theorem qM (h:sc.names.lookup y=some .free):(Jaf sc env).names.lookup y=some .cell\/(Jaf sc env).names.lookup y=some .free:=
 qN (uK env) h
def EB (X:Cx) (ifs:List li) (t:TT):Prop:=
 ∀(pins:List (ac×Obj)) (s:ci) (σ:St) (H:Hp) (Q:Bool->Hp->Prop),Inv X pins σ H s->t σ H Q->
  gc (ga X.prog X.w) X.A (forIn ifs true λ c r=>if r=true then do let ok <-Jal c X.env (jp c X.env);pure (ForInStep.yield ok) else pure (ForInStep.yield r)) (TP X pins σ Q) X.xe s
def C0:TT:=λ _ H Q=>Q true H
theorem Qd:EB X [] C0:=λ _ _ _ H _ I h=>wpAny_tests_nil ⟨H,I,h⟩
theorem Qc (h:PT X c t):EB X [c] t:=λ pins s σ H Q I hw=>wpAny_tests_one (h pins s σ H Q I hw)
def Br (fr:List Nat) (σ:St):St:=none::fr.map λ j=>(σ[j]?).join
def kN (x:V) (fr:List Nat) (σ:St):St:=some x::fr.map λ j=>(σ[j]?).join
def vn (J:It) (H1:Hp) (fr:List Nat) (σ:St) (tt:TT) (te:TE) (Q:VK):Prop:=
 ∀D,H1 D=none->∃W:Nat->Nat->List V->Hp->Prop,(∃m,W 0 m [] (upd H1 D (.lst [])))/\
  ∀i m ys H2,W i m ys H2->((J.stop i H2/\Q (.ref D) H2)\/(J.go i H2/\∀x H3,J.CW i H2 x H3->tt (kN x fr σ) H3 λ b H4=>
   if b=true then te (kN x fr σ) H4 λ y H5=>H5 D=some (.lst ys)/\ys.length<dL/\∃m',m'<m/\W (i+1) m' (ys ++ [y]) (upd H5 D (.lst (ys ++ [y])))
   else ∃m',m'<m/\W (i+1) m' ys H4))
def sJ (wi:TI) (fr:List Nat) (tt:TT) (te:TE):TE:=λ σ H Q=>wi σ H λ J H1=>vn J H1 fr σ tt te Q
section
variable {X:Cx} {x:Str} {px:Pos} {elt iter:li} {ifs:List li} {scope:FS} {pos:Pos} {N:List Str} {fr:List Nat} {tt:TT} {te:TE} {wi:TI}
theorem D' (S:qp scope X.env.scope x N X.N fr) (I:Inv X pins σ H s):∀y∈scope.names,y.2 = .free->∃c,X.env.cells.lookup y.1=some c:=
 λ y hy hf=>I.ok.has y.1 (S.XI y hy hf)
theorem Ak {pins:List (ac×Obj)} {σ:St} {H:Hp} {jD:ci} {J:It} {fp:List ac} {it:ac} {tn:Nat->Heap->Prop} {Q:VK} {RR:bv->ac->JaN->ci->Prop} {E:bv->ci->Prop}
  (hc:X.calm=true) (S:qp scope X.env.scope x N X.N fr) (ht:∀cl C iY jR ex,EB (X.xB scope cl C N iY jR ex) ifs tt) (he:∀cl C iY jR ex,PE (X.xB scope cl C N iY jR ex) elt te)
  (I:Inv X pins σ H jD) (T:Turn X.prog X.w X.K (.Name x px) J fp it tn) (st:tn 0 jD.heap) (f2:∀b∈fp,sH X pins H b) (R:vn J H fr σ tt te Q)
  (ĳ:∀(D C:ac) (s':ci) (m:Str->Option bv) (H':Hp),Inv X pins σ H' s'->s'.heap.Ns C m->sH X pins H' C->Q (.ref D) H'->RR (.ref D) C (.ok .next) s') :
  gc (ga X.prog X.w) X.A (newList []) (λ acc Pg=>gc (ga X.prog X.w) X.A (Zr scope X.env.globals (gp X.env scope.names []) [] X.env.qual none .none (some X.env)) (λ ON Vz=>
   AT (ga X.prog X.w) X.A (.compStart (.ListComp elt [⟨.Name x px,iter,ifs,0⟩] scope pos) 0 (.ref it) acc {ON with scope:=Jaf scope X.env}) (RR acc ON.locals) Vz) E Pg) E jD:=by
 refine ut (wpAny_newFunctionEnv S.Ht (by intro y hy;simp at hy) (λ Gw zO N8=> ?_) S.kind);dsimp only at zO N8⊢;have hD:H jD.heap.objs.size=none:=I.fresh;have I0:Inv X pins σ (upd H jD.heap.objs.size (.lst [])) {jD with heap:=jD.heap.push {cls:=.type "list",dict:=none,data:=.seq ([]:List bv).toArray}}:=I.TZ (t':=jD.toks) (its:= []) .nil (aQ _);have L3:∀b o,jD.heap.get? b=some o->(jD.heap.push {cls:=.type "list",dict:=none,data:=.seq ([]:List bv).toArray}).get? b=some o:=λ b o e=>ah _ e;have UH:(jD.heap.push {cls:=.type "list",dict:=none,data:=.seq ([]:List bv).toArray}).objs.size=jD.heap.objs.size+1:=bX ..;generalize hG:jD.heap.push {cls:=.type "list",dict:=none,data:=.seq ([]:List bv).toArray}=G at zO N8 I0 L3 UH⊢;generalize XC:jD.heap.objs.size=D at hD I0 UH⊢;obtain⟨W,⟨m0,w0⟩,turn⟩:=R D hD;have old:∀b o,G.get? b=some o->Gw.get? b=some o:=λ b o e=>N8.extBut b o (aO (aH e)) (ah _ e);have sub:=mK X.env scope.names [] (λ y c z=>by simp at z)
 have IY:Inv (X.xB scope (gp X.env scope.names []) G.objs.size N {jD with heap:=G} (upd H D (.lst [])) fp) [] (Br fr σ) (upd H D (.lst [])) {jD with heap:=Gw,toks:=jD.toks+([]:List (Str×bv)).length}:=by
  refine⟨⟨I.ok.mod,S.kind,I.ok.glob,I.ok.blt,az _,λ y z c e1 e2=>I.ok.inj y z c (sub y c e1) (sub z c e2),λ y hy=> ?_,λ y c z=>(nomatch z),I.ok.hd,I.ok.frames,.inl rfl,λ b hb=>⟨?_,λ y c e=>(f2 b hb).2.2.2.2.1 y c (sub y c e)⟩,
   I0.bs,bj I.ok.L6 I0.sz,λ b o e hb=> ?_,λ b hb z=> ?_,I0.stack,I0.yi⟩,rfl,I.bare,Un.kept old,⟨_,zO,λ i y v e1 e2 e3=> ?_⟩,λ y c e=> ?_,I0.gG.fresh (az _),λ y c e=>I0.lA y c (sub y c e),λ p hp=>absurd (show p∈([]:List (ac×Obj)) from hp) (by simp),I0.gG.kept old,?_⟩
  .have hm:(y,NameKind.free)∈scope.names:=by
    rcases hy with hy|hy
    .exact uJ hy (.inl rfl) S.Ht
    .exact uJ hy (.inr rfl) S.Ht
   exact j6 X.env scope.names [] y hm (D' S I _ hm rfl)
  .obtain⟨o,e,_⟩:=T.obj 0 _ st b hb;have h1:@LT.lt Nat _ b jD.heap.objs.size:=aH e;show b≠G.objs.size;intro z;have z':@Eq Nat b G.objs.size:=z;rw [UH] at z';exact Zf h1 (Zc (Ze XC) (Zc Zk (Zg z')))
  .rcases (f2 b hb).2.2.2.1 with z|z
   .exact I.ok.tY b o e z
   .have h1:@LT.lt Nat _ b X.base.objs.size:=aH e;have h2:@LE.le Nat _ X.base.objs.size X.iY.heap.objs.size:=I.ok.L6;have z':@LE.le Nat _ X.iY.heap.objs.size b:=z;exact Zf h1 (Zc h2 z)
  .rcases av.mp (I.C_ b z) with e|e
   .exact(f2 b hb).2.1 e
   .exact(f2 b hb).2.2.1 e
  .cases i with
   | zero=>simp [Br] at e2
   | succ k=>
    have OB:(fr.map λ j=>X.N.getD j "")[k]? = some y:=by
     have z:N[k+1]? = some y:=e1;rw [S.UT] at z
     simpa using z
    have Pz:(fr.map λ j=>(σ[j]?).join)[k]? = some (some v):=by simpa [Br] using e2
    rw [ak] at OB Pz
    cases hj:fr[k]? with
    | none=>rw [hj] at OB;cases OB
    | some j=>
     rw [hj] at OB Pz;have ey:X.N.getD j "" = y:=Option.some.inj OB;have ev:(σ[j]?).join=some v:=Option.some.inj Pz;have UB:j∈fr:=aq hj;have QS:=S.Đ j UB;have eN:X.N[j]? = some y:=by rw [<-ey];simp [List.getD,QS]
     have eσ:σ[j]? = some (some v):=by
      cases q:σ[j]? with
      | none=>rw [q] at ev;cases ev
      | some w=>rw [q] at ev;rw [show w=some v from ev]
     have xh:scope.names.lookup y=some .free:=by rw [<-ey];exact S.Ď j UB
     have hm:(y,NameKind.free)∈scope.names:=PySem.mem_of_lookup xh;obtain⟨m,hn,hl⟩:=I.loc;obtain⟨u,r,l⟩:=hl j y v eN eσ (by rcases S.XI _ hm rfl with z|z;exact .inr (.inl z);exact .inr (.inr z));refine⟨u,r,?_⟩;rcases l with ⟨k1,_⟩ | ⟨_,c,ec,o,ho,hd⟩
     .exact absurd k1 (by rw [<-ey];exact S.qv j UB)
     .obtain⟨c',e'⟩:=j6 X.env scope.names [] y hm ⟨c,ec⟩;have e2:=sub y c' e';rw [ec] at e2
      cases e2;exact .inr ⟨qM xh,c,e',o,old _ _ (L3 _ _ ho),hd⟩
  .obtain⟨v,o,ho,hd⟩:=I.cell y c (sub y c e);exact⟨v,o,old _ _ (L3 _ _ ho),hd⟩
  .show (Br fr σ).length=N.length;rw [S.UT];simp [Br]
 have Ŀ:∀b∈fp,(upd H D (.lst [])) b=none:=λ b hb=>by
  obtain⟨o,e,_⟩:=T.obj 0 _ st b hb;rw [fo (by intro z;rw [z,<-XC] at e;exact absurd (aH e) (bT _))];exact(f2 b hb).1
 have Mz:tn 0 Gw:=T.keep _ _ _ st λ b _ o e=>old _ _ (L3 _ _ e)
 have stat:∀{H':Hp},(∀b∈fp,H' b=none)->∀b∈fp,sH (X.xB scope (gp X.env scope.names []) G.objs.size N {jD with heap:=G} (upd H D (.lst [])) fp) [] H' b:=λ hn b hb=>
  ⟨hn b hb,(IY.ok.UP b hb).1,IY.ok.Ib b hb,.inl hb,(IY.ok.UP b hb).2,λ p hp=>absurd (show p∈([]:List (ac×Obj)) from hp) (by simp)⟩
 have loop:AT (ga X.prog X.w) X.A (.compLoop (.ListComp elt [⟨.Name x px,iter,ifs,0⟩] scope pos) 0 (.ref it) (.ref D) (JaY scope (gp X.env scope.names []) G.objs.size X.env)) (RR (.ref D) G.objs.size)
   {jD with heap:=Gw,toks:=jD.toks+([]:List (Str×bv)).length}:=by
  refine Ck (λ n s'=>∃i ys H',Inv (X.xB scope (gp X.env scope.names []) G.objs.size N {jD with heap:=G} (upd H D (.lst [])) fp) [] (Br fr σ) H' s'/\tn i s'.heap/\(∀b∈fp,H' b=none)/\W i n ys H') ?_ m0 ⟨0,[],_,IY,Mz,Ŀ,w0⟩;rintro n s3 ⟨i,ys,H3,I3,LX,Sf,w3⟩;rcases turn i n ys H3 w3 with ⟨stop,q⟩ | ⟨go,step⟩
  .refine gZ (T.done (X.xB scope (gp X.env scope.names []) G.objs.size N {jD with heap:=G} (upd H D (.lst [])) fp) rfl rfl rfl hc i [] s3 _ H3 _ I3 (stat Sf) LX stop) λ r s4 zq=> ?_;obtain⟨hr,I4⟩:=zq;subst hr;obtain⟨m',Uu,_⟩:=I4.loc;have u:Un (qS X.stack) fp H H3 jD.heap s4.heap:=Un.trans (Un.laid L3 (eI XC) hD) I4.base;refine ĳ D G.objs.size s4 m' H3 (I.OR I4.os u I4.gG I4.bare λ b hb=>⟨(f2 b hb).2.2.2.1,(f2 b hb).2.1,(f2 b hb).2.2.2.2.1,(f2 b hb).2.2.2.2.2⟩) Uu (I.Ba (Zc (Ze XC) (Zc Zk (Zg UH))) I4.free) q
  .refine gZ (T.item (X.xB scope (gp X.env scope.names []) G.objs.size N {jD with heap:=G} (upd H D (.lst [])) fp) rfl rfl rfl hc i [] s3 _ H3 _ I3 (stat Sf) LX go) λ r s4 zq=> ?_;obtain⟨u,hr,h4⟩:=zq;subst hr;refine gZ h4 λ _ s5 zq=> ?_;obtain⟨x',H5,I5,r5,y5,MA,XJ⟩:=zq;have YO:=I5.pinned (stat XJ) (T.obj _ _ MA);refine Ps (qx (i:=0) YO S.nd (by show N[0]? = some x;rw [S.UT];rfl) (.inl (JaV S.hx)) r5 (λ s6 I6=> ?_) (.inr (JaV S.hx)));have ţ:Inv (X.xB scope (gp X.env scope.names []) G.objs.size N {jD with heap:=G} (upd H D (.lst [])) fp) ([]++qO fp s5.heap) (kN x' fr σ) H5 s6:=I6
   have again:∀{H8:Hp} {s8:ci} {GB:List V},Inv (X.xB scope (gp X.env scope.names []) G.objs.size N {jD with heap:=G} (upd H D (.lst [])) fp) ([]++qO fp s5.heap) (kN x' fr σ) H8 s8->(∃m',m'<n/\W (i+1) m' GB H8)->
     ∃m,m<n/\∃i ys H',Inv (X.xB scope (gp X.env scope.names []) G.objs.size N {jD with heap:=G} (upd H D (.lst [])) fp) [] (Br fr σ) H' s8/\tn i s8.heap/\(∀b∈fp,H' b=none)/\W i m ys H':=λ {H8 s8 GB} I8 ⟨m',hm,w8⟩=>by
    refine⟨m',hm,i+1,GB,H8,I8.qw.weak (by simp [Br,kN]) (λ j v e=> ?_),T.keep _ _ _ MA λ b hb o e=>(I8.pin (b,o) (aD _ (aD _ (kQ hb e)))).1,λ b hb=> ?_,w8⟩
    .cases j with
     | zero=>simp [Br] at e
     | succ k=>simpa [Br,kN] using e
    .obtain⟨o,e,d⟩:=T.obj _ _ MA b hb;exact(I8.pin (b,o) (aD _ (aD _ (kQ hb e)))).2.1
   refine gZ (ht _ _ _ _ _ _ s6 (kN x' fr σ) H5 _ ţ (step x' H5 y5)) λ b s7 zq=> ?_;obtain⟨H7,I7,q7⟩:=zq
   cases b with
   | false=>exact again I7 q7
   | true=>
    refine gZ (he _ _ _ _ _ _ s7 _ H7 _ I7 q7) λ yv s8 zq=> ?_;obtain⟨y,H8,I8,r8,Ķ,hz,q8⟩:=zq;refine gZ (gE _ s8 _ H8 (.ref D) [y] (.ref D) [yv] (λ _ H9=>H9=upd H8 D (.lst (ys ++ [y]))) I8 rfl (.cons r8 .nil) ⟨D,ys,y,rfl,rfl,Ķ,hz,rfl⟩) λ _ s9 zq=> ?_;obtain⟨_,H9,I9,_,e9⟩:=zq;subst e9;exact again I9 q8
 exact JaM loop (T.self _ 0 _ _ _ Mz loop)
theorem Jn (hc:X.calm=true) (S:qp scope X.env.scope x N X.N fr) (hi:PI X (.Name x px) iter wi) (ht:∀cl C iY jR ex,EB (X.xB scope cl C N iY jR ex) ifs tt) (he:∀cl C iY jR ex,PE (X.xB scope cl C N iY jR ex) elt te)
  (hs:∀v,nw iter X.env v=pure v:=by intro _;rfl):PE X (.ListComp elt [⟨.Name x px,iter,ifs,0⟩] scope pos) (sJ wi fr tt te):=by
 intro pins s σ H Q I h;rw [eval_ListComp];refine Go (use:=none) rfl hs (yu X.env scope (D' S I)) S.kind S.names (gZ (hi pins s σ H _ I h) λ v s1 h1=>gZ h1 λ VN s2 h2=> ?_);obtain⟨it,fp,tn,J,H2,e,I2,T,LY,f2,R⟩:=h2;subst e;refine Ak (RR:=λ acc C=>JaX (ga X.prog X.w) X.A X.xe none (EP X pins σ Q) acc C) hc S ht he I2 T LY f2 R λ D C s' m H' I' hn hf q=> ?_;exact⟨m,hn,λ h' Uj=>⟨.ref D,H',I'.turned (t':=s'.toks) (λ b o hb e=>Uj.extBut b o hb e) hf.1 hf.2.1 hf.2.2.2.1 hf.2.2.2.2.1 hf.2.2.2.2.2,rfl,q⟩⟩
theorem Ji (hN:X.N.Nodup) (DQ:X.N[i]? = some y) (hy:Loc X.env.scope y) (hc:X.calm=true) (S:qp scope X.env.scope x N X.N fr) (hi:PI X (.Name x px) iter wi)
  (ht:∀cl C iY jR ex,EB (X.xB scope cl C N iY jR ex) ifs tt) (he:∀cl C iY jR ex,PE (X.xB scope cl C N iY jR ex) elt te)
  (N7:ww (.ListComp elt [⟨.Name x px,iter,ifs,0⟩] scope pos) (some (.Name y py)) yG.line X.env=pure true:=by rfl)
  (hs:∀v,nw iter X.env v=pure v:=by intro _;rfl) (hf:X.fn y=true\/X.env.scope.names.lookup y=some .local:=by first|exact .inl rfl|exact .inr rfl|assumption) :
  PS X (.Assign [.Name y py] (.ListComp elt [⟨.Name x px,iter,ifs,0⟩] scope pos) yG) (xO (sJ wi fr tt te) (nj i)):=by
 intro pins s σ H D I h;rw [JaQ _ _ _ _ N7];refine bi (ZD (bi ?_));show gc (ga X.prog X.w) X.A (comprehension (.ListComp elt [⟨.Name x px,iter,ifs,0⟩] scope pos) scope X.env _ (newList []) false (jp iter X.env) (some (Sc (.Name y py) X.env)) >>= λ _=>pure ()) _ _ s
 refine bi (re (Go (use:=some (Sc (.Name y py) X.env)) (Q:=λ _ s'=>SP X pins D .next s') rfl hs (yu X.env scope (D' S I)) S.kind S.names
  (gZ (hi pins s σ H _ I h) λ v s1 h1=>gZ h1 λ VN s2 h2=> ?_)) (λ _ s' hq=>cr (cr hq)) λ _ _ e=>e)
 obtain⟨it,fp,tn,J,H2,e,I2,T,LY,f2,R⟩:=h2;subst e;refine Ak (RR:=λ acc C=>JaX (ga X.prog X.w) X.A X.xe (some (Sc (.Name y py) X.env)) (λ _ s'=>SP X pins D .next s') acc C) hc S ht he I2 T LY f2 R λ Dl C s' m H' I' hn HR q=> ?_;show gc (ga X.prog X.w) X.A (Sc (.Name y py) X.env (.ref Dl)) _ _ _;refine Ps (vz I' hN DQ hy (show RelV (.ref Dl) (.ref Dl) from rfl) (λ SU Ť zq=> ?_) hf);obtain⟨a,sb,ha⟩:=zq
 have ķ:C≠a:=by
  rcases ha with z|z
  .rw [z];exact HR.2.1
  .exact λ w=>HR.2.2.2.2.1 y a z w.symm
 exact⟨m,hn.sameBut sb ķ,λ h' Uj=>⟨_,H',Ť.turned (t':=SU.toks) (λ b o hb e=>Uj.extBut b o hb e) HR.1 HR.2.1 HR.2.2.2.1 HR.2.2.2.2.1 HR.2.2.2.2.2,q⟩⟩
end
abbrev tx (l:List Nat):Str:=⟨l.toArray⟩
theorem yA (l:List Nat):(tx l).length=l.length:=by simp [Str.length]
theorem rM (l:List Nat):(tx l).cps.toList=l:=by simp [tx]
theorem CZ (a b:List Nat):tx a++tx b=tx (a++b):=by
 show (⟨a.toArray++b.toArray⟩:Str)=⟨(a++b).toArray⟩;simp
theorem iA:tx a=tx b↔a=b:=by simp [tx]
section
variable {X:Cx}
theorem Tz:uj X (tz .In) (λ x y H Q=>∃c z,x = .str ⟨#[c]⟩/\y = .str z/\Q (.bl (decide (c∈z.cps.toList))) H):=by
 intro pins s σ H x y v u Q I rx ry h;obtain⟨c,z,rfl,rfl,q⟩:=h;refine KO pins s σ H _ _ v u Q I rx ry ⟨_,_,rfl,rfl,?_⟩
 rwa [StrLaws.found_one]
theorem yF:∀{ys:List Str} {us:List bv},Vals (ys.map V.str) us->StrsAre us ys
 | [],us,r=>by
  cases r;exact .nil
 | y::ys,us,r=>by
  rw [aB] at r
  cases r with
  | cons r1 r2=>
   obtain⟨t,rfl⟩:=r1;exact .cons y t (yF r2)
def rJoin (K:ai):V->List V->Hp->VK->Prop:=λ x xs H Q=>∃(p:ac) (ys:List (List Nat)),x = .str ⟨#[]⟩/\xs = [.ref p]/\gg K H p (ys.map λ l=>V.str (tx l))/\(ys.map List.length).sum<=16777216/\Q (.str (tx ys.flatten)) H
theorem HL (ys:List (List Nat)):Txt.join ⟨#[]⟩ (ys.map tx)=tx ys.flatten:=by
 unfold Txt.join;rw [StrLaws.glued_eq_join]
 induction ys with
 | nil=>rfl
 | cons a r ih=>
  cases r with
  | nil=>simp [Str.join,tx]
  | cons b r=>
   show tx a ++ ⟨#[]⟩++Str.join ⟨#[]⟩ ((b::r).map tx)=_;rw [ih,show tx a++(⟨#[]⟩:Str)=tx a from (CZ a []).trans (by rw [bI]),CZ];rfl
theorem Jt:V3 X "str.join" (rJoin X.K):=by
 intro pins s σ H x xs v us Q I rx rs h;obtain⟨p,ys,rfl,rfl,hq,hz,q⟩:=h;obtain⟨t,rfl⟩:=rx;obtain⟨u,rfl,hu⟩:=rs.one
 cases hu;obtain⟨its,r,pl,_⟩:=I.list hq;have r':Vals ((ys.map tx).map V.str) its:=by rwa [aR]
 refine join_list pl.isList (yF r') ?_ λ t' k=>⟨.str (tx ys.flatten),H,I.tok _,⟨t',?_⟩,q⟩
 .have e:(ys.map tx).map (·.length)=ys.map List.length:=by
   rw [aR];exact List.map_congr_left λ a _=>yA a
  rw [e];show _+_*0<=_;omega
 .rw [HL]
theorem xA:∀{bs:List Bool} {us:List bv},Vals (bs.map V.bl) us->LSm.BoolsAre us bs
 | [],us,r=>by
  cases r;exact .nil
 | b::bs,us,r=>by
  rw [aB] at r
  cases r with
  | cons r1 r2=>
   cases r1;exact .cons b (xA r2)
theorem OP (hc:X.calm=true):kL X (.builtin "all") (λ xs H Q=>∃(p:ac) (bs:List Bool),xs = [.ref p]/\gg X.K H p (bs.map V.bl)/\Q (.bl (bs.all id)) H):=by
 intro pins s σ H xs us Q I r h;obtain⟨p,bs,rfl,hq,q⟩:=h;obtain⟨u,rfl,ru⟩:=r.one
 cases ru;obtain⟨its,r,pl,_⟩:=I.list hq;have hb:=xA r;obtain⟨o,n,e,Pw,_,hd⟩:=id pl;have iT:p<s.heap.objs.size:=aH e;refine call_all_walk (Wp pl.isList ?_)
 refine⟨s.heap.objs.size,[s.heap.objs.size,p],[s.heap.objs.size],its.toArray.size,_,_,λ i=>(bs[i]?).getD true,rfl,Walks.list (A:=X.A.in1) (I.ok.hd hc) _ p (aO iT) its.toArray,
  ⟨⟨_,aK _ rfl,rfl,rfl⟩,pl.isList.push _⟩,λ i v s' Q' E' hP hQ=> ?_,λ h' tk hk=> ?_⟩
 .obtain⟨b,e,rfl⟩:=hb.get i v (by simpa using hP);simp only [e,Option.getD_some] at hQ;exact wn hQ
 .have e:((List.range its.toArray.size).all λ i=>(bs[i]?).getD true)=bs.all id:=by
   rw [aM,hb.length];exact LSm.range_all bs
  rw [e];exact⟨.bl _,H,I.kept (λ b o e=>hk b o (λ z=>by rw [aj.mp z] at e;exact bT _ (aH e)) (ah _ e)),rfl,q⟩
theorem jF:kL X (.builtin "isinstance") (λ xs H Q=>∃x t c b,xs = [x,.ty c]/\wJ X.K H x t/\cy X.K t (.type c)=some b/\Q (.bl b) H):=by
 intro pins s σ H xs us Q I r h;obtain⟨x,t,c,b,rfl,ty,e,q⟩:=h;obtain⟨u,v,rfl,ru,rv⟩:=r.two
 cases rv;exact Ld I ru ty e λ tk=>⟨.bl b,H,I.tok _,rfl,q⟩
end
theorem T8 (K:ai):cy K (.type "bool") (.type "bool")=some true:=by rfl
theorem T7 (K:ai):cy K (.type "int") (.type "bool")=some false:=by rfl
theorem T6 (K:ai):cy K (.type "int") (.type "int")=some true:=by rfl
theorem NZ (K:ai):cy K (.type "list") (.type "list")=some true:=by rfl
theorem NY (K:ai):cy K (.type "tuple") (.type "tuple")=some true:=by rfl
theorem fw.gh (s:fw H H') (h:H a=none):fw H (upd H' a o):=λ b u e=>by
 rw [fo (fA e h)];exact s b u e
theorem fw.new (h:H a=none):fw H (upd H a o):=(fw.refl H).gh h
structure Tells (J:It) (H1:Hp) (xs:List V):Prop where
 go:∀i H,i<xs.length->fw H1 H->J.go i H
 stop:∀H,fw H1 H->J.stop xs.length H
 CW:∀i H x H',fw H1 H->i<xs.length->J.CW i H x H'->H'=H/\xs[i]? = some x
theorem yt {α:Type} {J:It} {H1:Hp} {fr:List Nat} {σ:St} {tt:TT} {te:TE} {Q:VK} {cs:List α} {g:α->V} (T:Tells J H1 (cs.map g)) (p:α->Bool) (f:α->V) (hz:cs.length<=dL)
  (ht:∀c H2 Q2,c∈cs->fw H1 H2->(∀H3,fw H2 H3->Q2 (p c) H3)->tt (kN (g c) fr σ) H2 Q2)
  (he:∀c H2 Q2,c∈cs->p c=true->fw H1 H2->(∀H3,fw H2 H3->Q2 (f c) H3)->te (kN (g c) fr σ) H2 Q2)
  (hQ:∀D H2,H1 D=none->fw H1 H2->H2 D=some (.lst ((cs.filter p).map f))->Q (.ref D) H2):vn J H1 fr σ tt te Q:=by
 intro D hD;have hlen:(cs.map g).length=cs.length:=ae ..;refine⟨λ i m ys H2=>m=cs.length-i/\i<=cs.length/\ys=((cs.take i).filter p).map f/\fw H1 H2/\H2 D=some (.lst ys),⟨_,rfl,aQ _,rfl,fw.new hD,e_⟩,?_⟩;rintro i m ys H2 ⟨rfl,hi,rfl,s2,d2⟩;by_cases iT:i<cs.length
 .refine .inr ⟨T.go i H2 (by rwa [hlen]) s2,λ x H3 y=> ?_⟩;obtain⟨rfl,hx⟩:=T.CW i H2 x H3 s2 (by rwa [hlen]) y;rw [ak] at hx
  cases hc:cs[i]? with
  | none=>rw [hc] at hx;cases hx
  | some c=>
   rw [hc] at hx;obtain rfl:g c=x:=Option.some.inj hx;have hm:c∈cs:=aq hc;have tk:(cs.take (i+1)).filter p=(cs.take i).filter p++(if p c then [c] else []):=take_succ_filter p cs i c hc;refine ht c H3 _ hm s2 λ H4 s4=> ?_
   cases hp:p c with
   | false=>
    rw [hp] at tk;refine⟨_,?_,rfl,iT,by rw [tk];simp,s2.trans s4,s4 _ _ d2⟩;exact V2 iT
   | true=>
    rw [hp] at tk;refine he c H4 _ hm hp (s2.trans s4) λ H5 s5=>⟨s5 _ _ (s4 _ _ d2),?_,_,?_,rfl,iT,by rw [tk];simp,((s2.trans s4).trans s5).gh hD,e_⟩
    .have h1:=bG p (cs.take i);rw [aX] at h1;rw [ae];lia
    .exact V2 iT
 .obtain rfl:i=cs.length:=by exact Zq hi (Zi iT)
  exact .inl ⟨by have:=T.stop H2 s2;rw [hlen] at this;exact this,hQ D H2 hD s2 (by rw [br] at d2;exact d2)⟩
theorem Kl:Tells (V4 z) H1 (z.cps.toList.map λ c=>V.str ⟨#[c]⟩) where
 go:=λ i H hi _=>by
  rw [ae] at hi;exact(show i<z.cps.size by simpa using hi)
 stop:=λ H _=>by
  rw [ae];exact(show z.cps.toList.length=z.cps.size by simp)
 CW:=λ i H x H' _ _ y=>by
  obtain⟨e,c,hc,rfl⟩:=y;refine⟨e,?_⟩;rw [ak,bh,hc];rfl
theorem iQ {lo:Int} {n:Nat}:Tells (Su lo n) H1 ((List.range n).map λ k:Nat=>V.int (lo+(k:Int))) where
 go:=λ i H hi _=>by
  rw [ae,aJ] at hi;exact hi
 stop:=λ H _=>by
  rw [ae,aJ];exact az _
 CW:=λ i H x H' _ hi y=>by
  obtain⟨e,rfl⟩:=y;rw [ae,aJ] at hi;refine⟨e,?_⟩;rw [ak,cC hi];rfl
theorem gT {K:ai} {H1:Hp} {a:ac} {xs:List V} (h:gg K H1 a xs):Tells (Sv K a) H1 xs where
 go:=λ i H hi s=>⟨xs,xs[i],s.seq h,by simp [hi]⟩
 stop:=λ H s=>⟨xs,s.seq h,az _⟩
 CW:=λ i H x H' s _ y=>⟨y.1,y.2 xs (s.seq h)⟩
theorem comp_map {α:Type} {J:It} {H1:Hp} {fr:List Nat} {σ:St} {te:TE} {Q:VK} {cs:List α} {g:α->V} (T:Tells J H1 (cs.map g)) (f:α->V) (hz:cs.length<=dL)
  (he:∀c H2 Q2,c∈cs->fw H1 H2->(∀H3,fw H2 H3->Q2 (f c) H3)->te (kN (g c) fr σ) H2 Q2)
  (hQ:∀D H2,H1 D=none->fw H1 H2->H2 D=some (.lst (cs.map f))->Q (.ref D) H2):vn J H1 fr σ C0 te Q:=
 yt T (λ _=>true) f hz (λ c H2 Q2 _ _ h=>h H2 (fw.refl _)) (λ c H2 Q2 hm _ s h=>he c H2 Q2 hm s h) λ D H2 hD s d=>hQ D H2 hD s (by rw [List.filter_eq_self.mpr (λ _ _=>rfl)] at d;exact d)
structure gD (K:ai) (mg:Str->Option bv) (x:Str) (st:pc) (ps:List Str) (f:ac) (fd:ce):Prop where
 fn:Pb K x x st f fd
 b:Binds K fd ps []
 g:mg x=some (.ref f)
section
variable {X:Cx}
theorem Np (h:∃u,X.mg x=some u/\RelV v u) (hg:Gl X x:=by rfl) (hd:(x==("__debug__" : Str))=false:=by decide):PE X (.Name x pos) (tC v):=by
 obtain⟨u,e,r⟩:=h;exact Qt hg e r hd
theorem Wt (hm:X.mg x=none) (hv:xL x=some (.type T)) (hg:Gl X x:=by rfl) (hn:x≠"__name__" := by decide) (hd:(x==("__debug__" : Str))=false:=by decide):PE X (.Name x pos) (tC (.ty T)):=
 Qz hg hm hv rfl hn hd
end
def Sm (sc so:FS) (x:Str) (N XN:List Str) (fr:List Nat):Bool:=
 decide (sc.kind = .function)&&sc.names.all (λ y=>decide (y.2≠.cell))&&sc.names.all (λ y=>decide (y.2 = .local->sc.names.lookup y.1=some .local))&&decide (sc.names.lookup x=some .local)&&decide N.Nodup &&
 decide (N=x::fr.map (λ j=>XN.getD j ""))&&fr.all (λ j=>decide (j<XN.length))&&sc.names.all (λ y=>decide (y.2 = .free->so.names.lookup y.1=some .cell\/so.names.lookup y.1=some .free)) &&
 fr.all (λ j=>decide (sc.names.lookup (XN.getD j "")=some .free))&&fr.all (λ j=>decide (so.names.lookup (XN.getD j "")≠some .local))
theorem qp.of (h:Sm sc so x N XN fr=true):qp sc so x N XN fr:=by
 unfold Sm at h;simp only [bc,cB,decide_eq_true_eq] at h;obtain⟨⟨⟨⟨⟨⟨⟨⟨⟨h1,h2⟩,h3⟩,h4⟩,h5⟩,h6⟩,h7⟩,h8⟩,h9⟩,ĺ⟩:=h;exact⟨h1,h2,h3,h4,h5,h6,h7,h8,h9,ĺ⟩
theorem iR {α β:Type} {f:α->β} {l:List α} {i:Nat} {y:β} (h:(l.map f)[i]? = some y):∃z,l[i]? = some z/\y=f z:=by
 rw [ak] at h
 cases e:l[i]? with
 | none=>rw [e] at h;cases h
 | some z=>rw [e] at h;exact⟨z,rfl,(Option.some.inj h).symm⟩
theorem iJ {α:Type} {l:List α} {i:Nat} {z:α} (h:l[i]? = some z):l.take (i+1)=l.take i ++ [z]:=by
 rw [List.take_add_one,h];rfl
def IW (ta tb:TE) (k:Int):TE:=λ σ H Q=>ta σ H λ x H1=>tb σ H1 λ y H2=>∃i j,x = .int i/\y = .int j/\Q (.bl (decide (i<=j)&&decide (j<=k))) H2
theorem QA (ha:PE X a ta) (hb:PE X b tb) (hc:PE X c (tC (.int k))) (hm:lastMarks [CmpOp.LtE,CmpOp.LtE] [b,c]=false:=by with_unfolding_all rfl) :
  PE X (.Compare a [.LtE,.LtE] [b,c] pos) (IW ta tb k):=by
 intro pins s σ H Q I h;refine Compare_chain (gZ (ha pins s σ H _ I h) λ v s1 ⟨x,H1,I1,r1,q1⟩=>chain_link (gZ (hb pins s1 σ H1 _ I1 q1) λ u s2 zq=> ?_)) hm;obtain⟨y,H2,I2,r2,q2⟩:=zq;obtain⟨i,j,rfl,rfl,q⟩:=q2;refine gZ (RU pins s2 σ H2 _ _ v u (λ z H3=>z = .bl (decide (i<=j))/\H3=H2) I2 r1 r2 ⟨i,j,rfl,rfl,rfl,rfl⟩) λ d s3 zq=> ?_;obtain⟨z,H3,I3,r3,e,e'⟩:=zq;subst e e'
 cases r3;refine wn ?_;by_cases ω:i<=j
 .rw [decide_eq_true ω] at q⊢;refine ite_tt (chain_last (gZ (hc pins s3 σ _ (λ z H4=>z = .int k/\H4=H3) I3 ⟨rfl,rfl⟩) λ w' s4 zq=> ?_));obtain⟨z',H4,I4,r4,e,e'⟩:=zq;subst e e';exact RU pins s4 σ _ _ _ u w' Q I4 r2 r4 ⟨j,k,rfl,rfl,q⟩
 .rw [decide_eq_false ω] at q⊢;exact ite_ff ⟨.bl false,H3,I3,rfl,q⟩
end L2
namespace L2
open PySem
theorem SX {K:ai} {H:Hp} {σ:St} {i:Nat} {cs:List Nat} {te:TE} {Q:VK} (l:List Nat) (hσ:σ[i]? = some (some (.str (tx l)))) (hz:l.length<=dL)
  (Xe:∀c H2 Q2,c∈l->Q2 (.bl (decide (c∈cs))) H2->te (kN (.str ⟨#[c]⟩) [] σ) H2 Q2) (h:∀H2,fw H H2->Q (.bl (l.all λ c=>decide (c∈cs))) H2) :
  sJ (Ud (yD i)) [] C0 te σ H λ x H1=>∃p,x = .ref p/\∃bs:List Bool,gg K H1 p (bs.map V.bl)/\Q (.bl (bs.all id)) H1:=by
 refine⟨_,hσ,_,rfl,comp_map Kl (λ c=>.bl (decide (c∈cs))) (by rwa [rM]) (λ c H2 Q2 hc _ h=>Xe c H2 Q2 (by rw [rM] at hc;exact hc) (h H2 (fw.refl _))) λ D H2 _ s2 d2=>⟨D,rfl,l.map λ c=>decide (c∈cs),?_,?_⟩⟩
 .rw [rM] at d2;rw [aR];exact gg.of d2
 .have e:(l.map λ c=>decide (c∈cs)).all id=l.all λ c=>decide (c∈cs):=by
   rw [List.all_map];rfl
  rw [e];exact h H2 s2
theorem gW {α:Type} {a:α} {r:List α}:vq (a::r) 0=some a:=by
 have e:=nB (xs:=a::r) (j:=0) (v:=a) rfl
 simpa using e
end L2
namespace L2
open PySem PySem.Spec PyProof.Rows
abbrev YT:List bv:= [.type "ValueError",.type "Exception",.type "BaseException",.type "object"]
structure x_ (K:ai) (mg:Str->Option bv) (x:Str) (C:ac):Prop where
 g:mg x=some (.ref C)
 ex:PySem.W.excIn K C YT "ValueError.__new__" = true
theorem x_.own {K:ai} {mg:Str->Option bv} {x:Str} {C:ac} {h:Heap} (T:x_ K mg x C) (X:K.In h):OwnCls x C YT "ValueError.__new__" mg h:=by
 refine⟨T.g,?_⟩;have q:=T.ex;unfold PySem.W.excIn at q
 split at q
 .rename_i dd cd sl ho
  split at q
  .rename_i C' bm k0 k1 k2 k3 n k5 hm hs
   simp only [bc,beq_iff_eq,Bool.not_eq_true'] at q;obtain⟨⟨⟨⟨⟨e1,e2⟩,e3⟩,e4⟩,e5⟩,e6⟩:=q;subst e1 e2;obtain⟨nm,bs,mro,ns,qn,hd,sn,sub,ab,col,del⟩:=cd;dsimp only at hm e3 e5 e6;subst hm e3
   obtain rfl:sl = #[k0,k1,k2,k3,some (.builtin "ValueError.__new__"),k5]:=by
    obtain⟨l⟩:=sl;simp only at hs;rw [hs]
   exact⟨bm,ns,nm,qn,bs,hd,sn,sub,ab,col,dd,k0,k1,k2,k3,k5,_,X _ _ ho,.of_isNs (PySem.W.isNs_of_in X e5),PySem.W.nsMap_none_of_in X e5 e6,PySem.W.tail_of_in X e4⟩
  .cases q
 .cases q
def Eu (a:ac) (h:Heap):Prop:=∃o vs,h.get? a=some o/\o.data = .fields vs/\vs[2]? = some .none
structure gQ (a:ac) {α:Type} (t:Sem α):Prop where
 out:∀(M:Model) (Γ:PySem.Ctx) (R:α->Pos->ci->Prop) (X:bv->Pos->ci->Prop) (p:Pos) (s:ci),Eu a s.heap->Sem.wp M Γ t R X p s->Sem.wp M Γ t (λ x p' s'=>R x p' s'/\Eu a s'.heap) X p s
namespace gQ
variable {α β:Type} {a:ac}
theorem pure' (x:α):gQ a (Pure.pure x:Sem α):=⟨λ _ _ _ _ _ _ c h=>by rw [Sem.wp_pure'] at h⊢;exact⟨h,c⟩⟩
theorem uns (w:String):gQ a (PySem.unsupported w:Sem α):=⟨λ _ _ _ _ _ _ _ h=>h.elim⟩
theorem bind' (hm:gQ a m) (hf:∀x,gQ a (f x)):gQ a (m >>= f):=⟨λ M Γ R X p s c h=>by
 rw [Sem.wp_bind'] at h⊢;exact Sem.wp_mono M Γ m (λ x p1 s1 q=>(hf x).out M Γ R X p1 s1 q.2 q.1) (λ _ _ _ q=>q) p s (hm.out M Γ _ X p s c h)⟩
theorem č {c:Prop} [Decidable c] (ht:gQ a t) (hu:gQ a u):gQ a (if c then t else u):=by split<;>assumption
theorem WW (b:ac):gQ a (PySem.load b):=⟨λ _ _ _ _ _ _ c h=>by
 obtain⟨o,e,q⟩:=h;exact⟨o,e,q,c⟩⟩
theorem update' (b:ac) (f:Obj->Obj) (hf:∀o,(f o).data=o.data):gQ a (PySem.update b f):=⟨λ _ _ _ _ _ s c h=>by
 refine⟨h.1,h.2,?_⟩;obtain⟨o,vs,e,d,q⟩:=c;by_cases z:b=a
 .subst z;exact⟨_,vs,bY f e (Obj.isFreed_of_fields ((hf o).trans d)),(hf o).trans d,q⟩
 .exact⟨o,vs,(bR _ f z).trans e,d,q⟩⟩
theorem SM:gQ a PySem.stack:=⟨λ _ _ _ _ _ _ c h=>by
 unfold PySem.stack at h⊢;rw [Sem.wp_stack] at h⊢;exact⟨h,c⟩⟩
theorem Vg (o:Obj):gQ a (PySem.alloc o):=⟨λ _ _ _ _ _ s c h=>by
 refine⟨h,?_⟩;obtain⟨o1,vs,e,d,q⟩:=c;exact⟨o1,vs,ah _ e,d,q⟩⟩
theorem UN (v:bv) (i:Nat):gQ a (PySem.field v i):=⟨λ _ Γ R X p s c h=>by
 rw [wp_field_iff] at h⊢;obtain⟨b,o,vs,x,e1,e2,e3,e4,q⟩:=h;exact⟨b,o,vs,x,e1,e2,e3,e4,q,c⟩⟩
theorem Kw (v:bv) (i:Nat) (x:bv) (hi:i≠2):gQ a (PySem.setField v i x):=⟨λ _ Γ R X p s c h=>by
 rw [wp_setField_iff] at h⊢;obtain⟨b,o,vs,e1,e2,e3,e4,q⟩:=h;refine⟨b,o,vs,e1,e2,e3,e4,q,?_⟩;obtain⟨o1,ws,f1,f2,f3⟩:=c;by_cases z:b=a
 .subst z;rw [e2] at f1
  cases f1;rw [e3] at f2
  cases f2;exact⟨_,_,bY _ e2 (Obj.isFreed_of_fields (Obj.data_mapFields e3 _)),Obj.data_mapFields e3 _,by rwa [Array.getElem?_setIfInBounds_ne hi]⟩
 .exact⟨o1,ws,(bR _ _ z).trans f1,f2,f3⟩⟩
theorem any (k:gQ a t) (c:Eu a s.heap) (h:gc M A t Q E s):gc M A t (λ x s'=>Q x s'/\Eu a s'.heap) E s:=
 λ Γ p hΓ=>k.out M Γ _ _ p s c (h Γ p hΓ)
theorem Vd (k:gQ a t) (c:d=none->Eu a s.heap) (h:gc M A t Q E s):gc M A t (λ x s'=>Q x s'/\(d=none->Eu a s'.heap)) E s:=by
 cases d with
 | none=>exact re (k.any (c rfl) h) (λ x s' q=>⟨q.1,λ _=>q.2⟩) λ _ _ q=>q
 | some d=>exact re h (λ x s' q=>⟨q,λ z=>(nomatch z)⟩) λ _ _ q=>q
end gQ
local macro_rules | `(tactic| walk_at "kc")=> `(tactic| repeat' with_reducible first
  | assumption
  | exact gQ.pure' _
  | exact gQ.uns _
  | exact gQ.UN _ _
  | exact gQ.Kw _ _ _ (by decide)
  | exact gQ.WW _
  | exact gQ.update' _ _ λ _=>rfl
  | exact gQ.SM
  | exact gQ.Vg _
  | apply gQ.č
  | apply gQ.bind'
  | intro _
  | split)
section
variable (a:ac)
theorem DL (env:Env) (l:List Env):gQ a (behindIsImport env l):=by
 unfold behindIsImport;walk_at "kc"
theorem DM:gQ a JaT:=by
 unfold JaT;walk_at "kc"
theorem HK (env:Env) (i:Bool) (l:List Env):gQ a (keptBack env i l):=by
 have k:=DM a
 cases l<;>unfold keptBack<;>walk_at "kc"
theorem xg:∀l:List Env,gQ a (readyFrames l)
 | []=>gQ.pure' _
 | env::l=>by
  have k1:=xg l;have k2:=DL a env l;have k3:=λ i=>HK a env i l;unfold readyFrames;walk_at "kc"
  all_goals exact k3 _
theorem uS (l:List Env):gQ a (frameObject l):=by
 cases l with
 | nil=>exact gQ.pure' _
 | cons env l=>
  have k:=xg a (env::l);unfold frameObject;walk_at "kc"
theorem A_ (env:Env):gQ a (PySem.frameOf env):=by
 have k1:gQ a frameEnvs:=by
  unfold frameEnvs;walk_at "kc"
 have k2:=uS a;unfold PySem.frameOf;walk_at "kc"
 all_goals exact k2 _
theorem Lb (cells:List bv):gQ a (newFields "traceback" cells):=by
 unfold newFields newObj newObjAsIs;walk_at "kc"
theorem zI (e:bv) (env:Env):gQ a (noteFrame e env):=by
 have k1:=A_ a env
 have k2:∀f b,gQ a (entryPlaceOf f b):=λ f b=>by
  unfold entryPlaceOf;walk_at "kc"
 have k3:=Lb a;unfold noteFrame EntryCells.newEntry;walk_at "kc"
 all_goals first|exact k2 _ _|exact k3 _
theorem uT (e:bv) (f:Option ac):gQ a (setFlight e f):=by
 unfold setFlight;walk_at "kc"
theorem sU (env:Env) (e:bv):gQ a (leaving env e):=gQ.bind' (zI a e env) λ _=>uT a e none
end
structure Sx (P:im) (w:io) (outer:List Env) (H:Hp) (s:ci) (H':Hp) (a C:ac) (s':ci):Prop where
 os:s'.os=s.os
 bare:WF s'.gens
 Z_:∃a0 B,bS B outer a (.ref C) a0 s'.heap/\rC P w H' B/\(∀b o,s.heap.get? b=some o->H b=none->b∉qS outer->B.get? b=some o)/\∀b o,s.heap.get? b=some o->b∉qS outer->∃o',B.get? b=some o'
 slot:∀b o,s.heap.get? b=some o->H b=none->b∈qS outer->∃sl,s'.heap.get? b=some {o with slots:=sl}
 free:∀b o,s.heap.get? b=some o->H b=none->H' b=none
 iM:∀b xs,H b=some (.tup xs)->H' b=some (.tup xs)
 oG:∀b o u,H b=some (.sW o u)->H' b=some (.sW o u)
 qr:∀b ps,H b=some (.Ms ps)->∃more,H' b=some (.Ms (ps++more))
def ij (P:im) (w:io):Bj:=λ outer H s E e s'=>∃a C H' d,e = .ref a/\Sx P w outer H s H' a C s'/\(d=none->Eu a s'.heap)/\E (.ref C) d H'
def Raises (X:Cx) (E:XK):Prop:=∀(pins:List (ac×Obj)) (σ:St) (H:Hp) (s:ci) (h':Heap) (e C:ac) (vs:List bv),Inv X pins σ H s->Heap.MadeExcOf s.heap h' e (.ref C) vs->E (.ref C) none H->X.xe (.ref e) {s with heap:=h'}
theorem Hl (ok:rC P w H h) (k:∀b o u,H b=some u->h.get? b=some o->h'.get? b=some o):rC P w H h':=λ a o e=>
 (ok a o e).sy (λ b u hb q=>by
  rcases hb with rfl|hb
  .exact k _ u o e q
  .exact k _ u _ hb q) (λ _ q=>q) λ _ _ q=>q
section
variable {P:im} {w:io} {K:ai} {mg:Str->Option bv} {base:Heap} {N:List Str} {qual:Str} {scope:FS} {f:ac} {cd:bv} {A:pi} {outer:List Env} {s:ci} {H:Hp} {E:XK}
theorem lR:Raises (Ag (ij P w) P w K mg base N qual scope f cd A outer s H E) E:=by
 intro pins σ H1 s1 h' e C vs I mk q;have nQ:=I.stack;have ĩ:∀b∈qS (Ev qual scope s.heap.objs.size f cd::outer),H1 b=none:=I.yi;have inF:∀env∈(Ev qual scope s.heap.objs.size f cd::outer),∀b,env.frame=some b->b∈qS (Ev qual scope s.heap.objs.size f cd::outer):=λ env he b hb=>bD.mpr ⟨env,he,hb⟩
 have P0:∀b∈qS outer,b∈qS (Ev qual scope s.heap.objs.size f cd::outer):=λ b hb=>by
  obtain⟨env,he,hf⟩:=bD.mp hb;exact bD.mpr ⟨env,ay _ he,hf⟩
 have ND:∀b o,s.heap.get? b=some o->b∉qS outer->b∉qS (Ev qual scope s.heap.objs.size f cd::outer):=λ b o e1 n hb=>by
  obtain⟨env,he,hf⟩:=bD.mp hb;rcases av.mp he with rfl|he
  .have z:s.heap.objs.size=b:=Option.some.inj hf;exact absurd (aH e1) (by rw [<-z];exact bT _)
  .exact n (bD.mpr ⟨env,he,hf⟩)
 have cN:Eu e h':=by
  obtain⟨t,he,_,_⟩:=mk.there;exact⟨_,_,he,rfl,rfl⟩
 refine re ((sU e _ _).any cN (wpAny_leaves_madeW (base:=eV s1.heap (qS (Ev qual scope s.heap.objs.size f cd::outer))) I.ok.frames rfl (λ b o z=>PySem.W.of_hideAll _ z) (PySem.W.funFrames_hide nQ inF) mk (Q:=λ _ s2=>∃h2 t,s2 = {s1 with heap:=h2}/\bS (eV s1.heap (qS (Ev qual scope s.heap.objs.size f cd::outer))) outer e (.ref C) (.ref t) h2/\h'.UpToSlots h2) λ h2 t fl _ _ up=>⟨h2,t,rfl,fl,up⟩)) (λ _ s2 JG=> ?_) λ _ _ q=>q;obtain⟨⟨h2,t,rfl,fl,up⟩,cN2⟩:=JG;refine⟨e,C,H1,none,rfl,⟨I.os,I.bare,⟨_,_,fl,Hl I.gG λ b o u hu z=>dc _ z λ hb=> ?_,λ b o e1 n1 n2=> ?_,λ b o e1 n2=> ?_⟩,λ b o e1 n1 hb=> ?_,λ b o e1 n1=>I.base.free b o e1 n1 (by intro z;exact absurd (show b∈([]:List ac) from z) (by simp)),I.base.iM,I.base.oG,I.base.qr⟩,λ _=>cN2,q⟩
 .rw [ĩ b hb] at hu
  cases hu
 .exact dc _ (I.base.keep b o e1 n1 n2 (by intro z;exact absurd (show b∈([]:List ac) from z) (by simp))) (ND b o e1 n2)
 .obtain⟨o',e2⟩:=I.base.there b o e1 (by intro z;exact absurd (show b∈([]:List ac) from z) (by simp));exact⟨o',dc _ e2 (ND b o e1 n2)⟩
 .obtain⟨sl,e2⟩:=I.base.slot b o e1 n1 hb (by intro z;exact absurd (show b∈([]:List ac) from z) (by simp));obtain⟨_,o2,e3,nf⟩:=nQ.mem (P0 b hb);rw [e2] at e3
  cases e3;obtain⟨Y4,e4⟩:=up b _ (mk.keeps b _ e2) nf;exact⟨Y4,e4⟩
theorem kr:Passes (ij P w) (Ag (ij P w) P w K mg base N qual scope f cd A outer s H E) E:=by
 intro pins σ H1 s1 e s2 I hx;obtain⟨a,C,H2,d,rfl,F,hd,q⟩:=hx;obtain⟨a0,B,fl,gG,kp,th⟩:=F.Z_
 have ND:∀b o,s.heap.get? b=some o->b∉qS outer->b∉qS (Ev qual scope s.heap.objs.size f cd::outer):=λ b o e1 n hb=>by
  obtain⟨env,he,hf⟩:=bD.mp hb;rcases av.mp he with rfl|he
  .have z:s.heap.objs.size=b:=Option.some.inj hf;exact absurd (aH e1) (by rw [<-z];exact bT _)
  .exact n (bD.mpr ⟨env,he,hf⟩)
 have P0:∀b∈qS outer,b∈qS (Ev qual scope s.heap.objs.size f cd::outer):=λ b hb=>by
  obtain⟨env,he,hf⟩:=bD.mp hb;exact bD.mpr ⟨env,ay _ he,hf⟩
 have tY:∀b:ac,b∉(Ag (ij P w) P w K mg base N qual scope f cd A outer s H E).ex:=λ b z=>absurd (show b∈([]:List ac) from z) (by simp);refine re ((sU a _ _).Vd hd (wpAny_leaves_onW I.ok.frames rfl fl (Q:=λ _ s3=>∃h2,s3 = {s2 with heap:=h2}/\bS B outer a (.ref C) a0 h2/\s2.heap.UpToSlots h2) λ h2 ŀ up=>⟨h2,rfl,ŀ,up⟩)) (λ _ s3 hs3=> ?_) λ _ _ q=>q;obtain⟨⟨h2,rfl,ŀ,up⟩,hd2⟩:=hs3;refine⟨a,C,H2,d,rfl,⟨F.os.trans I.os,F.bare,⟨_,B,ŀ,gG,λ b o e1 n1 n2=> ?_,λ b o e1 n2=> ?_⟩,λ b o e1 n1 hb=> ?_,λ b o e1 n1=> ?_,λ b xs e1=>F.iM b xs (I.base.iM b xs e1),λ b o u e1=>F.oG b o u (I.base.oG b o u e1),λ b ps e1=> ?_⟩,hd2,q⟩
 .exact kp b o (I.base.keep b o e1 n1 n2 (tY b)) (I.base.free b o e1 n1 (tY b)) (ND b o e1 n2)
 .obtain⟨o1,e2⟩:=I.base.there b o e1 (tY b);exact th b o1 e2 (ND b o e1 n2)
 .obtain⟨sl,e2⟩:=I.base.slot b o e1 n1 hb (tY b);obtain⟨Y4,e3⟩:=F.slot b _ e2 (I.base.free b o e1 n1 (tY b)) (P0 b hb);obtain⟨_,o2,e4,nf⟩:=fl.2.2.1.mem (P0 b hb);rw [e3] at e4
  cases e4;obtain⟨sl3,e5⟩:=up b _ e3 nf;exact⟨sl3,e5⟩
 .obtain⟨o1,e2⟩:=I.base.there b o e1 (tY b);exact F.free b o1 e2 (I.base.free b o e1 n1 (tY b))
 .obtain⟨m1,e2⟩:=I.base.qr b ps e1;obtain⟨m2,e3⟩:=F.qr b _ e2;exact⟨m1++m2,by rw [e3,eD]⟩
end
theorem fM:Passes (ij P w) X E0:=λ _ _ _ _ _ _ _ ⟨_,_,_,_,_,_,_,z⟩=>z.elim
def C2 (E:XK) (C:ac) (te:TE):TS:=λ _ σ H=>te σ H λ _ H1=>E (.ref C) none H1
theorem M5 {X:Cx} {E:XK} {x:Str} {C:ac} {Rb:li} {te:TE} {np gY pos:Pos} (T:x_ X.K X.mg x C) (hR:Raises X E) (hc:X.calm=true) (he:PE X Rb te) (hg:Gl X x:=by rfl) (hd:(x==("__debug__" : Str))=false:=by decide)
  (hs:db [Rb] X.env = [(false,jp Rb X.env)]:=by rfl):PS X (.Raise (some (.Call (.Name x np) [Rb] [] gY)) none pos) (C2 E C te):=by
 intro pins s σ H D I h;obtain⟨tl,N,nm,q,bs,hdct,sn,sub,ab,col,dd,k0,k1,k2,k3,k5,mN,hC,hN,hni,TL⟩:=(T.own I.ok.mod.R0).obj;have FB:=PySem.F.excBase_ValueError
 refine wpAny_Raise_call_subT (C:=C) (nm:=nm) (q:=q) (N:=N) (bs:=bs) (bm:=tl) (hdct:=hdct) (sn:=sn) (sub:=sub) (ab:=ab) (col:=col) (dd:=dd) (k0:=k0) (k1:=k1) (k2:=k2) (k3:=k3) (k5:=k5)
  FB (mN:=mN) (TL.hasType FB.hasBase) (I.ok.hd hc) (by rw [hs];rfl) hni (rV I hg T.g ⟨rfl,?_⟩ hd)
 have hA:PA X [Rb] (EL te AX):=Dr he G4 hs;rw [hs]
 have hw:=hA gY pins s σ H (λ vs H1=>vs.length=1/\E (.ref C) none H1) I (by
  have h':te σ H λ _ H1=>E (.ref C) none H1:=h;show te σ H λ x H1=>([x].length=1/\E (.ref C) none H1)
  simpa using h')
 rw [hs] at hw;refine Calls.evalArgs_plain (gZ hw λ us s2 ⟨vs,H2,I2,r2,l2,q2⟩=>⟨rfl,?_,I2.bk _ _ hC,hN.keeps I2.bk,TL.keeps I2.bk,λ h' e mk=>hR pins σ H2 s2 h' e C us I2 mk q2⟩);rw [<-r2.length,l2]
 decide
end L2
namespace L2
open PySem PySem.Spec PyProof.Rows PySem.W PySem.Builtin PySem.Builtin.ObjectAttr PySem.Builtin.Getset_descriptor
def Gi (h:Heap) (x C:ac):Prop:=∃ox,h.get? x=some ox/\ox.cls = .ref C
theorem Gi.type {M:Model} {h:Heap} {x C:ac} (I:Gi h x C):Looks M h (JaG (.ref x)) (.ref C):=by
 obtain⟨ox,e,c⟩:=I;exact c▸(Looks.ld e).andThen .now
section
variable {prog:im} {w:io} {A:pi} {E:bv->ci->Prop} {s:ci} {K:Frag} {x C:ac}
end
abbrev Xm (a C:ac):HO:=.ext λ h=>Gi h a C
section
variable {X:Cx}
end
end L2
namespace L2
open PySem PySem.Spec PyProof.Rows
theorem wZ (x:iz P w H h a o):∃ob,h.get? a=some ob:=by
 cases o with
 | lst xs=>obtain⟨_,_,_,_,e⟩:=x;exact⟨_,e⟩
 | tup xs=>obtain⟨_,_,_,ob,e,_⟩:=x;exact⟨ob,e⟩
 | dK kvs=>obtain⟨_,_,_,_,o,_,_,e,_⟩:=x;exact⟨o,e⟩
 | dT kvs=>obtain⟨_,_,_,_,o,_,_,e,_⟩:=x;exact⟨o,e⟩
 | set S n=>obtain⟨o,_,_,_,e,_⟩:=x;exact⟨o,e⟩
 | ins C dx fs=>obtain⟨_,_,_,e,_⟩:=x;exact⟨_,e⟩
 | own y=>obtain⟨o,e⟩:=x;exact⟨o,e⟩
 | xd fs=>obtain⟨_,⟨o,_,_,e,_⟩,_⟩:=x;exact⟨o,e⟩
 | xS lo hi=>obtain⟨_,_,_,e⟩:=x;exact⟨_,e⟩
 | sW ob u=>obtain⟨e,_⟩:=x;exact⟨ob,e⟩
 | Ms ps=>exact⟨_,x⟩
 | met f y=>exact⟨_,x⟩
 | ext φ=>obtain⟨_,e,_⟩:=x;exact e
def YJ (X:Cx) (pins:List (ac×Obj)) (σ:St) (e:li) (t:TE):Prop:=∀(s:ci) (H:Hp) (Q:VK),Inv X pins σ H s->t σ H Q->gc (ga X.prog X.w) X.A (jp e X.env) (EP X pins σ Q) X.xe s
def AG (CX:Bj) (X:Cx) (pins:List (ac×Obj)) (σ:St) (E:XK):Prop:=∀(H:Hp) (s:ci) (e:bv) (s':ci),Inv X pins σ H s->CX X.stack H s E e s'->X.xe e s'
section
variable {X:Cx} {CX:Bj} {k:Nat} {f C:ac} {fd:ce} {ps:List Str} {sp:Sp} {qT:List V} {ds:List bv} {E:XK} {x m:Str} {p pos apos:Pos} {e o:li} {es:List li} {ta:TE} {t:TA} {pins:List (ac×Obj)} {σ:St}
theorem MN (F:fX X.prog X.w X.K X.mg X.base CX k f fd ps sp) (hr:jc k X.A) (hb:Binds X.K fd ps ds) (hd:Vals qT ds) (hx:AG CX X pins σ E)
  (I:Inv X pins σ H s) (r:Vals vs us) (h:sp (vs++qT) H Q E):gc (ga X.prog X.w) X.A (call (.ref f) us) (EP X pins σ Q) X.xe s:=by
 have r2:Vals (vs++qT) (us++ds):=r.append hd;have hl:(us++ds).length=ps.length:=by rw [<-r2.length];exact F.len _ _ _ _ h
 refine Jas (Fa (F.run X.A X.stack s H ⟨us,[]⟩ (us++ds) (vs++qT) Q E hr I.UX (hb s us I.vp hl) r2 h) λ r s' hq=> ?_)
 cases r with
 | error e=>exact hx H s e s' I hq
 | ok fl=>
  cases fl with
  | ret u=>exact I.after hq
  | next=>exact False.elim hq
  | brk=>exact False.elim hq
  | cont=>exact False.elim hq
theorem KL (F:fX X.prog X.w X.K X.mg X.base CX k f fd ps sp) (hr:jc k X.A) (hm:X.mg x=some (.ref f)) (hk:bU X.K (.ref f)=true) (hb:Binds X.K fd ps ds) (hd:Vals qT ds) (hx:AG CX X pins σ E)
  (ha:PA X (e::es) t) (hg:Gl X x:=by rfl) (zQ:(x==("__debug__" : Str))=false:=by decide) (he:db (e::es) X.env=(false,jp e X.env)::db es X.env:=by rfl) (uu:(ul pos (db es X.env)).any (·.1)=false:=by rfl) :
  YJ X pins σ (.Call (.Name x p) (e::es) [] pos) (wO sp qT E t):=by
 intro s H Q I h;refine IR (rV I hg hm ?_ zQ);refine eB (h₀:=X.base) I.ok.mod.R0 hk (gZ (ha pos pins s σ H _ I h) λ us s1 ⟨vs,H1,I1,r,q⟩=>⟨I1.vp,?_⟩) he uu;exact MN F hr hb hd hx I1 r q
end
def Ë (X:Cx) (CX:Bj) (pins:List (ac×Obj)) (EX:St->XK):bv->ci->Prop:=λ e s'=>∃σ H s,Inv X pins σ H s/\CX X.stack H s (EX σ) e s'
abbrev YG:=Ends->(St->XK)->St->Hp->Prop
def RB (CX:Bj) (X:Cx) (st:pc) (t:YG):Prop:=∀(pins:List (ac×Obj)) (s:ci) (σ:St) (H:Hp) (D:Ends) (EX:St->XK),Inv X pins σ H s->t D EX σ H->gc (ga X.prog X.w) X.A (exec st X.env) (SP X pins D) (Ë X CX pins EX) s
def Î (CX:Bj) (X:Cx) (sts:List pc) (t:YG):Prop:=∀(pins:List (ac×Obj)) (s:ci) (σ:St) (H:Hp) (D:Ends) (EX:St->XK),Inv X pins σ H s->t D EX σ H->gc (ga X.prog X.w) X.A (execs sts X.env) (SP X pins D) (Ë X CX pins EX) s
section
variable {X:Cx} {CX:Bj} {st:pc} {rest:List pc} {t u:YG} {e:li} {pos:Pos} {te:XK->TE}
theorem Qg (h:RB CX X st t):Î CX X [st] t:=by
 intro pins s σ H D EX I hw;refine Jai (gZ (h pins s σ H D EX I hw) λ f s1 q=> ?_)
 cases f with
 | next=>exact Ix q
 | brk=>exact q
 | cont=>exact q
 | ret v=>exact q
def XE (CX:Bj) (X:Cx) (e:li) (te:XK->TE):Prop:=∀(xe:bv->ci->Prop) (pins:List (ac×Obj)) (σ:St) (E:XK),AG CX (X.sx xe) pins σ E->YJ (X.sx xe) pins σ e (te E)
theorem Sy (he:XE CX X e te) (I:Inv X pins σ H s) (h:te (EX σ) σ H Q):gc (ga X.prog X.w) X.A (jp e X.env) (EP X pins σ Q) (Ë X CX pins EX) s:=
 gZ (he (Ë X CX pins EX) pins σ (EX σ) (λ H1 s1 e1 s2 I1 hc=>⟨σ,H1,s1,I1.nG,hc⟩) s H Q (I.sx _) h) λ u s1 ⟨v,H1,I1,r,q⟩=>⟨v,H1,I1.nG,r,q⟩
theorem Qf (hN:X.N.Nodup) (hi:X.N[i]? = some x) (hx:Loc X.env.scope x) (he:XE CX X e te) (hs:ww e (some (.Name x pos')) pos.line X.env=pure false:=by rfl)
  (hf:X.fn x=true\/X.env.scope.names.lookup x=some .local:=by first|exact .inl rfl|exact .inr rfl|assumption):RB CX X (.Assign [.Name x pos'] e pos) (λ D EX σ H=>te (EX σ) σ H λ v H1=>D.nx (σ.set i (some v)) H1):=by
 intro pins s σ H D EX I h;refine wpAny_Assign_Name (gZ (Sy he I h) λ v s1 zq=> ?_) hs;obtain⟨y,H1,I1,r1,q1⟩:=zq;exact qx I1 hN hi hx r1 (λ s2 I2=>⟨_,H1,I2,q1⟩) hf
end
abbrev Cx.JH (X:Cx) (a:ac):Cx:= {X with A:=X.A.mark (some (.ref a)),calm:=false,xe:=λ _ _=>False}
section
variable {X:Cx} {pins:List (ac×Obj)} {σ:St} {H:Hp} {s:ci} {a:ac}
theorem Inv.JH (I:Inv X pins σ H s) (a:ac):Inv (X.JH a) pins σ H s:=
 ⟨⟨I.ok.mod,I.ok.kind,I.ok.glob,I.ok.blt,I.ok.above,I.ok.inj,I.ok.has,I.ok.VY,λ z=>(nomatch z),I.ok.frames,I.ok.Wc,I.ok.UP,I.ok.bs,I.ok.L6,I.ok.tY,I.ok.Ib,I.ok.wz,I.ok.Se⟩,I.os,I.bare,I.base,I.loc,I.cell,I.free,I.lA,I.pin,I.gG,I.len⟩
theorem Inv.RF (I:Inv (X.JH a) pins σ H s) (ok:X.Ok):Inv X pins σ H s:=⟨ok,I.os,I.bare,I.base,I.loc,I.cell,I.free,I.lA,I.pin,I.gG,I.len⟩
theorem Sx.NU (I:Inv X pins σ H1 s0) (F:Sx X.prog X.w X.stack H1 s0 H2 a C s1) (fl:bS B X.stack a (.ref C) a0 s1.heap) (gG:rC X.prog X.w H2 B)
  (kp:∀b o,s0.heap.get? b=some o->H1 b=none->b∉qS X.stack->B.get? b=some o) (th:∀b o,s0.heap.get? b=some o->b∉qS X.stack->∃o',B.get? b=some o')
  (Py:bS B X.stack a (.ref C) a0 h6) (up:s1.heap.UpToSlots h6) {φ:Heap->Prop} (p6:φ h6) (pst:∀h1 h2,φ h1->(∀o,h1.get? a=some o->h2.get? a=some o)->φ h2):H2 a=none/\Inv X pins σ (upd H2 a (.ext φ)) {s1 with heap:=h6}:=by
 have Α:B.get? a=none:=fl.2.1
 have Xo:H2 a=none:=by
  cases q:H2 a with
  | none=>rfl
  | some o=>
   obtain⟨ob,e⟩:=wZ (gG a o q);rw [Α] at e
   cases e
 have frn:∀b∈qS X.stack,b≠a:=λ b hb z=>by
  obtain⟨_,o,e,nf⟩:=Py.2.2.1.mem hb;obtain⟨oe,vs,_,_,_,e2,_,d,_⟩:=Py.2.2.2;rw [z,e2] at e
  cases e;exact nf vs d
 have old:∀b o,s0.heap.get? b=some o->b≠a:=λ b o e z=>by
  by_cases hb:b∈qS X.stack
  .exact frn b hb z
  .obtain⟨o',q⟩:=th b o e hb;rw [z,Α] at q
   cases q
 have Pd:∀b u,H2 b=some u->b≠a:=λ b u e z=>by
  rw [z,Xo] at e
  cases e
 refine⟨Xo,I.OR (ch:= []) F.os ⟨λ b o e n hb _=>Py.1 b o (kp b o e n hb),λ b o e n hb _=> ?_,λ b o e n _=> ?_,λ b o e _=> ?_,λ b xs e=> ?_,λ b o u e=> ?_,λ b ps e=> ?_⟩ (λ b u e=> ?_) F.bare λ b z=>absurd z (by simp)⟩
 .obtain⟨sl,q⟩:=F.slot b o e n hb;obtain⟨_,o2,q2,nf⟩:=fl.2.2.1.mem hb;rw [q] at q2
  cases q2;obtain⟨Y4,q3⟩:=up b _ q nf;exact⟨Y4,q3⟩
 .rw [fo (old b o e)];exact F.free b o e n
 .by_cases hb:b∈qS X.stack
  .obtain⟨_,o2,q2,_⟩:=Py.2.2.1.mem hb;exact⟨o2,q2⟩
  .obtain⟨o',q⟩:=th b o e hb;exact⟨o',Py.1 b o' q⟩
 .have q:=F.iM b xs e
  rwa [fo (Pd b _ q)]
 .have q:=F.oG b o u e
  rwa [fo (Pd b _ q)]
 .obtain⟨more,q⟩:=F.qr b ps e;exact⟨more,by rwa [fo (Pd b _ q)]⟩
 .by_cases hb:b=a
  .subst hb;rw [e_] at e
   cases e;obtain⟨oe,vs,_,_,_,e2,c,_⟩:=Py.2.2.2;exact⟨p6,⟨oe,e2⟩,pst⟩
  .rw [fo hb] at e;refine(gG b u e).sy (λ c w _ q=>Py.1 c w q) (λ c q=> ?_) λ c xs q=> ?_
   .rwa [fo (Pd c _ q)]
   .rwa [fo (Pd c _ q)]
theorem Sx.lands (I:Inv X pins σ H1 s0) (F:Sx X.prog X.w X.stack H1 s0 H2 a C s1) (fl:bS B X.stack a (.ref C) a0 s1.heap) (gG:rC X.prog X.w H2 B)
  (kp:∀b o,s0.heap.get? b=some o->H1 b=none->b∉qS X.stack->B.get? b=some o) (th:∀b o,s0.heap.get? b=some o->b∉qS X.stack->∃o',B.get? b=some o')
  (Py:bS B X.stack a (.ref C) a0 h6) (up:s1.heap.UpToSlots h6):H2 a=none/\Inv X pins σ (upd H2 a (Xm a C)) {s1 with heap:=h6}:=by
 refine Sx.NU I F fl gG kp th Py up ?_ λ h1 h2 ⟨oe,e1,e2⟩ k=>⟨oe,k oe e1,e2⟩
 obtain⟨oe,vs,_,_,_,e2,c,_⟩:=Py.2.2.2;exact⟨oe,e2,c.1⟩
end
section
variable {P:im} {w:io} {K:ai} {mg:Str->Option bv} {base:Heap}
theorem Pb.Hk {x qual:Str} {st:pc} {f:ac} {fd:ce} {N ps:List Str} {k:Nat} {sp:Sp} (F:Pb K x qual st f fd) (S:fI N ps (fC st)) (zR:∀(iw:bv) (A:pi) (outer:List Env) (s:ci) (H:Hp) (vs:List V) (Q:VK) (E:XK),jc k (A.deeper (Ev qual (fC st) s.heap.objs.size f iw))->sp vs H Q E->
   ∃t,wK (Ag (ij P w) P w K mg base N qual (fC st) f iw A outer s H E) (ky st) t/\t {nx:=λ _ H'=>Q .i6 H',rt:=Q} (start N vs) H) (len:∀vs H Q E,sp vs H Q E->vs.length=ps.length:=by rintro _ _ _ _ ⟨⟩;subst_vars;rfl):fX P w K mg base (ij P w) (k+1) f fd ps sp:=by
 obtain⟨oc,od,kV,doc,pm,an,iw,ct,RT,rfl,lk,HS⟩:=F.ex;exact Sg lk HS S len λ A outer s H vs Q E hr L1=>zR iw A outer s H vs Q E hr L1
theorem Pb.okN {x qual:Str} {st:pc} {f:ac} {fd:ce} {N ps:List Str} {k:Nat} {sp:Sp} (F:Pb K x qual st f fd) (S:fI N ps (fC st)) (zR:∀(iw:bv) (A:pi) (outer:List Env) (s:ci) (H:Hp) (vs:List V) (Q:VK) (E:XK),jc k (A.deeper (Ev qual (fC st) s.heap.objs.size f iw))->sp vs H Q E->
   ∃t,wK (Ag (ij P w) P w K mg base N qual (fC st) f iw A outer s H E).ZI (ky st) t/\t {nx:=λ _ H'=>Q .i6 H',rt:=Q} (start N vs) H) (len:∀vs H Q E,sp vs H Q E->vs.length=ps.length:=by rintro _ _ _ _ ⟨⟩;subst_vars;rfl):fX P w K mg base (ij P w) (k+1) f fd ps sp:=
 F.Hk S (len:=len) λ iw A outer s H vs Q E hr L1=>by
  obtain⟨t,h,q⟩:=zR iw A outer s H vs Q E hr L1;exact⟨t,h.ZI,q⟩
end
section
variable {X:Cx}
theorem Tq {P:im} {w:io} {k:Nat} {f:ac} {fd:ce} {ps:List Str} {sp:Sp} {E:XK} {x:Str} {st:pc} {p pos:Pos} {e:li} {es:List li} {t:TA} (D:gD X.K X.mg x st ps f fd) (F:fX X.prog X.w X.K X.mg X.base (ij P w) k f fd ps sp) (hr:jc k X.A)
  (hx:Passes (ij P w) X E) (ha:PA X (e::es) t) (hg:Gl X x:=by rfl) (zQ:(x==("__debug__" : Str))=false:=by decide) (he:db (e::es) X.env=(false,jp e X.env)::db es X.env:=by rfl) (uu:(ul pos (db es X.env)).any (·.1)=false:=by rfl) :
  PE X (.Call (.Name x p) (e::es) [] pos) (wO sp [] E t):=Qy F hr hg D.g D.fn.kp D.b .nil hx ha zQ he uu
end
theorem V7 {X:Cx} {P:im} {w:io} {k:Nat} {f:ac} {fd:ce} {ps:List Str} {sp:Sp} {x:Str} {st:pc} {p pos:Pos} {e:li} {es:List li} {t:TA} (D:gD X.K X.mg x st ps f fd) (F:fX X.prog X.w X.K X.mg X.base (ij P w) k f fd ps sp) (hr:jc k X.A)
  (ha:∀xe,PA (X.sx xe) (e::es) t) (hg:Gl X x:=by rfl) (zQ:(x==("__debug__" : Str))=false:=by decide) (he:db (e::es) X.env=(false,jp e X.env)::db es X.env:=by rfl) (uu:(ul pos (db es X.env)).any (·.1)=false:=by rfl) :
  XE (ij P w) X (.Call (.Name x p) (e::es) [] pos) (λ E=>wO sp [] E t):=
 λ xe pins σ E hx=>KL (X:=X.sx xe) F hr D.g D.fn.kp D.b .nil hx (ha xe) hg zQ he uu
end L2
namespace L2
open PySem PySem.Spec PyProof.Rows PySem.W
abbrev Sz (K:Frag) (S:ac) (cs:List ac) (C:ac):=
 ((excIn K C YT "ValueError.__new__",findIn K (.ref C) "__getattribute__",findIn K (.ref C) "__getattr__",findIn K (.ref C) "__class__"),
  ((clsIn K C).isSome,specialIn K (.builtin "object.__class__") "__get__",takesIn K (.builtin "object.__class__"),mroIn K C (.type "object")),
  (mroIn K C (.type "BaseException"),JaL K (.ref C) (.ref S),kitOne K (.ref C) (.type "ValueError"),cs.map λ D=>kitOne K (.ref C) (.ref D)))
abbrev Mb (cs:List ac) (C:ac):(Bool×Option (Option bv)×Option (Option bv)×Option (Option bv))×(Bool×Option (Option bv)×Option Bool×Option Bool)×(Option Bool×Option Bool×Option Bool×List (Option Bool)):=
 ((true,some (some (.builtin "BaseException.__getattribute__")),some none,some (some (.builtin "object.__class__"))),
  (true,some (some (.builtin "getset_descriptor.__get__")),some true,some true),
  (some true,some true,some true,cs.map λ D=>some (decide ((C:Nat)=D))))
structure Iy (K:Frag) (S:ac) (cs:List ac):Prop where
 rows:cs.map (Sz K S cs)=cs.map (Mb cs)
 nd:decide (@List.Nodup Nat cs)=true
section
variable {K:Frag} {S:ac} {cs:List ac} {C D:ac}
theorem Iy.row (T:Iy K S cs) (h:C∈cs):Sz K S cs C=Mb cs C:=(eK.mp T.rows) C h
theorem Iy.exc (T:Iy K S cs) (h:C∈cs):excIn K C YT "ValueError.__new__" = true:=by
 have e:=T.row h;simp only [Prod.mk.injEq] at e;exact e.1.1
theorem Iy.cls (T:Iy K S cs) (h:C∈cs) (g:mg x=some (.ref C)):x_ K mg x C:=⟨g,T.exc h⟩
end
section
variable {X:Cx} {S:ac} {cs:List ac}
end
section
variable {X:Cx} {CX:Bj} {e:li} {es:List li} {t:TE}
end
structure iC (K:ai) (C:ac) (m qual:Str) (st:pc) (ps:List Str) (f:ac) (fd:ce):Prop where
 at_:Meth K C m f
 fn:Pb K m qual st f fd
 b:Binds K fd ps []
section
variable {X:Cx} {P:im} {w:io} {k:Nat} {f C:ac} {fd:ce} {ps:List Str} {sp:Sp} {E:XK} {m qual:Str} {st:pc} {apos pos:Pos} {e o:li} {es:List li} {ta:TE} {t:TA}
theorem Ww (he:PE X o ta) (c:Ew X.K C) (D:iC X.K C m qual st ps f fd) (F:fX X.prog X.w X.K X.mg X.base (ij P w) k f fd ps sp) (hr:jc k X.A) (hx:Passes (ij P w) X E) (ha:PA X (e::es) t)
  (nQ:db (e::es) X.env=(false,jp e X.env)::db es X.env:=by rfl) (uu:(ul pos (db es X.env)).any (·.1)=false:=by rfl)
  (ht:jp (.Call (.Attribute o m apos) (e::es) [] pos) X.env=(do
   let ov <-jp o X.env
   IN apos.atName
   let (f,first) <-xz [ov] (NE ov m pl)
   Yu pos f first (ul pos (db (e::es) X.env)) (EQ pos (wv [] X.env))):=by rfl) :
  PE X (.Call (.Attribute o m apos) (e::es) [] pos) (sI C m sp [] E ta t):=Jm he c D.at_ F hr D.b .nil hx ha nQ uu ht
theorem Tn (he:PE X o ta) (c:Ew X.K C) (D:iC X.K C m qual st ps f fd) (F:fX X.prog X.w X.K X.mg X.base (ij P w) k f fd ps sp) (hr:jc k X.A) (hx:Passes (ij P w) X E)
  (ht:jp (.Call (.Attribute o m apos) [] [] pos) X.env=(do
   let ov <-jp o X.env
   IN apos.atName
   let (f,first) <-xz [ov] (NE ov m pl)
   Yu pos f first (ul pos (db [] X.env)) (EQ pos (wv [] X.env))):=by rfl) :
  PE X (.Call (.Attribute o m apos) [] [] pos) (sI C m sp [] E ta AX):=M' he c D.at_ F hr D.b .nil hx ht
end
end L2
namespace L2
open PySem PySem.Spec PyProof.Rows
theorem pN {α:Type} {xs:List α} {i:Int} (h0:0<=i) (h1:i<xs.length):∃v,vq xs i=some v/\xs[i.toNat]? = some v:=by
 obtain⟨j,rfl⟩:=cJ h0;have hj:j<xs.length:=by exact Yv h1
 exact⟨xs[j],nB (by simp [hj]),by simp [hj]⟩
theorem P' {K:ai} {H:Hp} {p:ac} {xs:List V} {i:Int} {Q:VK} (h0:0<=i) (h1:i<xs.length) (k:∀v∈xs,Q v (upd H p (.lst xs))):MX K (.ref p) (.int i) (upd H p (.lst xs)) Q:=by
 obtain⟨v,e,e2⟩:=pN h0 h1;exact⟨p,xs,i,v,rfl,rfl,gg.of e_,e,k v (aq e2)⟩
theorem Jh {H:Hp} {l:List Nat} {i:Int} {Q:VK} (hz:l.length<=dL) (h0:0<=i) (h1:i<l.length) (k:∀c,l[i.toNat]? = some c->Q (.str (tx [c])) H):S0 (.str (tx l)) (.int i) H Q:=by
 obtain⟨v,e,e2⟩:=pN h0 h1;exact⟨_,i,v,rfl,rfl,by rwa [yA],by rwa [rM],k v e2⟩
theorem f_ {n:Nat} (h:n<=100000):n<=dL:=bj h (by rw [No];decide)
end L2
namespace L2
open PySem PySem.Spec PyProof.Rows PySem.P
section
variable {X:Cx}
theorem Aj:∀{xs:List V} {us:List bv},Vals xs us->xs.all kx=true->us.countP (BX x)=xs.countP λ y=>xl y x
 | _,_,.nil,_=>rfl
 | y::xs,u::us,.cons r t,f=>by
  rw [cZ,bc] at f;rw [eS,eS,Aj t f.2,DW r f.1]
def G2:V->List V->Hp->VK->Prop:=λ x vs H Q=>∃l xs y,x = .ref l/\vs = [y]/\H l=some (.lst xs)/\kx y=true/\xs.all kx=true/\Q (.int ((xs.countP λ z=>xl z y:Nat):Int)) H
theorem NG:Vm X "list.count" G2:=by
 intro pins s σ H x vs v us Q I rx rv h;obtain⟨l,xs,y,rfl,rfl,hH,fy,fx,q⟩:=h
 cases rx;obtain⟨u,rfl,ru⟩:=rv.one;obtain⟨z,its,n,r,hl,e⟩:=I.zy hH;refine UV F.slot_list_count ⟨_,e,rfl⟩ F.entry_list_count (F.args_list_count_2 _ _) (SeqAt.list_countAt l its.toArray n none #[] u (BX y)) ⟨e,λ w hw=>mG ru fy r fx w (by simpa using hw),?_⟩;refine⟨.int _,H,I.tok _,⟨_,rfl⟩,?_⟩
 rwa [show its.toArray.toList=its by simp,Aj r fx]
theorem uV:∀{xs:List V} {us:List bv} {m:Nat} (hm:m<us.length),Vals xs us->xs.all kx=true->∃y,xs[m]? = some y/\BX x us[m]=xl y x
 | [],[],_,hm,_,_=>absurd hm (Nat.not_lt_zero _)
 | y::xs,u::us,0,hm,.cons r t,f=>by
  rw [cZ,bc] at f;exact⟨y,rfl,DW r f.1⟩
 | y::xs,u::us,m+1,hm,.cons r t,f=>by
  rw [cZ,bc] at f;exact uV (xs:=xs) (us:=us) (m:=m) (Nat.lt_of_succ_lt_succ hm) t f.2
def G0:V->List V->Hp->VK->Prop:=λ x vs H Q=>∃(l:ac) (xs:List V) (y:V) (j:Nat) (z:V),x = .ref l/\vs = [y]/\H l=some (.lst xs)/\kx y=true/\xs.all kx=true/\xs[j]? = some z/\xl z y=true/\(∀(m:Nat) (z':V),m<j->xs[m]? = some z'->xl z' y=false)/\Q (.int (j:Int)) H
theorem uN:Vm X "list.index" G0:=by
 intro pins s σ H x vs v us Q I rx rv h;obtain⟨l,xs,y,j,z',rfl,rfl,hH,fy,fx,hj,hit,Ě,q⟩:=h
 cases rx;obtain⟨u,rfl,ru⟩:=rv.one;obtain⟨z,its,n,r,hl,e⟩:=I.zy hH;have QS:j<its.length:=by rw [<-hl];exact(ag.mp hj).1
 have big:(dL:Int)<2 ^ 63-1:=by rw [No];decide
 refine UV F.slot_list_index ⟨_,e,rfl⟩ F.entry_list_index (F.args_list_index_2 _ _) (SeqAt.list_indexAt l its.toArray n none #[] u (BX y) j (by simpa using QS) (by lia) ?_ ?_) ⟨e,λ w hw=>mG ru fy r fx w (by simpa using hw),?_⟩
 .obtain⟨y',e1,e2⟩:=uV (x:=y) QS r fx;rw [hj] at e1
  cases e1
  simpa using e2.trans hit
 .intro m hm Xr;have VQ:m<its.length:=by simpa using hm
  obtain⟨y',e1,e2⟩:=uV (x:=y) VQ r fx
  simpa using e2.trans (Ě m y' Xr e1)
 .exact⟨.int _,H,I.tok _,⟨_,rfl⟩,q⟩
def Dn:V->List V->Hp->VK->Prop:=λ x vs H Q=>∃(l:ac) (ns:List (List Nat)) (a:List Nat),x = .ref l/\vs = [.str (tx a)]/\H l=some (.lst (ns.map λ z=>.str (tx z)))/\a∈ns/\Q .i6 (upd H l (.lst ((ns.erase a).map λ z=>.str (tx z))))
theorem BW:∀(ns:List (List Nat)) (a:List Nat),a∈ns->∃j,ns[j]? = some a/\(∀(m:Nat) (b:List Nat),m<j->ns[m]? = some b->b≠a)/\ns.erase a=ns.eraseIdx j
 | [],a,h=>nomatch h
 | b::r,a,h=>by
  by_cases e:b=a
  .subst e;exact⟨0,rfl,λ m c hm=>absurd hm (Nat.not_lt_zero _),by simp⟩
  .have hm:a∈r:=(av.mp h).resolve_left λ z=>e z.symm;obtain⟨j,h1,h2,h3⟩:=BW r a hm;refine⟨j+1,h1,λ m c Xr hc=> ?_,?_⟩
   .cases m with
    | zero=>
     cases hc;exact e
    | succ m=>exact h2 m c (Nat.lt_of_succ_lt_succ Xr) hc
   .rw [List.erase_cons_tail (by simpa using e),cu,h3]
theorem uP {α β:Type} (f:α->β):∀(l:List α) (j:Nat),(l.eraseIdx j).map f=(l.map f).eraseIdx j
 | [],_=>rfl
 | _::_,0=>rfl
 | a::r,j+1=>by
  rw [cu,aB,aB,cu,uP f r j]
theorem K2:Vm X "list.remove" Dn:=by
 intro pins s σ H x vs v us Q I rx rv h;obtain⟨l,ns,a,rfl,rfl,hH,ha,q⟩:=h
 cases rx;obtain⟨u,rfl,t,rfl⟩:=rv.one;obtain⟨z,its,n,r,hl,e⟩:=I.zy hH;obtain⟨j,h1,h2,h3⟩:=BW ns a ha
 have QS:j<its.length:=by
  rw [<-hl,ae];exact(ag.mp h1).1
 have fx:(ns.map λ z=>V.str (tx z)).all kx=true:=by
  rw [cB];intro v hv;obtain⟨b,_,rfl⟩:=aC.mp hv;rfl
 have isS:∀y,y∈its.toArray->∃x' t',y=Value.str x' t':=λ y hy=>by
  have VO:y∈its:=by simpa using hy
  obtain⟨i,hi,ei⟩:=List.mem_iff_getElem.mp VO
  have DQ:i<ns.length:=by
   have:=hl;rw [ae] at this;exact Za hi (Zg this)
  obtain⟨u',e1,t',e2⟩:=r.get (i:=i) (x:=.str (tx ns[i])) (by rw [ak,bq DQ];rfl);rw [bq hi,ei] at e1
  cases e1;exact⟨_,_,e2⟩
 refine UV F.slot_list_remove ⟨_,e,rfl⟩ F.entry_list_remove (F.args_list_remove_2 _ _) (MeetsSeq.list_remove l its.toArray n (.str (tx a) t) (BX (.str (tx a))) (λ y hy=> ?_) j (by simpa using QS) ?_ ?_ (by rw [aM];exact Zc (Zg hl) z)) ⟨e,?_⟩
 .obtain⟨x',t',rfl⟩:=isS y hy;have g:=SeqRoads2.EqGives.str x' (tx a) t' t;rw [SeqAt.str_beq] at g;exact g
 .obtain⟨y',e1,e2⟩:=uV (x:=.str (tx a)) QS r fx;rw [ak,h1] at e1
  cases e1
  simpa [xl] using e2
 .intro m hm Xr;have VQ:m<its.length:=by simpa using hm
  obtain⟨y',e1,e2⟩:=uV (x:=.str (tx a)) VQ r fx;rw [ak] at e1
  cases hb:ns[m]? with
  | none=>rw [hb] at e1;cases e1
  | some b=>
   rw [hb] at e1
   cases e1;have:=h2 m b Xr hb
   have e3:xl (.str (tx b)) (.str (tx a))=false:=by
    show (tx b==tx a)=false;rw [beq_eq_false_iff_ne];exact λ z=>this (iA.mp z)
   simpa using e2.trans e3
 .refine⟨.i6,_,I.NN (its':=its.eraseIdx j) hH e ?_ (ys:=(ns.erase a).map λ z=>.str (tx z)) ?_ ?_,rfl,q⟩
  .show its.toArray.eraseIdxIfInBounds j=_;rw [eM]
  .rw [h3,show (ns.eraseIdx j).map (λ z=>V.str (tx z))=(ns.map λ z=>V.str (tx z)).eraseIdx j from uP _ ns j];exact r.eraseIdx j
  .have:=List.length_erase_le (a:=a) (l:=ns);rw [ae] at z⊢;exact Zc this z
end
def NF (X:Cx) (a:ac):Prop:=∀o u,X.jR a≠some (.sW o u)
section
variable {X:Cx} {pins:List (ac×Obj)} {σ:St} {H:Hp} {s:ci} {a:ac} {o o':HO}
theorem Inv.RN (I:Inv X pins σ H s) (e:H a=some o) (h1:∀xs,o≠.tup xs) (h2:∀y,o≠.own y) (h3:∀ps,o≠.Ms ps) (h4:NF X a) (new:iz X.prog X.w (upd H a o') s.heap a o'):Inv X pins σ (upd H a o') s:=by
 have nn:∀b,H b=none->b≠a:=λ b z w=>by rw [w,e] at z;cases z
 have un:∀b,H b=none->upd H a o' b=none:=λ b z=>by rwa [fo (nn b z)]
 refine⟨I.ok,I.os,I.bare,⟨I.base.keep,I.base.slot,λ b ob q n hx=>un b (I.base.free b ob q n hx),I.base.there,λ b xs q=> ?_,λ b ob u q=> ?_,λ b ps q=> ?_⟩,I.loc,I.cell,un _ I.free,λ x c q=>un _ (I.lA x c q),λ p hp=> ?_,λ b u q=> ?_,I.len⟩
 .have z:=I.base.iM b xs q;rw [fo (λ w=>by rw [w,e] at z;exact h1 xs (Option.some.inj z))];exact z
 .have hb:b≠a:=λ w=>h4 ob u (by rwa [<-w]);rw [fo hb];exact I.base.oG b ob u q
 .obtain⟨more,z⟩:=I.base.qr b ps q;exact⟨more,by rw [fo (λ w=>by rw [w,e] at z;exact h3 _ (Option.some.inj z))];exact z⟩
 .obtain⟨p1,p2,p3⟩:=I.pin p hp;exact⟨p1,un _ p2,p3⟩
 .by_cases hb:b=a
  .subst hb;rw [e_] at q
   cases q;exact new
  .rw [fo hb] at q;refine(I.gG b u q).sy (λ _ _ _ z=>z) (λ c z=> ?_) λ c xs z=> ?_
   .rw [fo (λ w=>by rw [w,e] at z;exact h2 b (Option.some.inj z))];exact z
   .rw [fo (λ w=>by rw [w,e] at z;exact h1 xs (Option.some.inj z))];exact z
theorem Fm (x:iz P w H h a (.dK kvs)):iz P w H' h a (.dK kvs):=x
theorem Inv.freeze (I:Inv X pins σ H s) (e:H a=some (.dK kvs)):∃ob,s.heap.get? a=some ob/\NF X a/\Inv X pins σ (upd H a (.sW ob (.dK kvs))) s:=by
 obtain⟨ob,ho⟩:=wZ (I.gG a _ e)
 have nf:NF X a:=λ o u z=>by
  have:=I.base.oG a o u z;rw [e] at this
  cases this
 exact⟨ob,ho,nf,I.RN e (λ _ z=>nomatch z) (λ _ z=>nomatch z) (λ _ z=>nomatch z) nf ⟨ho,Fm (I.gG a _ e)⟩⟩
theorem Inv.EI (I:Inv X pins σ H s) (e:H a=some (.sW ob (.dK kvs))) (nf:NF X a):Inv X pins σ (upd H a (.dK kvs)) s:=
 I.RN e (λ _ z=>nomatch z) (λ _ z=>nomatch z) (λ _ z=>nomatch z) nf (Fm (I.gG a _ e).2)
def O3 (X:Cx) (P:Hp->Prop) (H:Hp):Prop:=∃a ob kvs,NF X a/\H a=some (.sW ob (.dK kvs))/\P (upd H a (.dK kvs))
end
theorem yn (h:(gL P w).is k v=true):RelV (kV k) v:=by
 rcases iF (show zH k v=true from h) with ⟨i,t,rfl,rfl⟩ | ⟨x,t,rfl,rfl⟩
 .exact⟨t,rfl⟩
 .exact⟨t,rfl⟩
def Ð (d:ac) (ob:Obj) (kvs:List (Key×V)):It:=
 ⟨λ i H=>i<kvs.length/\H d=some (.sW ob (.dK kvs)),λ i H x H'=>H'=H/\(kvs.map λ kv=>kV kv.1)[i]? = some x,λ i H=>i=kvs.length/\H d=some (.sW ob (.dK kvs))⟩
theorem uc (I:Inv X pins σ H s) (e:H d=some (.sW ob (.dK kvs))) (he:ob.data = .dict es ep) :
  (d==wP)=false/\kvs.length<=dL/\∃vs,KV kvs vs/\s.heap.DictAt (gL X.prog X.w) d vs ep:=by
 obtain⟨ho,z,y,vs,r,o2,US,ep2,e2,c1,c2,c3⟩:=I.gG d _ e;rw [ho] at e2
 cases e2;rw [he] at c2
 cases c2;exact⟨y,z,vs,r,ob,es,ho,c1,he,c3⟩
theorem Kg {P:im} {w:io} {K:ai} {y:Str} {py:Pos} (d it:ac) (ob:Obj) (kvs:List (Key×V)) {es:Array DictEntry} {ep:Nat} (he:ob.data = .dict es ep) :
  Turn P w K (.Name y py) (Ð d ob kvs) [it] it (λ i h=>h.IsKeyIter it d i kvs.length ep) where
 mem:=by simp
 obj:=λ i h st b hb=>by
  have e:b=it:=by simpa using hb
  subst e;obtain⟨o,e,c,d⟩:=st;exact⟨o,e,λ v z=>by rw [d] at z;cases z⟩
 keep:=λ i h h' st k=>st.at λ o e=>k it (by simp) o e
 item:=by
  intro X hP hw hK hc i pins s σ H E I hf st hg;subst hP hw hK;obtain⟨hi,hd⟩:=hg;obtain⟨_,_,vs,r,da⟩:=uc I hd he;have hl:kvs.length=vs.length:=r.length;have hiv:i<vs.length:=by exact Za hi (Ze hl)
  obtain⟨⟨k,x⟩,hx⟩:∃p,vs[i]? = some p:=⟨vs[i],by simp [hiv]⟩
  have Uz:(kvs.map λ kv=>kV kv.1)[i]? = some (kV k):=by
   have e1:(kvs.map (·.1))[i]? = some k:=by
    rw [r.keys,ak,hx];rfl
   rw [ak] at e1⊢
   cases q:kvs[i]? with
   | none=>rw [q] at e1;cases e1
   | some p=>
    rw [q] at e1;have:p.1=k:=Option.some.inj e1;rw [<-this];rfl
  rw [hl] at st;obtain⟨f0,f1,f2,f3,f4,f5⟩:=hf it (by simp);refine wpAny_pyNext_dict_item st da hx λ key h' hk Ey sb=> ?_;have I1:Inv X pins σ H {s with heap:=h'}:=I.turned (t':=s.toks) (λ b o hb e=>(sb.2 b hb).trans e) f0 f1 f3 f4 f5;rw [<-hl] at Ey;exact⟨key,rfl,cr ⟨kV k,H,I1,yn hk,⟨rfl,Uz⟩,Ey,λ b hb=>(hf b hb).1⟩⟩
 done:=by
  intro X hP hw hK hc i pins s σ H E I hf st hg;subst hP hw hK;obtain⟨hi,hd⟩:=hg;obtain⟨_,_,vs,r,da⟩:=uc I hd he;have hl:kvs.length=vs.length:=r.length;rw [hl] at st;obtain⟨f0,f1,f2,f3,f4,f5⟩:=hf it (by simp);exact wpAny_pyNext_dict_end (I.ok.hd hc) st da (by rw [List.getElem?_eq_none_iff];exact Zc (Zg hl) (Zg hi)) λ h' eb=>⟨rfl,I.turned (t':=s.toks) (λ b o hb e=>eb b o hb e) f0 f1 f3 f4 f5⟩
 self:=λ _ _ _ _ _ st h=>wpAny_pyIter_keyiter st h
section
variable {X:Cx} {y:Str} {py:Pos}
def N6 (X:Cx) (te:TE):TI:=λ σ H R=>te σ H λ x H1=>∃a kvs,x = .ref a/\H1 a=some (.dK kvs)/\∀ob,NF X a->R (Ð a ob kvs) (upd H1 a (.sW ob (.dK kvs)))
theorem Dq {e:li} {te:TE} (h:PE X e te):PI X (.Name y py) e (N6 X te):=by
 intro pins s σ H R I hw;refine gZ (h pins s σ H _ I hw) λ v s1 zq=> ?_;obtain⟨x,H1,I1,r1,a,kvs,ex,ha,q⟩:=zq;subst ex
 cases (show v=Value.ref a from r1);obtain⟨ob,ho,nf,I2⟩:=I1.freeze ha;obtain⟨_,_,_,_,o2,es,ep,e2,_,c2,_⟩:=I1.gG a _ ha;rw [ho] at e2
 cases e2;obtain⟨Ui,hz,vs,r,da⟩:=uc I2 e_ c2;refine wpAny_pyIter_dict Ui da ?_;refine⟨s1.heap.objs.size,[s1.heap.objs.size],_,Ð a ob kvs,_,rfl,I2.kept (t':=s1.toks) λ b o e=>ah _ e,Kg a s1.heap.objs.size ob kvs c2,⟨_,aK _ rfl,rfl,by rw [show kvs.length=vs.length from r.length];rfl⟩,λ b hb=> ?_,q ob nf⟩;obtain rfl:b=s1.heap.objs.size:=by simpa using hb
 exact I2.Ba (az _) (I2.gG.fresh (az _))
def CV (X:Cx) (D:Ends):Ends:=⟨λ σ H=>O3 X (D.nx σ) H,λ v H=>O3 X (D.rt v) H,λ σ H=>O3 X (D.bk σ) H,λ σ H=>O3 X (D.ct σ) H⟩
def Mv (X:Cx) (te:TE) (g:TG) (tb:TS):TS:=λ D σ H=>SJ (N6 X te) g tb (CV X D) σ H
theorem SP.EI (h:SP X pins (CV X D) f s):SP X pins D f s:=by
 cases f with
 | next=>obtain⟨σ,H,I,a,ob,kvs,nf,e,q⟩:=h;exact⟨σ,_,I.EI e nf,q⟩
 | brk=>obtain⟨σ,H,I,a,ob,kvs,nf,e,q⟩:=h;exact⟨σ,_,I.EI e nf,q⟩
 | cont=>obtain⟨σ,H,I,a,ob,kvs,nf,e,q⟩:=h;exact⟨σ,_,I.EI e nf,q⟩
 | ret u=>obtain⟨v,σ,H,I,r,a,ob,kvs,nf,e,q⟩:=h;exact⟨v,σ,_,I.EI e nf,r,q⟩
theorem Qk (hp:ZC (ga X.prog X.w) X.A X.env X.xe) (hc:X.calm=true) (hi:PE X iter te) (hg:PG X (.Name y py) g) (hb:wK X body tb)
  (hs:∀x,nw iter X.env x=pure x:=by intro _;rfl):PS X (.For (.Name y py) iter body [] pos) (Mv X te g tb):=λ pins s σ H D I h=>
 gZ (M6 hp hc (Dq hi) hg hb hs pins s σ H (CV X D) I h) λ f s' q=>q.EI
def vy (X:Cx) (te:TE) (fr:List Nat) (tt:TT) (Km:TE):TE:=λ σ H Q=>sJ (N6 X te) fr tt Km σ H λ v H2=>O3 X (Q v) H2
section
variable {elt iter:li} {ifs:List li} {scope:FS} {pos:Pos} {N:List Str} {fr:List Nat} {tt:TT} {te Km:TE}
theorem Nq (hc:X.calm=true) (S:qp scope X.env.scope y N X.N fr) (hi:PE X iter te) (ht:∀cl C iY jR ex,EB (X.xB scope cl C N iY jR ex) ifs tt) (he:∀cl C iY jR ex,PE (X.xB scope cl C N iY jR ex) elt Km)
  (hs:∀v,nw iter X.env v=pure v:=by intro _;rfl):PE X (.ListComp elt [⟨.Name y py,iter,ifs,0⟩] scope pos) (vy X te fr tt Km):=λ pins s σ H Q I h=>
 gZ (Jn hc S (Dq hi) ht he hs pins s σ H _ I h) λ u s' ⟨v,H2,I2,r,a,ob,kvs,nf,e,q⟩=>⟨v,_,I2.EI e nf,r,q⟩
end
theorem mL (hc:X.calm=true):kL X (.type "list") (λ xs H Q=>∃d kvs,xs = [.ref d]/\Rd H d (.dK kvs)/\∀l,H l=none->Q (.ref l) (upd H l (.lst (kvs.map λ kv=>kV kv.1)))):=by
 intro pins s σ H xs us Q I r h;obtain⟨d,kvs,rfl,hd,q⟩:=h;obtain⟨u,rfl,ru⟩:=r.one
 cases ru;obtain⟨hz,Ui,vs,rel,dd⟩:=p8 I.gG hd;obtain⟨ep,da⟩:=dd.dictAt;have hl:kvs.length=vs.length:=rel.length;refine PySem.W.kdl_call (PySem.W.kdl_dict Ui) (I.ok.hd hc) da (Zc (Zg hl) hz) λ h' tk Rz c' kp e A'=> ?_
 have JE:Vals (kvs.map λ kv=>kV kv.1) Rz.toList:=by
  have hlen:Rz.toList.length=kvs.length:=by rw [bB,A'.1,hl]
  have key:∀(ks:List Key) (us:List bv),ks.length=us.length->(∀(j:Nat) (k:Key) (v:bv),ks[j]? = some k->us[j]? = some v->(gL X.prog X.w).is k v=true)->Vals (ks.map kV) us:=by
   intro ks
   induction ks with
   | nil=>
    intro us e _
    cases us with
    | nil=>exact .nil
    | cons _ _=>cases e
   | cons k ks ih=>
    intro us e h
    cases us with
    | nil=>cases e
    | cons u us=>exact .cons (yn (h 0 k u rfl rfl)) (ih us (by simpa using e) λ j k' v e1 e2=>h (j+1) k' v e1 e2)
  have:=key (kvs.map (·.1)) Rz.toList (by rw [ae,hlen]) λ j k v e1 e2=>by
   obtain⟨k',x,e3,e4⟩:=A'.2 j v (by rwa [<-bh]);rw [rel.keys,ak,e3] at e1
   cases e1;exact e4
  rw [aR] at this;exact this
 exact⟨.ref s.heap.objs.size,_,I.laid (t':=tk) kp (az _) (show iz X.prog X.w _ h' _ (.lst _) from ⟨by rwa [ae],Rz.toList,c',JE,by simpa using e⟩),rfl,q _ (I.gG.fresh (az _))⟩
end
theorem Cm (Xe:∀R:VK,R (.ref d) H->te σ H R) (hd:H d=some (.dK kvs)) (hz:kvs.length<=dL) (p:Key->Bool) (f:Key->V)
  (ht:∀k H2 Q2,k∈kvs.map (·.1)->(∀b u,b≠d->H b=some u->H2 b=some u)->Rd H2 d (.dK kvs)->(∀H3,fw H2 H3->Q2 (p k) H3)->tt (kN (kV k) fr σ) H2 Q2)
  (he:∀k H2 Q2,k∈kvs.map (·.1)->p k=true->(∀b u,b≠d->H b=some u->H2 b=some u)->Rd H2 d (.dK kvs)->(∀H3,fw H2 H3->Q2 (f k) H3)->Km (kN (kV k) fr σ) H2 Q2)
  (hQ:∀D H2,H D=none->fw H H2->H2 D=some (.lst (((kvs.map (·.1)).filter p).map f))->Q (.ref D) H2):vy X te fr tt Km σ H Q:=by
 refine Xe _ ⟨d,kvs,rfl,hd,λ ob nf=> ?_⟩
 have T:Tells (Ð d ob kvs) (upd H d (.sW ob (.dK kvs))) ((kvs.map (·.1)).map kV):=by
  have hl:((kvs.map (·.1)).map kV).length=kvs.length:=by simp
  refine⟨λ i H2 hi s2=>⟨by rwa [<-hl],s2 _ _ e_⟩,λ H2 s2=>⟨hl,s2 _ _ e_⟩,λ i H2 x H3 s2 hi y=>⟨y.1,?_⟩⟩;have e:=y.2
  rwa [aR]
 have off:∀H2,fw (upd H d (.sW ob (.dK kvs))) H2->(∀b u,b≠d->H b=some u->H2 b=some u)/\Rd H2 d (.dK kvs):=λ H2 s2=>
  ⟨λ b u hb e=>s2 b u (by rwa [fo hb]),.inr ⟨ob,s2 _ _ e_⟩⟩
 refine yt T p f (by rwa [ae]) (λ k H2 Q2 hk s2 h=>ht k H2 Q2 hk (off H2 s2).1 (off H2 s2).2 h) (λ k H2 Q2 hk hp s2 h=>he k H2 Q2 hk hp (off H2 s2).1 (off H2 s2).2 h) λ D H2 hD s2 d2=> ?_
 have hDd:D≠d:=λ z=>by
  rw [z,e_] at hD
  cases hD
 rw [fo hDd] at hD;refine⟨d,ob,kvs,nf,s2 _ _ e_,hQ D _ hD (λ b u e=> ?_) (by rwa [fo hDd])⟩;by_cases hb:b=d
 .subst hb;rw [hd] at e
  cases e;exact e_
 .rw [fo hb];exact(off H2 s2).1 b u hb e
mutual
inductive rH (K:ai) (H:Hp):V->Tk->Prop
 | i6:rH K H .i6 .none
 | bl (b:Bool):rH K H (.bl b) (.bool b)
 | int (i:Int):rH K H (.int i) (.int i)
 | str (x:Str):rH K H (.str x) (.str x)
 | lst {a:ac} {xs:List V} {ds:List Tk}:gg K H a xs->qo K H xs ds->rH K H (.ref a) (.list ds)
 | tup {a:ac} {xs:List V} {ds:List Tk}:oV K H a xs->qo K H xs ds->rH K H (.ref a) (.tuple ds)
inductive qo (K:ai) (H:Hp):List V->List Tk->Prop
 | nil:qo K H [] []
 | cons {x:V} {xs:List V} {d:Tk} {ds:List Tk}:rH K H x d->qo K H xs ds->qo K H (x::xs) (d::ds)
end
section
variable {X:Cx} {pins:List (ac×Obj)} {σ:St} {H:Hp} {s:ci}
mutual
theorem rH.reads (I:Inv X pins σ H s):∀{v:V} {d:Tk} {u:bv},rH X.K H v d->RelV v u->∃as,Reads s.heap u d as
 | _,_,_,.i6,r=>by cases r;exact⟨_,.none⟩
 | _,_,_,.bl b,r=>by cases r;exact⟨_,.bool b⟩
 | _,_,_,.int i,r=>by obtain⟨t,rfl⟩:=r;exact⟨_,.int i t⟩
 | _,_,_,.str x,r=>by obtain⟨t,rfl⟩:=r;exact⟨_,.str x t⟩
 | _,_,_,.lst hq hs,r=>by
  cases r;obtain⟨its,rv,pl,_⟩:=I.list hq;obtain⟨as,ra⟩:=qo.reads I hs rv;obtain⟨o,ho,hc,n,hd⟩:=pl.isList;exact⟨_,.list ho hc hd (by simpa using ra)⟩
 | _,_,_,.tup hq hs,r=>by
  cases r;obtain⟨its,rv,pl,_⟩:=I.tuple hq;obtain⟨as,ra⟩:=qo.reads I hs rv;obtain⟨o,ho,hc,n,hd⟩:=pl;exact⟨_,.tuple ho hc hd (by simpa using ra)⟩
theorem qo.reads (I:Inv X pins σ H s):∀{vs:List V} {ds:List Tk} {us:List bv},qo X.K H vs ds->Vals vs us->∃as,ReadsAll s.heap us ds as
 | _,_,_,.nil,r=>by cases r;exact⟨_,.nil⟩
 | _,_,_,.cons h hs,r=>by
  cases r with
  | cons r1 r2=>
   obtain⟨as,a1⟩:=rH.reads I h r1;obtain⟨bs,b1⟩:=qo.reads I hs r2;exact⟨_,.cons a1 b1⟩
end
end
mutual
theorem eqv_refl:∀d:Tk,d.canLay0=true->PyData.eqv d d=true
 | .none,_=>by simp [PyData.eqv]
 | .bool b,_=>by simp [PyData.eqv]
 | .int i,_=>by simp [PyData.eqv]
 | .str x,_=>by simp [PyData.eqv]
 | .list xs,h=>by
  rw [PyData.eqv];exact eqvAll_refl xs (by simpa [PyData.canLay0] using h)
 | .tuple xs,h=>by
  rw [PyData.eqv];exact eqvAll_refl xs (by simpa [PyData.canLay0] using h)
 | .dict _,h=>by simp [PyData.canLay0] at h
theorem eqvAll_refl:∀ds:List Tk,PyData.canLayAll0 ds=true->PyData.eqvAll ds ds=true
 | [],_=>by simp [PyData.eqvAll]
 | d::ds,h=>by
  rw [PyData.canLayAll0,bc] at h;rw [PyData.eqvAll,eqv_refl d h.1,eqvAll_refl ds h.2];rfl
end
def SY (K:ai):R2:=λ x y H Q=>∃d,rH K H x d/\rH K H y d/\SeqAt.shaped d=true/\Q (.bl false) H
section
variable {X:Cx}
theorem Tx (hu:X.A.units+64<FM):uj X (tz .NotEq) (SY X.K):=by
 intro pins s σ H x y v u Q I rx ry h;obtain⟨d,h1,h2,h3,q⟩:=h;obtain⟨as,a1⟩:=h1.reads I rx;obtain⟨bs,b1⟩:=h2.reads I ry;refine ne_dataH a1 b1 h3 h3 hu ?_;rw [eqv_refl d (SeqAt.canLay_of_shaped h3)];exact⟨.bl false,H,I,rfl,q⟩
end
theorem ē (r:jc k A):A.units+64<FM:=r.units
def NA (l:List Nat):Prop:=∀c∈l,c<1114112
theorem Mw (h:NA l):PyData.strOk (tx l)=true:=by
 unfold PyData.strOk;simp only [tx,Array.all_eq_true,decide_eq_true_eq];intro i hi;exact h _ (by simp)
structure Step (H:Hp) (F:List ac) (H':Hp) (F':List ac):Prop where
 off:∀b o,b∉F->H b=some o->H' b=some o
 own:∀b∈F',b∈F\/H b=none
 tup:∀b xs,H b=some (.tup xs)->H' b=some (.tup xs)
theorem Step.refl (H:Hp) (F:List ac):Step H F H F:=⟨λ _ _ _ e=>e,λ _ h=>.inl h,λ _ _ e=>e⟩
theorem Step.same (s:fw H H'):Step H F H' F:=⟨λ b o _ e=>s b o e,λ _ h=>.inl h,λ b xs e=>s _ _ e⟩
theorem Step.trans (a:Step H F H1 F1) (b:Step H1 F1 H2 F2):Step H F H2 F2:=by
 refine⟨λ c o hc e=>b.off c o (λ h1=> ?_) (a.off c o hc e),λ c hc=> ?_,λ c xs e=>b.tup c xs (a.tup c xs e)⟩
 .rcases a.own c h1 with z|z
  .exact hc z
  .rw [e] at z
   cases z
 .rcases b.own c hc with h1|h1
  .exact a.own c h1
  .by_cases hF:c∈F
   .exact .inl hF
   .refine .inr ?_
    cases q:H c with
    | none=>rfl
    | some o=>
     rw [a.off c o hF q] at h1
     cases h1
theorem Step.apart (a:Step H F H' F') (hb:b∉F) (e:H b=some o):b∉F':=λ h=>by
 rcases a.own b h with z|z
 .exact hb z
 .rw [e] at z
  cases z
end L2
namespace L2
open PySem
abbrev Nm:=List Nat
def F_:List Nat:= [97,98,99,100,101,102,103,104,105,106,107,108,109,110,111,112,113,114,115,116,117,118,119,120,121,122]
theorem QH:c∈F_↔97<=c/\c<=122:=by
 rw [show F_=List.range' 97 26 from rfl,List.mem_range'_1];lia
def pZ (l:Nm):Bool:=decide (1<=l.length/\l.length<=12)&&l.all λ c=>decide (c∈F_)
inductive Rf where
 | noName|Fo|DC|WL|RV|twice|Bq|full
 deriving DecidableEq
structure jQ where
 start:Nm
 name:Nm
 stop:Nm
 weight:Int
 deriving DecidableEq
structure WA where
 things:List (Nm×List (Nm×Int))
 fL:List (Int×jQ)
 next:Int
def WA.names (A:WA):List Nm:=A.things.map (·.1)
def WA.As (A:WA) (l:Nm):Except Rf WA:=
 if pZ l=false then .error .noName else if l∈A.names then .error .twice else if 100<=A.things.length then .error .full else .ok {A with things:=A.things ++ [(l,[])]}
def WA.at_ (A:WA) (f:jQ->Nm) (l:Nm):List Int:=(A.fL.filter λ x=>decide (f x.2=l)).map (·.1)
def WA.wA (A:WA) (l:Nm):Except Rf WA:=
 if l∉A.names then .error .DC else if A.at_ jQ.start l≠[]\/A.at_ jQ.stop l≠[] then .error .Bq else .ok {A with things:=A.things.filter λ x=>decide (x.1≠l)}
structure WS where
 dx:ac
 dv:ac
 dt:ac
 vals:List (Nm×ac×List (Nm×Int))
 fL:List (Int×ac×jQ)
 next:Int
def WS.abs (W:WS):WA:=⟨W.vals.map λ x=>(x.1,x.2.2),W.fL.map λ x=>(x.1,x.2.2),W.next⟩
def WS.own (W:WS) (p:ac):List ac:=p::W.dv::W.dt::W.vals.map (·.2.1)
def iZ (vals:List (Nm×ac×List (Nm×Int))):List (Key×V):=vals.map λ x=>(.inr (tx x.1),.ref x.2.1)
def fU (fL:List (Int×ac×jQ)):List (Key×V):=fL.map λ x=>(.inl x.1,.ref x.2.1)
def gH (m:List (Nm×Int)):List (Key×V):=m.map λ y=>(.inr (tx y.1),.int y.2)
def xN (t:jQ):List V:= [.str (tx t.start),.str (tx t.name),.str (tx t.stop),.int t.weight]
structure gk (C:ac) (H:Hp) (p:ac) (W:WS):Prop where
 obj:H p=some (.ins C W.dx [("kept_values",.ref W.dv),("kept_ties",.ref W.dt),("coming_number",.int W.next)])
 val:H W.dv=some (.dK (iZ W.vals))
 fZ:H W.dt=some (.dK (fU W.fL))
 each:∀x∈W.vals,H x.2.1=some (.dK (gH x.2.2))
 iM:∀x∈W.fL,H x.2.1=some (.tup (xN x.2.2))
 nd:(W.dv::W.dt::W.vals.map (·.2.1)).Nodup
 names:(W.vals.map (·.1)).Nodup
 nums:(W.fL.map (·.1)).Nodup
 jr:W.vals.length<=100
 Ot:W.fL.length<=400
theorem oB (W:WS):W.abs.names=W.vals.map (·.1):=by
 unfold WA.names WS.abs;rw [aR];rfl
theorem vt (l:Nm):∀vals:List (Nm×ac×List (Nm×Int)),hV (iZ vals) (.inr (tx l))=(vals.find? λ x=>decide (x.1=l)).map λ x=>V.ref x.2.1
 | []=>rfl
 | x::r=>by
  have ih:=vt l r;unfold iZ at ih⊢;rw [aB,bH];by_cases e:x.1=l
  .rw [iH (by rw [e]),decide_eq_true e];rfl
  .rw [iI (λ z=>e (iA.mp (Sum.inr.inj z))),decide_eq_false e,ih]
theorem Bo (l:Nm):∀m:List (Nm×Int),hV (gH m) (.inr (tx l))=(m.find? λ x=>decide (x.1=l)).map λ x=>V.int x.2
 | []=>rfl
 | x::r=>by
  have ih:=Bo l r;unfold gH at ih⊢;rw [aB,bH];by_cases e:x.1=l
  .rw [iH (by rw [e]),decide_eq_true e];rfl
  .rw [iI (λ z=>e (iA.mp (Sum.inr.inj z))),decide_eq_false e,ih]
theorem nX (n:Int):∀fL:List (Int×ac×jQ),hV (fU fL) (.inl n)=(fL.find? λ x=>decide (x.1=n)).map λ x=>V.ref x.2.1
 | []=>rfl
 | x::r=>by
  have ih:=nX n r;unfold fU at ih⊢;rw [aB,bH];by_cases e:x.1=n
  .rw [iH (by rw [e]),decide_eq_true e];rfl
  .rw [iI (λ z=>e (Sum.inl.inj z)),decide_eq_false e,ih]
theorem find_none {α β:Type} [DecidableEq β] {f:α->β} {b:β} {l:List α}:l.find? (λ x=>decide (f x=b))=none↔b∉l.map f:=by
 rw [List.find?_eq_none];constructor
 .intro h m;obtain⟨x,hx,e⟩:=aC.mp m;exact h x hx (decide_eq_true e)
 .intro h x hx e;exact h (aC.mpr ⟨x,hx,of_decide_eq_true e⟩)
theorem find_some {α β:Type} [DecidableEq β] {f:α->β} {b:β} {l:List α} (h:b∈l.map f):∃x,l.find? (λ x=>decide (f x=b))=some x/\x∈l/\f x=b:=by
 cases q:l.find? (λ x=>decide (f x=b)) with
 | none=>exact absurd h (find_none.mp q)
 | some x=>exact⟨x,rfl,List.mem_of_find?_eq_some q,by have z:=List.find?_some q;simpa using z⟩
theorem mY {l:Nm} {vals:List (Nm×ac×List (Nm×Int))}:(hV (iZ vals) (.inr (tx l))).isSome=decide (l∈vals.map (·.1)):=by
 rw [vt];by_cases h:l∈vals.map (·.1)
 .obtain⟨x,e,_,_⟩:=find_some h;rw [e,decide_eq_true h];rfl
 .rw [find_none.mpr h,decide_eq_false h];rfl
theorem mZ {n:Int} {fL:List (Int×ac×jQ)}:(hV (fU fL) (.inl n)).isSome=decide (n∈fL.map (·.1)):=by
 rw [nX];by_cases h:n∈fL.map (·.1)
 .obtain⟨x,e,_,_⟩:=find_some h;rw [e,decide_eq_true h];rfl
 .rw [find_none.mpr h,decide_eq_false h];rfl
theorem lj {l:Nm} {m:List (Nm×Int)}:(hV (gH m) (.inr (tx l))).isSome=decide (l∈m.map (·.1)):=by
 rw [Bo];by_cases h:l∈m.map (·.1)
 .obtain⟨x,e,_,_⟩:=find_some h;rw [e,decide_eq_true h];rfl
 .rw [find_none.mpr h,decide_eq_false h];rfl
theorem Ie (l:Nm) (vals:List (Nm×ac×List (Nm×Int))):oI (iZ vals) (.inr (tx l))=iZ (vals.filter λ x=>decide (x.1≠l)):=by
 unfold oI iZ;rw [cv]
 congr 1
 apply eL;intro x _;simp only [Function.comp];rw [decide_eq_decide];exact not_congr ⟨λ z=>iA.mp (Sum.inr.inj z),λ z=>by rw [z]⟩
theorem zX (n:Int) (fL:List (Int×ac×jQ)):oI (fU fL) (.inl n)=fU (fL.filter λ x=>decide (x.1≠n)):=by
 unfold oI fU;rw [cv]
 congr 1
 apply eL;intro x _;simp only [Function.comp];rw [decide_eq_decide];exact not_congr ⟨λ z=>Sum.inl.inj z,λ z=>by rw [z]⟩
theorem gk.Rg (w:gk C H p W):W.dv≠W.dt:=λ z=>by
 have:=(aZ.mp w.nd).1;exact this (by rw [z];exact aY)
theorem gk.é (w:gk C H p W):W.dv≠p:=gA w.val w.obj (by intro z;cases z)
theorem gk.ZE (w:gk C H p W):W.dt≠p:=gA w.fZ w.obj (by intro z;cases z)
theorem gk.dvx (w:gk C H p W) (h:x∈W.vals):x.2.1≠W.dv:=λ z=>by
 have:=(aZ.mp w.nd).1;exact this (ay _ (by rw [<-z];exact aC.mpr ⟨x,h,rfl⟩))
theorem gk.dtx (w:gk C H p W) (h:x∈W.vals):x.2.1≠W.dt:=λ z=>by
 have:=(aZ.mp (aZ.mp w.nd).2).1;exact this (by rw [<-z];exact aC.mpr ⟨x,h,rfl⟩)
theorem gk.keep (w:gk C H p W) (h:∀b o,b∈W.own p->H b=some o->H' b=some o) (ht:∀b xs,H b=some (.tup xs)->H' b=some (.tup xs)):gk C H' p W:=by
 refine⟨h _ _ (by simp [WS.own]) w.obj,h _ _ (by simp [WS.own]) w.val,h _ _ (by simp [WS.own]) w.fZ,λ x hx=>h _ _ ?_ (w.each x hx),λ x hx=>ht _ _ (w.iM x hx),w.nd,w.names,w.nums,w.jr,w.Ot⟩;simp only [WS.own,av,aC];exact .inr (.inr (.inr ⟨x,hx,rfl⟩))
theorem gk.same (w:gk C H p W) (s:fw H H'):gk C H' p W:=w.keep (λ b o _ e=>s b o e) λ b xs e=>s b _ e
theorem gk.Nu (w:gk C H p W) (h:b∈W.own p):∃o,H b=some o/\∀xs,o≠.tup xs:=by
 simp only [WS.own,av,aC] at h;rcases h with rfl|rfl|rfl | ⟨x,hx,rfl⟩
 .exact⟨_,w.obj,λ _ z=>nomatch z⟩
 .exact⟨_,w.val,λ _ z=>nomatch z⟩
 .exact⟨_,w.fZ,λ _ z=>nomatch z⟩
 .exact⟨_,w.each x hx,λ _ z=>nomatch z⟩
theorem gk.added {C:ac} {H:Hp} {p d:ac} {W:WS} {l:Nm} (w:gk C H p W) (hd:H d=none) (hl:l∉W.vals.map (·.1)) (hf:W.vals.length<100) :
  gk C (upd (upd H d (.dK [])) W.dv (.dK (putK (iZ W.vals) (.inr (tx l)) (.ref d)))) p {W with vals:=W.vals ++ [(l,d,[])]}/\
  Step H (W.own p) (upd (upd H d (.dK [])) W.dv (.dK (putK (iZ W.vals) (.inr (tx l)) (.ref d)))) (WS.own {W with vals:=W.vals ++ [(l,d,[])]} p):=by
 have hp:p≠d:=fA w.obj hd;have hdv:W.dv≠d:=fA w.val hd;have hdt:W.dt≠d:=fA w.fZ hd
 have UW:putK (iZ W.vals) (.inr (tx l)) (.ref d)=iZ (W.vals ++ [(l,d,[])]):=by
  rw [mB]
  .unfold iZ;rw [ax];rfl
  .rw [vt,find_none.mpr hl];rfl
 rw [UW]
 have uL:∀b o,b≠W.dv->H b=some o->upd (upd H d (.dK [])) W.dv (.dK (iZ (W.vals ++ [(l,d,[])]))) b=some o:=λ b o hb e=>by
  rwa [fo hb,fo (fA e hd)]
 refine⟨⟨uL _ _ w.é.symm w.obj,e_,uL _ _ w.Rg.symm w.fZ,λ x hx=> ?_,λ x hx=>uL _ _ (gA (w.iM x hx) w.val (by intro z;cases z)) (w.iM x hx),?_,?_,w.nums,by simp only [ao,aG,aW];lia,w.Ot⟩,⟨λ b o hb e=>uL b o (λ z=>hb (by simp [WS.own,z])) e,λ b hb=> ?_,λ b xs e=>uL b _ (gA e w.val (by intro z;cases z)) e⟩⟩
 .rcases aA.mp hx with h|h
  .exact uL _ _ (w.dvx h) (w.each x h)
  .rw [aj.mp h];show upd (upd H d (.dK [])) W.dv _ d=_;rw [fo hdv.symm,e_];rfl
 .have ě:d∉W.dv::W.dt::W.vals.map (·.2.1):=by
   intro h;simp only [av,aC] at h;rcases h with h|h | ⟨x,hx,h⟩
   .exact hdv h.symm
   .exact hdt h.symm
   .exact fA (w.each x hx) hd h
  show (W.dv::W.dt::(W.vals ++ [(l,d,[])]).map (λ x:Nm×ac×List (Nm×Int)=>x.2.1)).Nodup;rw [ax];have:=yk w.nd ě;exact this
 .show ((W.vals ++ [(l,d,[])]).map (λ x:Nm×ac×List (Nm×Int)=>x.1)).Nodup;rw [ax];exact yk w.names hl
 .simp only [WS.own,ax,av,aA,aB,bz,bb,or_false] at hb⊢;rcases hb with h|h|h|h|h
  .exact .inl (.inl h)
  .exact .inl (.inr (.inl h))
  .exact .inl (.inr (.inr (.inl h)))
  .exact .inl (.inr (.inr (.inr h)))
  .exact .inr (by rwa [h])
theorem gk.dropped (w:gk C H p W) :
  gk C (upd H W.dv (.dK (oI (iZ W.vals) (.inr (tx l))))) p {W with vals:=W.vals.filter λ x=>decide (x.1≠l)}/\
  Step H (W.own p) (upd H W.dv (.dK (oI (iZ W.vals) (.inr (tx l))))) (WS.own {W with vals:=W.vals.filter λ x=>decide (x.1≠l)} p):=by
 rw [Ie]
 have uL:∀b o,b≠W.dv->H b=some o->upd H W.dv (.dK (iZ (W.vals.filter λ x=>decide (x.1≠l)))) b=some o:=λ b o hb e=>by
  rwa [fo hb]
 have sub:∀x∈W.vals.filter (λ x=>decide (x.1≠l)),x∈W.vals:=λ x hx=>(bF.mp hx).1
 refine⟨⟨uL _ _ w.é.symm w.obj,e_,uL _ _ w.Rg.symm w.fZ,λ x hx=>uL _ _ (w.dvx (sub x hx)) (w.each x (sub x hx)),λ x hx=>uL _ _ (gA (w.iM x hx) w.val (by intro z;cases z)) (w.iM x hx),?_,?_,w.nums,bj (bG _ _) w.jr,w.Ot⟩,
  ⟨λ b o hb e=>uL b o (λ z=>hb (by simp [WS.own,z])) e,λ b hb=>.inl ?_,λ b xs e=>uL b _ (gA e w.val (by intro z;cases z)) e⟩⟩
 .exact List.Sublist.nodup (List.Sublist.cons_cons _ (List.Sublist.cons_cons _ (List.Sublist.map _ de))) w.nd
 .exact List.Sublist.nodup (List.Sublist.map _ de) w.names
 .simp only [WS.own,av,aC] at hb⊢;rcases hb with h|h|h | ⟨x,hx,h⟩
  .exact .inl h
  .exact .inr (.inl h)
  .exact .inr (.inr (.inl h))
  .exact .inr (.inr (.inr ⟨x,sub x hx,h⟩))
end L2
namespace L2
open PySem PySem.Spec PyProof.Rows
section
variable {X:Cx} {a b e o i:li} {ta tb td ty:TE} {pos:Pos} {f:Str} {r:R2}
theorem Qv (he:PE X e ta) (hb:sw e f X.env (jp e X.env)=jp e X.env:=by rfl):PE X (.Attribute e f pos) (C4 X.K ta f):=Ng he hb
theorem To (hr:Ss X r) (ha:PE X a ta) (hb:PE X b tb) (hs:El b:=by exact λ _ _=>rfl):PE X (.Subscript a b pos) (Ko r ta tb):=Wx hr ha hb hs
theorem Nl (hu:X.A.units+1<FM) (ho:PE X o td) (hi:PE X i ty) (hs:RC i:=by exact λ _ _=>rfl):PE X (.Subscript o i pos) (Bp td ty):=Qw hu ho hi hs
end
section
variable {X:Cx} {e:li} {ta:TE} {pos:Pos} {f:Str}
theorem Qu (K:ai) (he:PE X e ta) (h:X.K=K:=by rfl) (hb:sw e f X.env (jp e X.env)=jp e X.env:=by rfl):PE X (.Attribute e f pos) (C4 K ta f):=h▸Ng he hb
theorem iS (K:ai) (h:X.K=K:=by rfl):Ss X (MX K):=h▸fP
theorem ni (K:ai) (h:X.K=K:=by rfl):Ss X (E7 K):=h▸fB
end
theorem DV {α β:Type} [DecidableEq β] {f:α->β} {x:α}:∀{l:List α},(l.map f).Nodup->x∈l->l.find? (λ y=>decide (f y=f x))=some x
 | [],_,h=>nomatch h
 | a::r,nd,h=>by
  rw [bH];rcases av.mp h with e|h'
  .subst e;rw [decide_eq_true rfl]
  .have Η:=aZ.mp nd;rw [decide_eq_false (λ z=>Η.1 (by rw [z];exact aC.mpr ⟨x,h',rfl⟩))];exact DV Η.2 h'
def Ki (fL:List (Int×ac×jQ)) (f:jQ->Nm) (l:Nm):Key->Bool
 | .inl n=>((fL.find? λ x=>decide (x.1=n)).map λ x=>decide (f x.2.2=l)).getD false
 | .inr _=>false
theorem IK {fL:List (Int×ac×jQ)} {f:jQ->Nm} {l:Nm} {x:Int×ac×jQ} (nd:(fL.map (·.1)).Nodup) (h:x∈fL):Ki fL f l (.inl x.1)=decide (f x.2.2=l):=by
 show ((fL.find? λ y=>decide (y.1=x.1)).map λ x=>decide (f x.2.2=l)).getD false=_;rw [DV nd h];rfl
theorem EH (nd:(fL.map (·.1)).Nodup):(((fU fL).map (·.1)).filter (Ki fL f l)).map kV=((fL.filter λ x=>decide (f x.2.2=l)).map (·.1)).map V.int:=by
 have go:∀r:List (Int×ac×jQ),(∀x∈r,x∈fL)->(((fU r).map (·.1)).filter (Ki fL f l)).map kV=((r.filter λ x=>decide (f x.2.2=l)).map (·.1)).map V.int:=by
  intro r
  induction r with
  | nil=>intro _;rfl
  | cons x r ih=>
   intro hs;have h1:=ih λ y hy=>hs y (ay _ hy);have h2:=IK (f:=f) (l:=l) nd (hs x aY);unfold fU at h1⊢;rw [aB,aB,cA,cA];show List.map kV (if Ki fL f l (.inl x.1)=true then _ else _)=_;rw [h2];by_cases e:f x.2.2=l
   .rw [decide_eq_true e,if_pos rfl,if_pos rfl,aB,aB,aB,h1];rfl
   .rw [decide_eq_false e,if_neg aI,if_neg aI,h1]
 exact go fL λ _ h=>h
theorem K9 (h:k∈(fU fL).map (·.1)):∃x∈fL,k = .inl x.1:=by
 unfold fU at h;rw [aR] at h;obtain⟨x,hx,e⟩:=aC.mp h;exact⟨x,hx,e.symm⟩
theorem JL {H:Hp} {d:ac} {fL:List (Int×ac×jQ)} {x:Int×ac×jQ} (hd:Rd H d (.dK (fU fL))) (nd:(fL.map (·.1)).Nodup) (h:x∈fL):lM H d (.int x.1) (some (.ref x.2.1)):=by
 refine .inl ⟨_,.inl x.1,hd,rfl,?_⟩;rw [nX,DV nd h];rfl
theorem gk.szT (w:gk C H p W):(fU W.fL).length<=dL:=by
 unfold fU;rw [ae];exact f_ (bj w.Ot (by decide))
theorem gk.J7 {X:Cx} {K:ai} {C:ac} {H:Hp} {p:ac} {W:WS} (w:gk C H p W) (c:Ew K C) (na:mS K C "kept_ties") {f:jQ->Nm} {l:Nm} {i:Nat} (hi:∀t:jQ,vq (xN t) i=some (.str (tx (f t)))) {Q:VK} {fr:List Nat} {σ:St} {r:Nat}
  (h0:σ[0]? = some (some (.ref p))) (hl:∀v:V,(kN v fr σ)[1]? = some (some (.str (tx l)))) (hr:∀v:V,(kN v fr σ)[r]? = some (some (.ref p)))
  (q:∀a H',H a=none->fw H H'->H' a=some (.lst ((W.abs.at_ f l).map V.int))->Q (.ref a) H') :
  vy X (C4 K (yD 0) "kept_ties") fr (EK (Ko Y' (Ko (E7 K) (Bp (C4 K (yD r) "kept_ties") (yD 0)) (tC (V.int i))) (yD 1))) (yD 0) σ H Q:=by
 refine Cm (d:=W.dt) (kvs:=fU W.fL) (λ R hR=>⟨_,h0,_,_,_,_,_,rfl,w.obj,c,na,rfl,hR⟩) w.fZ w.szT (Ki W.fL f l) kV (λ k H2 Q2 hk hb hd h=> ?_) (λ k H2 Q2 hk _ hb hd h=>⟨kV k,rfl,h H2 (fw.refl _)⟩) λ D H2 hD s2 d2=> ?_
 .obtain⟨x,hx,rfl⟩:=K9 hk;have ho:=hb p _ w.ZE.symm w.obj;have ht:=hb x.2.1 _ (gA (w.iM x hx) w.fZ (by intro z;cases z)) (w.iM x hx);refine⟨_,hr _,_,_,_,_,_,rfl,ho,c,na,rfl,_,rfl,_,_,rfl,JL hd w.nums hx,_,_,_,_,rfl,rfl,oV.of ht,hi x.2.2,_,hl _,rfl,_,rfl,?_⟩
  have e:decide (V.str (tx (f x.2.2))=V.str (tx l))=Ki W.fL f l (.inl x.1):=by
   rw [IK w.nums hx,decide_eq_decide];exact⟨λ z=>iA.mp (V.str.inj z),λ z=>by rw [z]⟩
  rw [e];exact h H2 (fw.refl _)
 .refine q D H2 hD s2 ?_;rw [d2,EH w.nums]
  have e:(W.fL.filter λ x=>decide (f x.2.2=l)).map (·.1)=W.abs.at_ f l:=by
   unfold WA.at_ WS.abs;rw [cv,aR];rfl
  rw [e]
end L2
namespace L2
open PySem
def uQ (n:Int):Nat:=97+(n%26).toNat
theorem NQ (n:Int):F_[(n%26).toNat]? = some (uQ n):=by
 unfold uQ;have h1:(n%26).toNat<26:=by lia
 generalize (n%26).toNat=k at h1;have all:∀k<26,F_[k]? = some (97+k):=by decide
 exact all k h1
theorem NR (h:uQ n=uQ m):n%26=m%26:=by
 unfold uQ at h;lia
structure YL (H0 H:Hp) (F:List ac):Prop where
 same:fw H0 H
 new:∀b∈F,H0 b=none
end L2
namespace L2
open PySem PySem.Spec PyProof.Rows
def lV:List li->Option (List Str)
 | []=>some []
 | .Constant (.str x) _ _::r=>(lV r).map (x :: ·)
 | _=>none
def IU (vs:List V):TE:=λ _ H Q=>vs.length<=dL/\∀p,H p=none->Q (.ref p) (upd H p (.lst vs))
theorem Jp:∀{es:List li} {xs:List Str},lV es=some xs->PA X es (λ _ H Q=>Q (xs.map V.str) H)
 | [],xs,h=>by
  cases h;exact G4
 | e::r,xs,h=>by
  cases e with
  | Constant c j pos=>
   cases c with
   | str x=>
    unfold lV at h
    cases q:lV r with
    | none=>rw [q] at h;cases h
    | some ys=>
     rw [q] at h
     cases h;exact Dr (X:=X) M9 (Jp q) rfl
   | _=>cases h
  | _=>cases h
theorem Qs (h:lV es=some xs:=by rfl):PE X (.List es pos) (IU (xs.map V.str)):=λ pins s σ H Q I hq=>Nb (Jp h) pins s σ H Q I hq
theorem fk (h:∀N:St->Hp->Prop,(∀fY H',u D fY H'->N fY H')->t {D with nx:=N} σ H):Mt t u D σ H:=h _ λ _ _ z=>z
theorem Dm {K:ai} {H:Hp} {a:ac} {ns:List Nm} {l:Nm} {neg:Bool} {Q:VK} (ha:gg K H a (ns.map λ z=>V.str (tx z))) (q:Q (.bl (if neg then !decide (l∈ns) else decide (l∈ns))) H):Wo K neg (.str (tx l)) (.ref a) H Q:=by
 refine⟨a,_,rfl,.inl ha,rfl,?_,?_⟩
 .rw [cB];intro v hv;obtain⟨b,_,rfl⟩:=aC.mp hv;rfl
 .have e:Uc (.str (tx l)) (ns.map λ z=>V.str (tx z))=decide (l∈ns):=by
   unfold Uc;rw [cw,bL,decide_eq_true_eq];constructor
   .rintro⟨v,hv,e⟩;obtain⟨b,hb,rfl⟩:=aC.mp hv;have:tx b=tx l:=by simpa [xl] using e
    rwa [<-iA.mp this]
   .intro h;exact⟨_,aC.mpr ⟨l,h,rfl⟩,by simp [xl]⟩
  rwa [e]
structure Bx (p:Prop):Prop where
 un:p
theorem fH:Bx (wK X [] IS):=⟨Qi⟩
theorem fh {X:Cx} {st:pc} {t:TS} (h1:Bx (PS X st t)):Bx (wK X [st] t):=⟨Qh h1.un⟩
theorem c_ {X:Cx} {st:pc} {rest:List pc} {t u:TS} (h1:Bx (PS X st t)) (h2:Bx (wK X rest u)):Bx (wK X (st::rest) (Mt t u)):=⟨MZ h1.un h2.un⟩
theorem fD (i:Nat) (hN:List.Nodup (Cx.N X)) (he:Bx (PE X e te)) (hs:ww e (some (Expr.Name x pos')) (Pos.line pos) (Cx.env X)=pure false:=by rfl) (hf:Cx.fn X x=true\/List.lookup x (Scope.names (Env.scope (Cx.env X)))=some NameKind.local:=by first|exact .inl rfl|exact .inr rfl|assumption) (hi:(Cx.N X)[i]? = some x:=by rfl) (hx:L2.Loc (Env.scope (Cx.env X)) x:=by walk_at "o"):Bx (PS X (Stmt.Assign [Expr.Name x pos'] e pos) (xO te (nj i))):=⟨S6 hN hi hx he.un hs hf⟩
theorem kz (hN:List.Nodup (Cx.N X)) (DQ:(Cx.N X)[i]? = some y) (hy:L2.Loc (Env.scope (Cx.env X)) y) (hc:Cx.calm X=true) (S:qp scope (Env.scope (Cx.env X)) x N (Cx.N X) fr) (hi:Bx (PI X (Expr.Name x px) iter wi)) (ht:∀(cl:List (Str×ac)) (C:ac) (iY:ci) (jR:Hp) (ex:List ac),Bx (EB (Cx.xB X scope cl C N iY jR ex) ifs tt)) (he:∀(cl:List (Str×ac)) (C:ac) (iY:ci) (jR:Hp) (ex:List ac),Bx (PE (Cx.xB X scope cl C N iY jR ex) elt te)) (N7:ww (Expr.ListComp elt [{target:=Expr.Name x px,iter:=iter,ifs:=ifs,is_async:=(0:Int)}] scope pos) (some (Expr.Name y py)) (Pos.line yG) (Cx.env X)=pure true:=by rfl) (hs:∀(v:bv),nw iter (Cx.env X) v=pure v:=by intro _;rfl) (hf:Cx.fn X y=true\/List.lookup y (Scope.names (Env.scope (Cx.env X)))=some NameKind.local:=by first|exact .inl rfl|exact .inr rfl|assumption):Bx (PS X (Stmt.Assign [Expr.Name y py] (Expr.ListComp elt [{target:=Expr.Name x px,iter:=iter,ifs:=ifs,is_async:=(0:Int)}] scope pos) yG) (xO (sJ wi fr tt te) (nj i))):=⟨Ji hN DQ hy hc S hi.un (λ y0 y1 y2 y3 y4=>(ht y0 y1 y2 y3 y4).un) (λ y0 y1 y2 y3 y4=>(he y0 y1 y2 y3 y4).un) N7 hs hf⟩
theorem q_ (hu:Around.units (Cx.A X)+(1:Nat)<FM) (ho:Bx (PE X o td)) (hi:Bx (PE X i ty)) (hv:Bx (PE X value tv)) (hs:ww value (some (Expr.Subscript o i pos')) (Pos.line pos) (Cx.env X)=pure false:=by rfl):Bx (PS X (Stmt.Assign [Expr.Subscript o i pos'] value pos) (Jd td ty tv)):=⟨Qm hu ho.un hi.un hv.un hs⟩
theorem sf (he:Bx (PE X e te)) (hg:Bx (PG X tg g)) (hs:swapsWithSole [tg] e (Pos.line pos) (Cx.env X)=pure false:=by rfl) (hw:swappedStores [tg] e (Cx.env X)=pure none:=by rfl) (h1:List.map (λ (x:Bool×(bv->Sem Unit))=>Prod.snd x) (Ch [tg] (Cx.env X)) = [Sc tg (Cx.env X)]:=by rfl):Bx (PS X (Stmt.Assign [tg] e pos) (xO te g)):=⟨S9 he.un hg.un hs hw h1⟩
theorem vc (ha:Bx (PE X o ta)) (hv:Bx (PE X value tv)) (hs:ww value (some (Expr.Attribute o f pos')) (Pos.line pos) (Cx.env X)=pure false:=by rfl):Bx (PS X (Stmt.Assign [Expr.Attribute o f pos'] value pos) (P7 (Cx.K X) ta tv f)):=⟨S8 ha.un hv.un hs⟩
theorem fS (hc:Bx (PT X c tc)) (ha:Bx (wK X a t)) (hb:Bx (wK X b u)):Bx (PS X (Stmt.If c a b pos) (Kp tc t u)):=⟨Wq hc.un ha.un hb.un⟩
theorem fF (he:Bx (PE X e te)):Bx (PS X (Stmt.Return (some e) pos) (PQ te)):=⟨S7 he.un⟩
theorem jK (T:x_ (Cx.K X) (Cx.mg X) x C) (hR:Raises X E) (hc:Cx.calm X=true) (he:Bx (PE X Rb te)) (hg:Gl X x:=by rfl) (hd:(x==Str.ofString "__debug__")=false:=by decide) (hs:db [Rb] (Cx.env X) = [(false,jp Rb (Cx.env X))]:=by rfl):Bx (PS X (Stmt.Raise (some (Expr.Call (Expr.Name x np) [Rb] [] gY)) none pos) (C2 E C te)):=⟨M5 T hR hc he.un hg hd hs⟩
theorem gX (hp:ZC (ga (Cx.prog X) (Cx.w X)) (Cx.A X) (Cx.env X) (Cx.xe X)) (hc:Cx.calm X=true) (hi:Bx (PI X tg iter wi)) (hg:Bx (PG X tg g)) (hb:Bx (wK X body tb)) (hs:∀(x:bv),nw iter (Cx.env X) x=pure x:=by intro _;rfl):Bx (PS X (Stmt.For tg iter body [] pos) (SJ wi g tb)):=⟨M6 hp hc hi.un hg.un hb.un hs⟩
theorem OV (hp:ZC (ga (Cx.prog X) (Cx.w X)) (Cx.A X) (Cx.env X) (Cx.xe X)) (hc:Cx.calm X=true) (hi:Bx (PE X iter te)) (hg:Bx (PG X (Expr.Name y py) g)) (hb:Bx (wK X body tb)) (hs:∀(x:bv),nw iter (Cx.env X) x=pure x:=by intro _;rfl):Bx (PS X (Stmt.For (Expr.Name y py) iter body [] pos) (Mv X te g tb)):=⟨Qk hp hc hi.un hg.un hb.un hs⟩
theorem fT (he:Bx (PE X e te)) (hs:ww e none (Pos.line pos) (Cx.env X)=pure false:=by rfl):Bx (PS X (Stmt.Expr e pos) (IV te)):=⟨Ql he.un hs⟩
theorem OT {X:Cx} {CX:Bj} {st:pc} {t:YG} (h:Bx (RB CX X st t)):Bx (Î CX X [st] t):=⟨Qg h.un⟩
theorem OS (hN:List.Nodup (Cx.N X)) (hi:(Cx.N X)[i]? = some x) (hx:L2.Loc (Env.scope (Cx.env X)) x) (he:Bx (XE CX X e te)) (hs:ww e (some (Expr.Name x pos')) (Pos.line pos) (Cx.env X)=pure false:=by rfl) (hf:Cx.fn X x=true\/List.lookup x (Scope.names (Env.scope (Cx.env X)))=some NameKind.local:=by first|exact .inl rfl|exact .inr rfl|assumption):Bx (RB CX X (Stmt.Assign [Expr.Name x pos'] e pos) λ (D:Ends) (EX:L2.St->XK) (σ:L2.St) (H:Hp)=>te (EX σ) σ H λ (v:V) (H1:Hp)=>Ends.nx D (List.set σ i (some v)) H1):=⟨Qf hN hi hx he.un hs hf⟩
theorem U9 {X:Cx} {P:im} {w:io} {k:Nat} {f:ac} {fd:ce} {ps:List Str} {sp:Sp} {x:Str} {st:pc} {p pos:Pos} {e:li} {es:List li} {t:TA} (D:gD (Cx.K X) (Cx.mg X) x st ps f fd) (F:fX (Cx.prog X) (Cx.w X) (Cx.K X) (Cx.mg X) (Cx.base X) (ij P w) k f fd ps sp) (hr:jc k (Cx.A X)) (ha:∀(xe:bv->ci->Prop),Bx (PA (Cx.sx X xe) (e::es) t)) (hg:Gl X x:=by rfl) (zQ:(x==Str.ofString "__debug__")=false:=by decide) (he:db (e::es) (Cx.env X)=(false,jp e (Cx.env X))::db es (Cx.env X):=by rfl) (uu:(List.any (ul pos (db es (Cx.env X))) λ (x:Bool×Sem bv)=>Prod.fst x)=false:=by rfl):Bx (XE (ij P w) X (Expr.Call (Expr.Name x p) (e::es) [] pos) λ (E:XK)=>wO sp [] E t):=⟨V7 D F hr (λ y0=>(ha y0).un) hg zQ he uu⟩
theorem gJ (hg:Gl X (Str.ofString "range")) (hm:Cx.mg X (Str.ofString "range")=none) (ha:Bx (PA X [a] ta)) (hs:db [a] (Cx.env X) = [(false,jp a (Cx.env X))]:=by rfl):Bx (PI X tg (Expr.Call (Expr.Name (Str.ofString "range") p) [a] [] pos) (R6 ta)):=⟨KI hg hm ha.un hs⟩
theorem Io (hg:Gl X (Str.ofString "range")) (hm:Cx.mg X (Str.ofString "range")=none) (ha:Bx (PA X [a,b] ta)) (hs:db [a,b] (Cx.env X) = [(false,jp a (Cx.env X)),(false,jp b (Cx.env X))]:=by rfl) (JG:db [b] (Cx.env X) = [(false,jp b (Cx.env X))]:=by rfl):Bx (PI X tg (Expr.Call (Expr.Name (Str.ofString "range") p) [a,b] [] pos) (R5 ta)):=⟨KH hg hm ha.un hs JG⟩
theorem Ro (h:Bx (PE X e te)):Bx (PI X (Expr.Name y py) e (Ud te)):=⟨Tb h.un⟩
theorem gq (hl:Bx (PE X l tl)):Bx (PI X tg l (N5 (Cx.K X) tl)):=⟨Jk hl.un⟩
theorem Rn (hl:Bx (PE X l tl)):Bx (PI X tg l (Xb (Cx.K X) tl)):=⟨Ta hl.un⟩
theorem gn (i:Nat) (hN:List.Nodup (Cx.N X)) (hf:Cx.fn X x=true\/List.lookup x (Scope.names (Env.scope (Cx.env X)))=some NameKind.local:=by first|exact .inl rfl|exact .inr rfl|assumption) (hi:(Cx.N X)[i]? = some x:=by rfl) (hx:L2.Loc (Env.scope (Cx.env X)) x:=by walk_at "o"):Bx (PG X (Expr.Name x pos) (nj i)):=⟨Qr hN hi hx hf⟩
theorem su (ho:Bx (PE X o to)) (hi:Bx (PE X i ti)) (hs:Vj X t)
  (ha:∀v,Sc (.Subscript o i pos) X.env v=(do
   let ov <-xz [v] (jp o X.env)
   let iv <-xz [v,ov] (jp i X.env)
   IN pos
   xz [v,ov,iv] (setItem ov iv v)
   release [v,ov,iv] []):=by intro _;rfl):Bx (PG X (.Subscript o i pos) (Q5 to ti t)):=⟨Td ho.un hi.un hs ha⟩
theorem iV (hc:Cx.calm X=true) (S:qp scope (Env.scope (Cx.env X)) x N (Cx.N X) fr) (hi:Bx (PI X (Expr.Name x px) iter wi)) (ht:∀(cl:List (Str×ac)) (C:ac) (iY:ci) (jR:Hp) (ex:List ac),Bx (EB (Cx.xB X scope cl C N iY jR ex) ifs tt)) (he:∀(cl:List (Str×ac)) (C:ac) (iY:ci) (jR:Hp) (ex:List ac),Bx (PE (Cx.xB X scope cl C N iY jR ex) elt te)) (hs:∀(v:bv),nw iter (Cx.env X) v=pure v:=by intro _;rfl):Bx (PE X (Expr.ListComp elt [{target:=Expr.Name x px,iter:=iter,ifs:=ifs,is_async:=(0:Int)}] scope pos) (sJ wi fr tt te)):=⟨Jn hc S hi.un (λ y0 y1 y2 y3 y4=>(ht y0 y1 y2 y3 y4).un) (λ y0 y1 y2 y3 y4=>(he y0 y1 y2 y3 y4).un) hs⟩
theorem Cr (hc:Cx.calm X=true) (S:qp scope (Env.scope (Cx.env X)) y N (Cx.N X) fr) (hi:Bx (PE X iter te)) (ht:∀(cl:List (Str×ac)) (C:ac) (iY:ci) (jR:Hp) (ex:List ac),Bx (EB (Cx.xB X scope cl C N iY jR ex) ifs tt)) (he:∀(cl:List (Str×ac)) (C:ac) (iY:ci) (jR:Hp) (ex:List ac),Bx (PE (Cx.xB X scope cl C N iY jR ex) elt Km)) (hs:∀(v:bv),nw iter (Cx.env X) v=pure v:=by intro _;rfl):Bx (PE X (Expr.ListComp elt [{target:=Expr.Name y py,iter:=iter,ifs:=ifs,is_async:=(0:Int)}] scope pos) (vy X te fr tt Km)):=⟨Nq hc S hi.un (λ y0 y1 y2 y3 y4=>(ht y0 y1 y2 y3 y4).un) (λ y0 y1 y2 y3 y4=>(he y0 y1 y2 y3 y4).un) hs⟩
theorem gB:Bx (EB X [] C0):=⟨Qd⟩
theorem oN (h:Bx (PT X c t)):Bx (EB X [c] t):=⟨Qc h.un⟩
theorem d_:Bx (PA X [] AX):=⟨G4⟩
theorem a_ (ha:Bx (PE X e te)) (hr:Bx (PA X es t)) (hs:db (e::es) (Cx.env X)=(false,jp e (Cx.env X))::db es (Cx.env X):=by rfl):Bx (PA X (e::es) (EL te t)):=⟨Dr ha.un hr.un hs⟩
theorem fG (ho:uj X (tz op) r) (ha:Bx (PE X a ta)) (hb:Bx (PE X b tb)) (hm:wE op b=false):Bx (PT X (Expr.Compare a [op] [b] pos) (EK (Ko r ta tb))):=⟨Qe ho ha.un hb.un hm⟩
theorem qZ (ha:Bx (PT X a tA)):Bx (PW X (Expr.BoolOp BoolOp.And [a] pos) tA):=⟨pw_and1 ha.un⟩
theorem u_ {X:Cx} {a b:li} {pos:Pos} {tA Pe:TT} {rest:List li} (ha:Bx (PT X a tA)) (hb:Bx (PW X (Expr.BoolOp BoolOp.And (b::rest) pos) Pe)):Bx (PW X (Expr.BoolOp BoolOp.And (a::b::rest) pos) (PZ tA Pe)):=⟨pw_and ha.un hb.un⟩
theorem pL (ha:Bx (PT X a tA)):Bx (PW X (Expr.BoolOp BoolOp.Or [a] pos) tA):=⟨pw_or1 ha.un⟩
theorem mM {X:Cx} {a b:li} {pos:Pos} {tA Pe:TT} {rest:List li} (ha:Bx (PT X a tA)) (hb:Bx (PW X (Expr.BoolOp BoolOp.Or (b::rest) pos) Pe)):Bx (PW X (Expr.BoolOp BoolOp.Or (a::b::rest) pos) (Y0 tA Pe)):=⟨pw_or ha.un hb.un⟩
theorem jJ (ha:Bx (PT X a tA)):Bx (PT X (Expr.UnaryOp UnaryOp.Not a pos) (PU tA)):=⟨S4 ha.un⟩
theorem iu (h:Bx (PE X e t)) (he:∀whole,Jal e X.env whole=(do let v <-whole;IN e.pos;xz [v] (Ja4 v)):=by intro _;rfl):Bx (PT X e (tB t)):=⟨S3 h.un he⟩
theorem wF (ha:Bx (PE X a ta)) (he:∀whole,Jal a X.env whole=(do let v <-whole;IN a.pos;xz [v] (Ja4 v)):=by intro _;rfl):Bx (PT X a (λ σ H Q=>ta σ H λ x H'=>∃k,Vh X.K x H' k/\Q k H')):=⟨MY ha.un he⟩
theorem r_ (h:Bx (PC X op a b t)) (h1:wE op b=false:=by first|exact zw _ (by decide) (by decide)|rfl):Bx (PT X (Expr.Compare a [op] [b] pos) (tB t)):=⟨S5 h.un h1⟩
theorem Ee (hu:Around.units (Cx.A X)+(1:Nat)<FM) (hi:Bx (PE X i ty)) (ho:Bx (PE X o td)):Bx (PC X CmpOp.In i o (PX ty td)):=⟨Tv hu hi.un ho.un⟩
theorem pM (hu:Around.units (Cx.A X)+(1:Nat)<FM) (hi:Bx (PE X i ty)) (ho:Bx (PE X o td)):Bx (PC X CmpOp.NotIn i o (yh ty td)):=⟨KN hu hi.un ho.un⟩
theorem Rq (h:Bx (PC X op a b t)) (h1:wE op b=false:=by first|exact zw _ (by decide) (by decide)|rfl):Bx (PE X (Expr.Compare a [op] [b] pos) t):=⟨Ts h.un h1⟩
theorem iW (ho:uj X (tz op) r) (ha:Bx (PE X a ta)) (hb:Bx (PE X b tb)) (hm:wE op b=false):Bx (PE X (Expr.Compare a [op] [b] pos) (Ko r ta tb)):=⟨Qx ho ha.un hb.un hm⟩
theorem fq (i:Nat) (hN:(Cx.N X)[i]? = some x:=by rfl) (hv:Ì (Env.scope (Cx.env X)) x:=by first|exact Or.inl rfl|exact Or.inr (Or.inl rfl)|exact Or.inr (Or.inr rfl)) (hd:(x==Str.ofString "__debug__")=false:=by decide) (HS:(x==Str.ofString "__classdict__")=false:=by decide):Bx (PE X (Expr.Name x pos) (yD i)):=⟨pv i hN hv hd HS⟩
theorem jM (h:∃(u:bv),Cx.mg X x=some u/\L2.RelV v u) (hg:Gl X x:=by rfl) (hd:(x==Str.ofString "__debug__")=false:=by decide):Bx (PE X (Expr.Name x pos) (tC v)):=⟨Np h hg hd⟩
theorem ug (hm:Cx.mg X x=none) (hv:xL x=some (Value.type T)) (hg:Gl X x:=by rfl) (hn:x≠Str.ofString "__name__" := by decide) (hd:(x==Str.ofString "__debug__")=false:=by decide):Bx (PE X (Expr.Name x pos) (tC (V.ty T))):=⟨Wt hm hv hg hn hd⟩
theorem kA:Bx (PE X (Expr.Constant Const.none j pos) (tC V.i6)):=⟨Ti⟩
theorem jn:Bx (PE X (Expr.Constant (Const.bool b) j pos) (tC (V.bl b))):=⟨Wz⟩
theorem b_:Bx (PE X (Expr.Constant (Const.int i) j pos) (tC (V.int i))):=⟨Tp⟩
theorem fW:Bx (PE X (Expr.Constant (Const.str x) j pos) (tC (V.str x))):=⟨M9⟩
theorem fE (ho:uj X (Uf op) r) (ha:Bx (PE X a ta)) (hb:Bx (PE X b tb)):Bx (PE X (Expr.BinOp a op b pos) (Ko r ta tb)):=⟨Wv ho ha.un hb.un⟩
theorem uf (ho:Í X (unaryOp op) r) (ha:Bx (PE X a ta)):Bx (PE X (Expr.UnaryOp op a pos) (YY r ta)):=⟨Ws ho ha.un⟩
theorem Ec (ha:Bx (PE X a ta)):Bx (PE X (Expr.UnaryOp UnaryOp.Not a pos) (IQ ta)):=⟨Th ha.un⟩
theorem OX (ha:Bx (PE X a ta)) (hb:Bx (PE X b tb)) (hc:Bx (PE X c (tC (V.int k)))) (hm:lastMarks [CmpOp.LtE,CmpOp.LtE] [b,c]=false:=by with_unfolding_all rfl):Bx (PE X (Expr.Compare a [CmpOp.LtE,CmpOp.LtE] [b,c] pos) (IW ta tb k)):=⟨QA ha.un hb.un hc.un hm⟩
theorem nA (h:Bx (PE X a t)):Bx (PE X (Expr.BoolOp op [a] pos) t):=⟨Tg h.un⟩
theorem vd {X:Cx} {a b:li} {ta tb:TE} {pos:Pos} {rest:List li} (ha:Bx (PE X a ta)) (hb:Bx (PE X (Expr.BoolOp BoolOp.And (b::rest) pos) tb)):Bx (PE X (Expr.BoolOp BoolOp.And (a::b::rest) pos) (IX ta tb)):=⟨Tu ha.un hb.un⟩
theorem Ip {X:Cx} {a b:li} {ta tb:TE} {pos:Pos} {rest:List li} (ha:Bx (PE X a ta)) (hb:Bx (PE X (Expr.BoolOp BoolOp.Or (b::rest) pos) tb)):Bx (PE X (Expr.BoolOp BoolOp.Or (a::b::rest) pos) (PR ta tb)):=⟨Wu ha.un hb.un⟩
theorem sv (hc:Bx (PT X c tA)) (ha:Bx (PE X a ta)) (hb:Bx (PE X b tb)):Bx (PE X (Expr.IfExp c a b pos) (Y1 tA ta tb)):=⟨Nf hc.un ha.un hb.un⟩
theorem jL {X:Cx} {e:li} {te:TE} {lo hi:Option li} {tl th:TO} {pos p2:Pos} {r:V->Option Int->Option Int->Hp->VK->Prop} (hr:YI X r) (he:Bx (PE X e te)) (hl:Bx (PO X lo tl)) (hu:Bx (PO X hi th)):Bx (PE X (Expr.Subscript e (Expr.Slice lo hi none p2) pos) (YZ r te tl th)):=⟨M_ hr he.un hl.un hu.un⟩
theorem lC:Bx (PO X none yg):=⟨Qo⟩
theorem jU (h:Bx (PE X e te)):Bx (PO X (some e) (IP te)):=⟨Qn h.un⟩
theorem fc (hr:Ss X r) (ha:Bx (PE X a ta)) (hb:Bx (PE X b tb)) (hs:El b:=by exact λ _ _=>rfl):Bx (PE X (Expr.Subscript a b pos) (Ko r ta tb)):=⟨To hr ha.un hb.un hs⟩
theorem j9 (hu:Around.units (Cx.A X)+(1:Nat)<FM) (ho:Bx (PE X o td)) (hi:Bx (PE X i ty)) (hs:RC i:=by exact λ _ _=>rfl):Bx (PE X (Expr.Subscript o i pos) (Bp td ty)):=⟨Nl hu ho.un hi.un hs⟩
theorem gi (h:Bx (PA X es t)):Bx (PE X (Expr.List es pos) (PV t)):=⟨Nb h.un⟩
theorem Ap (h:lV es=some xs:=by rfl):Bx (PE X (Expr.List es pos) (IU (List.map V.str xs))):=⟨Qs h⟩
theorem gF (h:Bx (PA X es t)):Bx (PE X (Expr.Tuple es x1 pos) (PN t)):=⟨Tf h.un⟩
theorem j8:Bx (PE X (Expr.Dict [] [] pos) C8):=⟨Nj⟩
theorem gU (he:Bx (PE X e ta)) (hb:sw e f (Cx.env X) (jp e (Cx.env X))=jp e (Cx.env X):=by rfl):Bx (PE X (Expr.Attribute e f pos) (C4 (Cx.K X) ta f)):=⟨Qv he.un hb⟩
theorem F0 (K:W.Frag) (he:Bx (PE X e ta)) (h:Cx.K X=K:=by rfl) (hb:sw e f (Cx.env X) (jp e (Cx.env X))=jp e (Cx.env X):=by rfl):Bx (PE X (Expr.Attribute e f pos) (C4 K ta f)):=⟨Qu K he.un h hb⟩
theorem fK {X:Cx} {P:im} {w:io} {k:Nat} {f:ac} {fd:ce} {ps:List Str} {sp:Sp} {E:XK} {x:Str} {st:pc} {p pos:Pos} {e:li} {es:List li} {t:TA} (D:gD (Cx.K X) (Cx.mg X) x st ps f fd) (F:fX (Cx.prog X) (Cx.w X) (Cx.K X) (Cx.mg X) (Cx.base X) (ij P w) k f fd ps sp) (hr:jc k (Cx.A X)) (hx:Passes (ij P w) X E) (ha:Bx (PA X (e::es) t)) (hg:Gl X x:=by rfl) (zQ:(x==Str.ofString "__debug__")=false:=by decide) (he:db (e::es) (Cx.env X)=(false,jp e (Cx.env X))::db es (Cx.env X):=by rfl) (uu:(List.any (ul pos (db es (Cx.env X))) λ (x:Bool×Sem bv)=>Prod.fst x)=false:=by rfl):Bx (PE X (Expr.Call (Expr.Name x p) (e::es) [] pos) (wO sp [] E t)):=⟨Tq D F hr hx ha.un hg zQ he uu⟩
theorem Cp (M:Mk (Cx.K X) C f) (F:fX (Cx.prog X) (Cx.w X) (Cx.K X) (Cx.mg X) (Cx.base X) CX k f fd ps sp) (hr:jc (k+(1:Nat)) (Cx.A X)) (hg:Gl X x) (hm:Cx.mg X x=some (Value.ref C)) (hb:L2.Binds (Cx.K X) fd ps ds) (hd:Vals qT ds) (hx:Passes CX X E) (zQ:(x==Str.ofString "__debug__")=false:=by decide):Bx (PE X (Expr.Call (Expr.Name x p) [] [] pos) (IT C sp qT E AX)):=⟨Na M F hr hg hm hb hd hx zQ⟩
theorem fJ {X:Cx} {x:Str} {p pos:Pos} {e:li} {es:List li} {t:TA} {id:String} {r:List V->Hp->VK->Prop} (hc:kL X (Value.builtin id) r) (hg:Gl X x) (hm:Cx.mg X x=none) (hv:xL x=some (Value.builtin id)) (ha:Bx (PA X (e::es) t)) (hn:x≠Str.ofString "__name__" := by decide) (zQ:(x==Str.ofString "__debug__")=false:=by decide) (he:db (e::es) (Cx.env X)=(false,jp e (Cx.env X))::db es (Cx.env X):=by rfl) (uu:(List.any (ul pos (db es (Cx.env X))) λ (x:Bool×Sem bv)=>Prod.fst x)=false:=by rfl):Bx (PE X (Expr.Call (Expr.Name x p) (e::es) [] pos) (Vy r t)):=⟨Nt hc hg hm hv ha.un hn zQ he uu⟩
theorem iK (hc:kL X (Value.type T) r) (hg:Gl X x) (hm:Cx.mg X x=none) (hv:xL x=some (Value.type T)) (ha:Bx (PA X (e::es) t)) (hn:x≠Str.ofString "__name__" := by decide) (zQ:(x==Str.ofString "__debug__")=false:=by decide) (he:db (e::es) (Cx.env X)=(false,jp e (Cx.env X))::db es (Cx.env X):=by rfl) (uu:(List.any (ul pos (db es (Cx.env X))) λ (x:Bool×Sem bv)=>Prod.fst x)=false:=by rfl):Bx (PE X (Expr.Call (Expr.Name x p) (e::es) [] pos) (Vy r t)):=⟨KJ hc hg hm hv ha.un hn zQ he uu⟩
theorem yw {X:Cx} {o:li} {to:TE} {name:Str} {apos gY:Pos} {T id:String} {r:V->List V->Hp->VK->Prop} (pa:Jac T) (slot:Slot T name id) (QM:JaG (Value.builtin id)=pure (Value.type "method_descriptor")) (hm:V3 X id r) (ho:Bx (PE X o to)) (oF:sw o name (Cx.env X) (jp o (Cx.env X))=jp o (Cx.env X):=by rfl) (oE:(Pos.endLine apos==Pos.line gY)=true:=by rfl):Bx (PE X (Expr.Call (Expr.Attribute o name apos) [] [] gY) (PY (Cx.K X) T r to)):=⟨Tt pa slot QM hm ho.un oF oE⟩
theorem ig {X:Cx} {o e:li} {es:List li} {to:TE} {t:TA} {name:Str} {apos gY:Pos} {T id:String} {r:V->List V->Hp->VK->Prop} (pa:Jac T) (slot:Slot T name id) (QM:JaG (.builtin id)=pure (.type "method_descriptor")) (hm:V3 X id r) (ho:Bx (PE X o to)) (ha:Bx (PA X (e::es) t))
  (oF:sw o name X.env (jp o X.env)=jp o X.env:=by rfl)
  (Oc:((ul gY (db (e::es) X.env)).all (λ x=> !x.1)&&(EQ gY (wv [] X.env)).all (λ x=>x.1.isSome)&&decide ((e::es).length+([]:List UF).length+(if ([]:List UF).isEmpty then 0 else 1)<30))=true:=by rfl)
  (oE:(apos.endLine==gY.line)=true:=by rfl) (hs:db (e::es) X.env=(false,jp e X.env)::db es X.env:=by rfl) (zN:(ul gY (db es X.env)).any (·.1)=false:=by rfl) :
  Bx (PE X (.Call (.Attribute o name apos) (e::es) [] gY) (Wb X.K T r to t)):=⟨RQ pa slot QM hm ho.un ha.un oF Oc oE hs zN⟩
theorem wH (ho:Bx (PE X o td)) (he:Bx (PE X e ty)) (m:M1 X o (Str.ofString "pop") apos e gY:=by exact⟨rfl,rfl,rfl,rfl⟩):Bx (PE X (Expr.Call (Expr.Attribute o (Str.ofString "pop") apos) [e] [] gY) (C7 td ty)):=⟨Ni ho.un he.un m⟩
theorem ip {X:Cx} {P:im} {w:io} {k:Nat} {f C:ac} {fd:ce} {ps:List Str} {sp:Sp} {E:XK} {m qual:Str} {st:pc} {apos pos:Pos} {e o:li} {es:List li} {ta:TE} {t:TA} {pl:Sem Bool} (he:Bx (PE X o ta)) (c:Ew X.K C) (D:iC X.K C m qual st ps f fd) (F:fX X.prog X.w X.K X.mg X.base (ij P w) k f fd ps sp) (hr:jc k X.A) (hx:Passes (ij P w) X E) (ha:Bx (PA X (e::es) t))
  (nQ:db (e::es) X.env=(false,jp e X.env)::db es X.env:=by rfl) (uu:(ul pos (db es X.env)).any (·.1)=false:=by rfl)
  (ht:jp (.Call (.Attribute o m apos) (e::es) [] pos) X.env=(do
   let ov <-jp o X.env
   IN apos.atName
   let (f,first) <-xz [ov] (NE ov m pl)
   Yu pos f first (ul pos (db (e::es) X.env)) (EQ pos (wv [] X.env))):=by rfl) :
  Bx (PE X (.Call (.Attribute o m apos) (e::es) [] pos) (sI C m sp [] E ta t)):=⟨Ww he.un c D F hr hx ha.un nQ uu ht⟩
theorem Ed {X:Cx} {P:im} {w:io} {k:Nat} {f C:ac} {fd:ce} {ps:List Str} {sp:Sp} {E:XK} {m qual:Str} {st:pc} {apos pos:Pos} {o:li} {ta:TE} {pl:Sem Bool} (he:Bx (PE X o ta)) (c:Ew X.K C) (D:iC X.K C m qual st ps f fd) (F:fX X.prog X.w X.K X.mg X.base (ij P w) k f fd ps sp) (hr:jc k X.A) (hx:Passes (ij P w) X E)
  (ht:jp (.Call (.Attribute o m apos) [] [] pos) X.env=(do
   let ov <-jp o X.env
   IN apos.atName
   let (f,first) <-xz [ov] (NE ov m pl)
   Yu pos f first (ul pos (db [] X.env)) (EQ pos (wv [] X.env))):=by rfl) :
  Bx (PE X (.Call (.Attribute o m apos) [] [] pos) (sI C m sp [] E ta AX)):=⟨Tn he.un c D F hr hx ht⟩
theorem Bx.L7 (h:Bx (PW X e t)):Bx (PT X e t):=⟨PW.pt h.un⟩
theorem PK {K:ai} {z:Str} {H:Hp}:Vw K "str" (.str z) H=True:=eq_true rfl
theorem gu {K:ai} {p:ac} {H:Hp} {xs:List V} (h:gg K H p xs):Vw K "list" (.ref p) H:=.inl ⟨rfl,xs,h⟩
theorem jf {A B:Prop} {c:Prop} [Decidable c] (hc:c) (h:A):if c then A else B:=by rwa [if_pos hc]
theorem gy {A B:Prop} {c:Prop} [Decidable c] (hc:¬c) (h:B):if c then A else B:=by rwa [if_neg hc]
theorem PD {C:ac} {H H1:Hp} {p dx:ac} {W:WS} (hp:H p=none) (Z1:H dx=none) (off:∀b o,b≠p->upd (upd H dx (.own p)) p (.ins C dx []) b=some o->H1 b=some o)
  (own:∀b∈W.own p,b=p\/upd (upd H dx (.own p)) p (.ins C dx []) b=none):YL H H1 (W.own p):=by
 refine⟨λ b o e=>off b o (fA e hp) ?_,λ b hb=> ?_⟩
 .rwa [fo (fA e hp),fo (fA e Z1)]
 .rcases own b hb with rfl|z
  .exact hp
  .by_cases h1:b=p
   .rwa [h1]
   .rw [fo h1] at z;by_cases h2:b=dx
    .rwa [h2]
    .rw [fo h2] at z;exact z
section
variable {prog:im} {w:io} {A:pi} {E:bv->ci->Prop} {s:ci} {a₀:Array Keyed} {κ:PyProof.Rows.KeyKind}
end
section
variable {prog:im} {w:io} {A:pi} {E:bv->ci->Prop} {s:ci}
theorem yT {a:ac} {vs:List bv} {n:Nat} {R:Array bv->Prop} {P:PySem.Fin->ci->Prop} (ho:s.heap.get? a=some (PP "list" vs.toArray n)) (hz:vs.length<=dL) (hR:∀out,R out->out.size=vs.length)
  (short:vs.length<2->R vs.toArray)
  (long:2<=vs.length->∀z:ci,(∀b o,b≠a->s.heap.get? b=some o->z.heap.get? b=some o)->∃kd,gc (ga prog w) A (keyKind' vs.toArray) (λ k z'=>k=kd/\z'=z) E z/\
   wpS (ga prog w) A E z sortRuns' (λ _ y=>failedOf y=none/\R ((arrOf y).map (·.2))) (SortSt.mk' kd (JaJ vs) #[] 7 none))
  (h:∀out h' c,R out->(∀b o,b≠a->s.heap.get? b=some o->h'.get? b=some o)->h'.get? a=some (PP "list" out c)->P (.done (.ret .none)) {s with heap:=h'}) :
  gc (ga prog w) A (zn.«list.sort» ⟨[.ref a],[]⟩) P E s:=by
 have la:a<s.heap.objs.size:=aH ho;have V8:vs.toArray.size=vs.length:=by simp
 rw [list_sort_plain];refine bi (listItems_at ho rfl (bi (listUpdate_at ho rfl ?_ (by rwa [V8]) (aQ _))));obtain⟨ep,he⟩:∃ep,(s.heap.update a (Obj.mapSeq λ _=>(#[]:Array bv))).get? a=some (PP "list" #[] ep):=⟨_,get?_update_seq ho λ _=> #[]⟩
 have uL:∀b o,b≠a->s.heap.get? b=some o->(s.heap.update a (Obj.mapSeq λ _=>(#[]:Array bv))).get? b=some o:=λ b o hb e=>by
  rwa [Heap.get?_update_ne _ _ _ _ hb]
 refine bi (seqEpoch_at he rfl (bi (wpAny_newTuple (bi (Jaz (u8 ?_) (aQ _))) (by simpa using hz))));generalize hg:s.heap.update a (Obj.mapSeq λ _=>(#[]:Array bv))=g at he uL;have Z0:((g.push (PP "tuple" vs.toArray 0)).push (PP "list" #[] 0)).get? a=some (PP "list" #[] ep):=ah _ (ah _ he);have Tw:∀b o,b≠a->s.heap.get? b=some o->((g.push (PP "tuple" vs.toArray 0)).push (PP "list" #[] 0)).get? b=some o:=λ b o hb e=>ah _ (ah _ (uL b o hb e));show gc (ga prog w) A _ P E {s with heap:=(g.push (PP "tuple" vs.toArray 0)).push (PP "list" #[] 0)};generalize (g.push (PP "tuple" vs.toArray 0)).push (PP "list" #[] 0)=G at Z0 Tw;dsimp only
 have last:∀out:Array bv,R out->gc (ga prog w) A (do
   let touched:=(<-seqEpoch a)!=ep
   Builtin.List.listUpdate (.ref a) λ _=>out
   if touched then rule "list.sort.modified";raiseError "ValueError" "list modified during sort"
   ret .none) P E {s with heap:=G}:=λ out ro=>by
  refine bi (seqEpoch_at Z0 rfl (bi (listUpdate_at Z0 rfl ?_ (aQ _) (by show out.size<=_;rw [hR out ro];exact Nat.le_succ_of_le hz))));rw [bne_self_eq_false,if_neg aI];refine cr (h out _ _ ro (λ b o hb e=> ?_) (get?_update_seq Z0 λ _=>out));rw [Heap.get?_update_ne _ _ _ _ hb];exact Tw b o hb e
 by_cases jr:vs.length<2
 .rw [if_pos (by rwa [V8]),if_pos (by rwa [V8])];refine bi (cr ?_);rw [StateT.run_pure];refine bi (cr ?_)
  have eo:(arrOf (SortSt.mk' general' (vs.toArray.zip vs.toArray) #[] 7 none)).map (·.2)=vs.toArray:=by
   show (vs.toArray.zip vs.toArray).map (·.2)=vs.toArray;apply Array.toList_inj.mp;simp [eR]
  have:=last vs.toArray (short jr);dsimp only
  rwa [eo]
 .rw [if_neg (by rwa [V8]),if_neg (by rwa [V8])];obtain⟨kd,hk,hr⟩:=long (Zi jr) {s with heap:=G} Tw;refine bi (re hk ?_ λ _ _ e=>e);rintro k z' ⟨rfl,rfl⟩;refine bi (re hr ?_ λ _ _ e=>e);rintro⟨⟨⟩,y⟩ z' ⟨rfl,hf,ro⟩;have:=last _ ro;dsimp only at hf ro⊢
  rwa [hf]
end
end L2
namespace L2
open PySem PySem.Spec PyProof.Rows PySem.Builtin PySem.Builtin.Str
section
variable {X:Cx}
end
section
variable {X:Cx} {st:pc} {rest:List pc} {t u:TS} {e:li} {es:List li} {te:TE} {ta:TA}
end
end L2
namespace L2
open PySem PySem.Spec PyProof.Rows
section
variable {X:Cx} {st:pc} {rest:List pc} {t u:TS} {e:li} {es:List li} {te:TE} {ta:TA}
end
end L2
namespace L2
end L2
namespace L2
open PySem PySem.Spec PyProof.Rows
theorem zL:∀{ns:List Int} {us:List bv},Vals (ns.map V.int) us->∃zs:List (Int×Tok),us=zs.map (λ p=>Value.int p.1 p.2)/\zs.map (·.1)=ns
 | [],us,r=>by
  cases r;exact⟨[],rfl,rfl⟩
 | n::ns,us,r=>by
  rw [aB] at r
  cases r with
  | cons r1 r2=>
   obtain⟨t,rfl⟩:=r1;obtain⟨zs,rfl,rfl⟩:=zL r2;exact⟨(n,t)::zs,rfl,rfl⟩
section
variable {X:Cx}
theorem Cn (hp:ZC (ga X.prog X.w) X.A X.env X.xe) (hc:Bx (PT X c tc)) (hb:Bx (wK X body tb)):Bx (PS X (.While c body [] pos) (C1 tc tb)):=⟨M0 hp hc.un hb.un⟩
end
structure j_ where
 nm:List Nat
 back:Bool
 sg:List Nat
 num:Int
structure J' (m:j_):Prop where
 nm:NA m.nm
 sg:NA m.sg
def qR:List Nat:= [109,97,114,107]
def j5:List Nat:= [114,111,119]
def tU:List Nat:= [111,114]
def ju:List Nat:= [109,97,110,121]
def lZ:List Nat:= [115,111,109,101]
def jy:List Nat:= [109,97,121,98,101]
def ones:List (List Nat):= [ju,lZ,jy]
def vx:List (List Nat):= [j5,tU]
inductive Tr where
 | mark (m:j_)
 | two (k:List Nat) (l r:Tr)
 | one (k:List Nat) (t:Tr)
def Tr.deep:Tr->Nat
 | .mark _=>1
 | .two _ l r=>max l.deep r.deep+1
 | .one _ t=>t.deep+1
def Tr.marks:Tr->List j_
 | .mark m=> [m]
 | .two _ l r=>l.marks++r.marks
 | .one _ t=>t.marks
def Hy (m:j_):List V:= [.str (tx qR),.str (tx m.nm),.bl m.back,.str (tx m.sg),.int m.num]
inductive h_ (H:Hp):ac->Tr->Prop
 | mark {a:ac} {m:j_}:H a=some (.tup (Hy m))->J' m->h_ H a (.mark m)
 | two {a l r:ac} {k:List Nat} {x y:Tr}:H a=some (.tup [.str (tx k),.ref l,.ref r])->k∈vx->h_ H l x->h_ H r y->h_ H a (.two k x y)
 | one {a i:ac} {k:List Nat} {x:Tr}:H a=some (.tup [.str (tx k),.ref i])->k∈ones->h_ H i x->h_ H a (.one k x)
theorem h_.keep (k:∀b xs,H b=some (.tup xs)->H' b=some (.tup xs)) (h:h_ H a t):h_ H' a t:=by
 induction h with
 | mark e o=>exact .mark (k _ _ e) o
 | two e hk _ _ i1 i2=>exact .two (k _ _ e) hk i1 i2
 | one e hk _ i1=>exact .one (k _ _ e) hk i1
theorem h_.same (s:fw H H') (h:h_ H a t):h_ H' a t:=h.keep λ b xs e=>s b _ e
theorem h_.step (s:Step H F H' F') (h:h_ H a t):h_ H' a t:=h.keep s.tup
theorem Tr.oJ (t:Tr):1<=t.deep:=by cases t<;>simp [Tr.deep]
inductive fR {α β:Type} (R:α->β->Prop):List α->List β->Prop
 | nil:fR R [] []
 | cons {a:α} {b:β} {as:List α} {bs:List β}:R a b->fR R as bs->fR R (a::as) (b::bs)
theorem fR.imp {α β:Type} {R S:α->β->Prop} (h:∀a b,R a b->S a b):∀{as:List α} {bs:List β},fR R as bs->fR S as bs
 | _,_,.nil=>.nil
 | _,_,.cons r t=>.cons (h _ _ r) (t.imp h)
theorem fR.snoc {α β:Type} {R:α->β->Prop} {a:α} {b:β} (r:R a b):∀{as:List α} {bs:List β},fR R as bs->fR R (as ++ [a]) (bs ++ [b])
 | _,_,.nil=>.cons r .nil
 | _,_,.cons r' t=>.cons r' (t.snoc r)
theorem fR.append {α β:Type} {R:α->β->Prop}:∀{as cs:List α} {bs ds:List β},fR R as bs->fR R cs ds->fR R (as++cs) (bs++ds)
 | _,_,_,_,.nil,h=>h
 | _,_,_,_,.cons r t,h=>.cons r (t.append h)
theorem fR.len {α β:Type} {R:α->β->Prop}:∀{as:List α} {bs:List β},fR R as bs->as.length=bs.length
 | _,_,.nil=>rfl
 | _,_,.cons _ t=>by simp [t.len]
theorem fR.get {α β:Type} {R:α->β->Prop}:∀{as:List α} {bs:List β} {i:Nat} {a:α} {b:β},fR R as bs->as[i]? = some a->bs[i]? = some b->R a b
 | _,_,0,_,_,.cons r _,h1,h2=>by
  simp at h1 h2
  rwa [<-h1,<-h2]
 | _,_,i+1,_,_,.cons _ t,h1,h2=>t.get (i:=i) (by simpa using h1) (by simpa using h2)
theorem fu {K:ai} {H:Hp} {a:ac} {xs:List V} {i:Int} {v:V} {Q:VK} (h:H a=some (.tup xs)) (e:vq xs i=some v) (q:Q v H):E7 K (.ref a) (.int i) H Q:=⟨a,xs,i,v,rfl,rfl,oV.of h,e,q⟩
theorem fN {K:ai} {H:Hp} {a:ac} {xs:List V} {i:Int} {v:V} {Q:VK} (h:H a=some (.lst xs)) (e:vq xs i=some v) (q:Q v H):MX K (.ref a) (.int i) H Q:=⟨a,xs,i,v,rfl,rfl,gg.of h,e,q⟩
def Tr.kids:Tr->List Tr
 | .mark _=> []
 | .two _ l r=> [l,r]
 | .one _ t=> [t]
def Tr.kind:Tr->List Nat
 | .mark _=>qR
 | .two k _ _=>k
 | .one k _=>k
theorem h_.kids (h:h_ H a tr):(∃m,tr = .mark m/\H a=Option.some (.tup (Hy m))/\J' m)\/
  (∃as:List ac,H a=Option.some (.tup (.str (tx tr.kind)::as.map V.ref))/\fR (h_ H) as tr.kids/\tr.kind∈vx++ones/\tr.kind≠qR/\as.length<=2/\1<=as.length):=by
 have ne:∀k∈vx++ones,k≠qR:=by decide
 cases h with
 | mark e o=>exact .inl ⟨_,rfl,e,o⟩
 | @two _ l r k _ _ e hk hl hr=>exact .inr ⟨[l,r],e,.cons hl (.cons hr .nil),aN _ hk,ne _ (aN _ hk),by simp,by simp⟩
 | @one _ i k _ e hk hi=>exact .inr ⟨[i],e,.cons hi .nil,aD _ hk,ne _ (aD _ hk),by simp,by simp⟩
theorem Tr.K8 {tr t:Tr} (h:t∈tr.kids):t.deep+1<=tr.deep:=by
 cases tr with
 | mark m=>cases h
 | two k l r=>
  simp only [Tr.kids,av,bb,or_false] at h;simp only [Tr.deep];rcases h with rfl|rfl<;>lia
 | one k x=>
  simp only [Tr.kids,av,bb,or_false] at h;simp only [Tr.deep];rw [h];exact Nat.le_refl _
theorem Cg (x:V) (xs:List V):sE (x::xs) (Option.some 1) none=xs:=by
 unfold sE
 have e1:HT.jW (x::xs).length 0 (Option.some 1)=1:=by
  simp [HT.jW]
 have e2:HT.jW (x::xs).length (x::xs).length none=(x::xs).length:=by
  simp [HT.jW]
 rw [e1,e2];simp
theorem OK (x:V) (xs:List V):¬(HT.jW (x::xs).length 0 (Option.some 1)=0/\HT.jW (x::xs).length (x::xs).length none=(x::xs).length):=by
 have e1:HT.jW (x::xs).length 0 (Option.some 1)=1:=by
  simp [HT.jW]
 rw [e1];simp
theorem fR.zip {α β:Type} {R:α->β->Prop}:∀{as:List α} {bs:List β},fR R as bs->∀c∈as.zip bs,R c.1 c.2
 | _,_,.nil,c,h=>nomatch h
 | _,_,.cons r t,c,h=>by
  rcases av.mp h with rfl|h
  .exact r
  .exact t.zip c h
theorem fR.rev {α β:Type} {R:α->β->Prop}:∀{as:List α} {bs:List β},fR R as bs->fR R as.reverse bs.reverse
 | _,_,.nil=>.nil
 | _,_,.cons r t=>by
  rw [cP,cP];exact t.rev.snoc r
theorem rO {α:Type} {l:List α} (h:l≠[]):∃l0 x,l=l0 ++ [x]:=by
 rcases List.eq_nil_or_concat l with e | ⟨l0,x,e⟩
 .exact absurd e h
 .exact⟨l0,x,by rw [e,List.concat_eq_append]⟩
theorem My {H H1:Hp} {st:ac} {xs:List V} {o:HO} (s:fw H H1) (e:H st=Option.some (.lst xs)):Step H [st] (upd H1 st o) [st]:=by
 refine⟨λ b u hb h=> ?_,λ b h=>.inl h,λ b ys h=> ?_⟩
 .rw [fo (λ z=>hb (by rw [z];exact aj.mpr rfl))];exact s _ _ h
 .rw [fo (λ z=>by rw [z,e] at h;cases h)];exact s _ _ h
end L2
namespace L2
open PySem PySem.Spec PyProof.Rows PySem.Builtin PySem.Builtin.Str
def JP (c:Nat):List Nat->Option Nat
 | []=>none
 | a::r=>if a=c then some 0 else (JP c r).map (· + 1)
section
variable {X:Cx}
def RS (c:Nat) (l:List Nat):List Nat×List Nat×List Nat:=match JP c l with|some j=>(l.take j,[c],l.drop (j+1))|none=>(l,[],[])
end
end L2
namespace L2
open PySem PySem.Spec PyProof.Rows
structure uk (m:j_):Prop where
 nm:m.nm = [95]\/(1<=m.nm.length/\m.nm.length<=12/\∀x∈m.nm,x∈F_)
 sg:m.sg∈[[],[60],[62],[61],[33]]
 num:m.num.natAbs<10 ^ 60
 i6:m.sg = []->m.num=0
theorem Eh (h:x∈F_):x<1114112:=by
 have:=QH.mp h;exact Zb this.2 (Zd rfl)
theorem uk.ok (h:uk m):J' m:=by
 refine⟨λ x hx=> ?_,λ x hx=> ?_⟩
 .rcases h.nm with e | ⟨_,_,e⟩
  .rw [e,aj] at hx;rw [hx]
   decide
  .exact Eh (e x hx)
 .have all:∀l∈[[],[60],[62],[61],[33]],∀x∈l,x<1114112:=by decide
  exact all _ h.sg x hx
inductive Pc where
 | sign (c:Nat)
 | mark (m:j_)
@[reducible] def aah:PyProof.Rows.KeyKind where
 α:=Int
 blt a b:=decide (a<b)
 irrefl a:=by simp
 trans a b c h1 h2:=by simp only [decide_eq_true_eq] at *;exact Ya h1 (Yl h2)
 negTrans a b c h:=by
  simp only [decide_eq_true_eq] at *;omega
 total a b h1 h2:=by simp only [decide_eq_false_iff_not] at *;exact Yq (Yi h2) (Yi h1)
 keyOf v:=match v with | .int x _=>some x|_=>none
 dflt:=0
section
variable {X:Cx}
end
structure RE (K:ai) (x qual:Str) (st:pc) (f:ac) (fd:ce):Prop where
 ex:∃(oc:bv) (od:Option ac) (dV kV doc pm:bv) (an:Option ac) (iw ct:bv) (RT:Array (Option bv)),
  fd=cb x qual (nr st) (ky st) (fC st) dV kV doc pm an iw ct/\K.lookup f=some ⟨oc,od,.func fd,RT⟩/\dY K iw qual=true
 kp:bU K (.ref f)=true
section
variable {P:im} {w:io} {K:ai} {mg:Str->Option bv} {base:Heap}
theorem RE.Hk {x qual:Str} {st:pc} {f:ac} {fd:ce} {N ps:List Str} {k:Nat} {sp:Sp} (F:RE K x qual st f fd) (S:fI N ps (fC st)) (zR:∀(iw:bv) (A:pi) (outer:List Env) (s:ci) (H:Hp) (vs:List V) (Q:VK) (E:XK),jc k (A.deeper (Ev qual (fC st) s.heap.objs.size f iw))->sp vs H Q E->
   ∃t,wK (Ag (ij P w) P w K mg base N qual (fC st) f iw A outer s H E) (ky st) t/\t {nx:=λ _ H'=>Q .i6 H',rt:=Q} (start N vs) H) (len:∀vs H Q E,sp vs H Q E->vs.length=ps.length:=by rintro _ _ _ _ ⟨⟩;subst_vars;rfl):fX P w K mg base (ij P w) (k+1) f fd ps sp:=by
 obtain⟨oc,od,dV,kV,doc,pm,an,iw,ct,RT,rfl,lk,HS⟩:=F.ex;exact Sg lk HS S len λ A outer s H vs Q E hr L1=>zR iw A outer s H vs Q E hr L1
end
structure Em (K:ai) (C:ac) (m qual:Str) (st:pc) (ps:List Str) (qT:List V) (f:ac) (fd:ce):Prop where
 at_:Meth K C m f
 fn:RE K m qual st f fd
 b:Binds K fd ps []
 bd:∃ds,Vals qT ds/\Binds K fd ps ds
section
variable {X:Cx} {P:im} {w:io} {k:Nat} {f C:ac} {fd:ce} {ps:List Str} {sp:Sp} {E:XK} {m qual:Str} {st:pc} {apos pos:Pos} {e o:li} {es:List li} {ta:TE} {t:TA} {qT:List V}
theorem Tj (he:PE X o ta) (c:Ew X.K C) (D:Em X.K C m qual st ps qT f fd) (F:fX X.prog X.w X.K X.mg X.base (ij P w) k f fd ps sp) (hr:jc k X.A) (hx:Passes (ij P w) X E) (ha:PA X (e::es) t)
  (nQ:db (e::es) X.env=(false,jp e X.env)::db es X.env:=by rfl) (uu:(ul pos (db es X.env)).any (·.1)=false:=by rfl)
  (ht:jp (.Call (.Attribute o m apos) (e::es) [] pos) X.env=(do
   let ov <-jp o X.env
   IN apos.atName
   let (f,first) <-xz [ov] (NE ov m pl)
   Yu pos f first (ul pos (db (e::es) X.env)) (EQ pos (wv [] X.env))):=by rfl) :
  PE X (.Call (.Attribute o m apos) (e::es) [] pos) (sI C m sp [] E ta t):=Jm he c D.at_ F hr D.b .nil hx ha nQ uu ht
theorem Rp (he:Bx (PE X o ta)) (c:Ew X.K C) (D:Em X.K C m qual st ps qT f fd) (F:fX X.prog X.w X.K X.mg X.base (ij P w) k f fd ps sp) (hr:jc k X.A) (hx:Passes (ij P w) X E) (ha:Bx (PA X (e::es) t))
  (nQ:db (e::es) X.env=(false,jp e X.env)::db es X.env:=by rfl) (uu:(ul pos (db es X.env)).any (·.1)=false:=by rfl)
  (ht:jp (.Call (.Attribute o m apos) (e::es) [] pos) X.env=(do
   let ov <-jp o X.env
   IN apos.atName
   let (f,first) <-xz [ov] (NE ov m pl)
   Yu pos f first (ul pos (db (e::es) X.env)) (EQ pos (wv [] X.env))):=by rfl) :
  Bx (PE X (.Call (.Attribute o m apos) (e::es) [] pos) (sI C m sp [] E ta t)):=⟨Tj he.un c D F hr hx ha.un nQ uu ht⟩
end
def WA.Iw (A:WA) (s n e:Nm) (w:Int):Except Rf WA:=
 if s∉A.names\/e∉A.names then .error .DC else if pZ n=false then .error .noName else if 10 ^ 60<=w.natAbs then .error .Fo else if 400<=A.fL.length then .error .full
 else .ok {A with fL:=A.fL ++ [(A.next,⟨s,n,e,w⟩)],next:=A.next+1}
def WA.Ii (A:WA) (k:Int):Except Rf WA:=
 if k∉A.fL.map (·.1) then .error .RV else .ok {A with fL:=A.fL.filter λ x=>decide (x.1≠k)}
theorem Kz (v1 v2 v3 v4:V):ou "coming_number" v4 ([("kept_values",v1),("kept_ties",v2),("coming_number",v3)]:List (Str×V))=([("kept_values",v1),("kept_ties",v2),("coming_number",v4)]:List (Str×V)):=by
 unfold ou;rw [if_neg (by decide)];unfold ou;rw [if_neg (by decide)];unfold ou;rw [if_pos rfl]
theorem gk.Ø (w:gk C H p W) (ha:H a=none) (hl:W.next∉W.fL.map (·.1)) (hf:W.fL.length<400) :
  gk C (upd (upd (upd H a (.tup (xN t))) W.dt (.dK (putK (fU W.fL) (.inl W.next) (.ref a)))) p (.ins C W.dx [("kept_values",.ref W.dv),("kept_ties",.ref W.dt),("coming_number",.int (W.next+1))])) p {W with fL:=W.fL ++ [(W.next,a,t)],next:=W.next+1}/\
  Step H (W.own p) (upd (upd (upd H a (.tup (xN t))) W.dt (.dK (putK (fU W.fL) (.inl W.next) (.ref a)))) p (.ins C W.dx [("kept_values",.ref W.dv),("kept_ties",.ref W.dt),("coming_number",.int (W.next+1))])) (WS.own {W with fL:=W.fL ++ [(W.next,a,t)],next:=W.next+1} p):=by
 have UW:putK (fU W.fL) (.inl W.next) (.ref a)=fU (W.fL ++ [(W.next,a,t)]):=by
  rw [mB]
  .unfold fU;rw [ax];rfl
  .rw [nX,find_none.mpr hl];rfl
 rw [UW]
 have uL:∀b o,b≠p->b≠W.dt->H b=some o->upd (upd (upd H a (.tup (xN t))) W.dt (.dK (fU (W.fL ++ [(W.next,a,t)])))) p (.ins C W.dx [("kept_values",.ref W.dv),("kept_ties",.ref W.dt),("coming_number",.int (W.next+1))]) b=some o:=λ b o h1 h2 e=>by
  rwa [fo h1,fo h2,fo (fA e ha)]
 have hap:a≠p:=(fA w.obj ha).symm;have UE:a≠W.dt:=(fA w.fZ ha).symm;have IJ:∀b xs,H b=some (.tup xs)->b≠p/\b≠W.dt:=λ b xs e=>⟨gA e w.obj (by intro z;cases z),gA e w.fZ (by intro z;cases z)⟩
 refine⟨⟨e_,uL _ _ w.é w.Rg w.val,by rw [fo w.ZE,e_],λ x hx=>uL _ _ (gA (w.each x hx) w.obj (by intro z;cases z)) (w.dtx hx) (w.each x hx),λ x hx=> ?_,w.nd,w.names,?_,w.jr,by simp only [ao,aG,aW];lia⟩,
  ⟨λ b o hb e=>uL b o (λ z=>hb (by simp [WS.own,z])) (λ z=>hb (by simp [WS.own,z])) e,λ b hb=>.inl hb,λ b xs e=>uL b _ (IJ b xs e).1 (IJ b xs e).2 e⟩⟩
 .rcases aA.mp hx with h|h
  .exact uL _ _ (IJ _ _ (w.iM x h)).1 (IJ _ _ (w.iM x h)).2 (w.iM x h)
  .rw [aj.mp h];show upd (upd (upd H a _) W.dt _) p _ a=_;rw [fo hap,fo UE,e_]
 .show ((W.fL ++ [(W.next,a,t)]).map (λ x:Int×ac×jQ=>x.1)).Nodup;rw [ax];exact yk w.nums hl
theorem gk.cut (w:gk C H p W) :
  gk C (upd H W.dt (.dK (oI (fU W.fL) (.inl n)))) p {W with fL:=W.fL.filter λ x=>decide (x.1≠n)}/\
  Step H (W.own p) (upd H W.dt (.dK (oI (fU W.fL) (.inl n)))) (WS.own {W with fL:=W.fL.filter λ x=>decide (x.1≠n)} p):=by
 rw [zX]
 have uL:∀b o,b≠W.dt->H b=some o->upd H W.dt (.dK (fU (W.fL.filter λ x=>decide (x.1≠n)))) b=some o:=λ b o hb e=>by
  rwa [fo hb]
 have sub:∀x∈W.fL.filter (λ x=>decide (x.1≠n)),x∈W.fL:=λ x hx=>(bF.mp hx).1
 refine⟨⟨uL _ _ w.ZE.symm w.obj,uL _ _ w.Rg w.val,e_,λ x hx=>uL _ _ (w.dtx hx) (w.each x hx),λ x hx=>uL _ _ (gA (w.iM x (sub x hx)) w.fZ (by intro z;cases z)) (w.iM x (sub x hx)),w.nd,w.names,?_,w.jr,bj (bG _ _) w.Ot⟩,
  ⟨λ b o hb e=>uL b o (λ z=>hb (by simp [WS.own,z])) e,λ b hb=>.inl hb,λ b xs e=>uL b _ (gA e w.fZ (by intro z;cases z)) e⟩⟩
 exact List.Sublist.nodup (List.Sublist.map _ de) w.nums
section
variable {X:Cx} {y:Str} {py:Pos} {elt iter:li} {ifs:List li} {scope:FS} {pos:Pos} {N:List Str} {fr:List Nat} {tt:TT} {te Km:TE}
theorem M3 (hN:X.N.Nodup) (DQ:X.N[i]? = some z) (hz:Loc X.env.scope z) (hc:X.calm=true) (S:qp scope X.env.scope y N X.N fr) (hi:PE X iter te)
  (ht:∀cl C iY jR ex,EB (X.xB scope cl C N iY jR ex) ifs tt) (he:∀cl C iY jR ex,PE (X.xB scope cl C N iY jR ex) elt Km)
  (N7:ww (.ListComp elt [⟨.Name y py,iter,ifs,0⟩] scope pos) (some (.Name z pz)) yG.line X.env=pure true:=by rfl)
  (hs:∀v,nw iter X.env v=pure v:=by intro _;rfl) (hf:X.fn z=true\/X.env.scope.names.lookup z=some .local:=by first|exact .inl rfl|exact .inr rfl|assumption) :
  PS X (.Assign [.Name z pz] (.ListComp elt [⟨.Name y py,iter,ifs,0⟩] scope pos) yG) (xO (vy X te fr tt Km) (nj i)):=λ pins s σ H D I h=>
 gZ (Ji hN DQ hz hc S (Dq hi) ht he N7 hs hf pins s σ H (CV X D) I h) λ f s' q=>q.EI
theorem LD (hN:X.N.Nodup) (DQ:X.N[i]? = some z) (hz:Loc X.env.scope z) (hc:X.calm=true) (S:qp scope X.env.scope y N X.N fr) (hi:Bx (PE X iter te))
  (ht:∀cl C iY jR ex,Bx (EB (X.xB scope cl C N iY jR ex) ifs tt)) (he:∀cl C iY jR ex,Bx (PE (X.xB scope cl C N iY jR ex) elt Km))
  (N7:ww (.ListComp elt [⟨.Name y py,iter,ifs,0⟩] scope pos) (some (.Name z pz)) yG.line X.env=pure true:=by rfl)
  (hs:∀v,nw iter X.env v=pure v:=by intro _;rfl) (hf:X.fn z=true\/X.env.scope.names.lookup z=some .local:=by first|exact .inl rfl|exact .inr rfl|assumption) :
  Bx (PS X (.Assign [.Name z pz] (.ListComp elt [⟨.Name y py,iter,ifs,0⟩] scope pos) yG) (xO (vy X te fr tt Km) (nj i))):=⟨M3 hN DQ hz hc S hi.un (λ y0 y1 y2 y3 y4=>(ht y0 y1 y2 y3 y4).un) (λ y0 y1 y2 y3 y4=>(he y0 y1 y2 y3 y4).un) N7 hs hf⟩
end
theorem mE {α:Type} [DecidableEq α]:∀(l b:List α),l.Nodup->(∀x∈l,x∈b)->l.length<=b.length
 | [],_,_,_=>aQ _
 | x::l,b,hn,hs=>by
  obtain⟨h1,h2⟩:=aZ.mp hn;have hb:=hs x aY
  have:=mE l (b.erase x) h2 λ y hy=>by
   have ne:y≠x:=λ z=>h1 (by rwa [<-z]);exact(c7 ne).mpr (hs y (ay _ hy))
  rw [List.length_erase_of_mem hb] at this;have hp:0<b.length:=List.length_pos_of_mem hb;rw [aG];lia
end L2
namespace L2
open PySem PySem.Spec PyProof.Rows PySem.W
end L2
namespace L2
open PySem PySem.Spec PyProof.Rows
section
variable {X:Cx} {pins:List (ac×Obj)} {σ:List (Option V)} {H H':Hp} {s:ci} {h':Heap}
theorem Inv.Ą (I:Inv X pins σ H s) (k:∀b u,s.heap.get? b=some u->h'.get? b=some u) (ext:∀b,b<s.heap.objs.size->H' b=H b)
  (new:∀a o,H' a=some o->s.heap.objs.size<=a->iz X.prog X.w H' h' a o):Inv X pins σ H' {s with heap:=h',toks:=t'}:=by
 have low:∀b o,H b=some o->H' b=some o:=λ b o e=>by rwa [ext b (I.gG b o e).lt]
 refine I.un ⟨λ b u q _ _ _=>k b u q,λ b u q _ _ _=>⟨u.slots,k b u q⟩,λ b u q n _=>by rwa [ext b (aH q)],λ b u q _=>⟨u,k b u q⟩,λ b xs q=>low b _ q,λ b u xs q=>low b _ q,λ b ps q=>⟨#[],by rw [low b _ q];simp⟩⟩ λ a o e=> ?_;by_cases ha:a<s.heap.objs.size
 .rw [ext a ha] at e;exact(I.gG a o e).sy (λ c v _ q=>k c v q) (λ c q=>low c _ q) λ c xs q=>low c _ q
 .exact new a o e (eQ ha)
end
def zB (H:Hp):List ac->List (Nm×Int)->Hp
 | a::as,y::m=>upd (zB H as m) a (.tup [.str (tx y.1),.int y.2])
 | _,_=>H
theorem uR:∀(as:List ac) (m:List (Nm×Int)),b∉as->zB H as m b=H b
 | [],_,_=>by unfold zB;rfl
 | _::_,[],_=>by unfold zB;rfl
 | a::as,y::m,h=>by
  unfold zB;rw [fo (λ z=>h (by rw [z];exact aY))];exact uR as m λ z=>h (ay _ z)
theorem DH:∀(as:List ac) (m:List (Nm×Int)) (i:Nat) (a:ac) (y:Nm×Int),as.Nodup->as[i]? = some a->m[i]? = some y->zB H as m a=some (.tup [.str (tx y.1),.int y.2])
 | [],_,_,_,_,_,h,_=>by cases h
 | _::_,[],_,_,_,_,_,h=>by cases h
 | b::as,z::m,0,a,y,_,h1,h2=>by
  cases h1
  cases h2;unfold zB;exact e_
 | b::as,z::m,i+1,a,y,nd,h1,h2=>by
  obtain⟨n1,n2⟩:=aZ.mp nd;unfold zB;rw [fo (λ e=>n1 (by rw [<-e];exact aq (show as[i]? = some a from h1)))];exact DH as m i a y n2 h1 h2
theorem K6:∀(as:List ac) (m:List (Nm×Int)),as.length=m.length->as.Nodup->b∈as->zB H as m b=some o->∃(i:Nat) (y:Nm×Int),as[i]? = some b/\m[i]? = some y/\o = .tup [.str (tx y.1),.int y.2]:=by
 intro as m hl nd hb e;obtain⟨i,hi⟩:=aL.mp hb
 have lt:i<m.length:=by
  rw [<-hl];exact(ag.mp hi).1
 refine⟨i,m[i],hi,by simp,?_⟩;have:=DH (H:=H) as m i b m[i] nd hi (by simp);rw [this] at e
 cases e;rfl
section
variable {prog:im} {w:io} {A:pi} {E:bv->ci->Prop} {z:ci}
def Jo (y:Nm×Int) (t u:Tok):Obj:= {cls:=.type "tuple",data:=.seq #[.str (tx y.1) t,.int y.2 u]}
end
theorem WY (r:KV kvs vs):∀{i:Nat} {p:Key×V} {q:Key×bv},kvs[i]? = some p->vs[i]? = some q->p.1=q.1/\RelV p.2 q.2:=by
 unfold KV at r
 induction r with
 | nil=>intro i p q h;cases h
 | @cons p0 q0 ps qs h t ih=>
  intro i p q h1 h2
  cases i with
  | zero=>
   cases h1
   cases h2;exact h
  | succ i=>exact ih h1 h2
section
variable {X:Cx}
end
section
variable {X:Cx}
end
theorem Rr {X:Cx} (K:ai) {o e:li} {es:List li} {to:TE} {t:TA} {name:Str} {apos gY:Pos} {T id:String} {r:V->List V->Hp->VK->Prop} (pa:Jac T) (slot:Slot T name id) (QM:JaG (.builtin id)=pure (.type "method_descriptor")) (hm:V3 X id r) (ho:Bx (PE X o to)) (ha:Bx (PA X (e::es) t))
  (hK:X.K=K:=by rfl) (oF:sw o name X.env (jp o X.env)=jp o X.env:=by rfl)
  (Oc:((ul gY (db (e::es) X.env)).all (λ x=> !x.1)&&(EQ gY (wv [] X.env)).all (λ x=>x.1.isSome)&&decide ((e::es).length+([]:List UF).length+(if ([]:List UF).isEmpty then 0 else 1)<30))=true:=by rfl)
  (oE:(apos.endLine==gY.line)=true:=by rfl) (hs:db (e::es) X.env=(false,jp e X.env)::db es X.env:=by rfl) (zN:(ul gY (db es X.env)).any (·.1)=false:=by rfl) :
  Bx (PE X (.Call (.Attribute o name apos) (e::es) [] gY) (Wb K T r to t)):=hK▸⟨RQ pa slot QM hm ho.un ha.un oF Oc oE hs zN⟩
structure nU (H:Hp) (r:ac) (rs:List (Int×ac×jQ)):Prop where
 at_:H r=some (.dK (fU rs))
 iM:∀x∈rs,H x.2.1=some (.tup (xN x.2.2))
def plain (rs:List (Int×ac×jQ)):List (Int×jQ):=rs.map λ x=>(x.1,x.2.2)
structure So (x:jQ):Prop where
 s:NA x.start
 n:NA x.name
 e:NA x.stop
theorem zi (rs:List (Int×ac×jQ)):(plain rs).map (·.1)=rs.map (·.1):=by
 unfold plain;rw [aR];rfl
theorem nU.same (h:nU H r rs) (s:fw H H'):nU H' r rs:=⟨s _ _ h.at_,λ x hx=>s _ _ (h.iM x hx)⟩
theorem MO (hl:c∉rs.map (·.1)):putK (fU rs) (.inl c) (.ref p)=fU (rs ++ [(c,p,x)]):=by
 rw [mB]
 .unfold fU;rw [ax];rfl
 .rw [nX,find_none.mpr hl];rfl
end L2
namespace L2
open PySem
theorem fV {A B:Prop} {c:Prop} [Decidable c] (h1:c->A) (h2:¬c->B):if c then A else B:=by
 by_cases h:c
 .rw [if_pos h];exact h1 h
 .rw [if_neg h];exact h2 h
theorem Ci {K:ai} {H1:Hp} {r:ac} {js:List Int} {fr:List Nat} {σ:St} {te:TE} {Q:VK} (h:gg K H1 r (js.map V.int)) (hj:∀j∈js,0<=j/\j<26) (hl:js.length<=100)
  (he:∀j H2 Q2,S0 (.str (tx F_)) (.int j) H2 Q2->te (kN (.int j) fr σ) H2 Q2)
  (hQ:∀D H2,H1 D=none->fw H1 H2->gg K H2 D ((js.map λ j=> [uQ j]).map λ l=>V.str (tx l))->Q (.ref D) H2):vn (Sv K r) H1 fr σ C0 te Q:=by
 refine comp_map (gT h) (λ j=>.str (tx [uQ j])) (f_ (Zc hl (Zd rfl))) (λ j H2 Q2 hm s k=>he j H2 Q2 ?_) λ D H2 hD s d=>hQ D H2 hD s (gg.of (by rwa [aR]));obtain⟨h0,h1⟩:=hj j hm;refine Jh (by decide) h0 (by show j<26;exact h1) λ c hc=> ?_;have e:=NQ j;rw [show j%26=j by lia] at e;rw [e] at hc
 cases hc;exact k _ (fw.refl _)
theorem Bk (js:List Int):(js.map λ j=> [uQ j]).flatten=js.map uQ:=by
 induction js with
 | nil=>rfl
 | cons j r ih=>simp [ih]
theorem ED (js:List Int):((js.map λ j=> [uQ j]).map List.length).sum=js.length:=by
 induction js with
 | nil=>rfl
 | cons j r ih=>
  simp only [aB,cj,aG,aW] at ih⊢;lia
theorem EE (js:List Int):∀x∈js.map uQ,x∈F_:=λ x hx=>by
 obtain⟨j,_,rfl⟩:=aC.mp hx;exact aq (NQ j)
theorem rY {n:Nat} {i:Int} (h0:0<=i) (h1:i<n):N1 n i=some i.toNat:=by
 unfold N1;rw [if_pos h0,if_pos h1]
end L2
namespace L2
open PySem PySem.Spec PyProof.Rows
section
variable {X:Cx}
end
theorem DF:Jat (.type "list") "keys" = pure none:=am_miss_of_fast (by kernel_rfl)
theorem DG:Jat (.type "list") "__getattr__" = pure none:=am_miss_of_fast (by kernel_rfl)
section
variable {prog:im} {w:io} {A:pi} {E:bv->ci->Prop}
theorem zA (hx:s.heap.get? a=some ⟨.type "list",none,.seq its n,sl⟩) (hA:A.handled=none)
  (hs:∀h' tk e,Heap.NewAttrErr s.heap h' e (.ref a) "keys"->E (.ref e) {s with heap:=h',toks:=tk}) :
  gc (ga prog w) A (zn.«object.__getattribute__» ⟨[.ref a,.str "keys" u],[]⟩) Q E s:=by
 have miss:=DF;obtain⟨hp,g,d,tk,os⟩:=s;have hT:(Shared.mk hp g d tk os).TypeIs (.ref a) "list" := ⟨_,hx,rfl⟩
 unfold zn.«object.__getattribute__»
 repeat (any_goals (first|assumption|wp_step))
 exact wpAny_raiseAttrError hA hs (attrMsg_fits (by decide +kernel) (by decide))
theorem zz (hx:s.heap.get? a=some ⟨.type "list",none,.seq its n,sl⟩) (hA:A.handled=none)
  (h:∀h' tk,(∀b ob,s.heap.get? b=some ob->h'.get? b=some ob)->Q none {s with heap:=h',toks:=tk}) :
  gc (ga prog w) A (getAttr? (.ref a) "keys") Q E s:=by
 obtain⟨hp,g,d,tk,os⟩:=s;have hT:∀t',(Shared.mk hp g d t' os).TypeIs (.ref a) "list" := λ _=>⟨_,hx,rfl⟩
 have f1:=sub_AttributeError;have f3:=F.slot_list_getattribute.lookup;have f4:=F.slot_list_getattribute.bind (.ref a);have f5:=DG;unfold getAttr? getAttrBy? getAttrBy
 repeat (any_goals (first|assumption|((with_reducible show gc _ _ (call (Value.builtin "list.__getattribute__") _ _) _ _ _);refine wf F.slot_list_getattribute (hT _) F.entry_list_ga (zA (s:=⟨hp,g,d,_,os⟩) hx hA λ h' tk' e he=> ?_) (F.args_list_getattribute_2 _ _))|wp_step))
 obtain⟨t',u',hee⟩:=he.there
 repeat (any_goals (first|assumption|wp_step))
 exact h h' _ he.keeps
theorem zV:JaW table "dict.update.loop" = some zn.«dict.update.loop» := entryFor_of_tree (by kernel_rfl)
theorem zh:plainId "dict.update.loop" = true:=by decide +kernel
theorem wg {K:Type} [DecidableEq K] {kvs:List (K×bv)} {k:K} {v:bv}:(Jau kvs k v).length<=kvs.length+1:=by
 unfold Jau
 split<;>simp
theorem zj {K:Type} [DecidableEq K] {knd:KeyKind prog w K} {d it l:ac} {us:List bv} {r:bv} {A:pi} (hA:A.handled=none) {E:bv->ci->Prop} {Q:bv->ci->Prop} (hd:d≠it) (hl:l≠it) (JH:d≠l) :
  ∀(ps:List (K×bv×bv)) (i:Nat) (j:Int) (kvs:List (K×bv)) (s:ci),us.length=i+ps.length->s.heap.IsListIter it l i->s.heap.IsList l us.toArray->s.heap.DictOf knd d kvs->kvs.length+ps.length<=1000->
  (∀(m:Nat) (p:K×bv×bv),ps[m]? = some p->knd.is p.1 p.2.1=true/\∃c:ac,us[i+m]? = some (.ref c)/\c≠d/\c≠it/\s.heap.IsTuple c #[p.2.1,p.2.2])->
  (∀h' tk,h'.DictOf knd d (merged kvs (ps.map λ p=>(p.1,p.2.2)))->(∀b ob,b≠d->b≠it->s.heap.get? b=some ob->h'.get? b=some ob)->Q r {s with heap:=h',toks:=tk})->
  AT (ga prog w) A (.builtin "dict.update.loop" ⟨[.ref d,.ref it,.int j 0,r],[]⟩) (wants Q E) s
 | [],i,j,kvs,s,hn,hi,hL,hD,hz,hp,k=>by
  refine wT zV ?_;rw [Around.under_plainId zh _];unfold zn.«dict.update.loop»;dsimp only;refine bi (JaO hA hi hL (by rw [cT];exact bA (by simp only [aW] at hn;lia)) λ h' ex=> ?_);refine bi (cr (cr (k h' s.toks ?_ λ b ob _ hb e=>ex b ob hb e)));exact hD.extBut ex hd
 | p::ps,i,j,kvs,s,hn,hi,hL,hD,hz,hp,k=>by
  obtain⟨hk,c,hc,c1,c2,hT⟩:=hp 0 p rfl;refine wT zV ?_;rw [Around.under_plainId zh _];unfold zn.«dict.update.loop»;dsimp only;refine bi (JaE hi hL (x:=.ref c) (by rw [cT];simpa using hc) λ h' DQ sb=> ?_);dsimp only;obtain⟨oc,ZV,Z4,nc,hdc⟩:=hT;have Xl:h'.get? c=some oc:=(sb.2 c c2).trans ZV;obtain⟨sh,sg,sd,st,so⟩:=s;have hTc:(Shared.mk h' sg sd st so).TypeIs (.ref c) "tuple" := ⟨oc,Xl,Z4⟩
  refine bi (u8 (bi ?_));refine wpAny_tryCatch ?_;unfold Builtin.Dict.pairItems;refine bi (Yz hTc ?_);rw [if_pos (by decide)];refine bi (Jar Xl hdc ?_);refine cr ?_;refine u8 ?_;have hD':(Shared.mk h' sg sd st so).heap.DictOf knd d kvs:=hD.sameBut sb hd;refine wpAny_dictSet_pairs hk hD' (λ h2 FI RK=> ?_) (by have:=No;simp only [aG] at hz;exact Zc Zk (Zc hz (Zc (Zd rfl) (Zg this))));refine cr ⟨Code.quiet_builtin _ (by decide +kernel),?_⟩;have all:∀b ob,b≠d->b≠it->sh.get? b=some ob->h2.get? b=some ob:=λ b ob hb QV e=>(RK.2 b hb).trans ((sb.2 b QV).trans e);have sz:(Jau kvs p.1 p.2.2).length<=kvs.length+1:=wg;refine zj (us:=us) hA hd hl JH ps (i+1) (j+1) (Jau kvs p.1 p.2.2) ⟨h2,sg,sd,st+1,so⟩ (by simp only [aG] at hn;lia) (DQ.at λ o e=>(RK.2 it hd.symm).trans e) ?_ FI (by simp only [aG] at hz;lia) ?_ ?_
  .obtain⟨ol,e1,e2⟩:=hL;exact⟨ol,all l ol JH.symm hl e1,e2⟩
  .intro m q hq;obtain⟨k1,c',k2,k3,k4,ź,k5,k6⟩:=hp (m+1) q hq;exact⟨k1,c',by rw [<-k2,cX,Nat.add_comm 1 m],k3,k4,ź,all c' ź k3 k4 k5,k6⟩
  .intro h3 tk hD3 V0;exact k h3 tk hD3 λ b ob hb QV e=>V0 b ob hb QV (all b ob hb QV e)
theorem Bb {K:Type} [DecidableEq K] {knd:KeyKind prog w K} {l:ac} {us:List bv} {n:Nat} {sl:Array (Option bv)} {s:ci} {Q:bv->ci->Prop} (hA:A.handled=none) (hx:s.heap.get? l=some ⟨.type "list",none,.seq us.toArray n,sl⟩)
  (ps:List (K×bv×bv)) (hn:us.length=ps.length) (hz:ps.length<=1000)
  (hp:∀(m:Nat) (p:K×bv×bv),ps[m]? = some p->knd.is p.1 p.2.1=true/\∃c:ac,us[m]? = some (.ref c)/\s.heap.IsTuple c #[p.2.1,p.2.2])
  (k:∀h' tk,h'.DictOf knd s.heap.objs.size (merged [] (ps.map λ p=>(p.1,p.2.2)))->(∀b ob,s.heap.get? b=some ob->h'.get? b=some ob)->Q (.ref s.heap.objs.size) {s with heap:=h',toks:=tk}) :
  gc (ga prog w) A (call (.type "dict") [.ref l]) Q E s:=by
 have new:(s.heap.push {cls:=.type "dict",data:=.dict #[]}).DictOf knd s.heap.objs.size []:=Heap.DictOf.new s.heap
 refine callType_codes (T:="dict") (args:= [.ref l]) (Q₁:=λ o j4=>o = .ref s.heap.objs.size/\j4 = {s with heap:=s.heap.push {cls:=.type "dict",data:=.dict #[]}})
  F.kt_called_dict (F.kt_typeCall_dict_1 _) F.entry_dict_init (kt_code_dict_new (.ref l) ⟨rfl,rfl⟩) ?_
 rintro o s1 ⟨rfl,rfl⟩;refine⟨new.typeIs,F.args_dict_init_2 _ _,?_⟩;have lt:l<s.heap.objs.size:=aH hx;have rZ:=ah (h:=s.heap) {cls:=.type "dict",data:=.dict #[]} hx;generalize hg:s.heap.push {cls:=.type "dict",data:=.dict #[]}=G at new rZ;have kG:∀b ob,s.heap.get? b=some ob->G.get? b=some ob:=λ b ob e=>by rw [<-hg];exact ah _ e
 unfold zn.«dict.__init__»;refine bi ?_;unfold Builtin.Dict.selfAndRest;refine bi (wpAny_notOrdered_dict (s:= {s with heap:=G}) new.typeIs (cr ?_));show gc _ _ (Builtin.Dict.updateFrom "dict.__init__" s.heap.objs.size (.ref l) [] .none) _ _ _;unfold Builtin.Dict.updateFrom;refine bi (Yz (T:="list") ⟨_,rZ,rfl⟩ ?_);rw [if_pos (by decide)];refine bi (zz (s:= {s with heap:=G}) rZ ?_ λ h2 SI k2=> ?_)
 .exact hA
 dsimp only;rw [if_pos (show (none:Option bv).isNone=true from rfl)];have sV:=k2 _ _ rZ;refine bi (YB (bi (Wp (items:=us.toArray) ⟨_,sV,rfl,_,rfl⟩ (cr ⟨Code.quiet_builtin _ (by decide +kernel),?_⟩))));obtain⟨dO,d1,d2,d3,d4⟩:=new;have dlt:s.heap.objs.size<h2.objs.size:=aH (k2 _ _ d3);have k3:∀b ob,s.heap.get? b=some ob->(h2.push {cls:=.type "list_iterator",data:=.fields #[.ref l,.int 0 0]}).get? b=some ob:=λ b ob e=>ah _ (k2 _ _ (kG b ob e));refine zj (us:=us) (A:=A.in1) hA (aO dlt) (aO (aH sV)) (dh lt) ps 0 0 [] _ (by lia) ⟨_,aK _ rfl,rfl,rfl⟩ ⟨_,k3 _ _ hx,rfl,_,rfl⟩ ⟨dO,d1,d2,ah _ (k2 _ _ d3),d4⟩ (by simpa using hz) ?_ ?_
 .intro m p hm;obtain⟨q1,c,q2,oc,q3,q4⟩:=hp m p hm;exact⟨q1,c,by rwa [eG],aO (aH q3),aO (aH (k2 _ _ (kG _ _ q3))),oc,k3 _ _ q3,q4⟩
 .intro h' tk hD al;exact⟨rfl,k h' tk hD λ b ob e=>al b ob (aO (aH e)) (aO (aH (k2 _ _ (kG _ _ e)))) (k3 b ob e)⟩
end
section
variable {X:Cx}
def G1 (K:ai):List V->Hp->VK->Prop:=λ xs H Q=>∃(l:ac) (ps:List (ac×Key×V)),xs = [.ref l]/\H l=some (.lst (ps.map λ x=>.ref x.1))/\(∀x∈ps,H x.1=some (.tup [kV x.2.1,x.2.2]))/\ps.length<=1000/\∀d,H d=none->Q (.ref d) (upd H d (.dK (pC [] (ps.map (·.2)))))
theorem x9 (hc:X.calm=true):kL X (.type "dict") (G1 X.K):=by
 rintro pins s σ H xs us Q I r ⟨l,ps,rfl,hl,hp,hz,q⟩;obtain⟨u,rfl,ru⟩:=r.one
 cases ru;obtain⟨η,its,n,rv,hn,e⟩:=I.zy hl
 have tup:∀x∈ps,∃a b:bv,RelV (kV x.2.1) a/\RelV x.2.2 b/\s.heap.IsTuple x.1 #[a,b]:=λ x hx=>by
  obtain⟨ts,r2,p2,_⟩:=I.tuple (oV.of (hp x hx));obtain⟨a,b,rfl,ra,rb⟩:=r2.two;exact⟨a,b,ra,rb,p2⟩
 have pick:∃qs:List (Key×bv×bv),fR (λ (x:ac×Key×V) (y:Key×bv×bv)=>y.1=x.2.1/\RelV (kV x.2.1) y.2.1/\RelV x.2.2 y.2.2/\s.heap.IsTuple x.1 #[y.2.1,y.2.2]) ps qs:=by
  clear rv hn e hl hz q hp η
  induction ps with
  | nil=>exact⟨[],.nil⟩
  | cons x r ih=>
   obtain⟨a,b,h1,h2,h3⟩:=tup x (by simp);obtain⟨qs,hq⟩:=ih λ y hy=>tup y (ay _ hy);exact⟨(x.2.1,a,b)::qs,.cons ⟨rfl,h1,h2,h3⟩ hq⟩
 obtain⟨qs,hq⟩:=pick;have ql:=hq.len
 have Uu:its.length=ps.length:=by
  rw [ae] at hn;exact hn.symm
 refine Bb (knd:=gL X.prog X.w) (I.ok.hd hc) e qs (Uu.trans ql) (Zc (Zg ql) hz) (λ m p hm=> ?_) λ h' tk hD kp=> ?_
 .have lt:m<ps.length:=by
   rw [ql];exact(ag.mp hm).1
  obtain⟨e1,e2,e3,e4⟩:=hq.get (show ps[m]? = some ps[m] by simp) hm;refine⟨by rw [e1];exact uU e2,ps[m].1,?_,e4⟩;obtain⟨u,hu,ru⟩:=rv.get (show (ps.map λ x=>V.ref x.1)[m]? = some (.ref ps[m].1) by simp [lt]);rw [hu,show u=Value.ref ps[m].1 from ru]
 .have kv:KV (ps.map (·.2)) (qs.map λ p=>(p.1,p.2.2)):=by
   clear hD rv hn e hl hz q hp tup Uu ql η
   induction hq with
   | nil=>exact .nil
   | cons h t ih=>exact .cons ⟨h.1.symm,h.2.2.1⟩ ih
  refine⟨.ref s.heap.objs.size,_,I.laid (a:=s.heap.objs.size) (o:=.dK (pC [] (ps.map (·.2)))) (t':=tk) kp (az _) (DY ?_ (beq_eq_false_iff_ne.mpr (Ne.symm (aO I.big))) (kv.merge .nil) hD),rfl,q _ (I.gG.fresh (az _))⟩;have h1:=sT (ps.map (·.2)) [];rw [aW,ae] at h1;exact f_ (by lia)
end
theorem w_:∀(more kvs:List (Key×V)),((kvs++more).map (·.1)).Nodup->pC kvs more=kvs++more
 | [],kvs,_=>by simp [pC]
 | p::r,kvs,h=>by
  have hp:putK kvs p.1 p.2=kvs ++ [p]:=by
   unfold putK;rw [if_neg];intro z;obtain⟨x,hx,e⟩:=bL.mp z;rw [ax,bN] at h;exact h.2.2 x.1 (aC.mpr ⟨x,hx,rfl⟩) p.1 (by simp) (of_decide_eq_true e)
  show pC (putK kvs p.1 p.2) r=_;rw [hp,w_ r (kvs ++ [p]) (by rwa [bt]),bt];rfl
theorem Ft (h:(kvs.map (·.1)).Nodup):pC [] kvs=kvs:=w_ kvs [] h
theorem DU (Xe:∀R:VK,R (.ref d) H->te σ H R) (hd:H d=some (.dK kvs)) (Pv:Nat->St->Hp->Prop) (h0:∀ob,Pv 0 σ (upd H d (.sW ob (.dK kvs))))
  (hs:∀(i:Nat) (k:Key) (σ:St) (H2:Hp) (N:St->Hp->Prop) (R:V->Hp->Prop) (B:St->Hp->Prop),(kvs.map (·.1))[i]? = some k->Pv i σ H2->Rd H2 d (.dK kvs)->(∃ob,H2 d=some (.sW ob (.dK kvs)))->(∀fY H',Pv (i+1) fY H'->H' d=H2 d->N fY H')->g (kV k) σ H2 λ l7 H3=>tb ⟨N,R,B,N⟩ l7 H3)
  (hx:∀fY H2,Pv kvs.length fY H2->(∃ob,H2 d=some (.sW ob (.dK kvs)))->D.nx fY (upd H2 d (.dK kvs))):Mv X te g tb D σ H:=by
 refine Xe _ ⟨d,kvs,rfl,hd,λ ob nf=> ?_⟩;refine⟨λ i m σ H2=>m=kvs.length-i/\i<=kvs.length/\Pv i σ H2/\H2 d=some (.sW ob (.dK kvs)),⟨_,rfl,aQ _,h0 ob,e_⟩,?_⟩;rintro i m σ H2 ⟨rfl,hi,p,f2⟩;by_cases iT:i<kvs.length
 .refine .inr ⟨⟨iT,f2⟩,λ fY H'=>Pv (i+1) fY H'/\H' d=some (.sW ob (.dK kvs)),λ fY H' p'=>⟨kvs.length-(i+1),V2 iT,rfl,iT,p'.1,p'.2⟩,λ x H3 y=> ?_⟩;obtain⟨rfl,Xc⟩:=y;have hk:(kvs.map (·.1))[i]? = some kvs[i].1:=by simp [iT]
  have ex:x=kV kvs[i].1:=by
   rw [ak,bq iT] at Xc;exact(Option.some.inj Xc).symm
  rw [ex];exact hs i _ σ H3 _ _ _ hk p (.inr ⟨ob,f2⟩) ⟨ob,f2⟩ λ fY H' p' e=>⟨p',e.trans f2⟩
 .have e:i=kvs.length:=by exact Zq hi (Zi iT)
  subst e;exact .inl ⟨⟨rfl,f2⟩,d,ob,kvs,nf,f2,hx σ H2 p ⟨ob,f2⟩⟩
section
variable {X:Cx}
end
section
variable {X:Cx} {tg:li}
end
section
variable {X:Cx}
theorem oW:∀{us:List bv} {ns:List Int},Fk us ns->Vals (ns.map V.int) us
 | _,_,.nil=>.nil
 | _,_,.cons _ _ h=>.cons ⟨_,rfl⟩ (oW h)
theorem x6 (hc:X.calm=true):kL X (.builtin "sorted") (λ xs H Q=>∃(d:ac) (kvs:List (Key×V)) (ns:List Int),xs = [.ref d]/\Rd H d (.dK kvs)/\kvs.map (·.1)=ns.map Sum.inl/\ns.length<64/\∀(l:ac) (out:List Int),H l=none->out.Perm ns->out.Pairwise (·<=·)->Q (.ref l) (upd H l (.lst (out.map V.int)))):=by
 intro pins s σ H xs us Q I r h;obtain⟨d,kvs,ns,rfl,hd,hk,h64,q⟩:=h;obtain⟨u,rfl,ru⟩:=r.one
 cases ru;obtain⟨hz,Ui,vs,rel,dd⟩:=p8 I.gG hd;obtain⟨ep,da⟩:=dd.dictAt;have hl:kvs.length=vs.length:=rel.length;refine Calls.call_function_entry kind_sorted plain_sorted entry_sorted (args_sorted1 _) ?_;unfold zn.«sorted»;refine bi (m:=checkCount "sorted" 1 1 _) (cr ?_);refine bi (PySem.W.kdu_collect (PySem.W.kdl_dict Ui) (I.ok.hd hc) da (Zc (Zg hl) hz) λ h' tk acc kp A'=> ?_);have hlen:acc.toList.length=kvs.length:=by rw [bB,A'.1,hl]
 have JE:Vals (kvs.map λ kv=>kV kv.1) acc.toList:=by
  have key:∀(ks:List Key) (us:List bv),ks.length=us.length->(∀(j:Nat) (k:Key) (v:bv),ks[j]? = some k->us[j]? = some v->(gL X.prog X.w).is k v=true)->Vals (ks.map kV) us:=by
   intro ks
   induction ks with
   | nil=>
    intro us e _
    cases us with
    | nil=>exact .nil
    | cons _ _=>cases e
   | cons k ks ih=>
    intro us e h
    cases us with
    | nil=>cases e
    | cons u us=>exact .cons (yn (h 0 k u rfl rfl)) (ih us (by simpa using e) λ j k' v e1 e2=>h (j+1) k' v e1 e2)
  have:=key (kvs.map (·.1)) acc.toList (by rw [ae,hlen]) λ j k v e1 e2=>by
   obtain⟨k',x,e3,e4⟩:=A'.2 j v (by rwa [<-bh]);rw [rel.keys,ak,e3] at e1
   cases e1;exact e4
  rw [aR] at this;exact this
 have ek:(kvs.map λ kv=>kV kv.1)=ns.map V.int:=by
  have:=congrArg (List.map kV) hk;rw [aR,aR] at this;exact this
 rw [ek] at JE;have ia:Fk acc.toList ns:=intsAre_of JE
 have nl:ns.length=kvs.length:=by
  have:=congrArg List.length hk;rw [ae,ae] at this;exact this.symm
 generalize acc.toList=as at *;refine bi (Jaz ?_ (by rwa [hlen]));have Ur:(h'.push (PP "list" as.toArray 0)).get? h'.objs.size=some (PP "list" as.toArray 0):=aK _ rfl;refine bi (u8 (wf slot_list_sort ⟨_,Ur,rfl⟩ entry_list_sort (yT (R:=λ out=>∃A7,Fk out.toList A7/\A7.Perm ns/\A7.Pairwise (·<=·)) Ur (by rwa [hlen]) (λ out ⟨A7,i1,i2,_⟩=> ?_) (λ jr=>⟨ns,ia,.refl _,?_⟩) (λ h2 z _=> ?_) λ out h2 c e HJ g2=>⟨_,rfl,?_⟩) (args_list_sort _)))
 .have:=i1.length;rw [bB] at this;rw [this,i2.length_eq,<-ia.length]
 .have:=ia.length
  match ns,this with
  | [],_=>exact .nil
  | [x],_=>simp
  | x::y::r,h=>simp only [aG] at h;lia
 .have ps:(JaJ as).size=as.length:=pairsOf_size as;refine⟨oneType',?_,?_⟩
  .match as,h2,ia with
   | v1::v2::r2,_,ia=>
    rw [keyKind_ints ia];exact cr ⟨rfl,rfl⟩
  .refine wpS_sortRuns (a₀:=JaJ as) ia.intKeys ⟨.refl _,rfl,rfl,rfl⟩ (by rwa [ps]) (by rwa [ps,ia.length]) λ Ey a1 a2 a3=>⟨a2,?_⟩
   obtain⟨A7,b1,b2,b3⟩:=sorted_out ia a1 a3;exact⟨A7,b1,b2,b3⟩
 .obtain⟨A7,i1,i2,i3⟩:=e;have I':=I.kept (t':=tk) kp;refine cr ⟨_,rfl,.ref h'.objs.size,_,I'.laid (a:=h'.objs.size) (o:=.lst (A7.map V.int)) (t':=tk) (λ b u e=>HJ b u (aO (aH e)) (ah _ e)) (az _) ?_,rfl,q _ A7 (I'.gG.fresh (az _)) i2 i3⟩;refine⟨by rwa [ae,i2.length_eq,nl],out.toList,c,?_,by simpa using g2⟩;exact oW i1
end
section
variable {X:Cx}
variable {pos:Pos}
theorem FZ:Bx (Sr X [] Q8):=⟨Qq⟩
theorem sj (h1:Bx (PG X e t)) (h2:Bx (Sr X es u)) (hs:(Ch (e::es) X.env).map (·.2)=Sc e X.env::(Ch es X.env).map (·.2):=by rfl):Bx (Sr X (e::es) (JM t u)):=⟨M8 h1.un h2.un hs⟩
theorem J1 (hc:X.calm=true) (h:Bx (Sr X es t)) (hn:(Ch es X.env).length=n:=by rfl) (nQ:(Ch es X.env).findIdx? (·.1)=none:=by rfl):Bx (PG X (.Tuple es k pos) (Q4 X.K n t)):=⟨Tc hc h.un hn nQ⟩
end
theorem zm (K:ai) (h:X.K=K:=by rfl):uj X (tz .In) (Wo K false):=h▸BE
theorem nS (K:ai) (h:X.K=K:=by rfl):kL X (.type "list") (λ xs H Q=>∃p ys,xs = [.ref p]/\(gg K H p ys\/oV K H p ys)/\∀l,H l=none->Q (.ref l) (upd H l (.lst ys))):=h▸u7
structure GA where
 nm:List Nat
 wt:Int
 back:Bool
def Kr (s:GA):List V:= [.str (tx s.nm),.int s.wt,.bl s.back]
def Fv (w:Int) (sg:List Nat) (n:Int):Bool:=if sg = [60] then decide (w<n) else if sg = [62] then decide (w>n) else if sg = [61] then decide (w=n) else if sg = [33] then !decide (w=n) else true
def oH (m:j_) (s:GA):Bool:=decide (s.back=m.back)&&(decide (m.nm = [95])||decide (m.nm=s.nm))&&Fv s.wt m.sg m.num
structure AJ where
 jj:List j_
 kE:List (List Int)
 ends:List Bool
structure qk (m:AJ):Prop where
 lf:m.kE.length=m.jj.length+1
 le:m.ends.length=m.jj.length+1
 xS:∀l∈m.kE,∀r∈l,1<=r/\r<=m.jj.length
 jr:m.jj.length<=24
 short:∀l∈m.kE,l.length<=100
def nE (H:Hp) (a:ac) (ms:List j_):Prop:=∃as:List ac,H a=some (.lst (as.map V.ref))/\fR (λ x k=>H x=some (.tup (Hy k))/\uk k) as ms
def CU (H:Hp) (a:ac) (fs:List (List Int)):Prop:=∃as:List ac,H a=some (.lst (as.map V.ref))/\fR (λ x l=>H x=some (.lst (l.map V.int))) as fs
def Vp (H:Hp) (a:ac) (bs:List Bool):Prop:=H a=some (.lst (bs.map V.bl))
theorem nE.same {H H':Hp} {a:ac} {ms:List j_} (h:nE H a ms) (s:fw H H'):nE H' a ms:=by
 obtain⟨as,e,al⟩:=h;exact⟨as,s _ _ e,al.imp λ _ _ r=>⟨s _ _ r.1,r.2⟩⟩
theorem CU.same {H H':Hp} {a:ac} {fs:List (List Int)} (h:CU H a fs) (s:fw H H'):CU H' a fs:=by
 obtain⟨as,e,al⟩:=h;exact⟨as,s _ _ e,al.imp λ _ _ r=>s _ _ r⟩
structure AI (H:Hp) (a:ac) (m:AJ):Prop where
 at_:∃x y z,H a=some (.tup [.ref x,.ref y,.ref z])/\nE H x m.jj/\CU H y m.kE/\Vp H z m.ends
theorem AI.same {H H':Hp} {a:ac} {m:AJ} (h:AI H a m) (s:fw H H'):AI H' a m:=by
 obtain⟨x,y,z,e,h1,h2,h3⟩:=h.at_;exact⟨x,y,z,s _ _ e,h1.same s,h2.same s,s _ _ h3⟩
def jT (m:AJ) (r:Int):List Int:=(m.kE[r.toNat]?).getD []
def ł (m:AJ) (s:GA) (o:Int):Bool:=match m.jj[(o-1).toNat]? with|some k=>oH k s|none=>false
def Goes (m:AJ) (s:GA) (r o:Int):Prop:=o∈jT m r/\ł m s o=true
def nR (m:AJ) (r:Int):Bool:=(m.ends[r.toNat]?).getD false
theorem BS {m:AJ} (ok:qk m) {r o:Int} (h:o∈jT m r):1<=o/\o<=m.jj.length:=by
 unfold jT at h
 cases q:m.kE[r.toNat]? with
 | none=>
  rw [q] at h
  cases h
 | some l=>
  rw [q] at h;exact ok.xS l (aq q) o h
theorem rL {β:Type}:∀{as:List ac} {bs:List β},as.length=bs.length->(as.zip bs).map (λ c=>V.ref c.1)=as.map V.ref
 | [],[],_=>rfl
 | [],_::_,h=>by cases h
 | _::_,[],h=>by cases h
 | a::as,b::bs,h=>by
  rw [List.zip_cons_cons,aB,aB,rL (by simpa using h)]
theorem gx {α:Type} {xs:List α} {i:Int} {v:α} (h0:0<=i) (h:xs[i.toNat]? = some v):vq xs i=some v:=by
 obtain⟨n,rfl⟩:=cJ h0;exact nB (by simpa using h)
theorem fR.at {α β:Type} {R:α->β->Prop} {as:List α} {bs:List β} {i:Nat} {b:β} (h:fR R as bs) (hb:bs[i]? = some b):∃a,as[i]? = some a/\R a b:=by
 have:i<as.length:=by
  rw [h.len];exact(ag.mp hb).1
 exact⟨as[i],by simp,h.get (by simp) hb⟩
theorem RZ {l:List Int} (nd:l.Nodup) (h:l.Pairwise (·<=·)):l.Pairwise (· < ·):=by
 induction l with
 | nil=>exact .nil
 | cons x r ih=>
  obtain⟨n1,n2⟩:=aZ.mp nd;obtain⟨h1,h2⟩:=eC.mp h;refine eC.mpr ⟨λ y hy=> ?_,ih n2 h2⟩;have:=h1 y hy;have:x≠y:=λ z=>n1 (by rwa [z]);lia
theorem FE (r:Int):∀l:List Int,Uc (.int r) (l.map V.int)=decide (r∈l)
 | []=>by simp [Uc]
 | x::l=>by
  have:=FE r l;unfold Uc at this⊢;rw [aB,cY,this];by_cases h:x=r
  .simp [xl,h]
  .have h':¬r=x:=λ z=>h z.symm;simp [xl,h,h']
theorem BU (l:List Int):(l.map V.int).all kx=true:=by
 induction l with
 | nil=>rfl
 | cons x r ih=>rw [aB,cZ,ih];rfl
theorem MV {K:ai} {H:Hp} {a:ac} {l:List Int} {r:Int} {neg:Bool} {Q:VK} (ha:gg K H a (l.map V.int)) (q:Q (.bl (if neg then !decide (r∈l) else decide (r∈l))) H):Wo K neg (.int r) (.ref a) H Q:=
 ⟨a,_,rfl,.inl ha,rfl,BU l,by rwa [FE]⟩
theorem fR.take {α β:Type} {R:α->β->Prop}:∀{as:List α} {bs:List β} (n:Nat),fR R as bs->fR R (as.take n) (bs.take n)
 | _,_,0,_=>.nil
 | _,_,_+1,.nil=>.nil
 | _,_,n+1,.cons r t=>.cons r (t.take n)
def L_ (n:Nat) (d:Tk):Prop:=d.canLay0=true/\d.depth<=n
def IF (n:Nat) (ds:List Tk):Prop:=PyData.canLayAll0 ds=true/\PyData.depthAll ds<=n
theorem uX:∀{ds:List Tk},(∀d∈ds,L_ n d)->IF n ds
 | [],_=>⟨rfl,aQ _⟩
 | d::ds,h=>by
  have h1:=h d (by simp);have h2:=uX (n:=n) (ds:=ds) λ x hx=>h x (ay _ hx);refine⟨by rw [PyData.canLayAll0,h1.1,h2.1];rfl,?_⟩;rw [PyData.depthAll];exact Nat.max_le.mpr ⟨h1.2,h2.2⟩
theorem FN (h:IF n ds):L_ (n+1) (.list ds):=⟨by rw [PyData.canLay0];exact h.1,by rw [PyData.depth];have:=h.2;exact Zp this⟩
theorem JN (h:IF n ds):L_ (n+1) (.tuple ds):=⟨by rw [PyData.canLay0];exact h.1,by rw [PyData.depth];have:=h.2;exact Zp this⟩
theorem Q_ (i:Int):L_ 0 (.int i):=⟨rfl,az _⟩
theorem Oo (b:Bool):L_ 0 (.bool b):=⟨rfl,az _⟩
theorem JO (h:NA l):L_ 0 (.str (tx l)):=⟨by rw [PyData.canLay0];exact Mw h,az _⟩
theorem L_.shaped (h:L_ n d) (l:n<=64):SeqAt.shaped d=true:=by
 unfold SeqAt.shaped;rw [bc,decide_eq_true_eq];exact⟨h.1,bj h.2 l⟩
theorem FP {α:Type} {K:ai} {H:Hp} {f:α->Tk} {R:ac->α->Prop} (hR:∀a x,R a x->rH K H (.ref a) (f x)):∀{as:List ac} {xs:List α},fR R as xs->qo K H (as.map V.ref) (xs.map f)
 | _,_,.nil=>.nil
 | _,_,.cons r t=>.cons (hR _ _ r) (FP hR t)
theorem FV (ns:List Int) (lo hi:Option Int):∃cs:List Int,sE (ns.map V.int) lo hi=cs.map V.int/\cs.length<=ns.length:=by
 unfold sE;refine⟨(ns.drop (HT.jW (ns.map V.int).length 0 lo)).take (HT.jW (ns.map V.int).length (ns.map V.int).length hi-HT.jW (ns.map V.int).length 0 lo),by rw [List.map_take,List.map_drop],?_⟩;rw [aX,cV];exact Qao
theorem D_ (ns:List Int) (hi:Int) (h0:0<=hi):sE (ns.map V.int) none (some hi)=(ns.take hi.toNat).map V.int:=by
 obtain⟨k,rfl⟩:=cJ h0;unfold sE;rw [HT.E2,HT.Jc,List.drop_zero,Nat.sub_zero,ae,au,List.map_take];have:=(List.take_eq_take_min (l:=ns.map V.int) (i:=k)).symm;rw [ae] at this;exact this
def kM (js:List Int) (sz at_ dl:Int) (short:Prop) [Decidable short] (i:Nat):Nm:=
 (if short then js.take (i+1) else (js.take sz.toNat).set at_.toNat ((js.getD at_.toNat 0+(i:Int)*dl)%26)).map uQ
theorem GI {sz at_ dl:Int} {short:Prop} [Decidable short] {i:Nat} (Ć:js.length=12) (z1:1<=sz) (z2:sz<=12) (hi:i<12):1<=(kM js sz at_ dl short i).length/\(kM js sz at_ dl short i).length<=12/\∀x∈kM js sz at_ dl short i,x∈F_:=by
 refine⟨?_,?_,EE _⟩
 .unfold kM;rw [ae]
  split
  .rw [aX];lia
  .rw [bQ,aX];lia
 .unfold kM;rw [ae]
  split
  .rw [aX];lia
  .rw [bQ,aX];exact Qas Ć
theorem Mr {sz at_ dl:Int} {short:Prop} [Decidable short] {i j:Nat} (Ć:js.length=12) (z1:1<=sz) (z2:sz<=12) (a0:0<=at_) (a1:at_<sz) (d0:dl=1\/dl=2) (hi:i<12) (hj:j<12) (h:kM js sz at_ dl short i=kM js sz at_ dl short j):i=j:=by
 unfold kM at h;by_cases s:short
 .rw [if_pos s,if_pos s] at h;have:=congrArg List.length h;rw [ae,ae,aX,aX] at this;lia
 .rw [if_neg s,if_neg s] at h;have al:at_.toNat<(js.take sz.toNat).length:=by rw [aX];lia
  have:=congrArg (λ l=>l[at_.toNat]?) h;simp only [ak,bO al,Option.map_some,Option.some.injEq] at this;have e:=NR this;generalize js.getD at_.toNat 0=x at e;rcases d0 with rfl|rfl<;>lia
theorem Kj {sz at_ dl:Int} {short:Prop} [Decidable short] (Ć:js.length=12) (z1:1<=sz) (z2:sz<=12) (a0:0<=at_) (a1:at_<sz) (d0:dl=1\/dl=2) {n:Nat} (hn:n<=12):((List.range n).map (kM js sz at_ dl short)).Nodup:=by
 rw [List.nodup_iff_pairwise_ne,List.pairwise_map];have p:=dM (n:=n);refine List.Pairwise.imp_of_mem (λ {x y} hx hy lt e=> ?_) p;have:=Mr Ć z1 z2 a0 a1 d0 (by have:=aV.mp hx;exact Za this hn) (by have:=aV.mp hy;exact Za this hn) e;exact Zf lt (Zg this)
theorem J0 {P G:Prop} (k:P->G) (h:P):G:=k h
theorem MP:L2.plain (rs.filter λ x=>decide (x.1≠n))=(L2.plain rs).filter λ x=>decide (x.1≠n):=by
 unfold L2.plain;rw [cv];rfl
theorem K_ (rs:List (Int×ac×jQ)):((fU rs).map λ kv=>kV kv.1)=(rs.map (·.1)).map V.int:=by
 unfold fU;rw [aR,aR];rfl
def C6 (td ty tx:TE):TE:=λ σ H Q=>td σ H λ x H1=>∃a,x = .ref a/\Ñ H1 a/\ty σ H1 λ y H2=>tx σ H2 λ z H3=>∃kvs k,H3 a=some (.dK kvs)/\y=kV k/\kvs.length<dL/\
 (∀v,hV kvs k=some v->Q v H3)/\(hV kvs k=none->Q z (upd H3 a (.dK (putK kvs k z))))
section
variable {X:Cx} {o e f:li} {apos gY:Pos} {td ty tx:TE}
theorem Nh (ho:PE X o td) (he:PE X e ty) (hf:PE X f tx) (m:M2 X o "setdefault" apos e f gY):PE X (.Call (.Attribute o "setdefault" apos) [e,f] [] gY) (C6 td ty tx):=by
 intro pins s σ H Q I h;refine Jad m.base m.jr m.line cG eX PySem.F.type_dict_setdefault (gZ (ho pins s σ H _ I h) λ u s1 zq=> ?_);obtain⟨x,H1,I1,rx,a,ex,d,q1⟩:=zq;subst ex;obtain rfl:u=Value.ref a:=rx;obtain⟨t1,t2,_⟩:=zK I1 d;refine⟨t1,t2,?_⟩;rw [m.trees]
 refine Calls.callWith_builtin rfl (Calls.evalArgs_plain (Calls.spliced_cons (gZ (he pins s1 σ H1 _ I1 q1) λ iv s2 ⟨y,H2,I2,ry,q2⟩=>
  Calls.spliced_cons (gZ (hf pins s2 σ H2 _ I2 q2) λ fv s3 ⟨z,H3,I3,rz,kvs,k,ea,ey,lt,q3,q4⟩=>Calls.spliced_nil ?_))))
 subst ey;obtain⟨hz,hd,vs,rel,dd⟩:=OE I3.gG ea;refine YD eX dd.typeIs PySem.F.entry_dict_setdefault (PySem.F.args_dict_setdefault_3 _ _ _) (PySem.kt_meets_setdefault (gL X.prog X.w) a (uU ry) hd fv) ⟨vs,dd,by rwa [<-rel.length],λ v hv=> ?_,λ hn h' L5 hs=> ?_⟩
 .have rv:=rel.val k;rw [hv] at rv
  cases e:hV kvs k with
  | none=>rw [e] at rv;exact absurd rv id
  | some v'=>
   rw [e] at rv;exact⟨v',H3,I3.tok _,rv,q3 v' e⟩
 .have rv:=rel.val k;rw [hn] at rv
  cases e:hV kvs k with
  | some v'=>rw [e] at rv;exact absurd rv id
  | none=>
   have hl:(putK kvs k z).length<=dL:=by have:=nh kvs k z;exact Zc this lt
   have he':∃q,h'.get? a=some q:=let ⟨q,_,_,hq,_⟩:=L5;⟨q,hq⟩;exact⟨z,_,uY I3 (by rw [ea];exact True.intro) hs he' (DY hl hd (rel.put k rz) L5),rz,q4 e⟩
theorem Cq (ho:Bx (PE X o td)) (he:Bx (PE X e ty)) (hf:Bx (PE X f tx)) (m:M2 X o (Str.ofString "setdefault") apos e f gY:=by exact⟨rfl,rfl,rfl,rfl⟩):Bx (PE X (.Call (.Attribute o (Str.ofString "setdefault") apos) [e,f] [] gY) (C6 td ty tx)):=⟨Nh ho.un he.un hf.un m⟩
theorem LJ (hu:X.A.units+1<FM) (ho:Bx (PE X o td)) (he:Bx (PE X e ty)) (hf:Bx (PE X f tx)) (m:M2 X o (Str.ofString "get") apos e f gY:=by exact⟨rfl,rfl,rfl,rfl⟩):Bx (PE X (.Call (.Attribute o (Str.ofString "get") apos) [e,f] [] gY) (C9 td ty tx)):=⟨Nn hu ho.un he.un hf.un m⟩
end
section
variable {X:Cx} {pins:List (ac×Obj)} {σ:St} {H:Hp} {s:ci} {h':Heap}
theorem Inv.PL (I:Inv X pins σ H s) (k:∀b o,b≠e->b≠it->s.heap.get? b=some o->h'.get? b=some o) (f1:sH X pins H e) (f2:sH X pins H it):Inv X pins σ H {s with heap:=h',toks:=t'}:=by
 have off:∀b u,H b=some u->b≠e/\b≠it:=λ b u q=>⟨λ z=>(by rw [z,f1.1] at q;cases q),λ z=>(by rw [z,f2.1] at q;cases q)⟩
 have nc:∀b,b∉[e,it]->b≠e/\b≠it:=λ b hc=>⟨λ z=>hc (by simp [z]),λ z=>hc (by simp [z])⟩
 refine I.step (g':=s.gens) (d':=s.drawn) (ch:= [e,it]) (λ b hb=> ?_) (λ b o _ _ hc q _=>k b o (nc b hc).1 (nc b hc).2 q) (λ b o _ _ hc q _=>⟨o.slots,k b o (nc b hc).1 (nc b hc).2 q⟩) (λ _ _ _ _ n=>n)
  (λ b o hc q=>⟨o,k b o (nc b hc).1 (nc b hc).2 q⟩) (λ _ _ q=>q) (λ _ _ _ q=>q) (λ b ps q=>⟨#[],by rw [q];simp⟩) (λ m hm=> ?_) (λ b u q=> ?_) I.bare
 .rcases av.mp hb with z|z
  .subst z;exact⟨f1.2.2.2.1,f1.2.1,f1.2.2.2.2.1,f1.2.2.2.2.2⟩
  .obtain rfl:=aj.mp z;exact⟨f2.2.2.2.1,f2.2.1,f2.2.2.2.2.1,f2.2.2.2.2.2⟩
 .obtain⟨o,es,ep,ho,r⟩:=hm;exact⟨o,es,ep,k _ o (Ne.symm f1.2.1) (Ne.symm f2.2.1) ho,r⟩
 .refine(I.gG b u q).sy (λ c v hc w=> ?_) (λ _ w=>w) λ _ _ w=>w;rcases hc with z|z
  .subst z;exact k c v (off _ u q).1 (off _ u q).2 w
  .exact k c v (off c _ z).1 (off c _ z).2 w
end
def YN (K:ai) (a:ac) (xs:List V):It:=⟨λ i H=>i<xs.length/\gg K H a xs,λ i H x H'=>∃p y,H p=none/\x = .ref p/\xs[i]? = some y/\H'=upd H p (.tup [.int i,y]),λ i H=>i=xs.length/\gg K H a xs⟩
theorem Ke {P:im} {w:io} {K:ai} {elts:List li} {x1:Nat} {pos:Pos} (a e it:ac) (xs:List V) (ZW:e≠it):Turn P w K (.Tuple elts x1 pos) (YN K a xs) [e,it] e (λ i h=>(∃old,IsEnum h e it i old)/\h.IsListIter it a i) where
 mem:=by simp
 obj:=λ i h st b hb=>by
  obtain⟨⟨old,s1⟩,o,s2,c,d⟩:=st;rcases av.mp hb with z|z
  .subst z;exact⟨_,s1,λ v z=>by cases z⟩
  .obtain rfl:=aj.mp z;exact⟨o,s2,λ v z=>by rw [d] at z;cases z⟩
 keep:=λ i h h' st k=>⟨let ⟨old,s1⟩:=st.1;⟨old,k e (by simp) _ s1⟩,st.2.at λ o q=>k it (by simp) o q⟩
 item:=by
  intro X hP hw hK hc i pins s σ H E I hf st hg;subst hP hw hK;obtain⟨iT,hq⟩:=hg;obtain⟨its,rv,p,hz⟩:=I.list hq;have hl:=rv.length;have hx:xs[i]? = some (xs[i]'iT):=by simp
  obtain⟨u,hu,ru⟩:=rv.get hx;have f1:=hf e (by simp);have f2:=hf it (by simp);obtain⟨⟨old,se⟩,si⟩:=st;refine wpAny_pyNext_enum_item se si p.isList (x:=u) (by simpa using hu) ZW λ h1 eo i1 t1 z1 k1=>⟨_,rfl,?_⟩
  refine wpAny_letOwnedTupleGo_enum eo λ h2 e2 sb=> ?_;have Pz:h2.get? e=_:=e2;have elt:e<s.heap.objs.size:=aH se;have δ:it<s.heap.objs.size:=let ⟨o,ho,_⟩:=si;aH ho;have ß:Heap.SameBut e h1 h2:=sb;have t2:h2.get? s.heap.objs.size=some {cls:=.type "tuple",data:=.seq #[.int i s.toks,u]}:=(ß.2 _ (dh elt)).trans t1;have fr:H s.heap.objs.size=none:=I.gG.fresh (az _)
  have I1:=I.laid (a:=s.heap.objs.size) (h':=s.heap.push {cls:=.type "tuple",data:=.seq #[.int i s.toks,u]}) (t':=s.toks+1) (o:=.tup [.int i,xs[i]'iT]) (λ b o q=>ah _ q) (az _)
   ⟨by show 2<=dL;decide,[.int i s.toks,u],.cons ⟨s.toks,rfl⟩ (.cons ru .nil),_,aK _ rfl,rfl,0,rfl⟩
  have g:∀b,b<s.heap.objs.size->sH X pins H b->sH X pins (upd H s.heap.objs.size (.tup [.int i,xs[i]'iT])) b:=λ b hb f=>⟨by rw [fo (aO hb)];exact f.1,f.2⟩
  have I2:=I1.PL (h':=h2) (t':=s.toks+1) (e:=e) (it:=it) (λ b o b1 b2 q=> ?_) (g e elt f1) (g it δ f2)
  .refine⟨.ref s.heap.objs.size,_,I2,rfl,⟨_,_,fr,rfl,hx,rfl⟩,⟨⟨u,by simpa using e2⟩,?_⟩,λ b hb=> ?_⟩
   .exact i1.at λ o q=>(ß.2 it (Ne.symm ZW)).trans q
   .have yp:b<s.heap.objs.size:=by
     rcases av.mp hb with z|z
     .rwa [z]
     .rwa [aj.mp z]
    rw [fo (aO yp)];exact(hf b hb).1
  .rcases Heap.get?_push_cases q with ⟨rfl,rfl⟩|q
   .exact t2
   .exact(ß.2 b b1).trans (k1 b o b1 b2 q)
 done:=by
  intro X hP hw hK hc i pins s σ H E I hf st hg;subst hP hw hK;obtain⟨rfl,hq⟩:=hg;obtain⟨its,rv,p,hz⟩:=I.list hq;have hl:=rv.length;obtain⟨f0,f1,f2,f3,f4,f5⟩:=hf it (by simp);obtain⟨⟨old,se⟩,si⟩:=st;exact wpAny_pyNext_enum_end (I.ok.hd hc) se si p.isList (by simp [hl]) λ h' eb=>⟨rfl,I.turned (t':=s.toks) (λ b o hb q=>eb b o hb q) f0 f1 f3 f4 f5⟩
 self:=λ _ _ _ _ _ st h=>by
  obtain⟨⟨old,se⟩,si⟩:=st;exact wpAny_pyIter_enum se h
def R7 (K:ai) (ta:TA):TI:=λ σ H R=>ta σ H λ vs H1=>∃a xs,vs = [.ref a]/\gg K H1 a xs/\R (YN K a xs) H1
section
variable {X:Cx} {elts:List li} {x1:Nat} {Mq:Pos}
theorem Qp {a:li} {ta:TA} {p pos:Pos} (hg:Gl X "enumerate") (hm:X.mg "enumerate" = none) (ha:PA X [a] ta) (hs:db [a] X.env = [(false,jp a X.env)]:=by rfl):PI X (.Tuple elts x1 Mq) (.Call (.Name "enumerate" p) [a] [] pos) (R7 X.K ta):=by
 intro pins s σ H R I h;refine Call_ (lK I hg hm boot_enumerate (bx (gZ (ha pos pins s σ H _ I h) λ us s1 zq=> ?_) hs rfl));obtain⟨vs,H1,I1,r1,q1⟩:=zq;obtain⟨b,xs,rfl,hq,q⟩:=q1;obtain⟨u,rfl,ru⟩:=r1.one
 cases ru;obtain⟨its,rv,pl,hz⟩:=I1.list hq;refine call_enumerate_list pl.isList λ h' he hi hsz kp=> ?_;refine wpAny_pyIter_enum he ?_;refine⟨s1.heap.objs.size+1,[s1.heap.objs.size+1,s1.heap.objs.size],_,_,H1,rfl,I1.kept (t':=s1.toks) kp,Ke b _ _ xs (Nat.succ_ne_self _),⟨⟨_,he⟩,hi⟩,λ c hb=> ?_,q⟩;rcases av.mp hb with z|z
 .rw [z];exact I1.Ba (cf _) (I1.gG.fresh (cf _))
 .rw [aj.mp z];exact I1.Ba (az _) (I1.gG.fresh (az _))
theorem OW (hg:Gl X "enumerate") (hm:X.mg "enumerate" = none) (ha:Bx (PA X [a] ta)) (hs:db [a] X.env = [(false,jp a X.env)]:=by rfl):Bx (PI X (.Tuple elts x1 Mq) (.Call (.Name "enumerate" p) [a] [] pos) (R7 X.K ta)):=⟨Qp hg hm ha.un hs⟩
end
theorem Oj {K:ai} {a:ac} {xs:List V} {g:TG} {tb:TS} {D:Ends} {σ:St} {H:Hp} (Pv:Nat->St->Hp->Prop) (h0:Pv 0 σ H) (hl:∀i σ H,i<=xs.length->Pv i σ H->gg K H a xs)
  (hs:∀(i:Nat) y p σ H,xs[i]? = some y->H p=none->Pv i σ H->g (.ref p) σ (upd H p (.tup [.int i,y])) λ l7 H2=>tb {D with nx:=Pv (i+1),ct:=Pv (i+1),bk:=D.nx} l7 H2) (hd:∀σ H,Pv xs.length σ H->D.nx σ H) :
  ∃W:Nat->Nat->St->Hp->Prop,(∃m,W 0 m σ H)/\∀i m σ H,W i m σ H->
   ((YN K a xs).stop i H/\D.nx σ H)\/((YN K a xs).go i H/\∃N:St->Hp->Prop,(∀fY H',N fY H'->∃m',m'<m/\W (i+1) m' fY H')/\∀x H',(YN K a xs).CW i H x H'->g x σ H' λ l7 H2=>tb {D with nx:=N,ct:=N,bk:=D.nx} l7 H2):=by
 refine⟨λ i m σ H=>m=xs.length-i/\i<=xs.length/\Pv i σ H,⟨xs.length,by simp,aQ _,h0⟩,?_⟩;rintro i m σ H ⟨rfl,hi,p⟩;have q:=hl i σ H hi p;by_cases iT:i<xs.length
 .refine .inr ⟨⟨iT,q⟩,Pv (i+1),λ fY H' p'=>⟨xs.length-(i+1),V2 iT,rfl,iT,p'⟩,?_⟩;rintro x H' ⟨b,y,hb,rfl,hy,rfl⟩;exact hs i y b σ H hy hb p
 .have e:i=xs.length:=by exact Zq hi (Zi iT)
  subst e;exact .inl ⟨⟨rfl,q⟩,hd σ H p⟩
def C3 (to:TE):TE:=λ σ H Q=>to σ H λ x H1=>∃(d:ac) (m:List (Nm×Int)),x = .ref d/\Rd H1 d (.dK (gH m))/\
 ∀(l:ac) (as:List ac) (H2:Hp),H1 l=none->as.length=m.length->fw H1 H2->H2 l=some (.lst (as.map V.ref))->(∀a∈as,H1 a=none/\a≠l)->
  (∀(i:Nat) (a:ac) (y:Nm×Int),as[i]? = some a->m[i]? = some y->H2 a=some (.tup [.str (tx y.1),.int y.2]))->Q (.ref l) H2
section
variable {X:Cx}
theorem Nd (hc:X.calm=true) (hg:Gl X "list") (hm:X.mg "list" = none) (ho:PE X o to)
  (oF:sw o "items" X.env (jp o X.env)=jp o X.env:=by rfl) (oE:(apos.endLine==gY.line)=true:=by rfl)
  (he:db [.Call (.Attribute o "items" apos) [] [] gY] X.env = [(false,jp (.Call (.Attribute o "items" apos) [] [] gY) X.env)]:=by rfl) :
  PE X (.Call (.Name "list" p) [.Call (.Attribute o "items" apos) [] [] gY] [] pos) (C3 to):=by
 intro pins s σ H Q I h;refine Call_ (lK I hg hm boot_list (bx ?_ he rfl));rw [he];refine Calls.spliced_cons (JaC oF oE (gZ (ho pins s σ H _ I h) λ v s1 zq=> ?_));obtain⟨x,H1,I1,r1,d,m,ex,hd,q⟩:=zq;subst ex;obtain rfl:v=Value.ref d:=r1;obtain⟨hz,Ui,vs,rel,dd⟩:=p8 I1.gG hd;refine⟨"dict","dict.items",cG,PySem.F.slot_dict_items,PySem.F.type_dict_items,(zK I1 (.inl ⟨_,hd⟩)).1,(zK I1 (.inl ⟨_,hd⟩)).2.1,Calls.callWith_builtin rfl (PySem.evalArgs_none ?_)⟩;refine YD PySem.F.slot_dict_items dd.typeIs PySem.F.entry_dict_items (PySem.F.args_dict_items_1 _) (meets_dict_items (gL X.prog X.w) d Ui) ⟨⟨vs,dd⟩,Calls.spliced_nil ?_⟩;have kp1:∀b u,s1.heap.get? b=some u->(s1.heap.push {cls:=.type "dict_items",data:=.fields #[.ref d]}).get? b=some u:=λ b u e=>ah _ e;have hv:(s1.heap.push {cls:=.type "dict_items",data:=.fields #[.ref d]}).IsItemsView s1.heap.objs.size d:=⟨_,aK _ rfl,rfl,rfl⟩
 have I2:=I1.kept (t':=s1.toks) kp1;obtain⟨_,_,vs2,Wm,dd2⟩:=p8 I2.gG hd;obtain⟨ep,da⟩:=dd2.dictAt;have hl:(gH m).length=vs2.length:=Wm.length
 have QR:(gH m).length=m.length:=by
  unfold gH;rw [ae]
 refine PySem.W.kdx_call (knd:=gL X.prog X.w) (I.ok.hd hc) hv da (Zc (Zg hl) hz) λ h' tk acc c as kp gl aak hG A'=> ?_;have je:as.length=m.length:=by exact Zq (Zc (Ze aak) (Zc (Zg hl) (Ze QR))) (Zc (Zg QR) (Zc (Ze hl) (Zg aak)))
 have X9:as.Nodup:=hG.rise.imp λ h=>aO h;generalize hn:(s1.heap.push {cls:=.type "dict_items",data:=.fields #[.ref d]})=hB at *
 have hp:∀(i:Nat) (a:ac) (y:Nm×Int),as[i]? = some a->m[i]? = some y->∃t u,h'.get? a=some (Jo y t u):=by
  intro i a y ha hy;obtain⟨key,kk,x,e1,e2,e3⟩:=hG.pairs i a ha;obtain⟨e4,rv⟩:=WY Wm (i:=i) (p:=(.inr (tx y.1),.int y.2)) (by unfold gH;rw [ak,hy];rfl) e1;dsimp only at e4 rv;rw [<-e4] at e2;obtain⟨t,rfl⟩:=yn e2;obtain⟨u,rfl⟩:=rv;exact⟨t,u,e3⟩
 have frl:H1 hB.objs.size=none:=I2.gG.fresh (az _);have ľ:∀a∈as,H1 a=none/\a≠hB.objs.size:=λ a ha=>⟨I2.gG.fresh (dH (hG.above a ha)),dh (hG.above a ha)⟩
 have ext:∀b,b<hB.objs.size->upd (zB H1 as m) hB.objs.size (.lst (as.map V.ref)) b=H1 b:=λ b hb=>by
  rw [fo (aO hb),uR as m λ z=>Nat.lt_asymm hb (hG.above b z)]
 have vals:∀l:List ac,Vals (l.map V.ref) (l.map Value.ref):=by
  intro l
  induction l with
  | nil=>exact .nil
  | cons i l ih=>exact .cons rfl ih
 have I4:=I2.Ą (t':=tk) (H':=upd (zB H1 as m) hB.objs.size (.lst (as.map V.ref))) kp ext λ a o e hsz=> ?_
 .refine⟨.ref hB.objs.size,_,I4,rfl,q _ as _ frl je (λ b o e=> ?_) e_ ľ λ i a y ha hy=> ?_⟩
  .rw [fo (fA e frl),uR as m λ z=>by rw [(ľ b z).1] at e;cases e];exact e
  .rw [fo (ľ a (aq ha)).2];exact DH as m i a y X9 ha hy
 .by_cases ha:a=hB.objs.size
  .subst ha;rw [e_] at e
   cases e;refine⟨by rwa [ae,je,<-QR],acc.toList,c,by rw [A'];exact vals as,gl⟩
  .rw [fo ha] at e;by_cases hm:a∈as
   .obtain⟨i,y,hi,hy,rfl⟩:=K6 as m je X9 hm e;obtain⟨t,u,ho⟩:=hp i a y hi hy;exact⟨by show 2<=dL;decide,[.str (tx y.1) t,.int y.2 u],.cons ⟨t,rfl⟩ (.cons ⟨u,rfl⟩ .nil),Jo y t u,ho,rfl,0,rfl⟩
   .rw [uR as m hm,I2.gG.fresh hsz] at e
    cases e
theorem LH (hc:X.calm=true) (hg:Gl X "list") (hm:X.mg "list" = none) (ho:Bx (PE X o to))
  (oF:sw o (Str.ofString "items") X.env (jp o X.env)=jp o X.env:=by rfl) (oE:(apos.endLine==gY.line)=true:=by rfl)
  (he:db [.Call (.Attribute o (Str.ofString "items") apos) [] [] gY] X.env = [(false,jp (.Call (.Attribute o (Str.ofString "items") apos) [] [] gY) X.env)]:=by rfl) :
  Bx (PE X (.Call (.Name (Str.ofString "list") p) [.Call (.Attribute o (Str.ofString "items") apos) [] [] gY] [] pos) (C3 to)):=⟨Nd hc hg hm ho.un oF oE he⟩
end
def C5 (tk tv:TE):TE:=λ σ H Q=>∀p,H p=none->tk σ (upd H p (.dT [])) λ y H1=>tv σ H1 λ z H2=>H2 p=some (.dT [])/\∃b k,y = .ref b/\H2 b=some (.tup (k.map kV))/\Q (.ref p) (upd H2 p (.dT (putK [] k z)))
section
variable {X:Cx}
theorem Nk (hu:X.A.units+1<FM) (hk:PE X k tk) (hv:PE X v tv):PE X (.Dict [some k] [v] pos) (C5 tk tv):=by
 intro pins s σ H Q I q;have hn:=I.gG.fresh (az s.heap.objs.size);have I1:=I.laid (a:=s.heap.objs.size) (o:=.dT []) (h':=s.heap.push {cls:=.type "dict",data:=.dict #[]}) (t':=s.toks) (λ _ _ q=>ah _ q) (az _) (OC s.heap I.big);refine wpAny_Dict_any rfl rfl (by simp) (by simp) (pairTrees_cons_walk (gZ (hk pins _ σ _ _ I1 (q _ hn)) λ kv s1 ⟨y,H1,I2,ry,q1⟩=>gZ (hv pins s1 σ H1 _ I2 q1) λ vv s2 ⟨z,H2,I3,rz,e,b,ks,ey,eb,q2⟩=>pairTrees_nil_walk ?_));subst ey
 cases (show kv=Value.ref b from ry);unfold storeAll;rw [List.forIn_cons];obtain⟨hz,hd,xs,rel,dd⟩:=Sl I3.gG e;have hx:xs.length<=dL:=by rwa [<-Paired.length rel]
 refine bi (bi (wpAny_dictSet_heap (hsz:=hx) (knd:=XV (gL X.prog X.w)) (by show X.A.units<FM;exact Zb Zk hu) (t4 I3.gG eb) dd λ h' L5 hs=>cr ?_));show gc _ _ (forIn [] PUnit.unit _) _ _ _;rw [List.forIn_nil];refine cr ?_;obtain⟨o,es,ep,hq,h2,h3,h4,_,h5⟩:=L5;refine⟨.ref s.heap.objs.size,_,uY (ob:=.dT (putK [] ks z)) I3 (by rw [e];exact True.intro) hs ⟨o,hq⟩ ⟨?_,hd,_,(rel.put ks eb rz).keeps λ c ys ec=> ?_,o,es,ep,hq,h2,h3,h4,h5⟩,rfl,q2⟩
 .show 1<=dL
  decide
 .rwa [fo (gA ec e (λ z=>nomatch z))]
theorem LI (hu:X.A.units+1<FM) (hk:Bx (PE X k tk)) (hv:Bx (PE X v tv)):Bx (PE X (.Dict [some k] [v] pos) (C5 tk tv)):=⟨Nk hu hk.un hv.un⟩
end
def kI (t:jQ) (b:Bool):Nm:=if b=true then t.stop else t.start
def jv (t:jQ) (b:Bool):Nm:=if b=true then t.start else t.stop
structure yc (H0 H:Hp) (d:ac) (n m:Nat) (good:Nm->Int->Nm->Prop) (kvs:List (Key×V)):Prop where
 at_:H d=some (.dK kvs)
 len:kvs.length<=n
 nd:(kvs.map (·.2)).Nodup
 row:∀p∈kvs,∃k l ys,p=(.inr (tx k),.ref l)/\H0 l=none/\H l=some (.lst ys)/\ys.length<=m/\∀y∈ys,∃b num to,y = .ref b/\H b=some (.tup [.int num,.str (tx to)])/\good k num to
section
variable {H0 H H':Hp} {d:ac} {n m n' m':Nat} {good:Nm->Int->Nm->Prop} {kvs:List (Key×V)}
theorem yc.same (g:yc H0 H d n m good kvs) (s:fw H H'):yc H0 H' d n m good kvs:=
 ⟨s _ _ g.at_,g.len,g.nd,λ p hp=>let ⟨k,l,ys,e,f,h,z,r⟩:=g.row p hp;⟨k,l,ys,e,f,s _ _ h,z,λ y hy=>let ⟨b,num,to,e1,e2,e3⟩:=r y hy;⟨b,num,to,e1,s _ _ e2,e3⟩⟩⟩
theorem yc.weak (g:yc H0 H d n m good kvs) (hn:n<=n') (hm:m<=m'):yc H0 H d n' m' good kvs:=
 ⟨g.at_,bj g.len hn,g.nd,λ p hp=>let ⟨k,l,ys,e,f,h,z,r⟩:=g.row p hp;⟨k,l,ys,e,f,h,bj z hm,r⟩⟩
theorem nY {κ:Type} [DecidableEq κ] {k:κ} {v:V}:∀{kvs:List (κ×V)},hV kvs k=some v->(k,v)∈kvs
 | [],h=>by rw [Mn] at h;cases h
 | p::r,h=>by
  by_cases e:p.1=k
  .rw [iH e] at h
   cases h;rw [<-e];exact aY
  .rw [iI e] at h;exact ay _ (nY h)
theorem wb {α β:Type} {f:α->β}:∀{l:List α},(l.map f).Nodup->∀{x y:α},x∈l->y∈l->f x=f y->x=y
 | [],_,_,_,h,_,_=>nomatch h
 | a::l,hn,x,y,hx,hy,e=>by
  rw [aB] at hn;obtain⟨h1,h2⟩:=aZ.mp hn;rcases av.mp hx with ex|hx
  .rcases av.mp hy with ey|hy
   .rw [ex,ey]
   .rw [ex] at e;exact absurd (aC.mpr ⟨y,hy,e.symm⟩) h1
  .rcases av.mp hy with ey|hy
   .rw [ey] at e;exact absurd (aC.mpr ⟨x,hx,e⟩) h1
   .exact wb h2 hx hy e
theorem yc.there {k:Nm} {v:V} (g:yc H0 H d n m good kvs) (hv:hV kvs (.inr (tx k))=some v):∃l ys,v = .ref l/\H0 l=none/\H l=some (.lst ys)/\ys.length<=m/\∀y∈ys,∃b num to,y = .ref b/\H b=some (.tup [.int num,.str (tx to)])/\good k num to:=by
 obtain⟨k',l,ys,e,f,h,z,r⟩:=g.row _ (nY hv);injection e with e1 e2
 injection e1 with e1
 cases iA.mp e1;exact⟨l,ys,e2,f,h,z,r⟩
theorem yc.grow {k:Nm} {num:Int} {to:Nm} {b l:ac} {ys:List V} (g:yc H0 H d n m good kvs) (hv:hV kvs (.inr (tx k))=some (.ref l)) (hl:H l=some (.lst ys)) (hb:H b=some (.tup [.int num,.str (tx to)])) (ok:good k num to) :
  yc H0 (upd H l (.lst (ys ++ [.ref b]))) d n (m+1) good kvs:=by
 have xZ:∀c (xs:List V),H c=some (.tup xs)->upd H l (.lst (ys ++ [.ref b])) c=some (.tup xs):=λ c xs e=>by
  rwa [fo (gA e hl (λ z=>nomatch z))]
 refine⟨by rw [fo (gA g.at_ hl (λ z=>nomatch z))];exact g.at_,g.len,g.nd,λ p hp=> ?_⟩;obtain⟨k',l',GB,e,f,h,z,r⟩:=g.row p hp;by_cases υ:l'=l
 .subst υ;have ep:p=(.inr (tx k),.ref l'):=wb g.nd hp (nY hv) (by rw [e]);rw [e] at ep;injection ep with e1 _
  injection e1 with e1
  cases iA.mp e1;rw [hl] at h
  cases h;refine⟨_,l',_,e,f,e_,by rw [ao];exact dD z,λ y hy=> ?_⟩;rcases aA.mp hy with hy|hy
  .obtain⟨c,nm,t,e1,e2,e3⟩:=r y hy;exact⟨c,nm,t,e1,xZ _ _ e2,e3⟩
  .exact⟨b,num,to,aj.mp hy,xZ _ _ hb,ok⟩
 .refine⟨k',l',GB,e,f,by rwa [fo υ],Nat.le_succ_of_le z,λ y hy=> ?_⟩;obtain⟨c,nm,t,e1,e2,e3⟩:=r y hy;exact⟨c,nm,t,e1,xZ _ _ e2,e3⟩
theorem yc.put (g:yc H0 H d n m good kvs) (hv:hV kvs (.inr (tx k))=none) (f:H0 l=none) (hl:H l=some (.lst [])) (new:∀p∈kvs,p.2≠.ref l) :
  yc H0 (upd H d (.dK (putK kvs (.inr (tx k)) (.ref l)))) d (n+1) m good (putK kvs (.inr (tx k)) (.ref l)):=by
 have keep:∀c (o:HO),(∀z,o≠.dK z)->H c=some o->upd H d (.dK (putK kvs (.inr (tx k)) (.ref l))) c=some o:=λ c o no e=>by
  rwa [fo (gA e g.at_ (no _))]
 rw [mB _ hv] at keep⊢;refine⟨e_,by rw [ao];exact dD g.len,?_,λ p hp=> ?_⟩
 .rw [ax,bN];refine⟨g.nd,by simp,λ a ha b hb z=> ?_⟩;obtain⟨p,hp,rfl⟩:=aC.mp ha;have:b = .ref l:=by simpa using hb
  exact new p hp (z.trans this)
 .rcases aA.mp hp with hp|hp
  .obtain⟨k',l',GB,e,f',h,z,r⟩:=g.row p hp;refine⟨k',l',GB,e,f',keep _ _ (λ z=>nofun) h,z,λ y hy=> ?_⟩;obtain⟨c,nm,t,e1,e2,e3⟩:=r y hy;exact⟨c,nm,t,e1,keep _ _ (λ z=>nofun) e2,e3⟩
  .exact⟨k,l,[],aj.mp hp,f,keep _ _ (λ z=>nofun) hl,aQ _,λ y hy=>nomatch hy⟩
end
structure En where
 th:Nm
 rm:Int
 mX:Int
 num:Int
 Gy:Int
 deriving DecidableEq
def Lw (e:En):List V:= [.str (tx e.th),.int e.rm,.int e.mX,.int e.num,.int e.Gy]
def pR (H:Hp) (a:ac) (es:List En):Prop:=∃as:List ac,H a=some (.lst (as.map V.ref))/\fR (λ x e=>H x=some (.tup (Lw e))) as es
theorem pR.same (h:pR H a es) (s:fw H H'):pR H' a es:=by
 obtain⟨as,e,al⟩:=h;exact⟨as,s _ _ e,al.imp λ _ _ r=>s _ _ r⟩
theorem Lv (hq:H q=some (.lst (as.map V.ref))) (al:fR (λ x e=>H x=some (.tup (Lw e))) as es) (hp:H p=some (.tup (Lw e))) :
  pR (upd H q (.lst (as.map V.ref ++ [.ref p]))) q (es ++ [e]):=by
 have ne:∀x (xs:List V),H x=some (.tup xs)->upd H q (.lst (as.map V.ref ++ [.ref p])) x=some (.tup xs):=λ x xs h=>by
  rwa [fo (gA h hq (λ z=>nomatch z))]
 refine⟨as ++ [p],by rw [e_,ax];rfl,fR.snoc (R:=λ x e=>upd H q (.lst (as.map V.ref ++ [.ref p])) x=some (.tup (Lw e))) (ne _ _ hp) (al.imp λ _ _ r=>ne _ _ r)⟩
def i5 (e:En):Nm×Int:=(e.th,e.rm)
def nP (s:Nm×Int):List Key:= [.inr (tx s.1),.inl s.2]
theorem N0 (h:nP s=nP r):s=r:=by
 unfold nP at h;injection h with h1 h2
 injection h2 with h2 _
 injection h1 with h1
 injection h2 with h2
 exact Prod.ext (iA.mp h1) h2
def kF (es:List En):List (List Key×V):=es.map λ e=>(nP (i5 e),.bl true)
theorem Bz (es:List En) (s:Nm×Int):(hV (kF es) (nP s)).isSome=decide (s∈es.map i5):=by
 rw [<-nZ];unfold kF;rw [List.any_map,cw,bL,decide_eq_true_eq,aC];constructor
 .rintro⟨e,he,h⟩;exact⟨e,he,N0 (of_decide_eq_true h)⟩
 .rintro⟨e,he,rfl⟩;exact⟨e,he,decide_eq_true rfl⟩
theorem MJ (h:i5 e∉es.map i5):putK (kF es) (nP (i5 e)) (.bl true)=kF (es ++ [e]):=by
 have:hV (kF es) (nP (i5 e))=none:=by
  have h1:=Bz es (i5 e);rw [decide_eq_false h] at h1
  cases q:hV (kF es) (nP (i5 e)) with
  | none=>rfl
  | some v=>rw [q] at h1;cases h1
 rw [mB _ this];unfold kF;rw [ax];rfl
structure iO (jj:List j_) (good:Bool->Nm->Int->Nm->Prop) (st:Nm) (es:List En):Prop where
 fst:es[0]? = some ⟨st,0,0,-1,-1⟩
 Pk:∀k e,es[k+1]? = some e->∃(j:Nat) (f:En) (mk:j_),j<=k/\e.Gy=(j:Int)/\es[j]? = some f/\e.mX=f.mX+1/\1<=e.rm/\jj[(e.rm-1).toNat]? = some mk/\good mk.back f.th e.num e.th
theorem iO.rm {jj:List j_} {good:Bool->Nm->Int->Nm->Prop} {st:Nm} {es:List En} {k:Nat} {e:En} (b:iO jj good st es) (h:es[k]? = some e):0<=e.rm/\e.rm<=jj.length:=by
 cases k with
 | zero=>
  rw [b.fst] at h
  cases h;exact⟨cI _,Int.natCast_nonneg _⟩
 | succ k=>
  obtain⟨j,f,mk,_,_,_,_,h1,h2,_⟩:=b.Pk k e h;have:=(ag.mp h2).1;lia
theorem iO.one {jj:List j_} {good:Bool->Nm->Int->Nm->Prop} {st:Nm}:iO jj good st [⟨st,0,0,-1,-1⟩]:=⟨rfl,λ k e h=>by simp at h⟩
theorem iO.push {jj:List j_} {good:Bool->Nm->Int->Nm->Prop} {st:Nm} {es:List En} {e f:En} {j:Nat} {mk:j_} (b:iO jj good st es) (hb:e.Gy=(j:Int)) (hj:es[j]? = some f) (hf:e.mX=f.mX+1) (h1:1<=e.rm) (hm:jj[(e.rm-1).toNat]? = some mk) (hg:good mk.back f.th e.num e.th) :
  iO jj good st (es ++ [e]):=by
 have jl:=(ag.mp hj).1;refine⟨by rw [aP (Zz jl)];exact b.fst,λ k x hx=> ?_⟩;by_cases hk:k+1<es.length
 .rw [aP hk] at hx;obtain⟨j',f',mk',g1,g2,g3,g4⟩:=b.Pk k x hx;exact⟨j',f',mk',g1,g2,by rwa [aP (Zb g1 (Zb Zk hk))],g4⟩
 .rw [bp (Zi hk)] at hx
  have z:k+1-es.length=0:=by
   have:=(ag.mp hx).1;simp at this;exact this
  rw [z] at hx
  cases hx;exact⟨j,f,mk,Zs (Za jl (Zi hk)),hb,by rwa [aP jl],hf,h1,hm,hg⟩
theorem GJ {es:List En} {ts:List Nm} {n:Nat} (nd:(es.map i5).Nodup) (hs:∀e∈es,e.th∈ts/\0<=e.rm/\e.rm<=n):es.length<=ts.length*(n+1):=by
 have:=mE (es.map i5) (ts.flatMap λ t=>(List.range (n+1)).map λ (r:Nat)=>(t,(r:Int))) nd λ x hx=>by
  obtain⟨e,he,rfl⟩:=aC.mp hx;obtain⟨h1,h2,h3⟩:=hs e he;refine List.mem_flatMap.mpr ⟨e.th,h1,aC.mpr ⟨e.rm.toNat,aV.mpr (by lia),?_⟩⟩;unfold i5;rw [Int.toNat_of_nonneg h2]
 rw [ae,List.length_flatMap] at this;simp only [ae,aJ] at this
 have sm:∀l:List Nm,(l.map λ _=>n+1).sum=l.length*(n+1):=by
  intro l
  induction l with
  | nil=>simp
  | cons a l ih=>rw [aB,cj,ih,aG,Nat.succ_mul];exact Nat.add_comm _ _
 rw [sm] at this;exact this
theorem U6 {α:Type} {J:It} {H1:Hp} {fr:List Nat} {σ:St} {te:TE} {Q:VK} {cs:List α} {g:α->V} (T:Tells J H1 (cs.map g)) (R:ac->Hp->α->V->Prop) (mono:∀D c v H H',fw H H'->R D H c v->R D H' c v) (hz:cs.length<=dL)
  (he:∀D c H2 ys Q2,c∈cs->fw H1 H2->H2 D=some (.lst ys)->(∀v H3,fw H2 H3->R D H3 c v->Q2 v H3)->te (kN (g c) fr σ) H2 Q2)
  (off:∀H c v D ys zs,H D=some (.lst ys)->R D H c v->R D (upd H D (.lst zs)) c v)
  (hQ:∀D H2 ys,H1 D=none->fw H1 H2->H2 D=some (.lst ys)->fR (R D H2) cs ys->Q (.ref D) H2):vn J H1 fr σ C0 te Q:=by
 intro D hD;have hlen:(cs.map g).length=cs.length:=ae ..;refine⟨λ i m ys H2=>m=cs.length-i/\i<=cs.length/\fR (R D H2) (cs.take i) ys/\fw H1 H2/\H2 D=some (.lst ys),⟨_,rfl,aQ _,.nil,fw.new hD,e_⟩,?_⟩;rintro i m ys H2 ⟨rfl,hi,a2,s2,d2⟩;by_cases iT:i<cs.length
 .refine .inr ⟨T.go i H2 (by rwa [hlen]) s2,λ x H3 y=> ?_⟩;obtain⟨rfl,hx⟩:=T.CW i H2 x H3 s2 (by rwa [hlen]) y;rw [ak] at hx
  cases hc:cs[i]? with
  | none=>rw [hc] at hx;cases hx
  | some c=>
   rw [hc] at hx;obtain rfl:g c=x:=Option.some.inj hx;have hm:c∈cs:=aq hc;unfold C0;dsimp only;rw [if_pos rfl];refine he D c H3 _ _ hm s2 d2 λ v H5 s5 r5=>⟨s5 _ _ d2,?_,_,?_,rfl,iT,?_,(s2.trans s5).gh hD,e_⟩
   .have:=a2.len;rw [aX] at this;exact Qat hz iT this
   .exact V2 iT
   .rw [iJ hc];exact fR.snoc (R:=R D _) (off _ _ _ _ _ _ (s5 _ _ d2) r5) ((a2.imp λ a b r=>mono D a b _ _ s5 r).imp λ a b r=>off _ _ _ _ _ _ (s5 _ _ d2) r)
 .obtain rfl:i=cs.length:=by exact Zq hi (Zi iT)
  exact .inl ⟨by have:=T.stop H2 s2;rw [hlen] at this;exact this,hQ D H2 ys hD s2 d2 (by rw [br] at a2;exact a2)⟩
theorem yc.off (g:yc Hb H d n m good kvs) (hD:H D=some (.lst ys)) (hb:Hb D≠none):yc Hb (upd H D (.lst zs)) d n m good kvs:=by
 refine⟨by rw [fo (gA g.at_ hD (λ z=>nomatch z))];exact g.at_,g.len,g.nd,λ p hp=> ?_⟩;obtain⟨k,l,us,e,f,h,z,r⟩:=g.row p hp;refine⟨k,l,us,e,f,by rw [fo (λ q=>hb (by rwa [<-q]))];exact h,z,λ y hy=> ?_⟩;obtain⟨b,num,to,e1,e2,e3⟩:=r y hy;exact⟨b,num,to,e1,by rwa [fo (gA e2 hD (λ z=>nomatch z))],e3⟩
structure yf (B H:Hp) (qe qs:ac) (jj:List j_) (good:Bool->Nm->Int->Nm->Prop) (st:Nm) (ts:List Nm) (es:List En):Prop where
 old:fw B H
 ents:pR H qe es
 seen:H qs=some (.dT (kF es))
 ok:iO jj good st es
 nd:(es.map i5).Nodup
 th:∀e∈es,e.th∈ts
section
variable {B H H':Hp} {qe qs:ac} {jj:List j_} {good:Bool->Nm->Int->Nm->Prop} {st:Nm} {ts:List Nm} {es:List En}
theorem yf.same (h:yf B H qe qs jj good st ts es) (s:fw H H'):yf B H' qe qs jj good st ts es:=⟨h.old.trans s,h.ents.same s,s _ _ h.seen,h.ok,h.nd,h.th⟩
theorem yf.jr (h:yf B H qe qs jj good st ts es) (lt:ts.length<=100) (lm:jj.length<=24):es.length<=2500:=by
 have h1:=GJ h.nd λ e he=>by
  obtain⟨k,hk⟩:=aL.mp he;exact⟨h.th e he,h.ok.rm hk⟩
 have h2:ts.length*(jj.length+1)<=100*25:=cL lt (by lia);exact Zc h1 h2
theorem yf.put {e f:En} {j:Nat} {mk:j_} (h:yf B H qe qs jj good st ts es) (new:i5 e∉es.map i5) (fe:B qe=none) (fs:B qs=none) (hb:e.Gy=(j:Int)) (hj:es[j]? = some f) (hf:e.mX=f.mX+1) (h1:1<=e.rm) (hm:jj[(e.rm-1).toNat]? = some mk) (hg:good mk.back f.th e.num e.th) (Xd:e.th∈ts)
  {b:ac} (Xn:upd H qs (.dT (putK (kF es) (nP (i5 e)) (.bl true))) b=none) :
  ∃xs,upd (upd H qs (.dT (putK (kF es) (nP (i5 e)) (.bl true)))) b (.tup (Lw e)) qe=some (.lst xs)/\xs.length=es.length/\
   yf B (upd (upd (upd H qs (.dT (putK (kF es) (nP (i5 e)) (.bl true)))) b (.tup (Lw e))) qe (.lst (xs ++ [.ref b]))) qe qs jj good st ts (es ++ [e]):=by
 rw [MJ new] at Xn⊢;obtain⟨as,ha,al⟩:=h.ents;have qn:qe≠qs:=gA ha h.seen (λ z=>nomatch z)
 have k1:∀c (o:HO),(∀z,o≠.dT z)->H c=some o->upd (upd H qs (.dT (kF (es ++ [e])))) b (.tup (Lw e)) c=some o:=λ c o no hc=>by
  have c1:upd H qs (.dT (kF (es ++ [e]))) c=some o:=by
   rwa [fo (gA hc h.seen (no _))]
  rwa [fo (fA c1 Xn)]
 have ı:=k1 qe _ (λ z q=>by cases q) ha;have L8:fR (λ x e'=>upd (upd H qs (.dT (kF (es ++ [e])))) b (.tup (Lw e)) x=some (.tup (Lw e'))) as es:=al.imp λ x e' r=>k1 x _ (λ z q=>by cases q) r;have sb:qs≠b:=λ z=>by rw [<-z,e_] at Xn;cases Xn
 refine⟨_,ı,by rw [ae,al.len],((h.old.gh fs).trans (fw.new Xn)).gh fe,Lv ı L8 e_,?_,h.ok.push hb hj hf h1 hm hg,?_,λ x hx=> ?_⟩
 .rw [fo (Ne.symm qn),fo sb,e_]
 .rw [ax,bN];refine⟨h.nd,by simp,λ a ha b hb z=>new ?_⟩;have:b=i5 e:=by simpa using hb
  rwa [<-this,<-z]
 .rcases aA.mp hx with hx|hx
  .exact h.th x hx
  .rwa [aj.mp hx]
end
def è (σ:St):Nat:=match σ[6]? with
 | some (some (V.int n))=>n.toNat
 | _=>0
theorem CU.get {i:Nat} (h:CU H a fs) (hl:fs[i]? = some l):∃(xs:List V) (b:ac),H a=some (.lst xs)/\xs[i]? = some (.ref b)/\H b=some (.lst (l.map V.int)):=by
 obtain⟨as,ha,al⟩:=h;obtain⟨b,hb,r⟩:=al.at hl;exact⟨_,b,ha,by rw [ak,hb];rfl,r⟩
theorem Md (Pv:Nat->St->Hp->Prop) (m0:Nat) (h0:Pv m0 σ H)
  (hs:∀m σ H,Pv m σ H->c σ H λ b H1=>if b=true then tb {D with nx:=λ fY H'=>∃m',m'<m/\Pv m' fY H',ct:=λ fY H'=>∃m',m'<m/\Pv m' fY H',bk:=D.nx} σ H1 else D.nx σ H1)
  (mono:∀σ H Q Q',(∀b H1,Q b H1->Q' b H1)->c σ H Q->c σ H Q'):C1 c tb D σ H:=by
 refine⟨Pv,⟨m0,h0⟩,λ m σ H p=>mono σ H _ _ (λ b H1 q=> ?_) (hs m σ H p)⟩
 cases b with
 | true=>exact⟨_,λ fY H' z=>z,q⟩
 | false=>exact q
def jN (es:List En):Nat->Nat->List Nat
 | 0,_=> []
 | n+1,k=>if k=0 then [] else k::jN es n ((es[k]?.map En.Gy).getD 0).toNat
theorem mH (es:List En) (n:Nat):jN es n 0 = []:=by
 cases n with
 | zero=>rfl
 | succ n=>unfold jN;rw [if_pos rfl]
section
variable {jj:List j_} {good:Bool->Nm->Int->Nm->Prop} {st:Nm} {es:List En}
theorem iO.Gy (b:iO jj good st es) (he:es[k+1]? = some e):∃j:Nat,e.Gy=(j:Int)/\j<=k/\((es[k+1]?.map En.Gy).getD 0).toNat=j:=by
 obtain⟨j,f,mk,h1,h2,_⟩:=b.Pk k e he;refine⟨j,h2,h1,?_⟩;rw [he];show (e.Gy).toNat=j;rw [h2];rfl
theorem rT (b:iO jj good st es):∀(n m k:Nat),k<=n->k<=m->k<es.length->jN es n k=jN es m k
 | 0,m,k,h1,_,_=>by
  obtain rfl:k=0:=by exact Zq h1 (Nat.zero_le _)
  rw [mH,mH]
 | n+1,m,0,_,_,_=>by rw [mH,mH]
 | n+1,0,k+1,_,h,_=>absurd h (Zy (Zt (Nat.zero_le _)))
 | n+1,m+1,k+1,h1,h2,h3=>by
  obtain⟨j,_,hj,ej⟩:=b.Gy (show es[k+1]? = some es[k+1] by simp);unfold jN;rw [if_neg (eP k),if_neg (eP k),ej,rT b n m j (Zs (Zb hj h1)) (Zs (Zb hj h2)) (Zb hj (Zb Zk h3))]
theorem pG (b:iO jj good st es) {k j:Nat} (he:es[k+1]? = some e) (hj:e.Gy=(j:Int)):jN es (k+1) (k+1)=(k+1)::jN es j j:=by
 have hk:=(ag.mp he).1;obtain⟨j',h1,h2,h3⟩:=b.Gy he;obtain rfl:j'=j:=by lia
 show (if k+1=0 then [] else (k+1)::jN es k ((es[k+1]?.map En.Gy).getD 0).toNat)=_;rw [if_neg (eP k),h3,rT b k j' j' h2 (az _) (Zb h2 (Zb Zk hk))]
theorem BH:∀(n k:Nat),(jN es n k).length<=n
 | 0,_=>az _
 | n+1,k=>by
  unfold jN
  split
  .exact aQ _
  .exact dD (BH n _)
end
def sL (jj:List j_) (es:List En) (k:Nat):Int×Bool:=((es[k]?.map En.num).getD 0,((es[k]?.bind λ e=>jj[(e.rm-1).toNat]?).map j_.back).getD false)
def hZ (H:Hp) (a:ac) (ws:List (Int×Bool)):Prop:=∃as:List ac,H a=some (.lst (as.map V.ref))/\fR (λ x w=>H x=some (.tup [.int w.1,.bl w.2])) as ws
theorem Kb (hq:H q=some (.lst (as.map V.ref))) (al:fR (λ x w=>H x=some (.tup [.int w.1,.bl w.2])) as ws) (hp:H p=some (.tup [.int w.1,.bl w.2])) :
  hZ (upd H q (.lst (as.map V.ref ++ [.ref p]))) q (ws ++ [w]):=by
 have ne:∀x (xs:List V),H x=some (.tup xs)->upd H q (.lst (as.map V.ref ++ [.ref p])) x=some (.tup xs):=λ x xs h=>by
  rwa [fo (gA h hq (λ z=>nomatch z))]
 exact⟨as ++ [p],by rw [e_,ax];rfl,fR.snoc (R:=λ x (w:Int×Bool)=>upd H q (.lst (as.map V.ref ++ [.ref p])) x=some (.tup [.int w.1,.bl w.2])) (ne _ _ hp) (al.imp λ _ _ r=>ne _ _ r)⟩
theorem Me (hq:H q=some (.lst (as.map V.ref))) (al:fR (λ x w=>H x=some (.tup [.int w.1,.bl w.2])) as ws):hZ (upd H q (.lst (as.map V.ref).reverse)) q ws.reverse:=by
 refine⟨as.reverse,by rw [e_,List.map_reverse],fR.imp (λ x w r=> ?_) al.rev⟩
 rwa [fo (gA r hq (λ z=>nomatch z))]
def iU (ends:List Bool):List En->Nat->List (Nm×Int)->List (Nm×Int)
 | [],_,m=>m
 | e::es,k,m=>iU ends es (k+1) (if (ends[e.rm.toNat]?).getD false=true/\e.th∉m.map (·.1) then m ++ [(e.th,(k:Int))] else m)
theorem ub (ends:List Bool) (e:En):∀(es:List En) (k:Nat) (m:List (Nm×Int)),iU ends (es ++ [e]) k m=(if (ends[e.rm.toNat]?).getD false=true/\e.th∉(iU ends es k m).map (·.1) then iU ends es k m ++ [(e.th,((k+es.length:Nat):Int))] else iU ends es k m)
 | [],k,m=>rfl
 | x::es,k,m=>by
  show iU ends (es ++ [e]) (k+1) _=_;rw [ub ends e es];rw [show k+1+es.length=k+(x::es).length by rw [aG];exact Nat.add_right_comm _ _ _];rfl
def RA (H:Hp) (a:ac) (m:List (Nm×Int)):Prop:=∃as:List ac,H a=some (.lst (as.map V.ref))/\fR (λ x y=>H x=some (.tup [.str (tx y.1),.int y.2])) as m
theorem BY (ends:List Bool):∀(es:List En) (k:Nat) (m:List (Nm×Int)),(iU ends es k m).length<=m.length+es.length
 | [],_,m=>az _
 | e::es,k,m=>by
  have h:=BY ends es (k+1) (if (ends[e.rm.toNat]?).getD false=true/\e.th∉m.map (·.1) then m ++ [(e.th,(k:Int))] else m);show (iU ends es (k+1) _).length<=_;refine bj h ?_
  split
  .rw [ao,aG,aG,aW];lia
  .rw [aG];exact Zw Zk
theorem NB (h:k∉m.map (·.1)):hV (gH m) (.inr (tx k))=none/\putK (gH m) (.inr (tx k)) (.int v)=gH (m ++ [(k,v)]):=by
 have h1:hV (gH m) (.inr (tx k))=none:=by
  have h2:=lj (l:=k) (m:=m);rw [decide_eq_false h] at h2
  cases q:hV (gH m) (.inr (tx k)) with
  | none=>rfl
  | some v=>rw [q] at h2;cases h2
 refine⟨h1,?_⟩;rw [mB _ h1];unfold gH;rw [ax];rfl
theorem J8 {α β:Type} {R:α->β->Prop}:∀(as:List α) (bs:List β),as.length=bs.length->(∀(i:Nat) (a:α) (b:β),as[i]? = some a->bs[i]? = some b->R a b)->fR R as bs
 | [],[],_,_=>.nil
 | [],_::_,h,_=>by cases h
 | _::_,[],h,_=>by cases h
 | a::as,b::bs,h,r=>.cons (r 0 a b rfl rfl) (J8 as bs (Nat.succ.inj h) λ i x y hx hy=>r (i+1) x y hx hy)
section
variable {prog:im} {w:io} {A:pi} {E:bv->ci->Prop} {s:ci} {I l S:ac} {items:Array bv}
end
section
variable {X:Cx}
end
theorem hZ.same (h:hZ H a m) (s:fw H H'):hZ H' a m:=by
 obtain⟨as,e,al⟩:=h;exact⟨as,s _ _ e,al.imp λ _ _ r=>s _ _ r⟩
section
variable {jj:List j_} {good:Bool->Nm->Int->Nm->Prop} {st:Nm} {es:List En}
theorem iO.mX (b:iO jj good st es):∀(k:Nat) (e:En),es[k]? = some e->e.mX=((jN es k k).length:Int):=by
 intro k
 induction k using Nat.strongRecOn with
 | _ k ih=>
  intro e he
  cases k with
  | zero=>
   rw [b.fst] at he
   cases he;rfl
  | succ k=>
   obtain⟨j,f,mk,h1,h2,h3,h4,_⟩:=b.Pk k e he;rw [pG b he h2,h4,ih j (Zt h1) f h3,aG];exact rfl
end
section
variable {W:WS} {m:j_} {n:Nat} {H0 H H':Hp} {d:ac} {kvs:List (Key×V)}
end
section
variable {M:AJ} {W:WS} {st:Nm} {es:List En} {pl:Nat} {e e0:En} {mq:j_}
end
section
variable {X:Cx}
open Classical in
end
theorem yC (nd:(rs.map (·.1)).Nodup) (jt:(num,tn,fZ)∈rs):hV (fU rs) (.inl num)=some (.ref tn):=by
 have h1:(hV (fU rs) (.inl num)).isSome=true:=by
  rw [mZ];exact decide_eq_true (aC.mpr ⟨_,jt,rfl⟩)
 obtain⟨v,h2⟩:=Option.isSome_iff_exists.mp h1;have h3:=nY h2;unfold fU at h3;obtain⟨x,hx,ex⟩:=aC.mp h3;injection ex with e1 e2
 injection e1 with e1
 have:x=(num,tn,fZ):=wb nd hx jt e1;rw [h2,<-e2,this]
end L2
namespace L2
open PySem PySem.Spec PyProof.Rows PySem.W
section
variable {prog:im} {w:io} {A:pi} {E:bv->ci->Prop} {s:ci} {env:Env}
variable {nm q:Str} {C N a:ac} {bs bm bmB:List bv} {hdct:Bool} {sn:List Str} {sub:List bv} {ab:Bool} {col:Option Bool} {dd:Option ac} {k0 k1 k2 k3 k5:Option bv} {B newId ď:String}
end
section
variable {P:im} {w:io} {K:ai} {mg:Str->Option bv} {base:Heap} {N:List Str} {qual:Str} {scope:FS} {f:ac} {cd:bv} {A:pi} {outer:List Env} {s:ci} {H:Hp} {E:XK}
end
section
variable {X:Cx} {pins:List (ac×Obj)} {σ:St} {H:Hp} {s:ci} {a C:ac} {d:Option ac}
theorem Inv.PJ {φ:Heap->Prop} (I:Inv X pins σ (upd H a (.ext φ)) s) (ha:H a=none):Inv X pins σ H s:=by
 have un:∀b,upd H a (.ext φ) b=none->H b=none:=λ b h=>by
  by_cases z:b=a
  .rwa [z]
  .rw [fo z] at h;exact h
 have of:∀b o,(∀ψ,o≠HO.ext ψ)->upd H a (.ext φ) b=some o->H b=some o:=λ b o n h=>by
  by_cases z:b=a
  .rw [z,e_] at h;exact absurd (Option.some.inj h).symm (n φ)
  .rw [fo z] at h;exact h
 refine⟨I.ok,I.os,I.bare,⟨I.base.keep,I.base.slot,λ b o e n x=>un b (I.base.free b o e n x),I.base.there,λ b xs e=>of b _ (λ _ z=>nomatch z) (I.base.iM b xs e),λ b o u e=>of b _ (λ _ z=>nomatch z) (I.base.oG b o u e),λ b ps e=> ?_⟩,I.loc,I.cell,un _ I.free,λ x c e=>un _ (I.lA x c e),λ p hp=> ?_,λ b u e=> ?_,I.len⟩
 .obtain⟨m,q⟩:=I.base.qr b ps e;exact⟨m,of b _ (λ _ z=>nomatch z) q⟩
 .obtain⟨q1,q2,q3⟩:=I.pin p hp;exact⟨q1,un _ q2,q3⟩
 .have nb:b≠a:=λ z=>by
   rw [z,ha] at e
   cases e
  refine(I.gG b u (by rwa [fo nb])).sy (λ _ _ _ q=>q) (λ c q=>of c _ (λ _ z=>nomatch z) q) λ c xs q=>of c _ (λ _ z=>nomatch z) q
structure O6 (X:Cx) (pins:List (ac×Obj)) (σ:St) (H:Hp) (a C:ac) (d:Option ac) (s:ci):Prop where
 inv:Inv X pins σ H s
 new:H a=none
 cls:Gi s.heap a C
 ctx:d=none->Inv X pins σ (upd H a (.ext (Eu a))) s
 Z_:∃B a0,bS B X.stack a (.ref C) a0 s.heap
theorem K7 (fl:bS B l a c a0 s.heap) (h:Q () s):gc M A (setFlight (.ref a) none) Q E s:=by
 obtain⟨oe,vs,T,oT,ts,e1,_,e2,e3,_,_,e4,e5,e6⟩:=fl.2.2.2;refine wpAny_setFlight_none e1 e2 e3 e4 e5 (Array.getElem?_eq_some_iff.mp e6).1 ?_
 rwa [Heap.update_setField_same s.heap T oT ts 3 .none e4 e5 e6]
def HB (X:Cx) (C:ac) (d:Option ac) (hs:List Jab) (th:TS):Prop:=∀(pins:List (ac×Obj)) (σ:St) (H:Hp) (a:ac) (s:ci) (D:Ends),O6 X pins σ H a C d s->th D σ H->
 gc (ga X.prog X.w) X.A (handleBy (.ref a) X.env hs) (SP X pins D) X.xe s
variable {x:Str} {D0:ac} {X8:pc} {body EM:List pc} {np Up:Pos} {rest:List Jab} {th:TS}
theorem UD (hm:JaL X.K (.ref C) (.ref D0)=some true) (ħ:X.mg x=some (.ref D0)) (h:∀a,wK (X.JH a) (X8::EM) th) (hg:Gl X x:=by rfl) (hd:(x==("__debug__" : Str))=false:=by decide) :
  HB X C d (.ExceptHandler (some (.Name x np)) none (X8::EM) Up::rest) (λ D=>th {nx:=D.nx,rt:=D.rt}):=by
 intro pins σ H a s D L q;refine wpAny_handleBy_cons (codeAny_handlers_test ?_) (by intro q;cases q);refine rV (X:=X.JH a) (L.inv.JH a) hg ħ ?_ hd;refine PySem.W.Looks.here (PySem.W.exm_one L.inv.vp (Gi.type L.cls) hm) ?_;obtain⟨B,a0,fl⟩:=L.Z_;refine codeAny_handlers_suite (K7 fl ?_);refine re (h a pins s σ H _ (L.inv.JH a) q) (λ f s8 q8=> ?_) λ _ _ z=>z.elim
 cases f with
 | next=>
  obtain⟨MD,H8,I8,q8⟩:=q8;exact⟨MD,H8,I8.RF L.inv.ok,q8⟩
 | brk=>
  obtain⟨MD,H8,I8,q8⟩:=q8;exact q8.elim
 | cont=>
  obtain⟨MD,H8,I8,q8⟩:=q8;exact q8.elim
 | ret u=>
  obtain⟨v,MD,H8,I8,r8,q8⟩:=q8;exact⟨v,MD,H8,I8.RF L.inv.ok,r8,q8⟩
end
def Al:List (ac×Bool×TS)->Ends->St->bv->Option ac->Hp->Prop
 | [],_,_,_,_,_=>False
 | (C,b,th)::r,D,σ,c,d,H=>(c = .ref C/\(b=true->d=none)/\th D σ H)\/Al r D σ c d H
def IM (cs:List (ac×Bool×TS)) (tb:YG):TS:=λ D σ H=>tb D (λ fY c d H'=>Al cs D fY c d H') σ H
inductive RD (X:Cx) (hs:List Jab):List (ac×Bool×TS)->Prop
 | nil:RD X hs []
 | cons {C:ac} {b:Bool} {th:TS} {r:List (ac×Bool×TS)} (h:∀d,(b=true->d=none)->HB X C d hs th) (t:RD X hs r):RD X hs ((C,b,th)::r)
theorem RD.run (h:RD X hs cs) (L:O6 X pins σ H a C d s) (q:Al cs D σ (.ref C) d H) :
  gc (ga X.prog X.w) X.A (handleBy (.ref a) X.env hs) (SP X pins D) X.xe s:=by
 induction h with
 | nil=>exact q.elim
 | cons h t ih=>
  rcases q with ⟨e,b,q⟩|q
  .cases e;exact h d b pins σ H a s D L q
  .exact ih q
theorem Qj (nQ:X.stack=X.env::X.outer) (hf:X.env.frame=some X.env.locals) (hb:Î (ij X.prog X.w) X body tb) (hh:RD X (h₀::hs) cs) :
  PS X (.Try body (h₀::hs) [] [] pos) (IM cs tb):=by
 intro pins s σ H D I h;refine wpAny_Try_except (re (hb pins s σ H D _ I h) (λ f s1 q=> ?_) λ e s1 hx=> ?_)
 .cases f with
  | next=>exact Ix q
  | brk=>exact q
  | cont=>exact q
  | ret v=>exact q
 .obtain⟨GL,H1,s0,I1,a,C,H2,d,rfl,F,hd,q⟩:=hx;obtain⟨a0,B,fl,gG,kp,tH⟩:=F.Z_;have Ĩ:X.A.frames=some (X.env::X.outer):=by rw [<-nQ];exact I1.ok.frames
  have fl':=fl;rw [nQ] at fl';refine re ((zI a _ _).Vd hd (wpAny_looks_onW Ĩ hf fl' (Q:=λ _ s4=>∃h4,s4 = {s1 with heap:=h4}/\Heap.HeldW B (X.env::X.outer) a (.ref C) a0 X.env.locals h4/\s1.heap.UpToSlots h4) λ h4 Od YV=>⟨h4,rfl,Od,YV⟩)) (λ _ s4 hs4=> ?_) λ _ _ z=>z;obtain⟨⟨h4,rfl,Od,YV⟩,hd4⟩:=hs4;refine re ((uT a _ _).Vd (s:= {s1 with heap:=h4}) hd4 (wpAny_landsW (s:= {s1 with heap:=h4}) Od (Q:=λ _ s5=>∃h5,s5 = {s1 with heap:=h5}/\bS B (X.env::X.outer) a (.ref C) a0 h5/\h4.UpToSlots h5) λ h5 fl5 YU=>⟨h5,rfl,fl5,YU⟩)) (λ _ s5 hs5=> ?_) λ _ _ z=>z;obtain⟨⟨h5,rfl,fl5,YU⟩,hd5⟩:=hs5;have UM:bS B X.stack a (.ref C) a0 h5:=by rwa [nQ]
  obtain⟨Xo,I5⟩:=Sx.lands I1 F fl gG kp tH UM (YV.trans YU);refine hh.run ⟨I5.PJ Xo,Xo,(I5.gG a _ (e_ ..)).1,λ z=>(Sx.NU I1 F fl gG kp tH UM (YV.trans YU) (hd5 z) λ g1 g2 ⟨o,vs,e1,e2⟩ k=>⟨o,vs,k o e1,e2⟩).2,B,a0,UM⟩ q
structure O2 (K:Frag) (cs:List ac):Prop where
 all:cs.map (λ C=>cs.map λ D=>JaL K (.ref C) (.ref D))=cs.map λ C=>cs.map λ D=>some (decide ((C:Nat)=D))
 nd:decide (@List.Nodup Nat cs)=true
section
variable {K:Frag} {cs:List ac} {C D:ac}
theorem O2.two (T:O2 K cs) (h:C∈cs) (h':D∈cs):JaL K (.ref C) (.ref D)=some (decide ((C:Nat)=D)):=(eK.mp ((eK.mp T.all) C h)) D h'
theorem O2.hit (T:O2 K cs) (h:C∈cs):JaL K (.ref C) (.ref C)=some true:=by rw [T.two h h,decide_eq_true rfl]
end
theorem Rt {X:Cx} {C D0:ac} {d:Option ac} {x:Str} {X8:pc} {EM:List pc} {np Up:Pos} {rest:List Jab} {th:TS} (hm:JaL X.K (.ref C) (.ref D0)=some true) (ħ:X.mg x=some (.ref D0)) (h:∀a,Bx (wK (X.JH a) (X8::EM) th)) (hg:Gl X x:=by rfl) (hd:(x==("__debug__" : Str))=false:=by decide) :
  HB X C d (.ExceptHandler (some (.Name x np)) none (X8::EM) Up::rest) (λ D=>th {nx:=D.nx,rt:=D.rt}):=UD hm ħ (λ a=>(h a).un) hg hd
theorem OU (nQ:X.stack=X.env::X.outer) (hf:X.env.frame=some X.env.locals) (hb:Bx (Î (ij X.prog X.w) X body tb)) (hh:RD X (h₀::hs) cs) :
  Bx (PS X (.Try body (h₀::hs) [] [] pos) (IM cs tb)):=⟨Qj nQ hf hb.un hh⟩
end L2
namespace L2
open PySem PySem.Spec PyProof.Rows
def Mi (w:Int×Bool):Tk:=.tuple [.int w.1,.bool w.2]
theorem hZ.dat {K:ai} {H:Hp} {a:ac} {ws:List (Int×Bool)} (h:hZ H a ws):rH K H (.ref a) (.list (ws.map Mi)):=by
 obtain⟨as,e,al⟩:=h;exact .lst (gg.of e) (FP (f:=Mi) (R:=λ x w=>H x=some (.tup [.int w.1,.bl w.2])) (λ x w r=>.tup (oV.of r) (.cons (.int _) (.cons (.bl _) .nil))) al)
theorem Mf (ws:List (Int×Bool)):L_ 2 (.list (ws.map Mi)):=by
 refine FN (uX λ d hd=> ?_);obtain⟨w,hw,rfl⟩:=aC.mp hd;refine JN (uX λ d hd=> ?_);simp only [av,bb,or_false] at hd;rcases hd with rfl|rfl
 .exact Q_ _
 .exact Oo _
end L2
namespace L2
open PySem PySem.Spec PyProof.Rows PySem.W
section
variable {P:im} {w:io} {K:ai} {mg:Str->Option bv} {base:Heap} {N:List Str} {qual:Str} {scope:FS} {f:ac} {cd:bv} {A:pi} {outer:List Env} {s:ci} {H:Hp} {E:XK}
end
end L2
namespace L2
open PySem PySem.Spec PyProof.Rows
def LY (v0 v1:V) (fr:List Nat) (σ:St):St:=some v0::some v1::fr.map λ j=>(σ[j]?).join
section
variable {X:Cx} {x y:Str} {px py tp:Pos} {kt:Nat} {elt iter:li} {ifs:List li} {scope:FS} {pos:Pos} {N:List Str} {fr:List Nat} {tt:TT} {te:TE} {wi:TI}
end
def LK (lo:Int) (n:Nat):It:=⟨λ i _=>i<n,λ i H x H'=>H'=H/\x = .int (lo-i),λ i _=>n<=i⟩
theorem Kf {P:im} {w:io} {K:ai} {tg:li} (it:ac) (lo:Int) (n:Nat):Turn P w K tg (LK lo n) [it] it (λ i h=>Jao h it (lo+(i:Nat)*(-1)) ((n:Int)-(i:Nat)) (-1)) where
 mem:=by simp
 obj:=λ i h st b hb=>by
  have e:b=it:=by simpa using hb
  subst e
  exact⟨_,st,λ v z=>by
   have z':Data.fields _=Data.cell v:=z
   cases z'⟩
 keep:=λ i h h' st k=>k it (by simp) _ st
 item:=by
  intro X hP hw hK hc i pins s σ H E I hf st hg;subst hP hw hK;obtain⟨f0,f1,f2,f3,f4,f5⟩:=hf it (by simp);have W:=Walks.range (prog:=X.prog) (w:=X.w) (I.ok.hd hc) it lo (-1) n;refine W.item i s _ _ hg st λ v h' tk hv Ey kk=> ?_;obtain⟨t,rfl⟩:=hv;have I1:Inv X pins σ H {s with heap:=h',toks:=tk}:=I.turned (λ b o hb e=>kk b o (by simpa using hb) e) f0 f1 f3 f4 f5;refine⟨_,rfl,JK (s:= {s with heap:=h',toks:=tk}) (n:="range_iterator") Ey rfl rfl (by decide) ⟨.int (lo-i),H,I1,⟨t,?_⟩,⟨rfl,rfl⟩,Ey,λ b hb=>(hf b hb).1⟩⟩;rw [Int.mul_neg_one,<-Int.sub_eq_add_neg]
 done:=by
  intro X hP hw hK hc i pins s σ H E I hf st hg;subst hP hw hK;obtain⟨f0,f1,f2,f3,f4,f5⟩:=hf it (by simp);exact JaD (I.ok.hd hc) st (by have:n<=i:=hg;exact Qam this) λ h' eb=>⟨rfl,I.turned (t':=s.toks) (λ b o hb e=>eb b o hb e) f0 f1 f3 f4 f5⟩
 self:=λ _ _ _ _ _ st h=>JaF st h
theorem Bw (a b:Int):Builtin.Range.rangeSize a b (-1)=if a>b then a-b else 0:=by
 unfold Builtin.Range.rangeSize;rw [if_neg (by decide),show -(-1:Int)=1 by decide,Int.ediv_one]
 split<;>lia
theorem small_down (ha : -(2 ^ 62)<=a) (QW:a<2 ^ 62) (hb : -(2 ^ 62)<=b) (yp:b<2 ^ 62):Builtin.Range.small a b (-1)=true:=by
 unfold Builtin.Range.small;rw [Bw];simp only [Builtin.Range.rangeFitsLong,bc,dR,decide_eq_true_eq,beq_iff_eq,show ¬((-1:Int)>0) by decide,if_false]
 split<;>lia
section
variable {X:Cx} {tg:li}
theorem Rk {lo hi:Int} {tk:Nat} (I:Inv X pins σ H s) (h1 : -(2 ^ 62)<=lo) (h2:lo<2 ^ 62) (h3 : -(2 ^ 62)<=hi) (h4:hi<2 ^ 62)
  (q:R (LK lo (lo-hi).toNat) H):gc (ga X.prog X.w) X.A (Jaj (.ref s.heap.objs.size)) (Ï X pins σ tg R) E {s with heap:=s.heap.push {cls:=.type "range",data:=.fields #[.int lo t,.int hi u,.int (-1) v]},toks:=tk}:=by
 refine Ja1 (IsRange.new ..) (small_down h1 h2 h3 h4) ?_;have I1:Inv X pins σ H {s with heap:=s.heap.push {cls:=.type "range",data:=.fields #[.int lo t,.int hi u,.int (-1) v]},toks:=tk}:=I.kept λ b o e=>ah _ e
 refine⟨(s.heap.push {cls:=.type "range",data:=.fields #[.int lo t,.int hi u,.int (-1) v]}).objs.size,[(s.heap.push {cls:=.type "range",data:=.fields #[.int lo t,.int hi u,.int (-1) v]}).objs.size],_,_,H,rfl,
  I1.kept (t':=tk) λ b o e=>ah _ e,Kf _ lo (lo-hi).toNat,?_,λ b hb=> ?_,q⟩
 .have e1:lo+((0:Nat):Int)*(-1)=lo:=by simp
  have e2:(((lo-hi).toNat:Nat):Int)-((0:Nat):Int)=Builtin.Range.rangeSize lo hi (-1):=by rw [Bw];split<;>lia
  show Jao _ _ (lo+((0:Nat):Int)*(-1)) ((((lo-hi).toNat:Nat):Int)-((0:Nat):Int)) (-1);rw [e1,e2];exact aK _ rfl
 .have e:b=(s.heap.push {cls:=.type "range",data:=.fields #[.int lo t,.int hi u,.int (-1) v]}).objs.size:=by simpa using hb
  subst e;exact I1.Ba (az _) (I1.gG.fresh (az _))
def R4 (ta:TA):TI:=λ σ H R=>ta σ H λ vs H1=>∃i j:Int,vs = [.int i,.int j,.int (-1)]/\(-(2 ^ 62)<=i/\i<2 ^ 62/\-(2 ^ 62)<=j/\j<2 ^ 62)/\R (LK i (i-j).toNat) H1
theorem KG (hg:Gl X "range") (hm:X.mg "range" = none) (ha:PA X [a,b,c] ta) (hs:db [a,b,c] X.env = [(false,jp a X.env),(false,jp b X.env),(false,jp c X.env)]:=by rfl)
  (JG:db [b,c] X.env = [(false,jp b X.env),(false,jp c X.env)]:=by rfl):PI X tg (.Call (.Name "range" p) [a,b,c] [] pos) (R4 ta):=by
 intro pins s σ H R I h;refine Call_ (lK I hg hm Jay (bx (gZ (ha pos pins s σ H _ I h) λ us s1 zq=> ?_) (by rw [hs,JG]) (by rw [JG];rfl)));obtain⟨vs,H1,I1,r1,q1⟩:=zq;obtain⟨i,j,e,⟨q1,q2,q3,q4⟩,q⟩:=q1;subst e
 cases r1 with
 | cons r rr=>
  cases rr with
  | cons r' rr=>
   cases rr with
   | cons r'' rr=>
    cases rr;obtain⟨t,rfl⟩:=r;obtain⟨t',rfl⟩:=r';obtain⟨t'',rfl⟩:=r'';exact call_range_3 (by decide) (Rk I1 q1 q2 q3 q4 q) (.inl (PyProof.noPylong_small (by lia)))
theorem Im (hg:Gl X "range") (hm:X.mg "range" = none) (ha:Bx (PA X [a,b,c] ta)) (hs:db [a,b,c] X.env = [(false,jp a X.env),(false,jp b X.env),(false,jp c X.env)]:=by rfl)
  (JG:db [b,c] X.env = [(false,jp b X.env),(false,jp c X.env)]:=by rfl):Bx (PI X tg (.Call (.Name "range" p) [a,b,c] [] pos) (R4 ta)):=⟨KG hg hm ha.un hs JG⟩
end
section
variable {X:Cx} {x y:Str} {px py tp:Pos} {kt:Nat} {elt iter:li} {ifs:List li} {scope:FS} {pos:Pos} {N:List Str} {fr:List Nat} {tt:TT} {te:TE} {wi:TI}
end
section
variable {X:Cx} {a:ac} {kvs:List (Key×V)} {o i e:li} {pos apos gY:Pos} {td ty:TE}
end
end L2
namespace L2
open PySem PySem.Spec PyProof.Rows PySem.W
def gd (p:Array Nat) (i:Nat):Nat:=p.getD i 0
end L2
namespace L2
open PySem PySem.Spec PyProof.Rows
def Mu (ta:TA):TE:=λ σ H Q=>ta σ H λ vs H1=>∃n:Nat,vs = [V.int (n:Int)]/\n<=1000000/\∀l,H1 l=none->Q (.ref l) (upd H1 l (.lst ((List.range n).map λ i:Nat=>V.int (i:Int))))
theorem GF:∀{n:Nat} {xs:List bv},xs.length=n->(∀(i:Nat) (v:bv),xs[i]? = some v->∃t,v=Value.int (0+(i:Int)*1) t)->Vals ((List.range n).map λ i:Nat=>V.int (i:Int)) xs:=by
 intro n xs hl h
 have gen:∀(xs:List bv) (k:Nat),(∀(i:Nat) (v:bv),xs[i]? = some v->∃t,v=Value.int ((k+i:Nat):Int) t)->Vals ((List.range' k xs.length).map λ i:Nat=>V.int (i:Int)) xs:=by
  intro xs
  induction xs with
  | nil=>exact λ k _=>.nil
  | cons x xs ih=>
   intro k h;obtain⟨t,e⟩:=h 0 x rfl;refine .cons ⟨t,e⟩ (ih (k+1) λ i v hi=> ?_);obtain⟨t,e⟩:=h (i+1) v hi;exact⟨t,by rw [e,show k+(i+1)=k+1+i by lia]⟩
 rw [List.range_eq_range',<-hl]
 exact gen xs 0 λ i v hi=>by
  obtain⟨t,e⟩:=h i v hi;exact⟨t,by rw [e,show (0:Int)+(i:Int)*1=((0+i:Nat):Int) from Yw]⟩
section
variable {X:Cx}
theorem Nc (hc:X.calm=true) (hg:Gl X "list") (hm:X.mg "list" = none) (QT:Gl X "range") (N_:X.mg "range" = none) (ha:PA X [a] ta) (hs:db [a] X.env = [(false,jp a X.env)]:=by rfl)
  (he:db [.Call (.Name "range" p2) [a] [] sA] X.env = [(false,jp (.Call (.Name "range" p2) [a] [] sA) X.env)]:=by rfl) :
  PE X (.Call (.Name "list" p) [.Call (.Name "range" p2) [a] [] sA] [] pos) (Mu ta):=by
 intro pins s σ H Q I h;refine Call_ (lK I hg hm boot_list (bx ?_ he rfl));rw [he];refine Calls.spliced_cons (Call_ (lK I QT N_ Jay (bx (gZ (ha sA pins s σ H _ I h) λ us s1 zq=> ?_) hs rfl)));obtain⟨vs,H1,I1,r1,q1⟩:=zq;obtain⟨n,rfl,hn,q⟩:=q1;obtain⟨u,rfl,ru⟩:=r1.one;obtain⟨t,rfl⟩:=ru;refine call_range_1 (Calls.spliced_nil ?_);have kp:∀c o,s1.heap.get? c=some o->(s1.heap.push {cls:=.type "range",data:=.fields #[.int 0 s1.toks,.int (n:Int) t,.int 1 (s1.toks+1)]}).get? c=some o:=λ c o e=>ah _ e;refine call_list_range (n:=n) (I.ok.hd hc) (IsRange.new ..) (small_one (by decide) (by decide) (by lia) (by lia)) (by rw [rangeSize_one];split<;>lia) (by lia) λ h' tk acc c hk hS A'=> ?_;have sz:(s1.heap.push {cls:=.type "range",data:=.fields #[.int 0 s1.toks,.int (n:Int) t,.int 1 (s1.toks+1)]}).objs.size=s1.heap.objs.size+1:=bX ..;dsimp only at hS⊢;rw [sz] at hS⊢;have fr:H1 (s1.heap.objs.size+1)=none:=I1.gG.fresh (cf _);refine⟨.ref (s1.heap.objs.size+1),_,I1.laid (t':=tk) (o:=.lst ((List.range n).map λ i:Nat=>V.int (i:Int))) (λ c o e=>hk c o (kp c o e)) (cf _) ⟨?_,acc.toList,c,GF (by rw [bB];exact A'.1) (λ i v e=>A'.2 i v (by rwa [<-bh])),hS⟩,rfl,q _ fr⟩;rw [ae,aJ,No];exact Zc hn (Zd rfl)
theorem LG (hc:X.calm=true) (hg:Gl X "list") (hm:X.mg "list" = none) (QT:Gl X "range") (N_:X.mg "range" = none) (ha:Bx (PA X [a] ta)) (hs:db [a] X.env = [(false,jp a X.env)]:=by rfl)
  (he:db [.Call (.Name (Str.ofString "range") p2) [a] [] sA] X.env = [(false,jp (.Call (.Name (Str.ofString "range") p2) [a] [] sA) X.env)]:=by rfl) :
  Bx (PE X (.Call (.Name (Str.ofString "list") p) [.Call (.Name (Str.ofString "range") p2) [a] [] sA] [] pos) (Mu ta)):=⟨Nc hc hg hm QT N_ ha.un hs he⟩
end
def condT:List Nm:= [[60],[62],[61],[33]]
end L2
namespace L2
open PySem PySem.Spec PyProof.Rows PySem.W
section
variable {K:Frag} {S:ac} {cs:List ac} {C:ac}
end
section
variable {X:Cx} {S:ac} {cs:List ac}
end
end L2
namespace L2
open PySem PySem.Spec PyProof.Rows
def two (l:List Nat):Prop:=(RS 91 (if decide (l.head? = some 60)=true then l.drop 1 else l)).2.2.take 1∈condT->2<=(RS 91 (if decide (l.head? = some 60)=true then l.drop 1 else l)).2.2.length
section
variable {X:Cx}
end
def kindOf (k:Nat):Nm:=if k=42 then ju else if k=43 then lZ else jy
def stop (cs:List Nat) (rest:List Pc):Prop:=rest = []\/∃c r,rest = .sign c::r/\c∉cs
section
variable {prog:im} {w:io} {A:pi} {E:bv->ci->Prop} {s:ci}
end
section
variable {prog:im} {w:io} {A:pi}
end
inductive Sh where
 | mark (i:Nat)
 | two (k:List Nat) (l r:Sh)
 | one (k:List Nat) (t:Sh)
inductive jC (H:Hp):ac->Sh->Prop
 | mark {a:ac} {i:Nat}:H a=some (.tup [.str (tx qR),.int (i:Int)])->jC H a (.mark i)
 | two {a l r:ac} {k:List Nat} {x y:Sh}:H a=some (.tup [.str (tx k),.ref l,.ref r])->k∈vx->jC H l x->jC H r y->jC H a (.two k x y)
 | one {a i:ac} {k:List Nat} {x:Sh}:H a=some (.tup [.str (tx k),.ref i])->k∈ones->jC H i x->jC H a (.one k x)
theorem jC.keep (k:∀b xs,H b=some (.tup xs)->H' b=some (.tup xs)) (h:jC H a t):jC H' a t:=by
 induction h with
 | mark e=>exact .mark (k _ _ e)
 | two e hk _ _ i1 i2=>exact .two (k _ _ e) hk i1 i2
 | one e hk _ i1=>exact .one (k _ _ e) hk i1
theorem jC.same (s:fw H H') (h:jC H a t):jC H' a t:=h.keep λ b xs e=>s b _ e
def Sh.deep:Sh->Nat
 | .mark _=>1
 | .two _ l r=>max l.deep r.deep+1
 | .one _ t=>t.deep+1
def Sh.leaves:Sh->List Nat
 | .mark i=> [i]
 | .two _ l r=>l.leaves++r.leaves
 | .one _ t=>t.leaves
def Sh.ones:Sh->Nat
 | .mark _=>0
 | .two _ l r=>l.ones+r.ones
 | .one _ t=>t.ones+1
def j_.none:j_:=⟨[],false,[],0⟩
def Sh.real (ms:List j_):Sh->Tr
 | .mark i=>.mark ((ms[i]?).getD .none)
 | .two k l r=>.two k (l.real ms) (r.real ms)
 | .one k t=>.one k (t.real ms)
theorem Sh.oJ (t:Sh):1<=t.deep:=by cases t<;>simp [Sh.deep]
theorem Sh.mI:∀t:Sh,1<=t.leaves.length
 | .mark _=>by simp [Sh.leaves]
 | .two _ l r=>by
  have:=l.mI;simp only [Sh.leaves,ao];exact Zc this Zk
 | .one _ t=>t.mI
theorem Sh.rP (ms:List j_):∀t:Sh,(t.real ms).deep=t.deep
 | .mark _=>rfl
 | .two _ l r=>by simp only [Sh.real,Tr.deep,Sh.deep,l.rP ms,r.rP ms]
 | .one _ t=>by simp only [Sh.real,Tr.deep,Sh.deep,t.rP ms]
theorem Sh.mx (ms:List j_):∀t:Sh,(t.real ms).marks=t.leaves.map λ i=>(ms[i]?).getD .none
 | .mark _=>rfl
 | .two _ l r=>by simp only [Sh.real,Tr.marks,Sh.leaves,l.mx ms,r.mx ms,ax]
 | .one _ t=>by simp only [Sh.real,Tr.marks,Sh.leaves,t.mx ms]
theorem Sh.zf (ms:List j_) (t:Sh):(t.real ms).marks.length=t.leaves.length:=by rw [t.mx,ae]
theorem Sh.E5 {ms:List j_} {t:Sh} (h:t.leaves=List.range ms.length):(t.real ms).marks=ms:=by
 rw [t.mx,h];refine List.ext_getElem (by simp) λ i h1 h2=> ?_;simp [h2]
theorem Sh.yr:∀t:Sh,t.deep<=t.leaves.length+t.ones
 | .mark _=>by simp [Sh.deep,Sh.leaves]
 | .two _ l r=>by
  have h1:=l.yr;have h2:=r.yr;have h3:=l.mI;have h4:=r.mI;simp only [Sh.deep,Sh.leaves,Sh.ones,ao];lia
 | .one _ t=>by
  have h1:=t.yr;simp only [Sh.deep,Sh.leaves,Sh.ones];lia
def Tr.nul:Tr->Bool
 | .mark _=>false
 | .two k l r=>if k=tU then l.nul||r.nul else l.nul&&r.nul
 | .one k t=>t.nul || !decide (k=lZ)
def Tr.jq:Tr->Nat->List Int
 | .mark _,n=> [(n:Int)]
 | .two k l r,n=>if k=tU\/l.nul=true then l.jq n++r.jq (n+l.marks.length) else l.jq n
 | .one _ t,n=>t.jq n
def Tr.je:Tr->Nat->List Int
 | .mark _,n=> [(n:Int)]
 | .two k l r,n=>if k=tU\/r.nul=true then l.je n++r.je (n+l.marks.length) else r.je (n+l.marks.length)
 | .one _ t,n=>t.je n
def Tr.kE:Tr->Nat->Int->Int->Prop
 | .mark _,_,_,_=>False
 | .two k l r,n,a,b=>l.kE n a b\/r.kE (n+l.marks.length) a b\/(k≠tU/\a∈l.je n/\b∈r.jq (n+l.marks.length))
 | .one k t,n,a,b=>t.kE n a b\/(k≠jy/\a∈t.je n/\b∈t.jq n)
theorem Tr.jz:∀(t:Tr) (n:Nat),∀x∈t.jq n,(n:Int)<=x/\x<n+t.marks.length
 | .mark _,n,x,h=>by
  simp only [Tr.jq,aj] at h;simp only [Tr.marks,aG,aW];exact Qau h
 | .two k l r,n,x,h=>by
  have h1:=l.jz n x;have h2:=r.jz (n+l.marks.length) x;simp only [Tr.marks,ao];simp only [Tr.jq] at h
  split at h
  .rcases aA.mp h with h|h
   .have:=h1 h;exact Qag this
   .have:=h2 h;exact Qah this
  .have:=h1 h;exact Qag this
 | .one _ t,n,x,h=>t.jz n x h
theorem Tr.jX:∀(t:Tr) (n:Nat),∀x∈t.je n,(n:Int)<=x/\x<n+t.marks.length
 | .mark _,n,x,h=>by
  simp only [Tr.je,aj] at h;simp only [Tr.marks,aG,aW];exact Qau h
 | .two k l r,n,x,h=>by
  have h1:=l.jX n x;have h2:=r.jX (n+l.marks.length) x;simp only [Tr.marks,ao];simp only [Tr.je] at h
  split at h
  .rcases aA.mp h with h|h
   .have:=h1 h;exact Qag this
   .have:=h2 h;exact Qah this
  .have:=h2 h;exact Qah this
 | .one _ t,n,x,h=>t.jX n x h
theorem Tr.pI:∀(t:Tr) (n:Nat),(t.jq n).length<=t.marks.length
 | .mark _,n=>by simp [Tr.jq,Tr.marks]
 | .two k l r,n=>by
  have h1:=l.pI n;have h2:=r.pI (n+l.marks.length);simp only [Tr.jq,Tr.marks,ao]
  split
  .rw [ao];exact Nat.add_le_add h1 h2
  .exact Zc h1 Zk
 | .one _ t,n=>t.pI n
theorem Tr.pH:∀(t:Tr) (n:Nat),(t.je n).length<=t.marks.length
 | .mark _,n=>by simp [Tr.je,Tr.marks]
 | .two k l r,n=>by
  have h1:=l.pH n;have h2:=r.pH (n+l.marks.length);simp only [Tr.je,Tr.marks,ao]
  split
  .rw [ao];exact Nat.add_le_add h1 h2
  .exact Zc h2 Zo
 | .one _ t,n=>t.pH n
theorem Tr.kU:∀(t:Tr) (n:Nat) (a b:Int),t.kE n a b->((n:Int)<=a/\a<n+t.marks.length)/\(n:Int)<=b/\b<n+t.marks.length
 | .mark _,n,a,b,h=>h.elim
 | .two k l r,n,a,b,h=>by
  simp only [Tr.marks,ao];rcases h with h|h | ⟨_,h1,h2⟩
  .have:=l.kU n a b h;omega
  .have:=r.kU _ a b h;omega
  .have:=l.jX n a h1;have:=r.jz _ b h2;omega
 | .one k t,n,a,b,h=>by
  simp only [Tr.marks];rcases h with h | ⟨_,h1,h2⟩
  .exact t.kU n a b h
  .have:=t.jX n a h1;have:=t.jz n b h2;omega
inductive Sh.In:Sh->List Nat->Prop
 | mark (i:Nat):Sh.In (.mark i) [i]
 | row {l r:Sh} {u v:List Nat}:Sh.In l u->Sh.In r v->Sh.In (.two j5 l r) (u++v)
 | left {l r:Sh} {u:List Nat}:Sh.In l u->Sh.In (.two tU l r) u
 | right {l r:Sh} {u:List Nat}:Sh.In r u->Sh.In (.two tU l r) u
 | no (t:Sh):Sh.In (.one jy t) []
 | yes {t:Sh} {u:List Nat}:Sh.In t u->Sh.In (.one jy t) u
 | done (t:Sh):Sh.In (.one ju t) []
 | more {t:Sh} {u v:List Nat}:Sh.In t u->Sh.In (.one ju t) v->Sh.In (.one ju t) (u++v)
 | once {t:Sh} {u v:List Nat}:Sh.In t u->Sh.In (.one ju t) v->Sh.In (.one lZ t) (u++v)
def um (R:Int->Int->Prop):List Nat->Prop
 | []=>True
 | [_]=>True
 | a::b::r=>R ((a:Int)+1) ((b:Int)+1)/\um R (b::r)
theorem um.imp (h:∀a b,R a b->S a b):∀{w:List Nat},um R w->um S w
 | [],_=>trivial
 | [_],_=>trivial
 | a::b::r,l=>⟨h _ _ l.1,um.imp h (w:=b::r) l.2⟩
theorem um.app:∀{u v:List Nat},um R u->um R v->(∀a b,u.getLast? = some a->v.head? = some b->R ((a:Int)+1) ((b:Int)+1))->um R (u++v)
 | [],v,_,h,_=>h
 | [a],[],_,_,_=>trivial
 | [a],b::r,_,h,k=>⟨k a b rfl rfl,h⟩
 | a::b::r,v,h1,h2,k=>⟨h1.1,um.app (u:=b::r) h1.2 h2 λ x y hx hy=>k x y (by simpa using hx) hy⟩
structure pP (t:Tr) (n:Nat) (w:List Nat):Prop where
 nul:w = []->t.nul=true
 jq:∀a,w.head? = some a->(a:Int)+1∈t.jq n
 je:∀a,w.getLast? = some a->(a:Int)+1∈t.je n
 Fy:um (t.kE n) w
theorem zP (h:(u++v).head? = some a):u.head? = some a\/(u = []/\v.head? = some a):=by
 cases u with
 | nil=>exact .inr ⟨rfl,h⟩
 | cons x r=>exact .inl h
theorem zC (h:(u++v).getLast? = some a):v.getLast? = some a\/(v = []/\u.getLast? = some a):=by
 cases v with
 | nil=>exact .inr ⟨rfl,by simpa using h⟩
 | cons x r=>
  refine .inl ?_;rw [List.getLast?_append] at h
  simpa using h
theorem rQ (h:l++r=List.range' s c):l=List.range' s l.length/\r=List.range' (s+l.length) r.length:=by
 have hc:c=l.length+r.length:=by
  have:=congrArg List.length h;simp only [ao,List.length_range'] at this;exact this.symm
 subst hc;rw [<-List.range'_append_1] at h;exact List.append_inj h (by simp)
theorem T3:∀{sh:Sh} {w:List Nat},sh.In w->∀s,sh.leaves=List.range' s sh.leaves.length->pP (sh.real ms) (s+1) w:=by
 have o1:¬j5=tU:=by decide
 have o2:¬ju=jy:=by decide
 have o3:¬lZ=jy:=by decide
 have o4:¬ju=lZ:=by decide
 have o5:¬jy=lZ:=by decide
 intro sh w h
 induction h with
 | mark i=>
  intro s hs
  have e:i=s:=by
   simp only [Sh.leaves,aG,aW] at hs
   simpa using hs
  subst e;exact⟨λ z=>(nomatch z),λ a ha=>(by simp at ha;simp [Sh.real,Tr.jq,ha]),λ a ha=>(by simp at ha;simp [Sh.real,Tr.je,ha]),trivial⟩
 | @row l r u v h1 h2 i1 i2=>
  intro s hs;obtain⟨hl,hr⟩:=rQ hs;have a1:=i1 s hl;have a2:=i2 _ hr;rw [dj] at a2;have ln:=l.zf ms;refine⟨λ z=> ?_,λ a ha=> ?_,λ a ha=> ?_,?_⟩
  .obtain⟨z1,z2⟩:=List.append_eq_nil_iff.mp z;simp only [Sh.real,Tr.nul,if_neg o1,a1.nul z1,a2.nul z2,Bool.and_self]
  .simp only [Sh.real,Tr.jq,o1,false_or,ln];rcases zP ha with z | ⟨z1,z2⟩
   .split
    .exact aN _ (a1.jq a z)
    .exact a1.jq a z
   .rw [if_pos (a1.nul z1)];exact aD _ (a2.jq a z2)
  .simp only [Sh.real,Tr.je,o1,false_or,ln];rcases zC ha with z | ⟨z1,z2⟩
   .split
    .exact aD _ (a2.je a z)
    .exact a2.je a z
   .rw [if_pos (a2.nul z1)];exact aN _ (a1.je a z2)
  .refine um.app (a1.Fy.imp λ a b h=>.inl h) (a2.Fy.imp λ a b h=>.inr (.inl (by rwa [ln]))) λ a b ha hb=>.inr (.inr ⟨o1,a1.je a ha,?_⟩);rw [ln];exact a2.jq b hb
 | @left l r u h1 i1=>
  intro s hs;obtain⟨hl,hr⟩:=rQ hs;have a1:=i1 s hl;refine⟨λ z=>by simp only [Sh.real,Tr.nul,if_true,a1.nul z,Bool.true_or],λ a ha=> ?_,λ a ha=> ?_,a1.Fy.imp λ a b h=>.inl h⟩
  .simp only [Sh.real,Tr.jq,true_or,if_true];exact aN _ (a1.jq a ha)
  .simp only [Sh.real,Tr.je,true_or,if_true];exact aN _ (a1.je a ha)
 | @right l r u h1 i1=>
  intro s hs;obtain⟨hl,hr⟩:=rQ hs;have a1:=i1 _ hr;rw [dj] at a1;have ln:=l.zf ms;refine⟨λ z=>by simp only [Sh.real,Tr.nul,if_true,a1.nul z,Bool.or_true],λ a ha=> ?_,λ a ha=> ?_,a1.Fy.imp λ a b h=>.inr (.inl (by rwa [ln]))⟩
  .simp only [Sh.real,Tr.jq,true_or,if_true,ln];exact aD _ (a1.jq a ha)
  .simp only [Sh.real,Tr.je,true_or,if_true,ln];exact aD _ (a1.je a ha)
 | no t=>
  intro s hs;exact⟨λ _=>by simp [Sh.real,Tr.nul,o5],λ a ha=>(nomatch ha),λ a ha=>(nomatch ha),trivial⟩
 | @yes t u h1 i1=>
  intro s hs;have a1:=i1 s hs;exact⟨λ _=>by simp [Sh.real,Tr.nul,o5],a1.jq,a1.je,a1.Fy.imp λ a b h=>.inl h⟩
 | done t=>
  intro s hs;exact⟨λ _=>by simp [Sh.real,Tr.nul,o4],λ a ha=>(nomatch ha),λ a ha=>(nomatch ha),trivial⟩
 | @more t u v h1 h2 i1 i2=>
  intro s hs;have a1:=i1 s hs;have a2:=i2 s hs;refine⟨λ _=>by simp [Sh.real,Tr.nul,o4],λ a ha=> ?_,λ a ha=> ?_,?_⟩
  .rcases zP ha with z | ⟨_,z⟩
   .exact a1.jq a z
   .exact a2.jq a z
  .rcases zC ha with z | ⟨_,z⟩
   .exact a2.je a z
   .exact a1.je a z
  .exact um.app (a1.Fy.imp λ a b h=>.inl h) a2.Fy λ a b ha hb=>.inr ⟨o2,a1.je a ha,a2.jq b hb⟩
 | @once t u v h1 h2 i1 i2=>
  intro s hs;have a1:=i1 s hs;have a2:=i2 s hs;refine⟨λ z=> ?_,λ a ha=> ?_,λ a ha=> ?_,?_⟩
  .obtain⟨z1,z2⟩:=List.append_eq_nil_iff.mp z;simp only [Sh.real,Tr.nul,a1.nul z1,Bool.true_or]
  .rcases zP ha with z | ⟨_,z⟩
   .exact a1.jq a z
   .exact a2.jq a z
  .rcases zC ha with z | ⟨_,z⟩
   .exact a2.je a z
   .exact a1.je a z
  .exact um.app (a1.Fy.imp λ a b h=>.inl h) (a2.Fy.imp λ a b h=>by
    rcases h with h | ⟨_,h⟩
    .exact .inl h
    .exact .inr ⟨o3,h⟩) λ a b ha hb=>.inr ⟨o3,a1.je a ha,a2.jq b hb⟩
def NX (ks:List Int):List (Key×V):=ks.map λ k=>(.inl k,.bl true)
def Eg (ks:List Int) (o:Int):List Int:=if o∈ks then ks else ks ++ [o]
theorem S2 (ks:List Int) (o:Int):putK (NX ks) (.inl o) (.bl true)=NX (Eg ks o):=by
 have e:(((NX ks).any λ kv=>decide (kv.1=Sum.inl o))=true)↔o∈ks:=by
  unfold NX;rw [bL];constructor
  .rintro⟨p,hp,h⟩;obtain⟨x,hx,rfl⟩:=aC.mp hp
   rwa [<-Sum.inl.inj (of_decide_eq_true h)]
  .intro h;exact⟨_,aC.mpr ⟨o,h,rfl⟩,decide_eq_true rfl⟩
 unfold putK Eg;by_cases h:o∈ks
 .rw [if_pos (e.mpr h),if_pos h];unfold NX;rw [aR];refine List.map_congr_left λ p _=> ?_;dsimp only [Function.comp]
  split<;>rfl
 .rw [if_neg (λ z=>h (e.mp z)),if_neg h];unfold NX;rw [ax];rfl
theorem Fu:x∈Eg ks o↔x∈ks\/x=o:=by
 unfold Eg
 split
 .rename_i h
  exact⟨.inl,λ z=>z.elim id λ e=>e▸h⟩
 .rw [aA,aj]
theorem Ry (h:ks.Nodup):(Eg ks o).Nodup:=by
 unfold Eg
 split
 .exact h
 .rename_i n
  rw [bN];exact⟨h,by simp,λ a ha b hb z=>n (by rw [aj.mp hb] at z;rwa [<-z])⟩
def oP (F:List (List Int)) (a:Int):List Int:=(F[a.toNat]?).getD []
structure tF (F:List (List Int)):Prop where
 nd:∀l∈F,l.Nodup
 xS:∀l∈F,∀x∈l,0<=x/\x<F.length
theorem tF.len (h:tF F):∀l∈F,l.length<=F.length:=by
 intro l hl
 have:=mE l ((List.range F.length).map λ (k:Nat)=>(k:Int)) (h.nd l hl) λ x hx=>by
  obtain⟨h0,h1⟩:=h.xS l hl x hx;exact aC.mpr ⟨x.toNat,aV.mpr ((Int.toNat_lt h0).2 h1),Int.toNat_of_nonneg h0⟩
 rw [ae,aJ] at this;exact this
theorem tF.more (h:tF F):tF (F ++ [[]]):=by
 refine⟨λ l hl=> ?_,λ l hl x hx=> ?_⟩
 .rcases aA.mp hl with z|z
  .exact h.nd l z
  .rw [aj.mp z];exact ck
 .rw [ao];rcases aA.mp hl with z|z
  .have:=h.xS l z x hx;lia
  .rw [aj.mp z] at hx
   cases hx
def xT (F:List (List Int)) (r o:Int):List (List Int):=F.set r.toNat (Eg (oP F r) o)
theorem E9 (F:List (List Int)) (r o:Int):(xT F r o).length=F.length:=by
 unfold xT;rw [bQ]
theorem Eo (h0:0<=a) (h:a<F.length):F[a.toNat]? = some (oP F a):=by
 have:a.toNat<F.length:=by exact (Int.toNat_lt h0).2 h
 unfold oP;rw [bq this];rfl
theorem tF.put {r o:Int} (h:tF F) (r0:0<=r) (r1:r<F.length) (o0:0<=o) (o1:o<F.length):tF (xT F r o):=by
 have hm:=aq (Eo r0 r1);refine⟨λ l hl=> ?_,λ l hl x hx=> ?_⟩
 .rcases bZ hl with z|z
  .exact h.nd l z
  .rw [z];exact Ry (h.nd _ hm)
 .rw [E9];rcases bZ hl with z|z
  .exact h.xS l z x hx
  .rw [z] at hx;rcases Fu.mp hx with y|rfl
   .exact h.xS _ hm x y
   .exact⟨o0,o1⟩
theorem NK (r0:0<=r) (r1:r<F.length) (a0:0<=a):b∈oP (xT F r o) a↔b∈oP F a\/(a=r/\b=o):=by
 have rl:r.toNat<F.length:=by exact (Int.toNat_lt r0).2 r1
 by_cases e:a=r
 .subst e
  have:oP (xT F a o) a=Eg (oP F a) o:=by
   show ((xT F a o)[a.toNat]?).getD []=_;unfold xT;rw [bO rl];rfl
  rw [this,Fu];simp
 .have:oP (xT F r o) a=oP F a:=by
   show ((xT F r o)[a.toNat]?).getD []=(F[a.toNat]?).getD [];unfold xT;rw [cg (by lia)]
  rw [this];simp [e]
def mW (F F':List (List Int)) (R:Int->Int->Prop):Prop:=∀a b:Int,0<=a->(b∈oP F' a↔b∈oP F a\/R a b)
theorem mW.refl (F:List (List Int)):mW F F λ _ _=>False:=λ a b _=>by simp
theorem mW.trans (h1:mW F F1 R) (h2:mW F1 F2 S):mW F F2 λ a b=>R a b\/S a b:=λ a b h0=>by
 rw [h2 a b h0,h1 a b h0,or_assoc]
theorem mW.iff (h:mW F F' R) (e:∀a b,R a b↔S a b):mW F F' S:=λ a b h0=>by
 rw [h a b h0,e]
theorem mW.more (F:List (List Int)):mW F (F ++ [[]]) λ _ _=>False:=λ a b _=>by
 unfold oP;by_cases h:a.toNat<F.length
 .rw [aP h];simp
 .rw [bp (Zi h),bA (l:=F) (Zi h)];by_cases z:a.toNat-F.length=0
  .rw [z];simp
  .rw [bA (by simp;exact Nat.pos_of_ne_zero z)];simp
structure rK (c:ac) (H:Hp) (b f:ac) (ds:List ac) (F:List (List Int)):Prop where
 obj:∃dx,H b=some (.ins c dx [("followers",.ref f)])
 lst:H f=some (.lst (ds.map V.ref))
 al:fR (λ d ks=>H d=some (.dK (NX ks))) ds F
 nd:ds.Nodup
 ok:tF F
theorem rK.len (h:rK c H b f ds F):ds.length=F.length:=h.al.len
theorem rK.same (h:rK c H b f ds F) (s:fw H H'):rK c H' b f ds F:=by
 obtain⟨dx,e⟩:=h.obj;exact⟨⟨dx,s _ _ e⟩,s _ _ h.lst,h.al.imp λ _ _ z=>s _ _ z,h.nd,h.ok⟩
theorem rK.room (h:rK c H b f ds F) {r:Int} (r0:0<=r) (r1:r<F.length):∃d,ds[r.toNat]? = some d/\H d=some (.dK (NX (oP F r))):=h.al.at (Eo r0 r1)
theorem fR.We {β:Type} {R S:ac->β->Prop} {a:ac} {b:β}:∀{as:List ac} {bs:List β} {i:Nat},fR R as bs->as.Nodup->as[i]? = some a->(∀x y,x≠a->R x y->S x y)->S a b->fR S as (bs.set i b)
 | _,_,0,.cons _ t,n,h,k,r=>by
  simp at h;subst h;have n1:=aZ.mp n
  have go:∀{as:List ac} {bs:List β},fR R as bs->(∀x∈as,¬x=_)->fR S as bs:=λ {as bs} t=>by
   induction t with
   | nil=>exact λ _=>.nil
   | cons r t ih=>exact λ h=>.cons (k _ _ (h _ (by simp)) r) (ih λ x hx=>h x (ay _ hx))
  exact .cons r (go t λ x hx z=>n1.1 (z▸hx))
 | _,_,i+1,@fR.cons _ _ _ a0 _ _ _ r0 t,n,h,k,r=>by
  have n1:=aZ.mp n;have h':=h;simp at h';have am:=aq h';exact .cons (k _ _ (λ z=>n1.1 (z▸am)) r0) (t.We (i:=i) n1.2 (by simpa using h) k r)
 | _,_,i,.nil,_,h,_,_=>by simp at h
theorem rK.put {c:ac} {H:Hp} {b f d:ac} {ds:List ac} {F:List (List Int)} (h:rK c H b f ds F) {r o:Int} (r0:0<=r) (r1:r<F.length) (o0:0<=o) (o1:o<F.length) (hd:ds[r.toNat]? = some d) :
  rK c (upd H d (.dK (NX (Eg (oP F r) o)))) b f ds (xT F r o):=by
 obtain⟨d',VT,ed⟩:=h.room r0 r1;rw [hd] at VT
 cases VT;obtain⟨dx,e⟩:=h.obj;refine⟨⟨dx,(fo λ z=> ?_).trans e⟩,(fo λ z=> ?_).trans h.lst,?_,h.nd,h.ok.put r0 r1 o0 o1⟩
 .rw [z,ed] at e
  cases e
 .have:=h.lst;rw [z,ed] at this
  cases this
 .exact h.al.We h.nd hd (λ x y hx z=>(fo hx).trans z) e_
theorem rK.Qb (h:rK c H b f ds F) {r:Int} (hd:ds[r.toNat]? = some d) (hx:∃kv,H d=some (.dK kv)):Step H (f::ds) (upd H d o) (f::ds):=by
 have dm:=aq hd;obtain⟨kv,hx⟩:=hx;refine⟨λ x u hn e=>(fo λ z=>hn (by rw [z];exact ay _ dm)).trans e,λ x hx=>.inl hx,λ x xs e=>(fo λ z=> ?_).trans e⟩;rw [z,hx] at e
 cases e
theorem rK.out (h:rK c H b f ds F) (hx:H x=some (.lst xs)) (n:x≠f):x∉f::ds:=λ z=>by
 rcases av.mp z with z|z
 .exact n z
 .obtain⟨i,hi⟩:=aL.mp z
  have il:i<F.length:=by
   rw [<-h.len];exact(ag.mp hi).1
  have:=h.al.get hi (show F[i]? = some F[i] by simp);rw [hx] at this
  cases this
theorem rK.more (h:rK c H b f ds F) (hd:H d=none) :
  rK c (upd (upd H d (.dK [])) f (.lst (ds.map V.ref ++ [.ref d]))) b f (ds ++ [d]) (F ++ [[]]):=by
 have fd:f≠d:=fA h.lst hd;obtain⟨dx,e⟩:=h.obj;have bf:b≠f:=gA e h.lst (λ z=>nomatch z);have bd:b≠d:=fA e hd;refine⟨⟨dx,by rwa [fo bf,fo bd]⟩,by rw [e_,ax];rfl,?_,?_,h.ok.more⟩
 .refine fR.snoc (by rw [fo fd.symm,e_];rfl) (h.al.imp λ x ks e=> ?_)
  rwa [fo (gA e h.lst (λ z=>nomatch z)),fo (fA e hd)]
 .rw [bN];refine⟨h.nd,by simp,λ x hx y hy z=> ?_⟩;rw [aj.mp hy] at z;subst z;obtain⟨i,hi⟩:=aL.mp hx
  have il:i<F.length:=by
   rw [<-h.len];exact(ag.mp hi).1
  have:=h.al.get hi (show F[i]? = some F[i] by simp);rw [hd] at this
  cases this
theorem rK.NH (h:rK c H b f ds F) (hd:H d=none) :
  Step H (f::ds) (upd (upd H d (.dK [])) f (.lst xs)) (f::(ds ++ [d])):=by
 refine⟨λ x o hx e=> ?_,λ x hx=> ?_,λ x ys e=> ?_⟩
 .rw [fo (λ z=>hx (by rw [z];simp)),fo (fA e hd)];exact e
 .rcases av.mp hx with rfl|hx
  .exact .inl (by simp)
  .rcases aA.mp hx with hx|hx
   .exact .inl (ay _ hx)
   .rw [aj.mp hx];exact .inr hd
 .rwa [fo (gA e h.lst (λ z=>nomatch z)),fo (fA e hd)]
def CN (c:ac) (H:Hp) (b f:ac) (ds:List ac) (F:List (List Int)) (tr:Tr) (Q:VK):Prop:=
 ∀p l1 l2 H' VX F',H p=none->H l1=none->H l2=none->rK c H' b f (ds++VX) F'->F'.length=F.length+tr.marks.length->mW F F' (tr.kE F.length)->
  H' p=some (.tup [.bl tr.nul,.ref l1,.ref l2])->H' l1=some (.lst ((tr.jq F.length).map V.int))->H' l2=some (.lst ((tr.je F.length).map V.int))->
  Step H (f::ds) H' (f::(ds++VX))->Q (.ref p) H'
theorem Step.free (s:Step H F H' F') (hF:∀y∈F,∃o,H' y=some o) (h:H' x=none):H x=none:=by
 cases q:H x with
 | none=>rfl
 | some o=>
  by_cases hx:x∈F
  .obtain⟨o',e⟩:=hF x hx;rw [h] at e
   cases e
  .rw [s.off x o hx q] at h
   cases h
theorem rK.live (h:rK c H b f ds F):∀y∈f::ds,∃o,H y=some o:=λ y hy=>by
 rcases av.mp hy with rfl|hy
 .exact⟨_,h.lst⟩
 .obtain⟨i,hi⟩:=aL.mp hy
  have il:i<F.length:=by
   rw [<-h.len];exact(ag.mp hi).1
  exact⟨_,h.al.get hi (show F[i]? = some F[i] by simp)⟩
theorem rK.Fz (h:rK c H b f (ds++VX) F):∀y∈f::ds,∃o,H y=some o:=λ y hy=>h.live y (by
 rcases av.mp hy with rfl|hy
 .simp
 .exact ay _ (aN _ hy))
theorem CN.fin (k:CN c H b f ds F tr Q) (b2:rK c H2 b f (ds++VX) F2) (n2:F2.length=F.length+tr.marks.length) (ad:mW F F2 (tr.kE F.length))
  (s:Step H (f::ds) H2 (f::(ds++VX))) (s3:fw H2 H3) (h1:H y1=none) (h2:H y2=none) (e1:H3 y1=some (.lst ((tr.jq F.length).map V.int))) (e2:H3 y2=some (.lst ((tr.je F.length).map V.int))) (hx:H3 x=none) :
  Q (.ref x) (upd H3 x (.tup [.bl tr.nul,.ref y1,.ref y2])):=
 k x y1 y2 _ VX F2 (s.free b2.Fz (s3.free hx)) h1 h2 ((b2.same s3).same (fw.new hx)) n2 ad e_ (fw.new hx _ _ e1) (fw.new hx _ _ e2) (s.trans (Step.same (s3.trans (fw.new hx))))
theorem O8 (a b:Int):b∈oP [[]] a↔False:=by
 unfold oP
 cases h:([[]]:List (List Int))[a.toNat]? with
 | none=>simp
 | some l=>
  have:=aq h;rw [aj.mp this];simp
structure kB (tr:Tr) (M:AJ):Prop where
 jj:M.jj=tr.marks
 kE:∀a b:Int,0<=a->(b∈jT M a↔(a=0/\b∈tr.jq 1)\/tr.kE 1 a b)
 up:∀l∈M.kE,l.Pairwise (· < ·)
 ends:M.ends=tr.nul::(List.range tr.marks.length).map λ (j:Nat)=>decide (1+(j:Int)∈tr.je 1)
theorem QI (ok:tF F) (len:F.length=1+tr.marks.length) (jr:tr.marks.length<=24) (ad:mW [[]] F λ a b=>tr.kE 1 a b\/(a∈[(0:Int)]/\b∈tr.jq 1))
  (al:fR (λ ks (out:List Int)=>out.Perm ks/\out.Pairwise (·<=·)) F outs) :
  qk ⟨tr.marks,outs,tr.nul::(List.range tr.marks.length).map λ (j:Nat)=>decide (1+(j:Int)∈tr.je 1)⟩/\
  kB tr ⟨tr.marks,outs,tr.nul::(List.range tr.marks.length).map λ (j:Nat)=>decide (1+(j:Int)∈tr.je 1)⟩:=by
 have lo:=al.len
 have rel:∀a b:Int,0<=a->(b∈oP F a↔(a=0/\b∈tr.jq 1)\/tr.kE 1 a b):=λ a b h=>by
  rw [ad a b h,O8];dsimp only;rw [aj];constructor
  .rintro(z|z|z)
   .exact z.elim
   .exact .inr z
   .exact .inl z
  .rintro(z|z)
   .exact .inr (.inr z)
   .exact .inr (.inl z)
 have at_:∀(i:Nat) (l:List Int),outs[i]? = some l->∃ks,F[i]? = some ks/\l.Perm ks/\l.Pairwise (·<=·):=λ i l hl=>by
  obtain⟨ks,h1,h2⟩:=al.at hl;exact⟨ks,h1,h2⟩
 have ø:∀(i:Nat) (l:List Int),outs[i]? = some l->∀r∈l,r∈oP F (i:Int):=λ i l hl r hr=>by
  obtain⟨ks,h1,h2,_⟩:=at_ i l hl;unfold oP;rw [au,h1];exact h2.mem_iff.mp hr
 refine⟨⟨by show outs.length=tr.marks.length+1;lia,by simp,λ l hl r hr=> ?_,jr,λ l hl=> ?_⟩,rfl,λ a b ha=> ?_,λ l hl=> ?_,rfl⟩
 .obtain⟨i,hi⟩:=aL.mp hl;rcases (rel _ _ Yt).mp (ø i l hi r hr) with ⟨_,z⟩|z
  .have:=tr.jz 1 r z;show 1<=r/\r<=(tr.marks.length:Int);exact Qav this
  .have:=(tr.kU 1 _ r z).2;show 1<=r/\r<=(tr.marks.length:Int);exact Qav this
 .obtain⟨i,hi⟩:=aL.mp hl;obtain⟨ks,h1,h2,_⟩:=at_ i l hi;have:=ok.len ks (aq h1);rw [h2.length_eq];lia
 .rw [<-rel a b ha];unfold jT oP;show b∈(outs[a.toNat]?).getD []↔_
  cases h:outs[a.toNat]? with
  | none=>
   have:F[a.toNat]? = none:=by
    rw [List.getElem?_eq_none_iff] at h⊢;exact Zc (Ze lo) h
   rw [this]
  | some l=>
   obtain⟨ks,h1,h2,_⟩:=at_ _ l h;rw [h1];exact h2.mem_iff
 .obtain⟨i,hi⟩:=aL.mp hl;obtain⟨ks,h1,h2,h3⟩:=at_ i l hi;exact RZ (h2.nodup_iff.mpr (ok.nd ks (aq h1))) h3
def mR (M:AJ):Int->List Nat->Prop
 | r,[]=>nR M r=true
 | r,a::w=>(a:Int)+1∈jT M r/\mR M ((a:Int)+1) w
theorem kB.XT (h:kB tr M):nR M 0=tr.nul:=by
 unfold nR;rw [h.ends];rfl
theorem kB.XS (h:kB tr M) {r:Int} (r1:1<=r) (r2:r<=tr.marks.length):nR M r=decide (r∈tr.je 1):=by
 obtain⟨j,rfl⟩:∃j:Nat,r=1+(j:Int):=⟨(r-1).toNat,by lia⟩
 unfold nR;rw [h.ends,show (1+(j:Int)).toNat=j+1 from Nat.add_comm _ _,dF,ak,cC (by lia)];rfl
theorem kB.led (h:kB tr M) (l:pP tr 1 w):mR M 0 w:=by
 have go:∀(w:List Nat) (a:Nat),um (tr.kE 1) (a::w)->(∀x,(a::w).getLast? = some x->(x:Int)+1∈tr.je 1)->mR M ((a:Int)+1) w:=by
  intro w
  induction w with
  | nil=>
   intro a _ hl;have:=hl a rfl;have r:=tr.jX 1 _ this;show nR M _=true;rw [h.XS (by lia) (by lia)];exact decide_eq_true this
  | cons b w ih=>
   intro a hk hl;exact⟨(h.kE _ _ Qaw).mpr (.inr hk.1),ih b hk.2 λ x hx=>hl x (by rwa [bK])⟩
 cases w with
 | nil=>
  show nR M 0=true;rw [h.XT];exact l.nul rfl
 | cons a w=>exact⟨(h.kE _ _ (by decide)).mpr (.inl ⟨rfl,l.jq a rfl⟩),go w a l.Fy l.je⟩
def AS (l:List Sh):List Nat:=l.flatMap Sh.leaves
def Ez (l:List Sh):Nat:=(l.map Sh.ones).sum
theorem pE (l r:List Sh):AS (l++r)=AS l++AS r:=by
 unfold AS;rw [List.flatMap_append]
theorem pB (l r:List Sh):Ez (l++r)=Ez l+Ez r:=by
 unfold Ez;rw [ax,List.sum_append]
theorem Jw:∀l:List Sh,l.length<=(AS l).length
 | []=>aQ _
 | s::r=>by
  have:=Jw r;have:=s.mI;unfold AS at *;rw [dA,ao,aG];lia
theorem fR.QL {α β:Type} {R S:α->β->Prop}:∀{as:List α} {bs:List β},(∀a b,b∈bs->R a b->S a b)->fR R as bs->fR S as bs
 | _,_,_,.nil=>.nil
 | _,_,h,.cons r t=>.cons (h _ _ (by simp) r) (t.QL λ a b hb r=>h a b (ay _ hb) r)
theorem jE {α:Type} {J:It} {H1:Hp} {fr:List Nat} {σ:St} {te:TE} {Q:VK} {cs:List α} {g:α->V} (T:Tells J H1 (cs.map g)) (R:Hp->α->ac->Prop) (live:∀H c p,R H c p->H p≠none) (mono:∀c p H H',fw H H'->R H c p->R H' c p) (hz:cs.length<=dL)
  (he:∀c H2 Q2,c∈cs->fw H1 H2->(∀p H3,H2 p=none->fw H2 H3->R H3 c p->Q2 (.ref p) H3)->te (kN (g c) fr σ) H2 Q2)
  (off:∀H c p D o,p≠D->R H c p->R (upd H D o) c p)
  (hQ:∀D H2 (as:List ac),H1 D=none->fw H1 H2->H2 D=some (.lst (as.map V.ref))->fR (R H2) cs as->as.Nodup->(∀a∈as,a≠D/\H1 a=none)->Q (.ref D) H2):vn J H1 fr σ C0 te Q:=by
 intro D hD;have hlen:(cs.map g).length=cs.length:=ae ..;refine⟨λ i m ys H2=>m=cs.length-i/\i<=cs.length/\∃as:List ac,ys=as.map V.ref/\fR (R H2) (cs.take i) as/\as.Nodup/\(∀a∈as,a≠D/\H1 a=none)/\fw H1 H2/\H2 D=some (.lst ys),⟨_,rfl,aQ _,[],rfl,.nil,ck,λ a ha=>(nomatch ha),fw.new hD,e_⟩,?_⟩;rintro i m ys H2 ⟨rfl,hi,as,rfl,a2,nd,out,s2,d2⟩;by_cases iT:i<cs.length
 .refine .inr ⟨T.go i H2 (by rwa [hlen]) s2,λ x H3 y=> ?_⟩;obtain⟨rfl,hx⟩:=T.CW i H2 x H3 s2 (by rwa [hlen]) y;rw [ak] at hx
  cases hc:cs[i]? with
  | none=>rw [hc] at hx;cases hx
  | some c=>
   rw [hc] at hx;obtain rfl:g c=x:=Option.some.inj hx;unfold C0;dsimp only;rw [if_pos rfl];refine he c H3 _ (aq hc) s2 λ p H5 hp s5 r5=>⟨s5 _ _ d2,?_,_,?_,rfl,iT,as ++ [p],?_,?_,?_,?_,(s2.trans s5).gh hD,e_⟩
   .have:=a2.len;rw [aX] at this;rw [ae];exact Qat hz iT this
   .exact V2 iT
   .rw [ax];rfl
   .have pD:p≠D:=λ z=>by
     rw [z,d2] at hp
     cases hp
    rw [iJ hc];refine fR.snoc (off _ _ _ _ _ pD r5) (fR.QL (λ a b hb r=>off _ _ _ _ _ (out b hb).1 (mono _ _ _ _ s5 r)) a2)
   .rw [bN];refine⟨nd,cH _ _,λ a ha b hb z=> ?_⟩;rw [aj.mp hb] at z;subst z;obtain⟨j,hj⟩:=aL.mp ha
    have jl:j<(cs.take i).length:=by
     rw [a2.len];exact(ag.mp hj).1
    exact live _ _ _ (a2.get (bq jl) hj) hp
   .intro a ha;rcases aA.mp ha with z|z
    .exact out a z
    .rw [aj.mp z];refine⟨λ z=> ?_,s2.free hp⟩;rw [z,d2] at hp
     cases hp
 .obtain rfl:i=cs.length:=by exact Zq hi (Zi iT)
  exact .inl ⟨by have:=T.stop H2 s2;rw [hlen] at this;exact this,hQ D H2 as hD s2 d2 (by rw [br] at a2;exact a2) nd out⟩
theorem Jq {H:Hp}:∀{ds:List ac} {F:List (List Int)} {af:List ac},ds.length=F.length->fR (λ (c:ac×List Int) (p:ac)=>∃out:List Int,H p=some (.lst (out.map V.int))/\out.Perm c.2/\out.Pairwise (·<=·)) (ds.zip F) af->
  ∃outs:List (List Int),fR (λ ks (out:List Int)=>out.Perm ks/\out.Pairwise (·<=·)) F outs/\fR (λ x (l:List Int)=>H x=some (.lst (l.map V.int))) af outs
 | [],[],_,_,.nil=>⟨[],.nil,.nil⟩
 | d::ds,k::F,_,hl,.cons ⟨out,e,r⟩ t=>by
  obtain⟨outs,h1,h2⟩:=Jq (by simpa using hl) t;exact⟨out::outs,.cons r h1,.cons e h2⟩
theorem fR.ù {α β:Type} {R:α->β->Prop} {as:List α} {bs:List β} (h:fR R as bs) {a:α} (ha:a∈as):∃b∈bs,R a b:=by
 induction h with
 | nil=>cases ha
 | @cons a' b' as' bs' r t ih=>
  rcases av.mp ha with rfl|ha
  .exact⟨_,by simp,r⟩
  .obtain⟨b,hb,r⟩:=ih ha;exact⟨b,ay _ hb,r⟩
theorem DB {t:TS} {D:Ends} {σ:St} {H:Hp} (h:∀N:St->Hp->Prop,(∀fY H',D.nx fY H'->N fY H')->t {D with nx:=N} σ H):t D σ H:=h _ λ _ _ z=>z
theorem GZ (n:Nat):List.range n ++ [n]=List.range (n+1):=(eY).symm
def Ek (l:List Nat):Prop:=l.Pairwise (· < ·)
theorem OY (up:Ek l) (j:Nat):∀(n lo hi:Nat),hi-lo<=n->lo<=hi->hi<=l.length->(∀(i x:Nat),l[i]? = some x->i<lo->x<j)->(∀(i x:Nat),l[i]? = some x->hi<=i->j<=x)->
  ∃b,SetTable.below.go l.toArray j n lo hi=b/\b<=l.length/\(∀(i x:Nat),l[i]? = some x->i<b->x<j)/\∀(i x:Nat),l[i]? = some x->b<=i->j<=x:=by
 have mono:∀(a b x y:Nat),l[a]? = some x->l[b]? = some y->a<=b->x<=y:=by
  intro a b x y ha hb İ;obtain⟨a1,rfl⟩:=ag.mp ha;obtain⟨b1,rfl⟩:=ag.mp hb;rcases Nat.lt_or_eq_of_le İ with h|h
  .exact dH (dw.mp up a b a1 b1 h)
  .subst h;exact az _
 intro n
 induction n with
 | zero=>
  intro lo hi h0 h1 h2 h3 h4;have e:lo=hi:=by lia
  subst e;exact⟨lo,rfl,h2,h3,h4⟩
 | succ n ih=>
  intro lo hi h0 h1 h2 h3 h4;unfold SetTable.below.go;by_cases iT:lo<hi
  .rw [if_pos iT];dsimp only;have ml:(lo+hi)/2<l.length:=by lia
   have em:l[(lo+hi)/2]? = some (l[(lo+hi)/2]):=by simp
   have eg:l.toArray.getD ((lo+hi)/2) j=l[(lo+hi)/2]:=by
    simp [Array.getD,ml]
   rw [eg];by_cases hx:l[(lo+hi)/2]<j
   .rw [if_pos hx];refine ih _ _ (by lia) (by lia) h2 (λ i x DQ hb=> ?_) h4;exact bV (mono i _ x _ DQ em (Zs hb)) hx
   .rw [if_neg hx];refine ih _ _ (by lia) (by lia) (Zl ml) h3 λ i x DQ hb=> ?_;exact bj (eQ hx) (mono _ i _ x em DQ hb)
  .rw [if_neg iT];have e:lo=hi:=by exact Zq h1 (Zi iT)
   subst e;exact⟨lo,rfl,h2,h3,h4⟩
theorem below_at (up:Ek l) (j:Nat):SetTable.below l.toArray j<=l.length/\(∀(i x:Nat),l[i]? = some x->i<SetTable.below l.toArray j->x<j)/\∀(i x:Nat),l[i]? = some x->SetTable.below l.toArray j<=i->j<=x:=by
 obtain⟨b,e,h⟩:=OY up j l.toArray.size 0 l.toArray.size Zu (aQ _) (by simp) (λ i x _ h=>absurd h (Zx (Nat.zero_le _))) (λ i x h1 h2=>by
  have:=(ag.mp h1).1;simp at h2;lia)
 have:SetTable.below l.toArray j=b:=e
 rwa [this]
theorem MT (up:Ek l) (free:l[SetTable.below l.toArray j]?≠some j):Ek ((SetTable.insertAt l.toArray (SetTable.below l.toArray j) j).toList):=by
 obtain⟨h1,h2,h3⟩:=below_at up j;generalize SetTable.below l.toArray j=b at *
 have e:(SetTable.insertAt l.toArray b j).toList=l.take b++j::l.drop b:=by
  unfold SetTable.insertAt;simp [dI]
 rw [e];refine List.pairwise_append.mpr ⟨up.sublist (eJ _ _),eC.mpr ⟨λ x hx=> ?_,up.sublist (List.drop_sublist _ _)⟩,λ x hx y hy=> ?_⟩
 .obtain⟨i,hi⟩:=aL.mp hx;rw [List.getElem?_drop] at hi;have:=h3 _ _ hi Zk;rcases Nat.lt_or_eq_of_le this with z|z
  .exact z
  .subst z
   cases i with
   | zero=>exact absurd hi free
   | succ i=>
    have bl:b<l.length:=by
     have:=(ag.mp hi).1;exact Zb Zk this
    have hb:l[b]? = some l[b]:=by simp
    have:=h3 _ _ hb (az _);obtain⟨q,e⟩:=ag.mp hi;have:=dw.mp up b (b+(i+1)) bl q (by lia);lia
 .obtain⟨i,hi⟩:=aL.mp hx
  have ib:i<b:=by
   have:=(ag.mp hi).1;rw [aX] at this;lia
  rw [List.getElem?_take_of_lt ib] at hi;have xj:=h2 _ _ hi ib;rcases av.mp hy with rfl|hy
  .exact xj
  .obtain⟨k,hk⟩:=aL.mp hy;rw [List.getElem?_drop] at hk;exact aF xj (h3 _ _ hk Zk)
structure lP (b:Bool) (t:Zv):Prop where
 up:Ek t.place.toList
 led:t.led=b
theorem Ku {t:Zv} {h:Int} {j:Nat} {d:Bool} (e:t.freeSlot h=some (j,d)):t.place[SetTable.below t.place j]?≠some j:=by
 have key:∀(n:Nat) (p:SetTable.Probe),(∀d,p.dummy=some d->t.place[SetTable.below t.place d]?≠some d)->∀j dm,SetTable.probe.go t (λ _=>h+1) h n p=some (.empty j dm)->t.place[SetTable.below t.place j]?≠some j/\∀d,dm=some d->t.place[SetTable.below t.place d]?≠some d:=by
  intro n
  induction n with
  | zero=>
   intro p _ j dm z;unfold SetTable.probe.go at z
   cases z
  | succ n ih=>
   intro p hp j dm z;unfold SetTable.probe.go at z
   have adv:∀q:SetTable.Probe,(t.advance q).dummy=q.dummy:=λ q=>by
    unfold SetTable.advance
    split
    .rfl
    .rfl
   cases hs:t.slot p.j with
   | empty=>
    rw [hs] at z
    cases z;refine⟨λ q=> ?_,hp⟩;unfold SetTable.slot at hs;dsimp only at hs;rw [if_pos (by rw [q];exact beq_self_eq_true _)] at hs
    cases hs
   | dummy=>
    rw [hs] at z;refine ih _ (λ d hd=> ?_) j dm z;rw [adv] at hd
    cases hd;intro q;unfold SetTable.slot at hs;dsimp only at hs;rw [if_pos (by rw [q];exact beq_self_eq_true _)] at hs
    cases hs
   | live i=>
    rw [hs] at z
    have nb:(h+1==h)=false:=by
     rw [beq_eq_false_iff_ne];lia
    dsimp only at z;rw [nb] at z;exact ih _ (λ d hd=>hp d (by rw [adv] at hd;exact hd)) j dm z
 unfold SetTable.freeSlot at e
 cases hq:t.probe (λ _=>h+1) h (t.probeStart h) with
 | none=>
  rw [hq] at e
  cases e
 | some m=>
  rw [hq] at e
  cases m with
  | candidate _ _ _=>cases e
  | empty j0 dm=>
   obtain⟨k1,k2⟩:=key _ _ (λ d z=>by cases z) j0 dm hq;dsimp only at e
   cases dm with
   | none=>
    cases e;exact k1
   | some d0=>
    cases e;exact k2 _ rfl
theorem uw (h:lP b t) (n:Nat):lP b (t.standIn n):=⟨by
 unfold SetTable.standIn Ek;simp [dM],h.led⟩
theorem T4 {b:Bool} {t:Zv} (h:lP b t) (es:Array (Int×bv)) (hs:Int) (x:bv):lP b (layNew t es hs x).2.1:=by
 unfold layNew
 cases q:t.freeSlot hs with
 | none=>exact uw h _
 | some p=>
  obtain⟨j,d⟩:=p;have fr:=Ku q
  have:lP b (t.put j).1:=⟨by
   have:=MT (l:=t.place.toList) h.up (j:=j) (by simpa using fr)
   simpa [SetTable.put] using this,h.led⟩
  show lP b ((t.put j).1.orStandIn _);unfold SetTable.orStandIn
  split
  .exact this
  .exact uw this _
theorem MU (h:lP b t) (es:Array (Int×bv)) (n:Nat):lP b (Jae t es n).2.1:=by
 unfold Jae
 cases q:t.relaid (es.map (·.1)) n with
 | none=>exact uw h _
 | some p=>
  obtain⟨t',ord⟩:=p;dsimp only
  split
  .unfold SetTable.relaid SetTable.laid at q
   cases hc:SetTable.layClean (SetTable.sizeAbove n-1) (es.map (·.1)) with
   | none=>
    rw [hc] at q
    cases q
   | some ow=>
    rw [hc] at q
    cases q;refine⟨?_,h.led⟩;unfold Ek;dsimp only;rw [List.pairwise_map];refine List.Pairwise.filterMap _ (R:=(· < ·)) (λ a a' ha b hb b' yp=> ?_) dM;simp only [Option.map_eq_some_iff] at hb yp;obtain⟨_,_,rfl⟩:=hb;obtain⟨_,_,rfl⟩:=yp;exact ha
  .exact uw h _
section
variable {prog:im} {w:io} {K:Type} [DecidableEq K] {knd:KeyKind prog w K} {A:pi} {E:bv->ci->Prop} {s:ci}
def ya (knd:KeyKind prog w K) (h:Heap) (a:ac) (S:K->Bool) (n:Nat):Prop:=
 ∃es ep t,h.get? a=some {cls:=.type "set",dict:=none,data:=.set es ep t,slots:= #[]}/\ElemsOf knd es.toList/\(∀k,S k=true↔∃e∈es.toList,knd.is k e.2=true)/\es.size<Do/\t.fits es.size=true/\es.size=n/\lP (!w.params.followText "set-order") t
theorem ya.at (x:ya knd h a S n) (k:∀o,h.get? a=some o->h'.get? a=some o):ya knd h' a S n:=by
 obtain⟨es,ep,t,e,r⟩:=x;exact⟨es,ep,t,k _ e,r⟩
theorem ya.congr (x:ya knd h a S n) (e:∀k,S k=S' k) (en:n=n'):ya knd h a S' n':=by
 have:S=S':=funext e
 rwa [<-this,<-en]
theorem Kn (h:lP b t):lP b (if c=true then t else {t with plain:=false}):=by
 split
 .exact h
 .exact⟨h.up,h.led⟩
theorem H_ {c:Bool} {t:Zv} {n:Nat} (h:t.fits n=true):(if c=true then t else {t with plain:=false}).fits n=true:=by
 split
 .exact h
 .exact h
theorem By (e:s.heap.get? a=some {cls:=.type "set",dict:=none,data:=.set es ep t,slots:= #[]}) (jr:Gx.size<Do)
  (h:∀h',Heap.SameBut a s.heap h'->h'.get? a=some {cls:=.type "set",dict:=none,data:=.set Gx (ep+1) t',slots:= #[]}->Q () {s with heap:=h'}):gc (ga prog w) A (storeSet a Gx t') Q E s:=by
 refine wpAny_storeSet_of e rfl (h _ (Heap.SameBut.update s.heap a _) ?_) (Jag jr);rw [bY (Obj.putSet Gx t') e rfl];rfl
theorem set_tail {g:Bool->Sem Unit} (hg:∀(b:Bool) (j4:ci) (Q':Unit->ci->Prop),Q' () j4->gc (ga prog w) A (g b) Q' E j4) {a:ac} {es x5:Array (Int×bv)} {ep:Nat} {t t2:Zv} {S':K->Bool} {dum:Bool} {R:Option Bool->ci->Prop}
  (e:s.heap.get? a=some {cls:=.type "set",dict:=none,data:=.set es ep t,slots:= #[]}) (el:ElemsOf knd x5.toList) (mem:∀k',S' k'=true↔∃e∈x5.toList,knd.is k' e.2=true) (jr:x5.size<Do) (fit:t2.fits x5.size=true) (tab:lP (!w.params.followText "set-order") t2)
  (h:∀h',Heap.SameBut a s.heap h'->ya knd h' a S' x5.size->R (some true) {s with heap:=h'}) :
  gc (ga prog w) A (storeSet a x5 t2 >>= λ _=>
    if (!dum&&t2.tooFull)=true then
     g (Jae t2 x5 (SetTable.grown x5.size)).2.2 >>= λ _=>storeSet a (Jae t2 x5 (SetTable.grown x5.size)).1 (Jae t2 x5 (SetTable.grown x5.size)).2.1 >>= λ _=>pure (some true)
    else pure (some true)) R E s:=by
 refine bi (By e jr λ h1 Pf e1=> ?_)
 split
 .have rp:=relayAll_perm t2 x5 (SetTable.grown x5.size);have rf:=relayAll_fits t2 x5 (SetTable.grown x5.size);have rt:=MU tab x5 (SetTable.grown x5.size);generalize Jae t2 x5 (SetTable.grown x5.size)=r at rp rf rt⊢;obtain⟨US,t3,gv⟩:=r;dsimp only at rp rf rt⊢
  have sz:US.size=x5.size:=by
   have:=rp.length_eq
   simpa using this
  refine bi (hg _ _ _ (bi (By (s:= {s with heap:=h1}) e1 (by rwa [sz]) λ h2 RK e2=>cr (h h2 (Pf.trans RK) ?_))));exact⟨US,_,t3,e2,el.perm rp,λ k'=>(mem k').trans ⟨λ ⟨x,hx,q⟩=>⟨x,rp.mem_iff.mpr hx,q⟩,λ ⟨x,hx,q⟩=>⟨x,rp.mem_iff.mp hx,q⟩⟩,by rwa [sz],rf,sz,rt⟩
 .exact cr (h h1 Pf ⟨x5,_,t2,e1,el,mem,jr,fit,rfl,tab⟩)
theorem P4 {a:ac} {S:K->Bool} {n:Nat} {k:K} {x:bv} {Q:Bool->ci->Prop} (hk:knd.is k x=true) (hx:x.scannable=true) (hS:ya knd s.heap a S n) (room:n+1<Do)
  (h:∀h' b,Heap.SameBut a s.heap h'->ya knd h' a (λ k'=>S k'||decide (k'=k)) (if S k then n else n+1)->Q b {s with heap:=h'}):gc (ga prog w) A (setAddHashed a x (knd.hash k)) Q E s:=by
 obtain⟨es,ep,t,e,el,mem,jr,fit,rfl,tab⟩:=hS;unfold setAddHashed setAddHashedIn;refine u8 (bi (Op e rfl fit ?_));dsimp only;rw [if_pos (byScan_of hx jr el)];unfold setAddByScan;refine bi (bi (YB (bi (wpAny_setScan_of hk e rfl fit el ?_))))
 cases q:es.toList.findIdx? (λ e=>knd.is k e.2) with
 | some j=>
  obtain⟨jl,hj,_⟩:=List.findIdx?_eq_some_iff_getElem.mp q;have sk:S k=true:=(mem k).mpr ⟨_,dE jl,hj⟩;refine cr (cr (h s.heap _ (Heap.SameBut.refl _ _) ?_));rw [if_pos sk];refine⟨es,ep,t,e,el,λ k'=> ?_,jr,fit,rfl,tab⟩;rw [dR,decide_eq_true_eq,<-mem k'];exact⟨λ z=>z.elim id λ y=>by rwa [y],.inl⟩
 | none=>
  have sk:S k=false:=by
   cases z:S k with
   | false=>rfl
   | true=>
    obtain⟨y,hy,hp⟩:=(mem k).mp z;have:=List.findIdx?_eq_none_iff.mp q y hy;rw [hp] at this
    cases this
  dsimp only;have lp:=layNew_perm t es (knd.hash k) x;have lf:=layNew_fits t es (knd.hash k) x;have lt:=T4 tab es (knd.hash k) x;generalize layNew t es (knd.hash k) x=L at lp lf lt⊢;obtain⟨x5,t1,dum,gv⟩:=L;dsimp only at lp lf lt⊢;rw [Array.toList_push] at lp
  have sz:x5.size=es.size+1:=by
   have:=lp.length_eq
   simpa using this
  have fin:∀h',Heap.SameBut a s.heap h'->ya knd h' a (λ k'=>S k'||decide (k'=k)) x5.size->Q true {s with heap:=h'}:=λ h' sb z=>h h' _ sb (by rwa [sk,<-sz])
  have Ľ:∀(b:Bool) (j4:ci) (Q':Unit->ci->Prop),Q' () j4->gc (ga prog w) A (match b with
    | true=>rule "set.scan.the-table-gave-way"
    | false=>pure ()) Q' E j4:=λ b j4 Q' hq=>by
   cases b with
   | true=>exact YB hq
   | false=>exact cr hq
  refine bi (Ľ _ _ _ ?_)
  split
  .rw [hashByValue_scannable 8 hx];refine bi (cr ?_);refine set_tail ?_ e ((el.push hk hx).perm lp) (mem_push_iff hk mem lp) (by rwa [sz]) (H_ lf) (Kn lt) λ h' sb z=>cr (fin h' sb z);intro b j4 Q' hq
   cases b<;>first|exact cr hq|exact YB hq
  .refine bi (cr ?_);refine set_tail ?_ e ((el.push hk hx).perm lp) (mem_push_iff hk mem lp) (by rwa [sz]) lf lt λ h' sb z=>cr (fin h' sb z);intro b j4 Q' hq
   cases b<;>first|exact cr hq|exact YB hq
end
section
variable {prog:im} {w:io} {A:pi} {R:JaN->ci->Prop} {I:ac} {fp wr:List ac} {G:Array Ja0->Array Ja0->Prop} {n:Nat} {P:Nat->bv->Prop} {St:Nat->ci->Prop}
def Be (prog:im) (w:io) (h:Heap) (a:ac) (ns:List Int):Prop:=ya (JaK prog w) h a (λ k=>ns.any (· == k)) ns.length
theorem Be.at (x:Be prog w h a ns) (k:∀o,h.get? a=some o->h'.get? a=some o):Be prog w h' a ns:=ya.at x k
theorem MG (W:WalksS prog w A.in1 I fp wr G n P St) (S:ac) (off:S∉fp) (val:Nat->Int) (hv:∀i v,P i v->∃t,v = .int (val i) t) (jr:n+1<Do) :
  ∀(k i:Nat) (s:ci),n-i=k->i<=n->St i s->Be prog w s.heap S (Rs val i)->
   (∀s',Moved (S::wr) G s s'->Be prog w s'.heap S (Rs val n)->R (.ok (.ret .none)) s')->
   AT (ga prog w) A (.builtin "set.update.loop" ⟨[.ref S,.ref I],[]⟩) R s:=by
 have WE:S∉wr:=λ z=>off (W.sub _ z);have more:∀b∈wr,b∈S::wr:=λ b z=>ay _ z;intro k
 induction k with
 | zero=>
  intro i s e0 e1 st hS hR;obtain rfl:i=n:=by lia
  refine wT PyProof.Rows.F.entry_set_update_loop ?_;rw [Around.under_plainId PyProof.Rows.F.plain_set_update_loop _];refine bi (W.done s _ _ st λ s1 mv=>cr (hR s1 (mv.mono more) (hS.at λ o z=>mv.heap S o WE z)))
 | succ k ih=>
  intro i s e0 e1 st hS hR;have lt:i<n:=by lia
  refine wT PyProof.Rows.F.entry_set_update_loop ?_;rw [Around.under_plainId PyProof.Rows.F.plain_set_update_loop _];refine bi (W.item i s _ _ lt st λ v s1 hP Ú mv=> ?_);obtain⟨t,rfl⟩:=hv i v hP;have hS1:=hS.at (h':=s1.heap) λ o z=>mv.heap S o WE z;refine bi (u8 ?_);unfold setAdd;refine u8 (bi ((JaK prog w).pyHash (k:=val i) (Ja6 _ _ _ _) ?_))
  have room:(Rs val i).length+1<Do:=by
   have:=firstMet_length_le val i;lia
  refine P4 (knd:=JaK prog w) (s:= {s1 with toks:=s1.toks+1}) (Ja6 _ _ _ _) rfl hS1 room λ h2 b sb hS2=> ?_;have Ĳ:Be prog w h2 S (Rs val (i+1)):=hS2.congr (λ k'=>by rw [JaB,step_any]) (by rw [JaB,step_length]);refine cr ⟨WP PyProof.Rows.F.plain_set_update_loop _,ih (i+1) _ (by lia) lt (W.frame _ s1 _ _ Ú (cf _) λ c hc o z=> ?_) Ĳ λ s2 mv2 hS4=> ?_⟩
  .rw [sb.2 c (λ q:c=S=>off (by rwa [<-q]))];exact z
  .refine hR s2 (Moved.trans W.gtrans ((mv.mono more).then_heap (cf _) λ c o hc z=> ?_) mv2) hS4;rw [sb.2 c (λ q:c=S=>hc (by rw [q];exact aY))];exact z
end
section
variable {prog:im} {w:io} {A:pi} {E:bv->ci->Prop} {s:ci}
abbrev nI (b:Bool):Obj:= {cls:=.type "set",dict:=none,data:=.set #[] 0 (.fresh 0 0 b)}
theorem MF (a:bv) (h:Q1 (.ref s.heap.objs.size) {s with heap:=s.heap.push (nI (!w.params.followText "set-order"))}) :
  AT (ga prog w) A (.call (.builtin "set.__new__") ⟨[.type "set",a],[]⟩) (wants Q1 E) s:=by
 refine codeAny_of_tree (bi (wpAny_of_eq (PySem.F.newCall_set_1 a) (cr ⟨WP PySem.F.plain_set_new _,wT PySem.F.entry_set_new ?_⟩)));rw [Around.under_plainId PySem.F.plain_set_new _];unfold zn.«set.__new__» Builtin.Frozenset.newClass;have z:=PySem.sub_set_self;obtain⟨h0,h1,h2,h3,h4⟩:=s;dsimp only
 wp_walk
 refine Tl (cr ?_);dsimp only;simp only [newObj];exact bi (wpAny_alloc (cr (cr h)))
set_option maxHeartbeats 3200000 in
theorem ET (calm:A.handled=none) (hl:s.heap.IsList l its) (hi:Fk its.toList ns) (jr:its.size+1<Do)
  (h:∀(h':Heap) (tk:Nat),Be prog w h' s.heap.objs.size (Rs (λ i=>ns.getD i 0) its.size)->(∀b o,b<s.heap.objs.size->s.heap.get? b=some o->h'.get? b=some o)->Q (.ref s.heap.objs.size) {s with heap:=h',toks:=tk}) :
  gc (ga prog w) A (call (.type "set") [.ref l]) Q E s:=by
 obtain⟨z1,z2,z3⟩:=bP.mro;have z4:=bP.made;have z5:=bP.sub;refine Jas (codeAny_of_tree ?_);show gc _ _ (callAny (.type "set") _) _ _ _;refine cr ⟨Code.quiet_builtin _ (by decide +kernel),wT PySem.F.entry_type_call ?_⟩;rw [Around.under_plain (weight_type_call_type "set" [.ref l] []) rfl];have z6:=bP.notType;have z7:=bP.canCreate;have z8:=PySem.F.typeCall_set_1 (.ref l)
 repeat (any_goals (first|assumption|wp_step))
 refine Fa (MF (E:=E) (.ref l) (Q1:=λ obj s1=>obj = .ref s.heap.objs.size/\s1 = {s with heap:=s.heap.push (nI (!w.params.followText "set-order"))}) ⟨rfl,rfl⟩) λ r s1 hr=> ?_
 cases r with
 | error e=>exact hr
 | ok fl=>
  cases fl with
  | ret obj=>
   obtain⟨rfl,rfl⟩:=hr;have y1:(s.heap.push (nI (!w.params.followText "set-order"))).get? s.heap.objs.size=some (nI (!w.params.followText "set-order")):=aK _ rfl;have y2:Shared.TypeIs {s with heap:=s.heap.push (nI (!w.params.followText "set-order"))} (.ref s.heap.objs.size) "set" := ⟨_,y1,rfl⟩
   have y3:=bP.init.lookup;have y4:=bP.init.bind (.ref s.heap.objs.size)
   repeat (any_goals (first|assumption|wp_step))
   refine Fa (codeAny_call_builtin (R:=wants (λ r s2=>r = .none/\∃h' tk,s2 = {s with heap:=h',toks:=tk}/\Be prog w h' s.heap.objs.size (Rs (λ i=>ns.getD i 0) its.size)/\
     (∀b o,b<s.heap.objs.size->s.heap.get? b=some o->h'.get? b=some o)) E) bP.init.plain PySem.F.entry_set_init (PySem.check_set_init_1 y2 ?_)) λ r2 s2 t9=> ?_
   .obtain⟨ol,e1,e2,nl,e3⟩:=hl;obtain⟨c1,c2,c3,c4⟩:=ol;simp only at e2 e3;subst e2;subst e3;have e4:=ah (nI (!w.params.followText "set-order")) e1;have y5:=PySem.F.sub_list_set;have y6:=PySem.F.sub_list_frozenset;have y7:(Value.type "list" == Value.type "dict")=false:=by decide
    have y8:(s.heap.push (nI (!w.params.followText "set-order"))).IsList l its:=⟨_,e4,rfl,nl,rfl⟩
    unfold zn.«set.__init__» noKeywords Builtin.Frozenset.updateFrom;generalize hPI:Jaj=PI
    wp_walk
    subst hPI;refine Wp y8 (bi (wpAny_runValue ?_));have ls:l<s.heap.objs.size:=aH e1;have X5:A.in1.in1.in1.handled=none:=by simp [calm]
    have sz:(s.heap.push (nI (!w.params.followText "set-order"))).objs.size=s.heap.objs.size+1:=bX _ _
    have ne1:l≠(s.heap.push (nI (!w.params.followText "set-order"))).objs.size:=by
     rw [sz];exact aO (cM ls)
    have out:s.heap.objs.size∉[(s.heap.push (nI (!w.params.followText "set-order"))).objs.size,l]:=by
     rw [sz];intro z;rcases av.mp z with z|z
     .exact absurd z (aO (cU _))
     .exact absurd (aj.mp z) (dh ls)
    refine MG ((Walks.list X5 _ l ne1 its).toS) s.heap.objs.size out (λ i=>ns.getD i 0) (λ i v hv=>IntsAre.int_at hi i v (by rwa [bh])) jr (its.size-0) 0 _ rfl (aQ _)
     ⟨⟨_,aK _ rfl,rfl,rfl⟩,y8.push _⟩ ?_ ?_
    .exact⟨#[],0,_,ah _ y1,λ e he=>by simp at he,λ k=>by simp [Rs],by unfold Do;decide,by rfl,rfl,⟨.nil,rfl⟩⟩
    .intro s3 mv Ĳ;obtain⟨h3,g3,d3,t3,o3⟩:=s3;have q1:g3=s.gens:=mv.gens;have q2:d3=s.drawn:=mv.drawn;have q3:o3=s.os:=mv.os;subst q1;subst q2;subst q3;refine cr ?_;show gc _ _ (ret Value.none) _ _ _;refine cr ⟨rfl,h3,t3,rfl,Ĳ,λ b o bl z=> ?_⟩;refine mv.heap b o (λ q=> ?_) (ah _ (ah _ z));rcases av.mp q with q|q
     .exact absurd q (aO bl)
     .have:=aj.mp q;rw [sz] at this;exact absurd this (aO (cM bl))
   .cases r2 with
    | error e=>exact t9
    | ok f2=>
     cases f2 with
     | ret r=>
      obtain⟨rfl,h',tk,rfl,x1,x2⟩:=t9
      repeat (any_goals (first|assumption|wp_step))
      exact h _ _ x1 x2
     | _=>exact t9.elim
  | _=>exact hr.elim
end
theorem kb:Slot "set_iterator" "__next__" "set_iterator.__next__" := .of (owner:="set_iterator") (n:="__next__") (by rw [typeLookup_type,JaR];kernel_rfl)
 (by decide +kernel) (by decide +kernel) (by decide +kernel)
 (by first|exact .inl (by decide +kernel)|exact .inr (by decide +kernel))
 (by rw [Jaw];kernel_rfl)
theorem uF:JaW table "set_iterator.__next__" = some zn.«set_iterator.__next__» := entryFor_of_tree (by kernel_rfl)
theorem ES:Manifest.owners.lookup (String.ofList ['r','o','t','a','r','e','t','i','_','t','e','s'].reverse)=some Manifest.sig_set_iterator:=by kernel_rfl
theorem yj (a:bv):Ja8 "set_iterator.__next__" ⟨[a],[]⟩:=by
 unfold Ja8;rw [signature?_of (id:="set_iterator.__next__") (n:= ['_','_','t','x','e','n','_','_']) (o:= ['r','o','t','a','r','e','t','i','_','t','e','s']) (by kernel_rfl) ES]
 kernel_rfl
theorem yX:JaW table "set.__iter__" = some zn.«frozenset.__iter__» := entryFor_alias (id':="frozenset.__iter__") (by kernel_rfl)
 rfl (by decide +kernel) (by kernel_rfl)
theorem ua {α:Type}:∀{l:List α} {i:Nat} (h:i<l.length),(l[i]::l.eraseIdx i).Perm l
 | _::_,0,_=>.refl _
 | x::r,i+1,h=>by
  have:=ua (l:=r) (i:=i) (by simpa using h);rw [List.getElem_cons_succ,cu];exact(List.Perm.swap _ _ _).trans (this.cons x)
section
variable {prog:im} {w:io} {A:pi} {E:bv->ci->Prop} {s:ci}
theorem Iu (h0:n≠0) (h:∀i d,i<n->Q i {s with drawn:=d}):gc (ga prog w) A (choose src n) Q E s:=by
 have:=h ((ga prog w).w.draws src (s.drawn.get src)%n) (s.drawn.bump src) (Nat.mod_lt _ (Nat.pos_of_ne_zero h0));unfold choose;intro Γ p _;rw [Sem.wp_choose];refine⟨h0,?_⟩
 rwa [Sem.wp_pure]
theorem Cy {α:Type}:∀(n:Nat) (xs:List α) (s:ci) (Q:List α->ci->Prop),xs.length=n->(∀ys d,ys.Perm xs->Q ys {s with drawn:=d})->gc (ga prog w) A (drawOrder n xs) Q E s
 | 0,xs,s,Q,hn,h=>by
  have e:xs = []:=cq.mp hn;subst e;unfold drawOrder;exact cr (h [] s.drawn (.refl _))
 | n+1,[],s,Q,hn,h=>by cases hn
 | n+1,x::r,s,Q,hn,h=>by
  unfold drawOrder;refine bi (Iu (by simp) λ i d hi=> ?_);have e:(x::r)[i]? = some (x::r)[i]:=bq hi;rw [e];dsimp only;refine bi (Cy n _ _ _ (by rw [List.length_eraseIdx_of_lt hi];exact Nat.succ_inj.1 hn) λ ys d2 p=>cr (h _ d2 ?_));exact(List.Perm.cons _ p).trans (ua hi)
end
theorem KD {α:Type} (f:Nat->Nat) (es:Array α):(Yd f es).toList.Perm es.toList:=by
 have go:∀(n k:Nat) (l:List α) (out:Array α),l.length=n->(pickOrder.go f n k l out).toList.Perm (out.toList++l):=by
  intro n
  induction n with
  | zero=>
   intro k l out hn;have e:l = []:=cq.mp hn;subst e;unfold pickOrder.go;simp
  | succ n ih=>
   intro k l out hn;unfold pickOrder.go;have hi:f k%l.length<l.length:=Nat.mod_lt _ (Qai hn);have e:l[f k%l.length]? = some (l[f k%l.length]):=bq hi;rw [e];dsimp only;refine(ih (k+1) _ _ (by rw [List.length_eraseIdx_of_lt hi];exact Nat.sub_eq_of_eq_add hn)).trans ?_;rw [Array.toList_push,bt];exact List.Perm.append_left _ (ua hi)
 have:=go es.size 0 es.toList #[] (by simp)
 simpa [Yd] using this
abbrev l_ (es:Array (Int×bv)) (ep:Nat) (t:Zv):Obj:= {cls:=.type "set",dict:=none,data:=.set es ep t,slots:= #[]}
abbrev lu (first:bv) (i:Nat) (a:ac) (n ep:Nat):Obj:= {cls:=.type "set_iterator",dict:=none,data:=.fields #[first,.int i 0,.ref a,.int n 0,.int ep 0],slots:= #[]}
section
variable {prog:im} {w:io} {A:pi} {E:bv->ci->Prop} {s:ci}
theorem Iq (up:Ek l):SetTable.below l.toArray 0=0:=by
 obtain⟨h1,h2,h3⟩:=below_at up 0
 cases hb:SetTable.below l.toArray 0 with
 | zero=>rfl
 | succ b=>
  rw [hb] at h1 h2;have:l[0]? = some l[0]:=by simp
  exact absurd (h2 0 _ this (Zt (Nat.zero_le _))) (Zx (Nat.zero_le _))
theorem Ir (up:Ek l) (h:l[i]? = some j):SetTable.below l.toArray (j+1)=i+1:=by
 obtain⟨h1,h2,h3⟩:=below_at up (j+1);obtain⟨il,ej⟩:=ag.mp h
 have a1:¬SetTable.below l.toArray (j+1)<=i:=λ z=>by
  have:=h3 i j h z;exact Zf (Nat.lt_succ_self _) this
 have a2:¬i+1<SetTable.below l.toArray (j+1):=λ z=>by
  have il2:i+1<l.length:=by exact Za z h1
  have e2:l[i+1]? = some l[i+1]:=by simp
  have:=h2 _ _ e2 z;have:=dw.mp up i (i+1) il il2 (Nat.lt_succ_self _);lia
 exact Zq (Zi a2) (Zj a1)
def orderOf (w:io) (a:ac) (ep:Nat) (es:Array (Int×bv)):List (Int×bv):=if w.params.followText "set-order" = true then (Yd (w.params.setOrder a ep) es).toList else es.toList
theorem pj (w:io) (a:ac) (ep:Nat) (es:Array (Int×bv)):(orderOf w a ep es).Perm es.toList:=by
 unfold orderOf
 split
 .exact KD _ _
 .exact .refl _
structure Plain (w:io) (es:Array (Int×bv)) (t:Zv):Prop where
 fit:t.fits es.size=true
 tab:lP (!w.params.followText "set-order") t
 calm:w.params.followText "set-order" = true\/t.plain=true\/es.size<=1
theorem EU (P:Plain w es t) (ea:s.heap.get? a=some (l_ es ep t))
  (at_:w.params.followText "set-order" = false->SetTable.below t.place slot=i)
  (h0:(orderOf w a ep es)[i]? = none->Q none s)
  (h1:∀e sQ,(orderOf w a ep es)[i]? = some e->(w.params.followText "set-order" = false->SetTable.below t.place sQ=i+1)->Q (some (e.2,sQ)) s) :
  gc (ga prog w) A (setNext a slot i ep) Q E s:=by
 unfold setNext;refine bi (Op ea rfl P.fit ?_);dsimp only;unfold Ja5;refine bi (bi (Tl (cr ?_)));dsimp only
 cases hb:w.params.followText "set-order" with
 | true=>
  have eo:orderOf w a ep es=(Yd (w.params.setOrder a ep) es).toList:=by
   unfold orderOf;rw [if_pos hb]
  rw [if_pos (by exact hb),if_neg (by simp)];unfold setWalk;refine bi (bi (Op ea rfl P.fit ?_));dsimp only;unfold Ja5;refine bi (bi (Tl (cr ?_)));dsimp only;rw [if_pos (by exact hb)];refine bi (Tl (cr (cr ?_)));rw [eo] at h0 h1
  cases hx:(Yd (w.params.setOrder a ep) es).toList[i]? with
  | none=>
   rw [bh] at hx;have:Q none s:=h0 (by rwa [bh]);show Q (((Yd (w.params.setOrder a ep) es)[i]?).map _) s
   rwa [hx]
  | some e=>
   have:Q (some (e.2,slot)) s:=h1 e slot hx (λ z=>by rw [hb] at z;cases z);rw [bh] at hx;show Q (((Yd (w.params.setOrder a ep) es)[i]?).map _) s
   rwa [hx]
 | false=>
  have eo:orderOf w a ep es=es.toList:=by
   unfold orderOf;rw [if_neg (by rw [hb];exact aI)]
  have nb:¬(ga prog w).w.params.followText "set-order" = true:=λ z=>by
   have z:w.params.followText "set-order" = true:=z;rw [hb] at z
   cases z
  rw [if_neg nb]
  have nd:(!t.plain&&decide (es.size>1))=false:=by
   rcases P.calm with z|z|z
   .rw [hb] at z
    cases z
   .rw [z];rfl
   .have:¬es.size>1:=by lia
    rw [decide_eq_false this,Bool.and_false]
  have led:t.led=true:=by
   have:=P.tab.led;rw [hb] at this;exact this
  have e1:SetTable.below t.place slot=i:=at_ hb;have fit:=P.fit;simp only [SetTable.fits,bc,beq_iff_eq,decide_eq_true_eq] at fit;show gc _ _ (if (!t.plain&&decide (es.size>1))=true then _ else _) _ _ _;rw [nd,if_neg aI];refine bi ?_;show gc _ _ (if (!t.led && !es.isEmpty)=true then _ else _) _ _ _;rw [led];show gc _ _ (pure ()) _ _ _;refine cr (cr ?_);rw [e1];rw [eo] at h0 h1;by_cases hi:i<es.size
  .have p1:es[i]? = some es[i]:=by simp [hi]
   have p2:t.place[i]? = some (t.place[i]'(Za hi (Zg fit.1))):=by
    rw [Array.getElem?_eq_getElem]
   rw [p1,p2];refine h1 es[i] _ (by rwa [bh]) λ _=> ?_;have:=Ir (l:=t.place.toList) P.tab.up (i:=i) (j:=t.place[i]'(Za hi (Zg fit.1))) (by rwa [bh])
   simpa using this
  .have p1:es[i]? = none:=by simp;exact Zi hi
   rw [p1];exact h0 (by rwa [bh])
end
section
variable {prog:im} {w:io} {A:pi} {E:bv->ci->Prop} {s:ci}
theorem ku (e:s.heap.get? I=some o) (h:o.cls = .type "set_iterator"):s.TypeIs (.ref I) "set_iterator" := ⟨o,e,h⟩
theorem EN (hh:A.handled=none) (h:∀h',(∀b o,s.heap.get? b=some o->h'.get? b=some o)->Q none {s with heap:=h'}) :
  gc (ga prog w) A.in1 (newExc (.type "StopIteration") [] >>= λ e=>(raiseNew e:Sem Fin)) (λ fin s'=>∃v,fin=Fin.done (Flow.ret v)/\gc (ga prog w) A (pure (some v)) Q E s')
   (λ e s'=>gc (ga prog w) A (do let y <-isInstance e (Value.type "StopIteration");if y=true then pure none else throw e) Q E s') s:=by
 refine bi ?_;simp only [newExc,newTuple]
 have fa:Jax (.type "StopIteration") []=pure Value.none:=by
  first|rfl|(simp only [Jax];rfl)
 refine bi (ut (bi (m:=Jax _ _) (wpAny_of_eq fa (ut ?_ (by size_fits)))) (by size_fits));simp only [raiseNew];refine bi (wpAny_handled ?_);have h1:A.in1.handled=none:=hh;rw [h1];refine bi (cr (wpAny_throw ?_));refine bi (wpAny_isInstance (b:=true) (T:="StopIteration") ⟨_,aK _ rfl,rfl⟩ isSubtype_stop (cr (h _ λ b o z=> ?_)));exact ah _ (ah _ z)
theorem K0 {ep:Nat} {slot i:Nat} (P:Plain w es t) (ea:s.heap.get? a=some (l_ es ep t)) (ei:s.heap.get? I=some (lu (.int slot 0) i a es.size ep))
  (at_:w.params.followText "set-order" = false->SetTable.below t.place slot=i) (he:(orderOf w a ep es)[i]? = some e)
  (h:∀h' (sQ:Nat),h'.get? I=some (lu (.int sQ 0) (i+1) a es.size ep)->(w.params.followText "set-order" = false->SetTable.below t.place sQ=i+1)->Heap.SameBut I s.heap h'->Q (some e.2) {s with heap:=h'}) :
  gc (ga prog w) A (YC (.ref I)) Q E s:=by
 unfold YC;refine bi (Jaa (At (name:=Str.ofString "__next__") (ku ei rfl) kb (wf kb (ku ei rfl) uF ?_ (yj _))));unfold zn.«set_iterator.__next__»;refine bi (cr ?_);refine bi (Zm ei rfl ?_);dsimp only;refine bi (Gc ea rfl P.fit ?_);rw [if_neg (by simp)];simp only [au];refine bi (EU P ea at_ (λ z=>by rw [he] at z;cases z) λ e' sQ h1 h2=> ?_);rw [he] at h1
 cases h1;dsimp only;refine bi (AC ei (by simp) λ h1 e1 Pf=> ?_);refine bi (AC e1 (by simp) λ Z8 e2 RK=> ?_);refine cr ⟨_,rfl,cr ?_⟩;exact h Z8 sQ e2 h2 (Pf.trans RK)
theorem K1 {ep:Nat} {slot i:Nat} (hh:A.handled=none) (P:Plain w es t) (ea:s.heap.get? a=some (l_ es ep t)) (ei:s.heap.get? I=some (lu (.int slot 0) i a es.size ep))
  (at_:w.params.followText "set-order" = false->SetTable.below t.place slot=i) (he:(orderOf w a ep es)[i]? = none)
  (h:∀h',Heap.ExtBut I s.heap h'->Q none {s with heap:=h'}) :
  gc (ga prog w) A (YC (.ref I)) Q E s:=by
 unfold YC;refine bi (Jaa (At (name:=Str.ofString "__next__") (ku ei rfl) kb (wf kb (ku ei rfl) uF ?_ (yj _))));unfold zn.«set_iterator.__next__»;refine bi (cr ?_);refine bi (Zm ei rfl ?_);dsimp only;refine bi (Gc ea rfl P.fit ?_);rw [if_neg (by simp)];simp only [au];refine bi (EU P ea at_ (λ _=> ?_) λ e' sQ h1 h2=>by rw [he] at h1;cases h1);dsimp only;refine bi (AC ei (by simp) λ h1 e1 Pf=> ?_);exact EN (s:= {s with heap:=h1}) hh λ h2 k2=>h h2 λ b o hb z=>k2 b o (Pf.extBut b o hb z)
end
theorem Jb:Slot "set_iterator" "__iter__" "set_iterator.__iter__" := .of (owner:="set_iterator") (n:="__iter__") (by rw [typeLookup_type,JaR];kernel_rfl)
 (by decide +kernel) (by decide +kernel) (by decide +kernel)
 (by first|exact .inl (by decide +kernel)|exact .inr (by decide +kernel))
 (by rw [Jaw];kernel_rfl)
theorem AZ:JaW table "set_iterator.__iter__" = some zn.«dict_keyiterator.__iter__» := entryFor_alias (id':="dict_keyiterator.__iter__") (by kernel_rfl)
 rfl (by decide +kernel) (by kernel_rfl)
theorem De (a:bv):Ja8 "set_iterator.__iter__" ⟨[a],[]⟩:=by
 unfold Ja8;rw [signature?_of (id:="set_iterator.__iter__") (n:= ['_','_','r','e','t','i','_','_']) (o:= ['r','o','t','a','r','e','t','i','_','t','e','s']) (by kernel_rfl) ES]
 kernel_rfl
section
variable {prog:im} {w:io} {A:pi} {E:bv->ci->Prop} {s:ci}
theorem BL (e:s.heap.get? I=some o) (h:o.cls = .type "set_iterator") (q:Q (.ref I) s):gc (ga prog w) A (Jaj (.ref I)) Q E s:=by
 refine wpAny_pyIter_slot (ku e h) Jb (wf Jb (ku e h) AZ ?_ (De _));exact cr ⟨_,rfl,"set_iterator",_,ku e h,kb.lookup,q⟩
end
abbrev i9 (ps:List Nat):Obj:= {cls:=.type "tuple",dict:=none,data:=.seq ((ps.map λ (i:Nat)=>Jav i).toArray) 0,slots:= #[]}
section
variable {prog:im} {w:io} {A:pi} {E:bv->ci->Prop} {s:ci}
theorem Ig (fit:t.fits es.size=true) (ea:s.heap.get? a=some (l_ es ep t)) (eq:s.heap.get? q=some (i9 ps)) (ei:s.heap.get? I=some (lu (.ref q) i a es.size ep))
  (hp:ps[i]? = some p) (he:es[p]? = some e)
  (h:∀h',h'.get? I=some (lu (.ref q) (i+1) a es.size ep)->Heap.SameBut I s.heap h'->Q (some e.2) {s with heap:=h'}) :
  gc (ga prog w) A (YC (.ref I)) Q E s:=by
 unfold YC;refine bi (Jaa (At (name:=Str.ofString "__next__") (ku ei rfl) kb (wf kb (ku ei rfl) uF ?_ (yj _))));unfold zn.«set_iterator.__next__»;refine bi (cr (bi (Zm ei rfl ?_)));dsimp only;refine bi (Gc ea rfl fit ?_);rw [if_neg (by simp)];refine bi (Jar eq rfl ?_)
 have hx:((ps.map λ (i:Nat)=>Jav i).toArray)[i]? = some (.int p 0):=by
  rw [cT,ak,hp];rfl
 simp only [au,hx];unfold setNextDrawn;refine bi (bi (Op ea rfl fit ?_));dsimp only;rw [if_neg (by simp),he];refine cr ?_;refine bi (AC ei (by simp) λ h1 e1 Pf=> ?_);exact cr ⟨_,rfl,cr (h h1 e1 Pf)⟩
theorem Ih (hh:A.handled=none) (fit:t.fits es.size=true) (ea:s.heap.get? a=some (l_ es ep t)) (eq:s.heap.get? q=some (i9 ps)) (ei:s.heap.get? I=some (lu (.ref q) i a es.size ep))
  (hp:ps[i]? = none) (h:∀h',Heap.ExtBut I s.heap h'->Q none {s with heap:=h'}) :
  gc (ga prog w) A (YC (.ref I)) Q E s:=by
 unfold YC;refine bi (Jaa (At (name:=Str.ofString "__next__") (ku ei rfl) kb (wf kb (ku ei rfl) uF ?_ (yj _))));unfold zn.«set_iterator.__next__»;refine bi (cr (bi (Zm ei rfl ?_)));dsimp only;refine bi (Gc ea rfl fit ?_);rw [if_neg (by simp)];refine bi (Jar eq rfl ?_)
 have hx:((ps.map λ (i:Nat)=>Jav i).toArray)[i]? = none:=by
  rw [cT,ak,hp];rfl
 simp only [au,hx];refine bi (AC ei (by simp) λ h1 e1 Pf=> ?_);refine bi (AC e1 (by simp) λ h2 e2 RK=> ?_);exact EN (s:= {s with heap:=h2}) hh λ h3 k3=>h h3 λ b o hb z=>k3 b o ((Pf.trans RK).extBut b o hb z)
theorem GC (hh:A.handled=none) (ne:a≠I) (P:Plain w es t) :
  Walks prog w A I [I,a] [I] es.size (λ i v=>∃e,(orderOf w a ep es)[i]? = some e/\v=e.2) (λ i h=>h.get? a=some (l_ es ep t)/\∃slot:Nat,h.get? I=some (lu (.int slot 0) i a es.size ep)/\(w.params.followText "set-order" = false->SetTable.below t.place slot=i)) where
 sub:=λ b hb=>by
  rw [aj.mp hb];simp
 frame:=λ i h h' ⟨e1,slot,e2,e3⟩ k=>⟨k a (by simp) _ e1,slot,k I (by simp) _ e2,e3⟩
 item:=λ i s Q E hi ⟨e1,slot,e2,e3⟩ q=>by
  have ln:(orderOf w a ep es).length=es.size:=by
   have:=(pj w a ep es).length_eq
   simpa using this
  have he:(orderOf w a ep es)[i]? = some ((orderOf w a ep es)[i]'(Za hi (Zg ln))):=by simp
  refine K0 P e1 e2 e3 he λ h' sQ z1 z2 sb=>q _ h' s.toks ⟨_,he,rfl⟩ ⟨?_,sQ,z1,z2⟩ λ b o hb z=>sb.extBut b o (λ y=>hb (by rw [y];simp)) z;exact sb.extBut a _ ne e1
 done:=λ s Q E ⟨e1,slot,e2,e3⟩ q=>by
  have ln:(orderOf w a ep es).length=es.size:=by
   have:=(pj w a ep es).length_eq
   simpa using this
  exact K1 hh P e1 e2 e3 (bA (Ze ln)) λ h' k=>q h' s.toks λ b o hb z=>k b o (λ y=>hb (by rw [y];simp)) z
 self:=λ i s Q E ⟨e1,slot,e2,e3⟩ q=>BL e2 rfl q
theorem GD (hh:A.handled=none) (ne:a≠I) (nq:q0≠I) (fit:t.fits es.size=true) (hp:ps.Perm (List.range es.size)) :
  Walks prog w A I [I,a,q0] [I] es.size (λ i v=>∃(p:Nat) (e:Int×bv),ps[i]? = some p/\es[p]? = some e/\v=e.2) (λ i h=>h.get? a=some (l_ es ep t)/\h.get? q0=some (i9 ps)/\h.get? I=some (lu (.ref q0) i a es.size ep)) where
 sub:=λ b hb=>by
  rw [aj.mp hb];simp
 frame:=λ i h h' ⟨e1,e2,e3⟩ k=>⟨k a (by simp) _ e1,k q0 (by simp) _ e2,k I (by simp) _ e3⟩
 item:=λ i s Q E hi ⟨e1,e2,e3⟩ q=>by
  have ln:ps.length=es.size:=by
   have:=hp.length_eq
   simpa using this
  have h1:ps[i]? = some (ps[i]'(Za hi (Zg ln))):=by simp
  have pl:ps[i]'(Za hi (Zg ln))<es.size:=aV.mp (hp.mem_iff.mp (dE _));have h2:es[ps[i]'(Za hi (Zg ln))]? = some (es[ps[i]'(Za hi (Zg ln))]'pl):=by simp [pl]
  refine Ig fit e1 e2 e3 h1 h2 λ h' z1 sb=>q _ h' s.toks ⟨_,_,h1,h2,rfl⟩ ⟨?_,?_,z1⟩ λ b o hb z=>sb.extBut b o (λ y=>hb (by rw [y];simp)) z
  .exact sb.extBut a _ ne e1
  .exact sb.extBut q0 _ nq e2
 done:=λ s Q E ⟨e1,e2,e3⟩ q=>by
  have ln:ps.length=es.size:=by
   have:=hp.length_eq
   simpa using this
  exact Ih hh fit e1 e2 e3 (bA (Ze ln)) λ h' k=>q h' s.toks λ b o hb z=>k b o (λ y=>hb (by rw [y];simp)) z
 self:=λ i s Q E ⟨e1,e2,e3⟩ q=>BL e3 rfl q
end
section
variable {prog:im} {w:io} {A:pi} {E:bv->ci->Prop} {s:ci}
theorem Oa (hT:s.TypeIs (.ref r) "set") (h:Q false s):gc (ga prog w) A (Builtin.List.listLengthHint (.ref r)) Q E s:=by
 unfold Builtin.List.listLengthHint;refine bi (wpAny_specialOf hT PySem.F.slot_set_len.lookup ?_);generalize hid:("set.__len__" : String)=id1
 wp_delta
 have sp:splitId id1=some ("set","__len__"):=by
  subst hid
  decide +kernel
 rw [sp];subst hid;refine bi (wpAny_isInstance (b:=true) (T:="set") hT (by rw [Jaw];kernel_rfl) ?_);refine Jap (λ z=>absurd z (by decide)) λ _=>Jap (λ _=> ?_) λ z=>absurd (by decide +kernel) z;exact bi (Yz hT (cr h))
end
section
variable {prog:im} {w:io} {A:pi} {E:bv->ci->Prop} {s:ci}
theorem MH (fit:t.fits es.size=true) (tab:lP (!w.params.followText "set-order") t) (jr:es.size<Do) (ea:s.heap.get? a=some (l_ es ep t))
  (h1:Plain w es t->Q (.ref s.heap.objs.size) {s with heap:=s.heap.push (lu (.int 0 0) 0 a es.size ep)})
  (h2:∀(ps:List Nat) d,ps.Perm (List.range es.size)->Q (.ref (s.heap.objs.size+1)) {s with heap:=(s.heap.push (i9 ps)).push (lu (.ref s.heap.objs.size) 0 a es.size ep),drawn:=d}) :
  gc (ga prog w) A (Jaj (.ref a)) Q E s:=by
 have hT:s.TypeIs (.ref a) "set" := ⟨_,ea,rfl⟩
 refine wpAny_pyIter_slot hT PySem.F.slot_set_iter (wf PySem.F.slot_set_iter hT yX ?_ (PySem.F.args_set_iter_1 _));unfold zn.«frozenset.__iter__» Builtin.Frozenset.slot0;refine bi (bi (cr (cr ?_)));unfold Builtin.Frozenset.sizeOf;refine bi (bi (Gc ea rfl fit (cr ?_)));unfold setDrawn;refine bi (bi (Op ea rfl fit ?_));dsimp only;unfold Ja5;refine bi (bi (Tl (cr (cr ?_))))
 have plain:(!w.params.followText "set-order" && (!t.plain&&decide (es.size>1)))=false->Plain w es t:=λ z=>by
  refine⟨fit,tab,?_⟩
  cases h1:w.params.followText "set-order" with
  | true=>exact .inl rfl
  | false=>
   rw [h1] at z
   cases h2:t.plain with
   | true=>exact .inr (.inl rfl)
   | false=>
    rw [h2] at z;have z:decide (es.size>1)=false:=z;have:=of_decide_eq_false z;exact .inr (.inr (by lia))
 show gc _ _ (if (!w.params.followText "set-order" && (!t.plain&&decide (es.size>1)))=true then _ else _) _ _ _
 have tail:∀(s1:ci) (first:bv) (Q':bv->ci->Prop),s1.heap.get? a=some (l_ es ep t)->Q' (.ref s1.heap.objs.size) {s1 with heap:=s1.heap.push (lu first 0 a es.size ep)}->
   gc (ga prog w) A.in1 (setEpoch a >>= λ e=>(newFields "set_iterator" [first,Jav 0,.ref a,Jav es.size,Jav e]:Sem bv) >>= λ v=>(ret v:Sem Fin)) (λ fin s'=>∃v,fin=Fin.done (Flow.ret v)/\Q' v s') E s1:=by
  intro s1 first Q' e1 q
  refine bi (wpAny_setEpoch_of e1 rfl fit ?_);refine bi (ut (cr ⟨_,rfl,?_⟩));exact q
 cases hb:(!w.params.followText "set-order" && (!t.plain&&decide (es.size>1))) with
 | false=>
  rw [if_neg aI];refine bi (cr ?_);refine tail s _ _ ea ⟨"set_iterator",_,⟨_,aK _ rfl,rfl⟩,kb.lookup,h1 (plain hb)⟩
 | true=>
  rw [if_pos rfl];refine bi (Cy es.size (List.range es.size) _ _ (aJ) λ ps d pp=> ?_)
  have lp:ps.length=es.size:=by
   have:=pp.length_eq
   simpa using this
  refine bi (wpAny_newTuple ?_ (by rw [ae,lp];exact Jag jr));refine tail _ _ _ (ah _ ea) ⟨"set_iterator",_,⟨_,aK _ rfl,rfl⟩,kb.lookup,?_⟩;have sz:(s.heap.push (i9 ps)).objs.size=s.heap.objs.size+1:=bX _ _;have:=h2 ps d pp;rw [<-sz] at this;exact this
end
section
variable {prog:im} {w:io} {A:pi} {E:bv->ci->Prop} {s:ci}
abbrev pF (xs:Array bv) (c:Nat):Obj:= {cls:=.type "list",dict:=none,data:=.seq xs c,slots:= #[]}
theorem BV {S I a:ac} {res:bv} {n:Nat} {P:Nat->bv->Prop} {St:Nat->Heap->Prop} {fp:List ac} {R:JaN->ci->Prop} {b:Bool} (W:Walks prog w A.in1 I fp [I] n P St) (hn:n<=dL) (out:S∉fp) (hT:s.TypeIs (.ref a) "set") (st:St 0 s.heap) (hS:s.heap.get? S=some (pF #[] 0))
  (hR:∀h' tk acc c,(∀b o,b≠S->b≠I->s.heap.get? b=some o->h'.get? b=some o)->h'.get? S=some (pF acc c)->ItemsOf P acc n->R (.ok (.ret res)) {s with heap:=h',toks:=tk}) :
  gc (ga prog w) A.in1 (xz [Value.ref I] (Builtin.List.listLengthHint (.ref a)) >>= λ room=>if (room||b)=true then (rule "list.extend.makes-room" >>= λ _=>Builtin.List.listTouch (.ref S) >>= λ _=>(again (.builtin "list.extend.loop" ⟨[.ref S,.ref I,res],[]⟩):Sem Fin)) else again (.builtin "list.extend.loop" ⟨[.ref S,.ref I,res],[]⟩))
   (λ fin s'=>match fin with | .done f=>R (.ok f) s' | .again c'=>c'.quiet=true/\AT (ga prog w) A c' R s') (λ e s'=>R (.error e) s') s:=by
 have loop:∀(h:Heap) (c tk:Nat),St 0 h->(∀b o,b≠S->s.heap.get? b=some o->h.get? b=some o)->h.get? S=some (pF #[] c)->AT (ga prog w) A (.builtin "list.extend.loop" ⟨[.ref S,.ref I,res],[]⟩) R {s with heap:=h,toks:=tk}:=by
  intro h c tk Ú k1 e1;refine codeAny_extend_loopS W.toS hn S out res n 0 _ #[] c rfl (aQ _) Ú e1 (ItemsOf.nil _) λ s2 acc c2 mv e2 it=> ?_;rw [Moved.eq_with mv];refine hR s2.heap s2.toks acc c2 (λ b o hb hi z=>mv.heap b o (λ q=> ?_) (k1 b o hb z)) e2 it;rcases av.mp q with q|q
  .exact hb q
  .exact hi (aj.mp q)
 refine bi (u8 (Oa hT ?_));refine Jap (λ _=> ?_) λ _=>cr ⟨WP PySem.F.plain_extend_loop _,loop s.heap 0 s.toks st (λ _ _ _ z=>z) hS⟩;refine bi (YB (bi ?_));show gc _ _ (updateSeq S (·.push .none) >>= λ _=>updateSeq S (·.pop)) _ _ _;refine bi (wpAny_updateSeq hS rfl ?_);have e1:=bY (Obj.mapSeq (·.push Value.none)) hS rfl;refine wpAny_updateSeq (hz:=by seq_fits) e1 rfl ?_;have e2:=bY (Obj.mapSeq (·.pop)) e1 rfl;have k2:∀b o,b≠S->s.heap.get? b=some o->((s.heap.update S (Obj.mapSeq (·.push Value.none))).update S (Obj.mapSeq (·.pop))).get? b=some o:=λ b o hb z=>(bR _ _ (Ne.symm hb)).trans ((bR _ _ (Ne.symm hb)).trans z);exact cr ⟨WP PySem.F.plain_extend_loop _,loop _ _ _ (W.frame 0 _ _ st λ b hb o z=>k2 b o (λ q=>out (q▸hb)) z) k2 e2⟩
theorem MI (hh:A.handled=none) (fit:t.fits es.size=true) (tab:lP (!w.params.followText "set-order") t) (jr:es.size<Do) (ea:s.heap.get? a=some (l_ es ep t)) (ne:S≠a) (hS:s.heap.get? S=some (pF #[] 0))
  (hR:∀h' tk d acc c (vs:List (Int×bv)),(∀b o,b≠S->s.heap.get? b=some o->h'.get? b=some o)->h'.get? S=some (pF acc c)->vs.Perm es.toList->acc.toList=vs.map (·.2)->R (.ok (.ret (.ref S))) {s with heap:=h',toks:=tk,drawn:=d}) :
  gc (ga prog w) A.in1 (Builtin.List.listExtendWith (.ref S) (.ref a) (.ref S)) (λ fin s'=>match fin with | .done f=>R (.ok f) s' | .again c'=>c'.quiet=true/\AT (ga prog w) A c' R s') (λ e s'=>R (.error e) s') s:=by
 have hT:s.TypeIs (.ref a) "set" := ⟨_,ea,rfl⟩
 have hh1:A.in1.handled=none:=hh;have sa:S<s.heap.objs.size:=aH hS;have aa:a<s.heap.objs.size:=aH ea;have nz:es.size<=dL:=Jag jr;unfold Builtin.List.listExtendWith;refine bi (Yz (T:="set") hT ?_);have x1:Builtin.List.listSameRef (.ref S) (.ref a)=false:=by simp [Builtin.List.listSameRef,ne]
 have x2:(Value.type "set" == Value.type "list")=false:=by decide
 have x3:(Value.type "set" == Value.type "tuple")=false:=by decide
 simp only [x1,x2,x3,Bool.or_false,cD,if_false];refine bi (MH fit tab jr ea (λ P=> ?_) λ ps d pp=> ?_)
 .refine BV (s:= {s with heap:=s.heap.push (lu (.int 0 0) 0 a es.size ep)}) (GC (ep:=ep) hh1 (aO aa) P) nz (λ q=> ?_) ⟨_,ah _ ea,rfl⟩ ⟨ah _ ea,0,aK _ rfl,λ _=> ?_⟩ (ah _ hS) λ h' tk acc c k e it=> ?_
  .rcases av.mp q with q|q
   .exact absurd q (aO sa)
   .exact ne (aj.mp q)
  .have:=Iq (l:=t.place.toList) tab.up
   simpa using this
  .refine hR h' tk s.drawn acc c (orderOf w a ep es) (λ b o hb z=>k b o hb (aO (aH z)) (ah _ z)) e (pj w a ep es) ?_
   have ln:(orderOf w a ep es).length=es.size:=by
    have:=(pj w a ep es).length_eq
    simpa using this
   refine List.ext_getElem? λ i=> ?_;by_cases hi:i<es.size
   .have h1:acc[i]? = some (acc[i]'(by rwa [it.1])):=by simp
    obtain⟨x,hx,hv⟩:=it.2 i _ h1;rw [bh,h1,ak,hx,hv];rfl
   .rw [bA (by rw [bB,it.1];exact Zi hi),bA (by rw [ae];exact Zc (Ze ln) (Zi hi))]
 .have SK:(s.heap.push (i9 ps)).objs.size=s.heap.objs.size+1:=bX _ _
  have i1:((s.heap.push (i9 ps)).push (lu (.ref s.heap.objs.size) 0 a es.size ep)).get? (s.heap.objs.size+1)=some (lu (.ref s.heap.objs.size) 0 a es.size ep):=by
   rw [<-SK];exact aK _ rfl
  have a1:=ah (lu (.ref s.heap.objs.size) 0 a es.size ep) (ah (i9 ps) ea);have q1:((s.heap.push (i9 ps)).push (lu (.ref s.heap.objs.size) 0 a es.size ep)).get? s.heap.objs.size=some (i9 ps):=ah _ (aK _ rfl);refine BV (s:= {s with heap:=(s.heap.push (i9 ps)).push (lu (.ref s.heap.objs.size) 0 a es.size ep),drawn:=d}) (GD (ep:=ep) (t:=t) hh1 (aO (cM aa)) (aO (cU _)) fit pp) nz (λ q=> ?_) ⟨_,a1,rfl⟩ ⟨a1,q1,i1⟩ (ah _ (ah _ hS)) λ h' tk acc c k e it=> ?_
  .rcases av.mp q with q|q
   .exact absurd q (aO (cM sa))
   .rcases av.mp q with q|q
    .exact ne q
    .exact absurd (aj.mp q) (aO sa)
  .have lp:ps.length=es.size:=by
    have:=pp.length_eq
    simpa using this
   refine hR h' tk d acc c (ps.filterMap λ p=>es[p]?) (λ b o hb z=>k b o hb (aO (cM (aH z))) (ah _ (ah _ z))) e ?_ ?_
   .exact(pp.filterMap _).trans (by rw [filterMap_getElem?_range])
   .have all:∀p∈ps,p<es.size:=λ p hp=>aV.mp (pp.mem_iff.mp hp)
    have fm:(ps.filterMap λ p=>es[p]?)=ps.pmap (λ p (hp:p<es.size)=>es[p]) all:=by
     clear it pp lp k e hR i1 a1 q1 SK
     induction ps with
     | nil=>rfl
     | cons p r ih=>
      have hp:=all p (by simp);rw [df,show es[p]? = some es[p] by simp [hp]];simp only [List.pmap];rw [ih λ q hq=>all q (ay _ hq)]
    rw [fm];refine List.ext_getElem? λ i=> ?_;by_cases hi:i<es.size
    .have h1:acc[i]? = some (acc[i]'(by rwa [it.1])):=by simp
     obtain⟨p,x,hp,hx,hv⟩:=it.2 i _ h1;rw [bh,h1,ak,List.getElem?_pmap];obtain⟨pl,px⟩:=Array.getElem?_eq_some_iff.mp hx;simp only [hp,Option.pmap_some,Option.map_some,px,hv]
    .rw [bA (by rw [bB,it.1];exact Zi hi),bA (by rw [ae,List.length_pmap];exact Zc (Ze lp) (Zi hi))]
end
section
variable {prog:im} {w:io} {A:pi} {E:bv->ci->Prop} {s:ci}
theorem BG (val:Nat->Int):∀i,(Rs val i).Nodup
 | 0=>by
  rw [firstMet_zero];exact ck
 | i+1=>by
  rw [JaB];unfold step_dedup;have ih:=BG val i
  split
  .exact ih
  .rename_i h
   rw [bN];refine⟨ih,cH _ _,λ a ha b hb z=>h ?_⟩;rw [aj.mp hb] at z;rw [bL];exact⟨a,ha,by rw [z];exact beq_self_eq_true _⟩
theorem QG (ns:List Int) (k:Int):k∈Rs (λ i=>ns.getD i 0) ns.length↔k∈ns:=by
 have h:=firstMet_any (λ i=>ns.getD i 0) ns.length k
 have e:(List.range ns.length).map (λ i=>ns.getD i 0)=ns:=by
  refine List.ext_getElem (by simp) λ i h1 h2=> ?_;simp [h2]
 rw [e] at h
 have m:∀l:List Int,l.any (· == k)=true↔k∈l:=λ l=>by
  rw [bL];constructor
  .rintro⟨x,hx,hk⟩
   rwa [<-eq_of_beq hk]
  .exact λ hk=>⟨k,hk,beq_self_eq_true _⟩
 rw [<-m,h,m]
theorem Jl:∀{ns ms:List Int},ns.Nodup->(∀k∈ns,k∈ms)->ms.length=ns.length->ms.Perm ns
 | [],ms,_,_,hl=>by
  have:ms = []:=cq.mp hl;rw [this]
 | k::r,ms,nd,sub,hl=>by
  obtain⟨n1,n2⟩:=aZ.mp nd;have hk:=sub k (by simp);have pe:=List.perm_cons_erase hk
  have:=Jl (ns:=r) (ms:=ms.erase k) n2 (λ j hj=>by
   have jm:=sub j (ay _ hj);have jk:j≠k:=λ z=>n1 (z▸hj);exact(c7 jk).mpr jm) (by rw [List.length_erase_of_mem hk,hl];simp)
  exact pe.trans (this.cons k)
theorem Kv (nd:ns.Nodup) (hS:Be prog w h a ns):∃es ep t,h.get? a=some (l_ es ep t)/\es.size<Do/\t.fits es.size=true/\lP (!w.params.followText "set-order") t/\
  ∀vs:List (Int×bv),vs.Perm es.toList->∃ms:List Int,Fk (vs.map (·.2)) ms/\ms.Perm ns:=by
 obtain⟨es,ep,t,e,el,mem,jr,fit,len,tab⟩:=hS;refine⟨es,ep,t,e,jr,fit,tab,λ vs pv=> ?_⟩
 have go:∀l:List (Int×bv),(∀x∈l,∃k tk,x.2=Value.int k tk)->∃ms:List Int,Fk (l.map (·.2)) ms/\ms.length=l.length/\∀k:Int,k∈ms↔∃x∈l,(JaK prog w).is k x.2=true:=by
  intro l
  induction l with
  | nil=>exact λ _=>⟨[],.nil,rfl,λ k=>by simp⟩
  | cons x r ih=>
   intro hx;obtain⟨ms,h1,h2,h3⟩:=ih λ y hy=>hx y (ay _ hy);obtain⟨k,tk,ek⟩:=hx x (by simp);refine⟨k::ms,?_,by rw [aG,h2];rfl,λ j=> ?_⟩
   .rw [aB,ek];exact .cons k tk h1
   .rw [av,h3];constructor
    .rintro(rfl | ⟨y,hy,q⟩)
     .exact⟨x,by simp,by rw [ek];exact Ja6 _ _ _ _⟩
     .exact⟨y,ay _ hy,q⟩
    .rintro⟨y,hy,q⟩;rcases av.mp hy with rfl|hy
     .rw [ek] at q;have q:Value.isInt j (Value.int k tk)=true:=q;obtain⟨t',z⟩:=Value.isInt_shape q
      cases z;exact .inl rfl
     .exact .inr ⟨y,hy,q⟩
 have shp:∀x∈vs,∃k tk,x.2=Value.int k tk:=λ x hx=>by
  obtain⟨⟨k,hk,_⟩,_⟩:=el x (pv.mem_iff.mp hx);have hk:Value.isInt k x.2=true:=hk;obtain⟨t',z⟩:=Value.isInt_shape hk;exact⟨k,t',z⟩
 obtain⟨ms,h1,h2,h3⟩:=go vs shp;refine⟨ms,h1,?_⟩
 have l2:ms.length=ns.length:=by
  rw [h2,pv.length_eq,bB,len]
 have sub:∀k∈ns,k∈ms:=λ k hk=>by
  rw [h3];obtain⟨x,hx,q⟩:=(mem k).mp (bL.mpr ⟨k,hk,beq_self_eq_true _⟩);exact⟨x,pv.mem_iff.mpr hx,q⟩
 exact Jl nd sub l2
theorem EV (hh:A.handled=none) (nd:ns.Nodup) (hS:Be prog w s.heap a ns)
  (h:∀h' tk d (acc:List bv) (ms:List Int),(∀b o,s.heap.get? b=some o->h'.get? b=some o)->Fk acc ms->ms.Perm ns->R acc {s with heap:=h',toks:=tk,drawn:=d}) :
  gc (ga prog w) A (collect (.ref a)) R E s:=by
 obtain⟨es,ep,t,ea,jr,fit,tab,items⟩:=Kv nd hS;have al:a<s.heap.objs.size:=aH ea;unfold collect;refine bi (wpAny_runValue ?_);refine wT entry_proto_collect' ?_;rw [Around.under_plainId PySem.F.plain_proto_collect _];refine bi (ut (cr ⟨WP PySem.F.plain_list_iadd _,wT entry_list_iadd' ?_⟩));rw [Around.under_plainId PySem.F.plain_list_iadd _];have e1:(s.heap.push (pF #[] 0)).get? s.heap.objs.size=some (pF #[] 0):=aK _ rfl
 have key:=MI (prog:=prog) (A:=A) (s:= {s with heap:=s.heap.push (pF #[] 0)}) (S:=s.heap.objs.size)
  (R:=λ (q:JaN) (s':ci)=>∃(h':Heap) (tk:Nat) (d:Drawn) (acc:Array bv) (c:Nat) (ms:List Int),q = .ok (.ret (.ref s.heap.objs.size))/\s' = {s with heap:=h',toks:=tk,drawn:=d}/\(∀b o,s.heap.get? b=some o->h'.get? b=some o)/\h'.get? s.heap.objs.size=some (pF acc c)/\Fk acc.toList ms/\ms.Perm ns)
  hh fit tab jr (ah _ ea) (dh al) e1 λ h' tk d acc c vs k e pv ev=>by
   obtain⟨ms,m1,m2⟩:=items vs pv;exact⟨h',tk,d,acc,c,ms,rfl,rfl,λ b o z=>k b o (aO (aH z)) (ah _ z),e,by rwa [ev],m2⟩
 refine re key (λ fin s' x=> ?_) λ e s' x=> ?_
 .cases fin with
  | done f=>
   obtain⟨h',tk,d,acc,c,ms,q,rfl,k,e,m1,m2⟩:=x
   cases q;exact bi (Ja2 e (cr (h h' tk d _ ms k m1 m2)))
  | again c1=>
   refine⟨x.1,Fa x.2 λ q s2 y=> ?_⟩;obtain⟨h',tk,d,acc,c,ms,rfl,rfl,k,e,m1,m2⟩:=y;exact bi (Ja2 e (cr (h h' tk d _ ms k m1 m2)))
 .obtain⟨_,_,_,_,_,_,q,_⟩:=x
  cases q
theorem Inv.drawn (I:Inv X pins σ H s) (d:Drawn):Inv X pins σ H {s with drawn:=d}:=⟨I.ok,I.os,I.bare,I.base,I.loc,I.cell,I.free,I.lA,I.pin,I.gG,I.len⟩
end
def yE (K:ai) (ta:TA):TE:=λ σ H Q=>ta σ H λ vs H1=>∃(a:ac) (ns:List Int),vs = [.ref a]/\gg K H1 a (ns.map V.int)/\ns.length<=4000/\(∃D:List Int,D.length<64/\∀x∈ns,x∈D)/\∀(l:ac) (out:List Int),H1 l=none->out.Pairwise (· < ·)->(∀x,x∈out↔x∈ns)->Q (.ref l) (upd H1 l (.lst (out.map V.int)))
section
variable {X:Cx}
theorem E_ (hc:X.calm=true) (hg:Gl X "sorted") (hm:X.mg "sorted" = none) (QT:Gl X "set") (N_:X.mg "set" = none) (ha:PA X [a] ta) (hs:db [a] X.env = [(false,jp a X.env)]:=by rfl)
  (he:db [.Call (.Name "set" p2) [a] [] sA] X.env = [(false,jp (.Call (.Name "set" p2) [a] [] sA) X.env)]:=by rfl) :
  PE X (.Call (.Name "sorted" p) [.Call (.Name "set" p2) [a] [] sA] [] pos) (yE X.K ta):=by
 intro pins s σ H Q I h;refine Call_ (lK I hg hm boot_sorted (eO ?_ he rfl));rw [he];refine Calls.spliced_cons (Call_ (lK I QT N_ boot_set (bx (gZ (ha sA pins s σ H _ I h) λ us s1 zq=> ?_) hs rfl)));obtain⟨vs,H1,I1,r1,q1⟩:=zq;obtain⟨b,ns,rfl,hq,jr,⟨D,dl,dm⟩,q⟩:=q1;obtain⟨u,rfl,ru⟩:=r1.one
 cases ru;obtain⟨its,rv,pl,hz⟩:=I1.list hq;have ε:=intsAre_of rv;have il:=ε.length;have hsz:its.toArray.size=ns.length:=by rw [aM,il]
 refine ET (its:=its.toArray) (ns:=ns) (I.ok.hd hc) pl.isList (by simpa using ε) (by rw [hsz];unfold Do;lia) λ h1 t1 hS k1=>Calls.spliced_nil ?_;rw [hsz] at hS;have nd:=BG (λ i=>ns.getD i 0) ns.length;have mem:=QG ns
 have f64:(Rs (λ i=>ns.getD i 0) ns.length).length<64:=by
  have:=mE _ D nd λ x hx=>dm x ((mem x).mp hx);exact Zb this dl
 generalize Rs (λ i=>ns.getD i 0) ns.length=ks at hS nd mem f64;refine Calls.call_function_entry kind_sorted plain_sorted entry_sorted (args_sorted1 _) ?_;unfold zn.«sorted»;refine bi (m:=checkCount "sorted" 1 1 _) (cr ?_);refine bi (EV (s:= {s1 with heap:=h1,toks:=t1}) (I.ok.hd hc) nd hS λ h2 t2 d2 as ms k2 ia pm=> ?_);have ml:ms.length=ks.length:=pm.length_eq;have hlen:as.length=ms.length:=ia.length
 have z0:as.length<=dL:=by
  rw [hlen,ml];exact bj (show _<=3000 from Zl (Za f64 (Zd rfl))) (f_ (by decide))
 refine bi (Jaz ?_ z0);have Ur:(h2.push (PP "list" as.toArray 0)).get? h2.objs.size=some (PP "list" as.toArray 0):=aK _ rfl;refine bi (u8 (wf slot_list_sort ⟨_,Ur,rfl⟩ entry_list_sort (yT (R:=λ out=>∃A7,Fk out.toList A7/\A7.Perm ms/\A7.Pairwise (·<=·)) Ur z0 (λ out ⟨A7,i1,i2,_⟩=> ?_) (λ jr=>⟨ms,ia,.refl _,?_⟩) (λ h2 z _=> ?_) λ out h3 c e HJ g2=>⟨_,rfl,?_⟩) (args_list_sort _)))
 .have:=i1.length;rw [bB] at this;rw [this,i2.length_eq,hlen]
 .match ms,hlen with
  | [],_=>exact .nil
  | [x],_=>simp
  | x::y::r,h=>simp only [aG] at h;lia
 .have ps:(JaJ as).size=as.length:=pairsOf_size as;refine⟨oneType',?_,?_⟩
  .match as,h2,ia with
   | v1::v2::r2,_,ia=>
    rw [keyKind_ints ia];exact cr ⟨rfl,rfl⟩
  .refine wpS_sortRuns (a₀:=JaJ as) ia.intKeys ⟨.refl _,rfl,rfl,rfl⟩ (by rwa [ps]) (by rwa [ps,hlen,ml]) λ Ey a1 a2 a3=>⟨a2,?_⟩
   obtain⟨A7,b1,b2,b3⟩:=sorted_out ia a1 a3;exact⟨A7,b1,b2,b3⟩
 .obtain⟨A7,i1,i2,i3⟩:=e;have k12:∀c o,s1.heap.get? c=some o->h2.get? c=some o:=λ c o z=>k2 c o (k1 c o (aH z) z);have I':=(I1.kept (t':=t2) k12).drawn d2;have sub:∀x,x∈A7↔x∈ns:=λ x=>by rw [i2.mem_iff,pm.mem_iff,mem]
  have up:A7.Pairwise (· < ·):=RZ ((i2.trans pm).nodup_iff.mpr nd) i3;refine cr ⟨_,rfl,.ref h2.objs.size,_,I'.laid (a:=h2.objs.size) (o:=.lst (A7.map V.int)) (t':=t2) (λ b u e=>HJ b u (aO (aH e)) (ah _ e)) (az _) ?_,rfl,q _ A7 (I'.gG.fresh (az _)) up sub⟩;refine⟨by rwa [ae,i2.length_eq,<-hlen],out.toList,c,oW i1,by simpa using g2⟩
theorem Co (hc:X.calm=true) (hg:Gl X "sorted") (hm:X.mg "sorted" = none) (QT:Gl X "set") (N_:X.mg "set" = none) (ha:Bx (PA X [a] ta)) (hs:db [a] X.env = [(false,jp a X.env)]:=by rfl)
  (he:db [.Call (.Name (Str.ofString "set") p2) [a] [] sA] X.env = [(false,jp (.Call (.Name (Str.ofString "set") p2) [a] [] sA) X.env)]:=by rfl) :
  Bx (PE X (.Call (.Name (Str.ofString "sorted") p) [.Call (.Name (Str.ofString "set") p2) [a] [] sA] [] pos) (yE X.K ta)):=⟨E_ hc hg hm QT N_ ha.un hs he⟩
theorem Ao (K:ai) (hc:X.calm=true) (hg:Gl X "sorted") (hm:X.mg "sorted" = none) (QT:Gl X "set") (N_:X.mg "set" = none) (ha:Bx (PA X [a] ta)) (hK:X.K=K:=by rfl) (hs:db [a] X.env = [(false,jp a X.env)]:=by rfl)
  (he:db [.Call (.Name (Str.ofString "set") p2) [a] [] sA] X.env = [(false,jp (.Call (.Name (Str.ofString "set") p2) [a] [] sA) X.env)]:=by rfl) :
  Bx (PE X (.Call (.Name (Str.ofString "sorted") p) [.Call (.Name (Str.ofString "set") p2) [a] [] sA] [] pos) (yE K ta)):=hK▸⟨E_ hc hg hm QT N_ ha.un hs he⟩
end
inductive kS (fit:Nat->Nat->Prop):Sh->Nat->Nat->Prop
 | mark {i a:Nat}:fit i a->kS fit (.mark i) a (a+1)
 | row {l r:Sh} {a b c:Nat}:kS fit l a b->kS fit r b c->kS fit (.two j5 l r) a c
 | left {l r:Sh} {a b:Nat}:kS fit l a b->kS fit (.two tU l r) a b
 | right {l r:Sh} {a b:Nat}:kS fit r a b->kS fit (.two tU l r) a b
 | no {t:Sh} {a:Nat}:kS fit (.one jy t) a a
 | yes {t:Sh} {a b:Nat}:kS fit t a b->kS fit (.one jy t) a b
 | done {t:Sh} {a:Nat}:kS fit (.one ju t) a a
 | more {t:Sh} {a b c:Nat}:kS fit t a b->kS fit (.one ju t) b c->kS fit (.one ju t) a c
 | once {t:Sh} {a b c:Nat}:kS fit t a b->kS fit (.one ju t) b c->kS fit (.one lZ t) a c
theorem kS.word (h:kS fit sh a b):∃u:List Nat,sh.In u/\b=a+u.length/\∀j i,u[j]? = some i->fit i (a+j):=by
 have app:∀{u v:List Nat} {a b:Nat},b=a+u.length->(∀j i,u[j]? = some i->fit i (a+j))->(∀j i,v[j]? = some i->fit i (b+j))->∀j i,(u++v)[j]? = some i->fit i (a+j):=by
  intro u v a b e h1 h2 j i hj;by_cases jl:j<u.length
  .rw [aP jl] at hj;exact h1 j i hj
  .rw [bp (Zi jl)] at hj;have:=h2 _ i hj;rw [e,show a+u.length+(j-u.length)=a+j by lia] at this;exact this
 induction h with
 | @mark i a h=>
  refine⟨[i],.mark i,rfl,λ j k hj=> ?_⟩
  cases j with
  | zero=>
   simp at hj;subst hj;exact h
  | succ j=>simp at hj
 | row _ _ i1 i2=>
  obtain⟨u,h1,h2,h3⟩:=i1;obtain⟨v,k1,k2,k3⟩:=i2;exact⟨u++v,.row h1 k1,by rw [ao,k2,h2];exact Nat.add_assoc _ _ _,app h2 h3 k3⟩
 | left _ i1=>
  obtain⟨u,h1,h2,h3⟩:=i1;exact⟨u,.left h1,h2,h3⟩
 | right _ i1=>
  obtain⟨u,h1,h2,h3⟩:=i1;exact⟨u,.right h1,h2,h3⟩
 | no=>exact⟨[],.no _,rfl,λ j i hj=>by simp at hj⟩
 | yes _ i1=>
  obtain⟨u,h1,h2,h3⟩:=i1;exact⟨u,.yes h1,h2,h3⟩
 | done=>exact⟨[],.done _,rfl,λ j i hj=>by simp at hj⟩
 | more _ _ i1 i2=>
  obtain⟨u,h1,h2,h3⟩:=i1;obtain⟨v,k1,k2,k3⟩:=i2;exact⟨u++v,.more h1 k1,by rw [ao,k2,h2];exact Nat.add_assoc _ _ _,app h2 h3 k3⟩
 | once _ _ i1 i2=>
  obtain⟨u,h1,h2,h3⟩:=i1;obtain⟨v,k1,k2,k3⟩:=i2;exact⟨u++v,.once h1 k1,by rw [ao,k2,h2];exact Nat.add_assoc _ _ _,app h2 h3 k3⟩
theorem kS.of (h:sh.In u):∀a,(∀j i,u[j]? = some i->fit i (a+j))->kS fit sh a (a+u.length):=by
 have fst:∀{u v:List Nat} {a:Nat},(∀j i,(u++v)[j]? = some i->fit i (a+j))->∀j i,u[j]? = some i->fit i (a+j):=λ {u v a} h j i hj=>h j i (by
  rw [aP (ag.mp hj).1];exact hj)
 have snd:∀{u v:List Nat} {a:Nat},(∀j i,(u++v)[j]? = some i->fit i (a+j))->∀j i,v[j]? = some i->fit i (a+u.length+j):=λ {u v a} h j i hj=>by
  have:=h (u.length+j) i (by
   rw [bp Zk,show u.length+j-u.length=j by lia];exact hj)
  rw [<-cX] at this;exact this
 induction h with
 | mark i=>
  intro a h;exact .mark (h 0 i rfl)
 | @row l r u v _ _ i1 i2=>
  intro a h;rw [ao,<-cX];exact .row (i1 a (fst h)) (i2 _ (snd h))
 | left _ i1=>exact λ a h=>.left (i1 a h)
 | right _ i1=>exact λ a h=>.right (i1 a h)
 | no t=>exact λ a h=>.no
 | yes _ i1=>exact λ a h=>.yes (i1 a h)
 | done t=>exact λ a h=>.done
 | @more t u v _ _ i1 i2=>
  intro a h;rw [ao,<-cX];exact .more (i1 a (fst h)) (i2 _ (snd h))
 | @once t u v _ _ i1 i2=>
  intro a h;rw [ao,<-cX];exact .once (i1 a (fst h)) (i2 _ (snd h))
theorem kS.le (h:kS fit sh a b):a<=b:=by
 obtain⟨u,_,e,_⟩:=h.word;exact Zc Zk (Zg e)
theorem kS.most (hf:∀i p,fit i p->p<n) (h:kS fit sh a b):a<=n->b<=n:=by
 induction h with
 | mark h=>
  intro _;have:=hf _ _ h;exact this
 | row _ _ i1 i2=>exact λ h=>i2 (i1 h)
 | left _ i1=>exact i1
 | right _ i1=>exact i1
 | no=>exact id
 | yes _ i1=>exact i1
 | done=>exact id
 | more _ _ i1 i2=>exact λ h=>i2 (i1 h)
 | once _ _ i1 i2=>exact λ h=>i2 (i1 h)
theorem K3:kS fit (.one ju t) a c↔c=a\/∃b,a<b/\kS fit t a b/\kS fit (.one ju t) b c:=by
 constructor
 .intro h;generalize e:Sh.one ju t=s at h
  induction h with
  | mark _=>cases e
  | row _ _ _ _=>cases e
  | left _ _=>cases e
  | right _ _=>cases e
  | no=>injection e with e1;exact absurd e1 (by decide)
  | yes _ _=>injection e with e1;exact absurd e1 (by decide)
  | done=>exact .inl rfl
  | @more t' a b c h1 h2 _ i2=>
   injection e with _ e
   subst e;by_cases İ:a<b
   .exact .inr ⟨b,İ,h1,h2⟩
   .have:a=b:=by
     have:=h1.le;exact Zq this (Zi İ)
    subst this;exact i2 rfl
  | once _ _ _ _=>injection e with e1;exact absurd e1 (by decide)
 .rintro(rfl | ⟨b,_,h1,h2⟩)
  .exact .done
  .exact .more h1 h2
theorem Kt:kS fit (.one lZ t) a c↔∃b,kS fit t a b/\kS fit (.one ju t) b c:=by
 constructor
 .intro h
  cases h with
  | once h1 h2=>exact⟨_,h1,h2⟩
 .rintro⟨b,h1,h2⟩;exact .once h1 h2
theorem Hz:kS fit (.one jy t) a c↔c=a\/kS fit t a c:=by
 constructor
 .intro h
  cases h with
  | no=>exact .inl rfl
  | yes h=>exact .inr h
 .rintro(rfl|h)
  .exact .no
  .exact .yes h
theorem MQ:kS fit (.two j5 l r) a c↔∃b,kS fit l a b/\kS fit r b c:=by
 constructor
 .intro h
  cases h with
  | row h1 h2=>exact⟨_,h1,h2⟩
 .rintro⟨b,h1,h2⟩;exact .row h1 h2
theorem QB:kS fit (.two tU l r) a c↔kS fit l a c\/kS fit r a c:=by
 constructor
 .intro h
  cases h with
  | left h=>exact .inl h
  | right h=>exact .inr h
 .rintro(h|h)
  .exact .left h
  .exact .right h
theorem we:kS fit (.mark i) a c↔fit i a/\c=a+1:=by
 constructor
 .intro h
  cases h with
  | mark h=>exact⟨h,rfl⟩
 .rintro⟨h,rfl⟩;exact .mark h
theorem Ol {lo:Int} {n:Nat} {g:TG} {tb:TS} {D:Ends} {σ:St} {H:Hp} (Pv:Nat->St->Hp->Prop) (h0:Pv 0 σ H)
  (hs:∀i σ H,i<n->Pv i σ H->g (.int (lo-(i:Int))) σ H λ l7 H2=>tb {D with nx:=Pv (i+1),ct:=Pv (i+1),bk:=D.nx} l7 H2) (hd:∀σ H,Pv n σ H->D.nx σ H) :
  ∃W:Nat->Nat->St->Hp->Prop,(∃m,W 0 m σ H)/\∀i m σ H,W i m σ H->
   ((LK lo n).stop i H/\D.nx σ H)\/((LK lo n).go i H/\∃N:St->Hp->Prop,(∀fY H',N fY H'->∃m',m'<m/\W (i+1) m' fY H')/\∀x H',(LK lo n).CW i H x H'->g x σ H' λ l7 H2=>tb {D with nx:=N,ct:=N,bk:=D.nx} l7 H2):=by
 refine⟨λ i m σ H=>m=n-i/\i<=n/\Pv i σ H,⟨n,by simp,aQ _,h0⟩,?_⟩;rintro i m σ H ⟨rfl,hi,p⟩;by_cases iT:i<n
 .refine .inr ⟨iT,Pv (i+1),λ fY H' p'=>⟨n-(i+1),V2 iT,rfl,iT,p'⟩,λ x H' y=> ?_⟩;obtain⟨rfl,rfl⟩:=y;exact hs i σ _ iT p
 .have e:i=n:=by exact Zq hi (Zi iT)
  subst e;exact .inl ⟨az _,hd σ H p⟩
structure qj (rows:List (List Int)) (R:Nat->Nat->Prop) (n:Nat):Prop where
 len:rows.length=n+1
 up:∀l∈rows,l.Pairwise (· < ·)
 mem:∀(a:Nat) (l:List Int),rows[a]? = some l->∀x:Int,x∈l↔∃b:Nat,x=(b:Int)/\R a b
 xS:∀a b:Nat,a<=n->R a b->a<=b/\b<=n
def jV (H:Hp) (q:ac) (rows:List (List Int)):Prop:=∃as:List ac,H q=some (.lst (as.map V.ref))/\fR (λ x l=>H x=some (.lst (l.map V.int))) as rows
theorem jV.same (h:jV H q rows) (s:fw H H'):jV H' q rows:=by
 obtain⟨as,e,al⟩:=h;exact⟨as,s _ _ e,al.imp λ _ _ r=>s _ _ r⟩
theorem qj.row {n:Nat} (h:qj rows R n) {a:Nat} (hl:rows[a]? = some l):(∀x∈l,(a:Int)<=x/\x<=n)/\l.length<=n+1:=by
 have al:a<rows.length:=(ag.mp hl).1
 have h1:∀x∈l,(a:Int)<=x/\x<=n:=λ x hx=>by
  obtain⟨b,rfl,hb⟩:=(h.mem a l hl x).mp hx;have:=h.xS a b (by have:=h.len;exact Zs (Za al (Ze this))) hb;lia
 refine⟨h1,?_⟩
 have:=mE l ((List.range (n+1)).map λ (k:Nat)=>(k:Int)) ((h.up l (aq hl)).imp λ z=>Int.ne_of_lt z) λ x hx=>by
  have:=h1 x hx;exact aC.mpr ⟨x.toNat,aV.mpr (by lia),by lia⟩
 rw [ae,aJ] at this;exact this
theorem qj.iff (h:qj rows R n) (e:∀a b,R a b↔S a b):qj rows S n:=
 ⟨h.len,h.up,λ a l hl x=>by rw [h.mem a l hl x];exact⟨λ ⟨b,p,q⟩=>⟨b,p,(e a b).mp q⟩,λ ⟨b,p,q⟩=>⟨b,p,(e a b).mpr q⟩⟩,λ a b ha hs=>h.xS a b ha ((e a b).mpr hs)⟩
theorem yq {n:Nat} (h:n<=62) {ns:List Int} (hn:∀x∈ns,0<=x/\x<=n):∃D:List Int,D.length<64/\∀x∈ns,x∈D:=by
 refine⟨(List.range (n+1)).map λ (k:Nat)=>(k:Int),by rw [ae,aJ];lia,λ x hx=> ?_⟩;have:=hn x hx;exact aC.mpr ⟨x.toNat,aV.mpr (Qax this),Int.toNat_of_nonneg this.1⟩
theorem MC (K:ai) (h:X.K=K:=by rfl):YI X (Wn K):=h▸m_
theorem fR.Wf {α β:Type} {R:α->β->Prop} {a:α} {b:β} (r:R a b):∀{as:List α} {bs:List β} (i:Nat),fR R as bs->fR R (as.set i a) (bs.set i b)
 | _,_,_,.nil=>.nil
 | _,_,0,.cons _ t=>.cons r t
 | _,_,i+1,.cons r0 t=>.cons r0 (t.Wf r i)
theorem SE {l:List Int} {n:Nat} (up:l.Pairwise (· < ·)) (h:∀x∈l,0<=x/\x<=n):l.length<=n+1:=by
 have:=mE l ((List.range (n+1)).map λ (k:Nat)=>(k:Int)) (up.imp λ z=>Int.ne_of_lt z) λ x hx=>by
  have:=h x hx;exact aC.mpr ⟨x.toNat,aV.mpr (Qax this),Int.toNat_of_nonneg this.1⟩
 rw [ae,aJ] at this;exact this
theorem Je {H:Hp} {P:Nat->List Int->Prop}:∀{cs:List Nat} {as:List ac},fR (λ (c:Nat) p=>∃l:List Int,H p=some (.lst (l.map V.int))/\P c l) cs as->∃rows:List (List Int),fR (λ x (l:List Int)=>H x=some (.lst (l.map V.int))) as rows/\fR P cs rows
 | _,_,.nil=>⟨[],.nil,.nil⟩
 | _,_,.cons ⟨l,e,r⟩ t=>by
  obtain⟨rows,h1,h2⟩:=Je t;exact⟨l::rows,.cons e h1,.cons r h2⟩
theorem Dc {H:Hp} {q:ac} {as:List ac} {R:Nat->Nat->Prop} {n:Nat} (e:H q=some (.lst (as.map V.ref))) (al:fR (λ (c:Nat) p=>∃l:List Int,H p=some (.lst (l.map V.int))/\(l.Pairwise (· < ·)/\∀x:Int,x∈l↔∃b:Nat,x=(b:Int)/\R c b)) (List.range (n+1)) as)
  (xS:∀a b,a<=n->R a b->a<=b/\b<=n):∃rows,jV H q rows/\qj rows R n:=by
 obtain⟨rows,h1,h2⟩:=Je al
 have ln:rows.length=n+1:=by
  rw [<-h2.len,aJ]
 have at_:∀(a:Nat) (l:List Int),rows[a]? = some l->l.Pairwise (· < ·)/\∀x:Int,x∈l↔∃b:Nat,x=(b:Int)/\R a b:=λ a l hl=>by
  have al:=(ag.mp hl).1;exact h2.get (cC (Za al (Ze ln))) hl
 refine⟨rows,⟨as,e,h1⟩,ln,λ l hl=> ?_,λ a l hl=>(at_ a l hl).2,xS⟩;obtain⟨i,hi⟩:=aL.mp hl;exact(at_ i l hi).1
theorem Ij (l:List Int) (x:Int):(l.map V.int).countP (λ y=>xl y (V.int x))=l.count x:=by
 induction l with
 | nil=>rfl
 | cons y r ih=>
  rw [aB,eS,List.count_cons,ih]
  congr 1
def Vi:Sh->Prop
 | .mark _=>True
 | .two k l r=>k∈vx/\Vi l/\Vi r
 | .one k t=>k∈ones/\Vi t
theorem jC.kinds (h:jC H a sh):Vi sh:=by
 induction h with
 | mark _=>exact trivial
 | two _ hk _ _ i1 i2=>exact⟨hk,i1,i2⟩
 | one _ hk _ i1=>exact⟨hk,i1⟩
theorem um.sy {R S:Int->Int->Prop} {In:Int->Prop} (h:∀x y,In x->R x y->S x y/\In y):∀{w:List Nat} {a:Nat},um R (a::w)->In ((a:Int)+1)->um S (a::w)/\∀b,(a::w).getLast? = some b->In ((b:Int)+1)
 | [],a,_,ha=>⟨trivial,λ b hb=>by
  simp at hb;rw [<-hb];exact ha⟩
 | c::w,a,l,ha=>by
  obtain⟨h1,h2⟩:=h _ _ ha l.1;obtain⟨k1,k2⟩:=um.sy h (w:=w) (a:=c) l.2 h2;exact⟨⟨h1,k1⟩,λ b hb=>k2 b (by rw [bK] at hb;exact hb)⟩
theorem pP.nil (h:t.nul=true):pP t n []:=⟨λ _=>h,λ a ha=>(nomatch ha),λ a ha=>(nomatch ha),trivial⟩
theorem pP.or {l r:Tr} {n:Nat} {w:List Nat} (h:pP (.two tU l r) n w):pP l n w\/pP r (n+l.marks.length) w:=by
 cases w with
 | nil=>
  have:=h.nul rfl;simp only [Tr.nul,if_true,dR] at this;rcases this with z|z
  .exact .inl (.nil z)
  .exact .inr (.nil z)
 | cons a w=>
  have hf:=h.jq a rfl;have hl:=h.je;simp only [Tr.jq,Tr.je,true_or,if_true] at hf hl;have fl:=λ (x y:Int)=>l.kU n x y;have fr:=λ (x y:Int)=>r.kU (n+l.marks.length) x y;rcases aA.mp hf with z|z
  .have ra:=l.jz n _ z
   obtain⟨k1,k2⟩:=um.sy (S:=l.kE n) (In:=λ x=>(n:Int)<=x/\x<n+l.marks.length) (λ x y hx hr=>by
    rcases hr with q|q|q
    .exact⟨q,(fl x y q).2⟩
    .have:=(fr x y q).1;omega
    .exact absurd rfl q.1) h.Fy ra
   refine .inl ⟨λ q=>(nomatch q),λ b hb=> ?_,λ b hb=> ?_,k1⟩
   .simp at hb
    rwa [<-hb]
   .rcases aA.mp (hl b hb) with q|q
    .exact q
    .have:=r.jX _ _ q;have:=k2 b hb;omega
  .have ra:=r.jz _ _ z
   obtain⟨k1,k2⟩:=um.sy (S:=r.kE (n+l.marks.length)) (In:=λ x=>((n+l.marks.length:Nat):Int)<=x/\x<((n+l.marks.length:Nat):Int)+r.marks.length) (λ x y hx hr=>by
    rcases hr with q|q|q
    .have:=(fl x y q).1;omega
    .exact⟨q,(fr x y q).2⟩
    .exact absurd rfl q.1) h.Fy ra
   refine .inr ⟨λ q=>(nomatch q),λ b hb=> ?_,λ b hb=> ?_,k1⟩
   .simp at hb
    rwa [<-hb]
   .rcases aA.mp (hl b hb) with q|q
    .have:=l.jX _ _ q;have:=k2 b hb;omega
    .exact q
theorem pP.row {l r:Tr} {n:Nat} {w:List Nat} (h:pP (.two j5 l r) n w):∃u v:List Nat,w=u++v/\pP l n u/\pP r (n+l.marks.length) v:=by
 have o1:¬j5=tU:=by decide
 have fl:=λ (x y:Int)=>l.kU n x y;have fr:=λ (x y:Int)=>r.kU (n+l.marks.length) x y;have lr:=λ (x:Int)=>l.jX n x;have rr:=λ (x:Int)=>r.jz (n+l.marks.length) x;have rl:=λ (x:Int)=>r.jX (n+l.marks.length) x
 have RJ:∀{w:List Nat} {a:Nat},um ((Tr.two j5 l r).kE n) (a::w)->(((n+l.marks.length:Nat):Int)<=(a:Int)+1/\(a:Int)+1<((n+l.marks.length:Nat):Int)+r.marks.length)->um (r.kE (n+l.marks.length)) (a::w)/\∀b,(a::w).getLast? = some b->(((n+l.marks.length:Nat):Int)<=(b:Int)+1/\(b:Int)+1<((n+l.marks.length:Nat):Int)+r.marks.length):=λ {w a} hk ha=>
  um.sy (In:=λ x=>((n+l.marks.length:Nat):Int)<=x/\x<((n+l.marks.length:Nat):Int)+r.marks.length) (λ x y hx hr=>by
   rcases hr with q|q | ⟨_,q,_⟩
   .have:=(fl x y q).1;omega
   .exact⟨q,(fr x y q).2⟩
   .have:=lr x q;omega) hk ha
 have split:∀{w:List Nat} {a:Nat},um ((Tr.two j5 l r).kE n) (a::w)->((n:Int)<=(a:Int)+1/\(a:Int)+1<n+l.marks.length)->
   (um (l.kE n) (a::w)/\∀b,(a::w).getLast? = some b->((n:Int)<=(b:Int)+1/\(b:Int)+1<n+l.marks.length))\/
   ∃(u:List Nat) (c:Nat) (v:List Nat),a::w=(a::u)++(c::v)/\um (l.kE n) (a::u)/\(∀b,(a::u).getLast? = some b->(b:Int)+1∈l.je n)/\(c:Int)+1∈r.jq (n+l.marks.length)/\um (r.kE (n+l.marks.length)) (c::v)/\∀b,(c::v).getLast? = some b->(((n+l.marks.length:Nat):Int)<=(b:Int)+1/\(b:Int)+1<((n+l.marks.length:Nat):Int)+r.marks.length):=by
  intro w
  induction w with
  | nil=>
   intro a _ ha;refine .inl ⟨trivial,λ b hb=> ?_⟩;simp at hb
   rwa [<-hb]
  | cons c w ih=>
   intro a hk ha;rcases hk.1 with q|q | ⟨_,q1,q2⟩
   .have rc:=(fl _ _ q).2;rcases ih hk.2 rc with ⟨h1,h2⟩ | ⟨u,d,v,e,h1,h2,h3,h4,h5⟩
    .exact .inl ⟨⟨q,h1⟩,λ b hb=>h2 b (by rw [bK] at hb;exact hb)⟩
    .refine .inr ⟨c::u,d,v,by rw [e];rfl,⟨q,h1⟩,λ b hb=>h2 b (by rw [bK] at hb;exact hb),h3,h4,h5⟩
   .have:=(fr _ _ q).1;omega
   .obtain⟨k1,k2⟩:=RJ hk.2 (rr _ q2);refine .inr ⟨[],c,w,rfl,trivial,λ b hb=> ?_,q2,k1,k2⟩;simp at hb
    rwa [<-hb]
 cases w with
 | nil=>
  have:=h.nul rfl;simp only [Tr.nul,if_neg o1,bc] at this;exact⟨[],[],rfl,.nil this.1,.nil this.2⟩
 | cons a w=>
  have hf:=h.jq a rfl;have hl:=h.je;simp only [Tr.jq,Tr.je,o1,false_or] at hf hl
  have first:(a:Int)+1∈l.jq n\/(l.nul=true/\(a:Int)+1∈r.jq (n+l.marks.length)):=by
   split at hf
   .rename_i hn
    rcases aA.mp hf with z|z
    .exact .inl z
    .exact .inr ⟨hn,z⟩
   .exact .inl hf
  rcases first with z | ⟨hn,z⟩
  .rcases split h.Fy (l.jz n _ z) with ⟨h1,h2⟩ | ⟨u,c,v,e,h1,h2,h3,h4,h5⟩
   .obtain⟨b,hb⟩:∃b,(a::w).getLast? = some b:=⟨_,List.getLast?_eq_getLast (by simp)⟩
    have QV:=h2 b hb;have N':=hl b hb
    have rn:r.nul=true/\(b:Int)+1∈l.je n:=by
     split at N'
     .rename_i hn
      rcases aA.mp N' with q|q
      .exact⟨hn,q⟩
      .have:=rl _ q;omega
     .have:=rl _ N';omega
    refine⟨a::w,[],by simp,⟨λ q=>(nomatch q),λ c hc=> ?_,λ c hc=> ?_,h1⟩,.nil rn.1⟩
    .simp at hc
     rwa [<-hc]
    .rw [hb] at hc
     cases hc;exact rn.2
   .refine⟨a::u,c::v,e,⟨λ q=>(nomatch q),λ b hb=> ?_,h2,h1⟩,⟨λ q=>(nomatch q),λ b hb=> ?_,λ b hb=> ?_,h4⟩⟩
    .simp at hb
     rwa [<-hb]
    .simp at hb
     rwa [<-hb]
    .have Z5:=h5 b hb
     have N':=hl b (by
      rw [e,List.getLast?_append,hb];rfl)
     split at N'
     .rcases aA.mp N' with q|q
      .have:=lr _ q;omega
      .exact q
     .exact N'
  .obtain⟨k1,k2⟩:=RJ h.Fy (rr _ z);refine⟨[],a::w,rfl,.nil hn,⟨λ q=>(nomatch q),λ b hb=> ?_,λ b hb=> ?_,k1⟩⟩
   .simp at hb
    rwa [<-hb]
   .have Z5:=k2 b hb;have N':=hl b hb
    split at N'
    .rcases aA.mp N' with q|q
     .have:=lr _ q;omega
     .exact q
    .exact N'
theorem Wg:∀{w:List Nat} {a:Nat},um (λ x y=>t.kE n x y\/(x∈t.je n/\y∈t.jq n)) (a::w)->(∀b,(a::w).getLast? = some b->(b:Int)+1∈t.je n)->
  ∃(u:List Nat) (ws:List (List Nat)),a::w=(a::u)++ws.flatten/\um (t.kE n) (a::u)/\(∀b,(a::u).getLast? = some b->(b:Int)+1∈t.je n)/\∀v∈ws,pP t n v
 | [],a,_,h=>⟨[],[],rfl,trivial,h,λ v hv=>(nomatch hv)⟩
 | c::w,a,hk,h=>by
  obtain⟨u,ws,e,h1,h2,h3⟩:=Wg hk.2 λ b hb=>h b (by rwa [bK]);rcases hk.1 with q | ⟨q1,q2⟩
  .exact⟨c::u,ws,by rw [e];rfl,⟨q,h1⟩,λ b hb=>h2 b (by rw [bK] at hb;exact hb),h3⟩
  .refine⟨[],(c::u)::ws,by rw [e];rfl,trivial,λ b hb=> ?_,λ v hv=> ?_⟩
   .simp at hb
    rwa [<-hb]
   .rcases av.mp hv with rfl|hv
    .exact⟨λ q=>(nomatch q),λ b hb=>by simp at hb;rwa [<-hb],h2,h1⟩
    .exact h3 v hv
theorem DE:∀{ws:List (List Nat)},(∀v∈ws,t.In v)->(Sh.one ju t).In ws.flatten
 | [],_=>.done t
 | v::ws,h=>.more (h v (by simp)) (DE λ u hu=>h u (ay _ hu))
theorem wu:∀{sh:Sh} {w:List Nat},Vi sh->∀s,sh.leaves=List.range' s sh.leaves.length->pP (sh.real ms) (s+1) w->sh.In w
 | .mark i,w,_,s,hs,h=>by
  have e:i=s:=by
   simp only [Sh.leaves,aG,aW] at hs
   simpa using hs
  subst e
  cases w with
  | nil=>cases h.nul rfl
  | cons a w=>
   have hf:=h.jq a rfl;simp only [Sh.real,Tr.jq,aj] at hf
   cases w with
   | nil=>
    have:a=i:=by lia
    rw [this];exact .mark i
   | cons b w=>exact h.Fy.1.elim
 | .two k l r,w,hk,s,hs,h=>by
  obtain⟨hl,hr⟩:=rQ hs;have ln:=l.zf ms;obtain⟨k1,k2,k3⟩:=hk;simp only [vx,av,bb,or_false] at k1;rcases k1 with rfl|rfl
  .obtain⟨u,v,rfl,h1,h2⟩:=pP.row h;rw [ln,dj] at h2;exact .row (wu k2 s hl h1) (wu k3 _ hr h2)
  .rcases pP.or h with h1|h1
   .exact .left (wu k2 s hl h1)
   .rw [ln,dj] at h1;exact .right (wu k3 _ hr h1)
 | .one k t,w,hk,s,hs,h=>by
  obtain⟨k1,k2⟩:=hk;have inr:∀{w},pP (t.real ms) (s+1) w->t.In w:=λ h=>wu k2 s hs h;simp only [ones,av,bb,or_false] at k1
  have sg:k≠jy->∀(a:Nat) (w:List Nat),pP ((Sh.one k t).real ms) (s+1) (a::w)->∃u ws,a::w=u++List.flatten ws/\t.In u/\∀v∈ws,t.In v:=by
   intro nk a w h;obtain⟨u,ws,e,h1,h2,h3⟩:=Wg (t:=t.real ms) (n:=s+1) (h.Fy.imp λ x y q=>q.elim .inl λ q=>.inr q.2) h.je;exact⟨a::u,ws,e,inr ⟨λ q=>(nomatch q),λ b hb=>by simp at hb;rw [<-hb];exact h.jq a rfl,h2,h1⟩,λ v hv=>inr (h3 v hv)⟩
  rcases k1 with rfl|rfl|rfl
  .cases w with
   | nil=>exact .done t
   | cons a w=>
    obtain⟨u,ws,e,h1,h2⟩:=sg (by decide) a w h;rw [e];exact .more h1 (DE h2)
  .cases w with
   | nil=>
    have:=h.nul rfl
    have z:(t.real ms).nul=true:=by
     simpa [Sh.real,Tr.nul] using this
    have:=Sh.In.once (inr (.nil z)) (Sh.In.done t)
    simpa using this
   | cons a w=>
    obtain⟨u,ws,e,h1,h2⟩:=sg (by decide) a w h;rw [e];exact .once h1 (DE h2)
  .cases w with
   | nil=>exact .no t
   | cons a w=>
    refine .yes (inr ⟨λ q=>(nomatch q),h.jq,h.je,h.Fy.imp λ x y q=> ?_⟩);rcases q with q|q
    .exact q
    .exact absurd rfl q.1
theorem kS.imp (h:∀i p,f i p->g i p) (s:kS f sh a b):kS g sh a b:=by
 induction s with
 | mark q=>exact .mark (h _ _ q)
 | row _ _ i1 i2=>exact .row i1 i2
 | left _ i1=>exact .left i1
 | right _ i1=>exact .right i1
 | no=>exact .no
 | yes _ i1=>exact .yes i1
 | done=>exact .done
 | more _ _ i1 i2=>exact .more i1 i2
 | once _ _ i1 i2=>exact .once i1 i2
theorem kB.back (h:kB tr M) (r:mR M 0 w):pP tr 1 w:=by
 have go:∀(w:List Nat) (a:Nat),((1:Int)<=(a:Int)+1/\(a:Int)+1<=tr.marks.length)->mR M ((a:Int)+1) w->um (tr.kE 1) (a::w)/\∀x,(a::w).getLast? = some x->(x:Int)+1∈tr.je 1:=by
  intro w
  induction w with
  | nil=>
   intro a ha r;have r:nR M ((a:Int)+1)=true:=r;refine⟨trivial,λ x hx=> ?_⟩;simp at hx;rw [<-hx];rw [h.XS ha.1 ha.2] at r;exact of_decide_eq_true r
  | cons b w ih=>
   intro a ha r;obtain⟨r1,r2⟩:=r;rcases (h.kE _ _ (Yc (by decide) ha.1)).mp r1 with ⟨z,_⟩|z
   .lia
   .have rb:=(tr.kU 1 _ _ z).2;obtain⟨k1,k2⟩:=ih b (Qay rb) r2;exact⟨⟨z,k1⟩,λ x hx=>k2 x (by rw [bK] at hx;exact hx)⟩
 cases w with
 | nil=>
  have r:nR M 0=true:=r;rw [h.XT] at r;exact .nil r
 | cons a w=>
  obtain⟨r1,r2⟩:=r;rcases (h.kE _ _ (by decide)).mp r1 with ⟨_,z⟩|z
  .have ra:=tr.jz 1 _ z;obtain⟨k1,k2⟩:=go w a (Qay ra) r2;exact⟨λ q=>(nomatch q),λ b hb=>by simp at hb;rwa [<-hb],k2,k1⟩
  .have:=(tr.kU 1 _ _ z).1;omega
abbrev Cx.qt (X:Cx) (scope:FS) (x:Str) (cl:List (Str×ac)) (C:ac) (N:List Str) (iY:ci) (jR:Hp) (ex:List ac):Cx:=
 {X with env:=JaY scope cl C X.env,N:=N,iY:=iY,jR:=jR,outer:=X.stack,stack:=X.stack,ex:=ex,fn:=λ y=>decide (y=x),pn:= [],xe:=λ _ _=>False}
structure wN (sc so:FS) (x:Str) (N XN:List Str) (fr:List Nat):Prop where
 kind:sc.kind = .function
 cells:sc.names.filter (λ y=>y.2 == .cell) = [(x,.cell)]
 names:∀y∈sc.names,y.2 = .local->sc.names.lookup y.1=some .local
 hx:sc.names.lookup x=some .cell
 nd:N.Nodup
 UT:N=x::fr.map (λ j=>XN.getD j "")
 Đ:∀j∈fr,j<XN.length
 XI:∀y∈sc.names,y.2 = .free->so.names.lookup y.1=some .cell\/so.names.lookup y.1=some .free
 Ď:∀j∈fr,sc.names.lookup (XN.getD j "")=some .free
 qv:∀j∈fr,so.names.lookup (XN.getD j "")≠some .local
 apart:∀y∈sc.names,y.2 = .free->y.1≠x
theorem wN.one (S:wN sc so x N XN fr):∀z∈sc.names,z.2 = .cell->z.1=x:=λ z hz hc=>by
 have:z∈sc.names.filter (λ y=>y.2 == .cell):=bF.mpr ⟨hz,by rw [hc];rfl⟩;rw [S.cells] at this;rw [aj.mp this]
def OL (sc so:FS) (x:Str) (N XN:List Str) (fr:List Nat):Bool:=
 decide (sc.kind = .function)&&decide (sc.names.filter (λ y=>y.2 == .cell) = [(x,.cell)])&&sc.names.all (λ y=>decide (y.2 = .local->sc.names.lookup y.1=some .local))&&decide (sc.names.lookup x=some .cell)&&decide N.Nodup &&
 decide (N=x::fr.map (λ j=>XN.getD j ""))&&fr.all (λ j=>decide (j<XN.length))&&sc.names.all (λ y=>decide (y.2 = .free->so.names.lookup y.1=some .cell\/so.names.lookup y.1=some .free)) &&
 fr.all (λ j=>decide (sc.names.lookup (XN.getD j "")=some .free))&&fr.all (λ j=>decide (so.names.lookup (XN.getD j "")≠some .local))&&sc.names.all (λ y=>decide (y.2 = .free->y.1≠x))
theorem wN.of (h:OL sc so x N XN fr=true):wN sc so x N XN fr:=by
 unfold OL at h;simp only [bc,cB,decide_eq_true_eq] at h;obtain⟨⟨⟨⟨⟨⟨⟨⟨⟨⟨h1,h2⟩,h3⟩,h4⟩,h5⟩,h6⟩,h7⟩,h8⟩,h9⟩,ĺ⟩,h11⟩:=h;exact⟨h1,h2,h3,h4,h5,h6,h7,h8,h9,ĺ,h11⟩
theorem ze (hf:O5 f):∀{names:List (Str×sK)} {y:Str} {k:sK},(names.map f).lookup y=some k->(k = .cell\/k = .free)->(∀z∈names,z.2 = .cell->z.1=x)->y=x\/(y,NameKind.free)∈names
 | [],_,_,h,_,_=>by simp at h
 | (n,j)::r,y,k,h,hk,hc=>by
  rw [aB] at h;have go:(r.map f).lookup y=some k->y=x\/(y,NameKind.free)∈(n,j)::r:=λ h'=>(ze hf h' hk λ z hz=>hc z (ay _ hz)).imp id λ q=>ay _ q;rcases hf (n,j) with e | ⟨e1,e⟩
  .rw [e,jw] at h;by_cases hy:y=n
   .rw [if_pos hy] at h
    cases h;rcases hk with rfl|rfl
    .exact .inl (by rw [hy];exact hc (n,.cell) aY rfl)
    .exact .inr (by rw [hy];exact aY)
   .rw [if_neg hy] at h;exact go h
  .rw [e,jw] at h;by_cases hy:y=n
   .exact .inr (by rw [hy,show j=NameKind.free from e1];exact aY)
   .rw [if_neg hy] at h;exact go h
theorem sR (h:(Jaf sc env).names.lookup y=some k) (hk:k = .cell\/k = .free) (hc:∀z∈sc.names,z.2 = .cell->z.1=x):y=x\/(y,NameKind.free)∈sc.names:=
 ze (uK env) h hk hc
theorem vV (hf:O5 f):∀{names:List (Str×sK)} {y:Str},names.lookup y=some .cell->(names.map f).lookup y=some .cell
 | [],_,h=>by simp at h
 | (n,j)::r,y,h=>by
  rw [jw] at h;rw [aB];rcases hf (n,j) with e | ⟨e1,e⟩
  .rw [e,jw];by_cases hy:y=n
   .rw [if_pos hy] at h⊢;exact h
   .rw [if_neg hy] at h⊢;exact vV hf h
  .rw [e,jw];by_cases hy:y=n
   .rw [if_pos hy]
   .rw [if_neg hy] at h⊢;exact vV hf h
theorem sD (h:sc.names.lookup y=some .cell):(Jaf sc env).names.lookup y=some .cell:=vV (uK env) h
theorem NS:∀{names:List (Str×sK)} {n:Nat} {acc:List (Str×ac)} {h:Heap},names.filter (λ y=>y.2 == .cell) = []->Ys n names acc=acc/\Jak h names=h
 | [],_,_,_,_=>⟨rfl,rfl⟩
 | (m,k)::r,n,acc,h,e=>by
  rw [cA] at e;unfold Ys Jak
  cases hk:k==NameKind.cell with
  | true=>
   dsimp only at e;rw [if_pos hk] at e
   cases e
  | false=>
   dsimp only at e;rw [if_neg (by rw [hk];exact aI)] at e;simp only [cD,if_false];exact NS e
theorem Jx:∀{names:List (Str×sK)} {n:Nat} {acc:List (Str×ac)} {h:Heap},names.filter (λ y=>y.2 == .cell) = [(x,.cell)]->Ys n names acc=(x,n)::acc/\Jak h names=h.push {cls:=.type "cell",data:=.cell none}
 | [],_,_,_,e=>by cases e
 | (m,k)::r,n,acc,h,e=>by
  rw [cA] at e;unfold Ys Jak
  cases hk:k==NameKind.cell with
  | true=>
   dsimp only at e;rw [if_pos hk] at e;injection e with e1 e2
   cases e1;simp only [if_true];exact NS e2
  | false=>
   dsimp only at e;rw [if_neg (by rw [hk];exact aI)] at e;simp only [cD,if_false];exact Jx e
theorem Ox (hc:scope.names.filter (λ y=>y.2 == .cell) = [(x,.cell)])
  (h:∀h',h'.Ns s.heap.objs.size (λ _=>none)->(∀b o,s.heap.get? b=some o->h'.get? b=some o)->h'.IsCell (s.heap.objs.size+1) none->Q {scope:=scope,locals:=s.heap.objs.size,globals:=env.globals,cells:=(x,s.heap.objs.size+1)::cl,qual:=env.qual,func:=none,code:=env.code,frame:=env.frame,builtins:=env.builtins} {s with heap:=h'}) :
  gc M A (Zr scope env.globals cl [] env.qual none .none (some env)) Q E s:=by
 simp only [Zr,Option.isSome_some,if_true];refine bi (wpAny_alloc (bi (wpAny_layCells _ (λ name kind cells=>by cases hkc:kind==NameKind.cell<;>simp [hkc]) _ _ _ _ ?_)));have sz:(s.heap.push {cls:=.type "dict",data:=.dict #[]}).objs.size=s.heap.objs.size+1:=bX _ _;obtain⟨e1,e2⟩:=Jx (n:=(s.heap.push {cls:=.type "dict",data:=.dict #[]}).objs.size) (acc:=cl) (h:=s.heap.push {cls:=.type "dict",data:=.dict #[]}) hc;show gc _ _ _ _ _ {s with heap:=Jak (s.heap.push {cls:=.type "dict",data:=.dict #[]}) scope.names};rw [e1,e2,sz];refine bi (cr (cr (h _ ?_ (λ b o z=>ah _ (ah _ z)) ?_)))
 .exact(Heap.Ns.new s.heap (.type "dict")).keeps λ b o z=>ah _ z
 .refine⟨{cls:=.type "cell",data:=.cell none},?_,rfl⟩;rw [<-sz];exact aK _ rfl
section
variable {X:Cx} {x:Str} {px:Pos} {elt iter:li} {ifs:List li} {scope:FS} {pos:Pos} {N:List Str} {fr:List Nat} {tt:TT} {te:TE} {wi:TI}
theorem Ai (S:wN scope X.env.scope x N X.N fr) (I:Inv X pins σ H s):∀y∈scope.names,y.2 = .free->∃c,X.env.cells.lookup y.1=some c:=
 λ y hy hf=>I.ok.has y.1 (S.XI y hy hf)
theorem xy {pins:List (ac×Obj)} {σ:St} {H:Hp} {jD:ci} {J:It} {fp:List ac} {it:ac} {tn:Nat->Heap->Prop} {Q:VK} {RR:bv->ac->JaN->ci->Prop} {E:bv->ci->Prop}
  (hc:X.calm=true) (S:wN scope X.env.scope x N X.N fr) (ht:∀cl C iY jR ex,EB (X.qt scope x cl C N iY jR ex) ifs tt) (he:∀cl C iY jR ex,PE (X.qt scope x cl C N iY jR ex) elt te)
  (I:Inv X pins σ H jD) (T:Turn X.prog X.w X.K (.Name x px) J fp it tn) (st:tn 0 jD.heap) (f2:∀b∈fp,sH X pins H b) (R:vn J H fr σ tt te Q)
  (ĳ:∀(D C:ac) (s':ci) (m:Str->Option bv) (H':Hp),Inv X pins σ H' s'->s'.heap.Ns C m->sH X pins H' C->Q (.ref D) H'->RR (.ref D) C (.ok .next) s') :
  gc (ga X.prog X.w) X.A (newList []) (λ acc Pg=>gc (ga X.prog X.w) X.A (Zr scope X.env.globals (gp X.env scope.names []) [] X.env.qual none .none (some X.env)) (λ ON Vz=>
   AT (ga X.prog X.w) X.A (.compStart (.ListComp elt [⟨.Name x px,iter,ifs,0⟩] scope pos) 0 (.ref it) acc {ON with scope:=Jaf scope X.env}) (RR acc ON.locals) Vz) E Pg) E jD:=by
 refine ut (Ox S.cells λ Gw zO Ny OO=> ?_);dsimp only at zO Ny OO⊢;have hD:H jD.heap.objs.size=none:=I.fresh;have I0:Inv X pins σ (upd H jD.heap.objs.size (.lst [])) {jD with heap:=jD.heap.push {cls:=.type "list",dict:=none,data:=.seq ([]:List bv).toArray}}:=I.TZ (t':=jD.toks) (its:= []) .nil (aQ _);have L3:∀b o,jD.heap.get? b=some o->(jD.heap.push {cls:=.type "list",dict:=none,data:=.seq ([]:List bv).toArray}).get? b=some o:=λ b o e=>ah _ e;have UH:(jD.heap.push {cls:=.type "list",dict:=none,data:=.seq ([]:List bv).toArray}).objs.size=jD.heap.objs.size+1:=bX ..;generalize hG:jD.heap.push {cls:=.type "list",dict:=none,data:=.seq ([]:List bv).toArray}=G at zO Ny OO I0 L3 UH⊢;generalize XC:jD.heap.objs.size=D at hD I0 UH⊢;obtain⟨W,⟨m0,w0⟩,turn⟩:=R D hD;have old:∀b o,G.get? b=some o->Gw.get? b=some o:=Ny;have sub:=mK X.env scope.names [] (λ y c z=>by simp at z)
 have low:∀y c,(gp X.env scope.names []).lookup y=some c->@LT.lt Nat _ c G.objs.size:=λ y c z=>by
  obtain⟨v,o,ho,_⟩:=I.cell y c (sub y c z);exact aH (L3 _ _ ho)
 have both:∀y c,((x,G.objs.size+1)::gp X.env scope.names []).lookup y=some c->(y=x/\@Eq Nat c (G.objs.size+1))\/(y≠x/\(gp X.env scope.names []).lookup y=some c):=λ y c z=>by
  rw [cp] at z
  cases hy:y==x with
  | true=>
   rw [hy] at z
   cases z;exact .inl ⟨by simpa using hy,rfl⟩
  | false=>
   rw [hy] at z;exact .inr ⟨by simpa using hy,z⟩
 have skip:∀y,y≠x->((x,G.objs.size+1)::gp X.env scope.names []).lookup y=(gp X.env scope.names []).lookup y:=λ y hy=>by
  rw [cp,show (y==x)=false by simpa using hy]
 have hD0:@LT.lt Nat _ jD.heap.objs.size (jD.heap.objs.size+1):=cU _
 have IY:Inv (X.qt scope x ((x,G.objs.size+1)::gp X.env scope.names []) G.objs.size N {jD with heap:=G} (upd H D (.lst [])) fp) [] (Br fr σ) (upd H D (.lst [])) {jD with heap:=Gw,toks:=jD.toks}:=by
  refine⟨⟨I.ok.mod,S.kind,I.ok.glob,I.ok.blt,az _,λ y z c e1 e2=> ?_,λ y hy=> ?_,λ y c hf z=> ?_,I.ok.hd,I.ok.frames,.inl rfl,λ b hb=>⟨?_,λ y c e=> ?_⟩,
   I0.bs,bj I.ok.L6 I0.sz,λ b o e hb=> ?_,λ b hb z=> ?_,I0.stack,I0.yi⟩,rfl,I.bare,Un.kept old,⟨_,zO,λ i y v e1 e2 e3=> ?_⟩,λ y c e=> ?_,I0.gG.fresh (az _),λ y c e=> ?_,λ p hp=>absurd (show p∈([]:List (ac×Obj)) from hp) (by simp),I0.gG.kept old,?_⟩
  .rcases both y c e1 with ⟨h1,h2⟩ | ⟨h1,h2⟩<;>rcases both z c e2 with ⟨k1,k2⟩ | ⟨k1,k2⟩
   .rw [h1,k1]
   .have:=low z c k2;lia
   .have:=low y c h2;lia
   .exact I.ok.inj y z c (sub y c h2) (sub z c k2)
  .by_cases ZR:y=x
   .exact⟨G.objs.size+1,by show ((x,G.objs.size+1)::gp X.env scope.names []).lookup y=_;rw [ZR,cp,beq_self_eq_true]⟩
   .have hm:(y,NameKind.free)∈scope.names:=by
     rcases hy with hy|hy
     .exact(sR hy (.inl rfl) S.one).resolve_left ZR
     .exact(sR hy (.inr rfl) S.one).resolve_left ZR
    obtain⟨c,ec⟩:=j6 X.env scope.names [] y hm (Ai S I _ hm rfl);exact⟨c,(skip y ZR).trans ec⟩
  .have hf:decide (y=x)=true:=hf;have z:((x,G.objs.size+1)::gp X.env scope.names []).lookup y=some c:=z;show @LE.le Nat _ G.objs.size c;rcases both y c z with ⟨_,h2⟩ | ⟨h1,_⟩
   .exact Zc Zk (Zg h2)
   .exact absurd (of_decide_eq_true hf) h1
  .obtain⟨o,e,_⟩:=T.obj 0 _ st b hb;have h1:@LT.lt Nat _ b jD.heap.objs.size:=aH e;show b≠G.objs.size;intro z;have z':@Eq Nat b G.objs.size:=z;rw [UH] at z';exact Zf h1 (Zc (Ze XC) (Zc Zk (Zg z')))
  .obtain⟨o,e',_⟩:=T.obj 0 _ st b hb;have h1:@LT.lt Nat _ b jD.heap.objs.size:=aH e';rcases both y c e with ⟨_,h2⟩ | ⟨_,h2⟩
   .intro z;have z':@Eq Nat c b:=z;exact Zf h1 (Zc (Ze XC) (Zc Zk (Zc (Zg UH) (Zc Zk (Zc (Zg h2) (Ze z'))))))
   .exact(f2 b hb).2.2.2.2.1 y c (sub y c h2)
  .rcases (f2 b hb).2.2.2.1 with z|z
   .exact I.ok.tY b o e z
   .have h1:@LT.lt Nat _ b X.base.objs.size:=aH e;have h2:@LE.le Nat _ X.base.objs.size X.iY.heap.objs.size:=I.ok.L6;have z':@LE.le Nat _ X.iY.heap.objs.size b:=z;exact Zf h1 (Zc h2 z)
  .rcases av.mp (I.C_ b z) with e|e
   .exact(f2 b hb).2.1 e
   .exact(f2 b hb).2.2.1 e
  .cases i with
   | zero=>simp [Br] at e2
   | succ k=>
    have OB:(fr.map λ j=>X.N.getD j "")[k]? = some y:=by
     have z:N[k+1]? = some y:=e1;rw [S.UT] at z
     simpa using z
    have Pz:(fr.map λ j=>(σ[j]?).join)[k]? = some (some v):=by simpa [Br] using e2
    rw [ak] at OB Pz
    cases hj:fr[k]? with
    | none=>rw [hj] at OB;cases OB
    | some j=>
     rw [hj] at OB Pz;have ey:X.N.getD j "" = y:=Option.some.inj OB;have ev:(σ[j]?).join=some v:=Option.some.inj Pz;have UB:j∈fr:=aq hj;have QS:=S.Đ j UB;have eN:X.N[j]? = some y:=by rw [<-ey];simp [List.getD,QS]
     have eσ:σ[j]? = some (some v):=by
      cases q:σ[j]? with
      | none=>rw [q] at ev;cases ev
      | some w=>rw [q] at ev;rw [show w=some v from ev]
     have xh:scope.names.lookup y=some .free:=by rw [<-ey];exact S.Ď j UB
     have hm:(y,NameKind.free)∈scope.names:=PySem.mem_of_lookup xh;obtain⟨m,hn,hl⟩:=I.loc;obtain⟨u,r,l⟩:=hl j y v eN eσ (by rcases S.XI _ hm rfl with z|z;exact .inr (.inl z);exact .inr (.inr z));refine⟨u,r,?_⟩;rcases l with ⟨k1,_⟩ | ⟨_,c,ec,o,ho,hd⟩
     .exact absurd k1 (by rw [<-ey];exact S.qv j UB)
     .obtain⟨c',e'⟩:=j6 X.env scope.names [] y hm ⟨c,ec⟩;have e2:=sub y c' e';rw [ec] at e2
      cases e2;exact .inr ⟨qM xh,c,(skip y (S.apart _ hm rfl)).trans e',o,old _ _ (L3 _ _ ho),hd⟩
  .rcases both y c e with ⟨_,h2⟩ | ⟨_,h2⟩
   .exact⟨none,by rw [h2];exact OO⟩
   .obtain⟨v,o,ho,hd⟩:=I.cell y c (sub y c h2);exact⟨v,o,old _ _ (L3 _ _ ho),hd⟩
  .rcases both y c e with ⟨_,h2⟩ | ⟨_,h2⟩
   .exact I0.gG.fresh (by rw [h2];exact cf _)
   .exact I0.lA y c (sub y c h2)
  .show (Br fr σ).length=N.length;rw [S.UT];simp [Br]
 have Ŀ:∀b∈fp,(upd H D (.lst [])) b=none:=λ b hb=>by
  obtain⟨o,e,_⟩:=T.obj 0 _ st b hb;rw [fo (by intro z;rw [z,<-XC] at e;exact absurd (aH e) (bT _))];exact(f2 b hb).1
 have Mz:tn 0 Gw:=T.keep _ _ _ st λ b _ o e=>old _ _ (L3 _ _ e)
 have stat:∀{H':Hp},(∀b∈fp,H' b=none)->∀b∈fp,sH (X.qt scope x ((x,G.objs.size+1)::gp X.env scope.names []) G.objs.size N {jD with heap:=G} (upd H D (.lst [])) fp) [] H' b:=λ hn b hb=>
  ⟨hn b hb,(IY.ok.UP b hb).1,IY.ok.Ib b hb,.inl hb,(IY.ok.UP b hb).2,λ p hp=>absurd (show p∈([]:List (ac×Obj)) from hp) (by simp)⟩
 have loop:AT (ga X.prog X.w) X.A (.compLoop (.ListComp elt [⟨.Name x px,iter,ifs,0⟩] scope pos) 0 (.ref it) (.ref D) (JaY scope ((x,G.objs.size+1)::gp X.env scope.names []) G.objs.size X.env)) (RR (.ref D) G.objs.size)
   {jD with heap:=Gw,toks:=jD.toks}:=by
  refine Ck (λ n s'=>∃i ys H',Inv (X.qt scope x ((x,G.objs.size+1)::gp X.env scope.names []) G.objs.size N {jD with heap:=G} (upd H D (.lst [])) fp) [] (Br fr σ) H' s'/\tn i s'.heap/\(∀b∈fp,H' b=none)/\W i n ys H') ?_ m0 ⟨0,[],_,IY,Mz,Ŀ,w0⟩;rintro n s3 ⟨i,ys,H3,I3,LX,Sf,w3⟩;rcases turn i n ys H3 w3 with ⟨stop,q⟩ | ⟨go,step⟩
  .refine gZ (T.done (X.qt scope x ((x,G.objs.size+1)::gp X.env scope.names []) G.objs.size N {jD with heap:=G} (upd H D (.lst [])) fp) rfl rfl rfl hc i [] s3 _ H3 _ I3 (stat Sf) LX stop) λ r s4 zq=> ?_;obtain⟨hr,I4⟩:=zq;subst hr;obtain⟨m',Uu,_⟩:=I4.loc;have u:Un (qS X.stack) fp H H3 jD.heap s4.heap:=Un.trans (Un.laid L3 (eI XC) hD) I4.base;refine ĳ D G.objs.size s4 m' H3 (I.OR I4.os u I4.gG I4.bare λ b hb=>⟨(f2 b hb).2.2.2.1,(f2 b hb).2.1,(f2 b hb).2.2.2.2.1,(f2 b hb).2.2.2.2.2⟩) Uu (I.Ba (Zc (Ze XC) (Zc Zk (Zg UH))) I4.free) q
  .refine gZ (T.item (X.qt scope x ((x,G.objs.size+1)::gp X.env scope.names []) G.objs.size N {jD with heap:=G} (upd H D (.lst [])) fp) rfl rfl rfl hc i [] s3 _ H3 _ I3 (stat Sf) LX go) λ r s4 zq=> ?_;obtain⟨u,hr,h4⟩:=zq;subst hr;refine gZ h4 λ _ s5 zq=> ?_;obtain⟨x',H5,I5,r5,y5,MA,XJ⟩:=zq;have YO:=I5.pinned (stat XJ) (T.obj _ _ MA);refine Ps (qx (i:=0) YO S.nd (by show N[0]? = some x;rw [S.UT];rfl) (.inr (sD S.hx)) r5 (λ s6 I6=> ?_) (.inl (decide_eq_true rfl)));have ţ:Inv (X.qt scope x ((x,G.objs.size+1)::gp X.env scope.names []) G.objs.size N {jD with heap:=G} (upd H D (.lst [])) fp) ([]++qO fp s5.heap) (kN x' fr σ) H5 s6:=I6
   have again:∀{H8:Hp} {s8:ci} {GB:List V},Inv (X.qt scope x ((x,G.objs.size+1)::gp X.env scope.names []) G.objs.size N {jD with heap:=G} (upd H D (.lst [])) fp) ([]++qO fp s5.heap) (kN x' fr σ) H8 s8->(∃m',m'<n/\W (i+1) m' GB H8)->
     ∃m,m<n/\∃i ys H',Inv (X.qt scope x ((x,G.objs.size+1)::gp X.env scope.names []) G.objs.size N {jD with heap:=G} (upd H D (.lst [])) fp) [] (Br fr σ) H' s8/\tn i s8.heap/\(∀b∈fp,H' b=none)/\W i m ys H':=λ {H8 s8 GB} I8 ⟨m',hm,w8⟩=>by
    refine⟨m',hm,i+1,GB,H8,I8.qw.weak (by simp [Br,kN]) (λ j v e=> ?_),T.keep _ _ _ MA λ b hb o e=>(I8.pin (b,o) (aD _ (aD _ (kQ hb e)))).1,λ b hb=> ?_,w8⟩
    .cases j with
     | zero=>simp [Br] at e
     | succ k=>simpa [Br,kN] using e
    .obtain⟨o,e,d⟩:=T.obj _ _ MA b hb;exact(I8.pin (b,o) (aD _ (aD _ (kQ hb e)))).2.1
   refine gZ (ht _ _ _ _ _ _ s6 (kN x' fr σ) H5 _ ţ (step x' H5 y5)) λ b s7 zq=> ?_;obtain⟨H7,I7,q7⟩:=zq
   cases b with
   | false=>exact again I7 q7
   | true=>
    refine gZ (he _ _ _ _ _ _ s7 _ H7 _ I7 q7) λ yv s8 zq=> ?_;obtain⟨y,H8,I8,r8,Ķ,hz,q8⟩:=zq;refine gZ (gE _ s8 _ H8 (.ref D) [y] (.ref D) [yv] (λ _ H9=>H9=upd H8 D (.lst (ys ++ [y]))) I8 rfl (.cons r8 .nil) ⟨D,ys,y,rfl,rfl,Ķ,hz,rfl⟩) λ _ s9 zq=> ?_;obtain⟨_,H9,I9,_,e9⟩:=zq;subst e9;exact again I9 q8
 exact JaM loop (T.self _ 0 _ _ _ Mz loop)
theorem Nr (hc:X.calm=true) (S:wN scope X.env.scope x N X.N fr) (hi:PI X (.Name x px) iter wi) (ht:∀cl C iY jR ex,EB (X.qt scope x cl C N iY jR ex) ifs tt) (he:∀cl C iY jR ex,PE (X.qt scope x cl C N iY jR ex) elt te)
  (hs:∀v,nw iter X.env v=pure v:=by intro _;rfl):PE X (.ListComp elt [⟨.Name x px,iter,ifs,0⟩] scope pos) (sJ wi fr tt te):=by
 intro pins s σ H Q I h;rw [eval_ListComp];refine Go (use:=none) rfl hs (yu X.env scope (Ai S I)) S.kind S.names (gZ (hi pins s σ H _ I h) λ v s1 h1=>gZ h1 λ VN s2 h2=> ?_);obtain⟨it,fp,tn,J,H2,e,I2,T,LY,f2,R⟩:=h2;subst e;refine xy (RR:=λ acc C=>JaX (ga X.prog X.w) X.A X.xe none (EP X pins σ Q) acc C) hc S ht he I2 T LY f2 R λ D C s' m H' I' hn hf q=> ?_;exact⟨m,hn,λ h' Uj=>⟨.ref D,H',I'.turned (t':=s'.toks) (λ b o hb e=>Uj.extBut b o hb e) hf.1 hf.2.1 hf.2.2.2.1 hf.2.2.2.2.1 hf.2.2.2.2.2,rfl,q⟩⟩
theorem M4 (hN:X.N.Nodup) (DQ:X.N[i]? = some y) (hy:Loc X.env.scope y) (hc:X.calm=true) (S:wN scope X.env.scope x N X.N fr) (hi:PI X (.Name x px) iter wi)
  (ht:∀cl C iY jR ex,EB (X.qt scope x cl C N iY jR ex) ifs tt) (he:∀cl C iY jR ex,PE (X.qt scope x cl C N iY jR ex) elt te)
  (N7:ww (.ListComp elt [⟨.Name x px,iter,ifs,0⟩] scope pos) (some (.Name y py)) yG.line X.env=pure true:=by rfl)
  (hs:∀v,nw iter X.env v=pure v:=by intro _;rfl) (hf:X.fn y=true\/X.env.scope.names.lookup y=some .local:=by first|exact .inl rfl|exact .inr rfl|assumption) :
  PS X (.Assign [.Name y py] (.ListComp elt [⟨.Name x px,iter,ifs,0⟩] scope pos) yG) (xO (sJ wi fr tt te) (nj i)):=by
 intro pins s σ H D I h;rw [JaQ _ _ _ _ N7];refine bi (ZD (bi ?_));show gc (ga X.prog X.w) X.A (comprehension (.ListComp elt [⟨.Name x px,iter,ifs,0⟩] scope pos) scope X.env _ (newList []) false (jp iter X.env) (some (Sc (.Name y py) X.env)) >>= λ _=>pure ()) _ _ s
 refine bi (re (Go (use:=some (Sc (.Name y py) X.env)) (Q:=λ _ s'=>SP X pins D .next s') rfl hs (yu X.env scope (Ai S I)) S.kind S.names
  (gZ (hi pins s σ H _ I h) λ v s1 h1=>gZ h1 λ VN s2 h2=> ?_)) (λ _ s' hq=>cr (cr hq)) λ _ _ e=>e)
 obtain⟨it,fp,tn,J,H2,e,I2,T,LY,f2,R⟩:=h2;subst e;refine xy (RR:=λ acc C=>JaX (ga X.prog X.w) X.A X.xe (some (Sc (.Name y py) X.env)) (λ _ s'=>SP X pins D .next s') acc C) hc S ht he I2 T LY f2 R λ Dl C s' m H' I' hn HR q=> ?_;show gc (ga X.prog X.w) X.A (Sc (.Name y py) X.env (.ref Dl)) _ _ _;refine Ps (vz I' hN DQ hy (show RelV (.ref Dl) (.ref Dl) from rfl) (λ SU Ť zq=> ?_) hf);obtain⟨a,sb,ha⟩:=zq
 have ķ:C≠a:=by
  rcases ha with z|z
  .rw [z];exact HR.2.1
  .exact λ w=>HR.2.2.2.2.1 y a z w.symm
 exact⟨m,hn.sameBut sb ķ,λ h' Uj=>⟨_,H',Ť.turned (t':=SU.toks) (λ b o hb e=>Uj.extBut b o hb e) HR.1 HR.2.1 HR.2.2.2.1 HR.2.2.2.2.1 HR.2.2.2.2.2,q⟩⟩
theorem Cs (hc:X.calm=true) (S:wN scope X.env.scope x N X.N fr) (hi:Bx (PI X (.Name x px) iter wi)) (ht:∀cl C iY jR ex,Bx (EB (X.qt scope x cl C N iY jR ex) ifs tt)) (he:∀cl C iY jR ex,Bx (PE (X.qt scope x cl C N iY jR ex) elt te))
  (hs:∀v,nw iter X.env v=pure v:=by intro _;rfl):Bx (PE X (.ListComp elt [⟨.Name x px,iter,ifs,0⟩] scope pos) (sJ wi fr tt te)):=⟨Nr hc S hi.un (λ a b c d e=>(ht a b c d e).un) (λ a b c d e=>(he a b c d e).un) hs⟩
theorem LF (hN:X.N.Nodup) (DQ:X.N[i]? = some y) (hy:Loc X.env.scope y) (hc:X.calm=true) (S:wN scope X.env.scope x N X.N fr) (hi:Bx (PI X (.Name x px) iter wi))
  (ht:∀cl C iY jR ex,Bx (EB (X.qt scope x cl C N iY jR ex) ifs tt)) (he:∀cl C iY jR ex,Bx (PE (X.qt scope x cl C N iY jR ex) elt te))
  (N7:ww (.ListComp elt [⟨.Name x px,iter,ifs,0⟩] scope pos) (some (.Name y py)) yG.line X.env=pure true:=by rfl)
  (hs:∀v,nw iter X.env v=pure v:=by intro _;rfl) (hf:X.fn y=true\/X.env.scope.names.lookup y=some .local:=by first|exact .inl rfl|exact .inr rfl|assumption) :
  Bx (PS X (.Assign [.Name y py] (.ListComp elt [⟨.Name x px,iter,ifs,0⟩] scope pos) yG) (xO (sJ wi fr tt te) (nj i))):=⟨M4 hN DQ hy hc S hi.un (λ a b c d e=>(ht a b c d e).un) (λ a b c d e=>(he a b c d e).un) N7 hs hf⟩
end
def vU (ss:List GA) (m:j_):List Int:=((List.range ss.length).filter λ j=>match ss[j]? with|some s=>oH m s|none=>false).map λ (j:Nat)=>(j:Int)
theorem NJ {p:Nat}:(p:Int)∈vU ss m↔∃s,ss[p]? = some s/\oH m s=true:=by
 unfold vU;rw [aC];constructor
 .rintro⟨j,hj,e⟩;have e:j=p:=by exact Int.ofNat.inj e
  subst e;have:=(bF.mp hj).2
  cases q:ss[j]? with
  | none=>
   rw [q] at this
   cases this
  | some s=>
   rw [q] at this;exact⟨s,rfl,this⟩
 .rintro⟨s,hs,hf⟩;have pl:=(ag.mp hs).1;exact⟨p,bF.mpr ⟨aV.mpr pl,by rwa [hs]⟩,rfl⟩
theorem MR:∀x∈vU ss m,0<=x/\x<ss.length:=λ x hx=>by
 unfold vU at hx;obtain⟨j,hj,rfl⟩:=aC.mp hx;have:=aV.mp (bF.mp hj).1;lia
theorem MS (ss:List GA) (m:j_):(vU ss m).length<=ss.length:=by
 unfold vU;rw [ae];exact bj (bG _ _) (by rw [aJ];exact az _)
theorem Oq {ms:List j_} {ss:List GA} {i p:Nat}:(p:Int)∈((ms.map (vU ss))[i]?).getD []↔∃m s,ms[i]? = some m/\ss[p]? = some s/\oH m s=true:=by
 rw [ak]
 cases q:ms[i]? with
 | none=>simp
 | some m=>
  show (p:Int)∈vU ss m↔_;rw [NJ];constructor
  .rintro⟨s,h1,h2⟩;exact⟨m,s,rfl,h1,h2⟩
  .rintro⟨m',s,e,h1,h2⟩
   cases e;exact⟨s,h1,h2⟩
theorem fR.R3 {β:Type} {R S:ac->β->Prop} {a:ac} {b:β}:∀{as:List ac} {bs:List β} {i:Nat},fR R as bs->as.Nodup->as[i]? = some a->(∀x y,x∈as->x≠a->R x y->S x y)->S a b->fR S as (bs.set i b)
 | _,_,0,.cons _ t,n,h,k,r=>by
  simp at h;subst h;have n1:=aZ.mp n
  have go:∀{as:List ac} {bs:List β},fR R as bs->(∀x y,x∈as->R x y->S x y)->fR S as bs:=λ {as bs} t=>by
   induction t with
   | nil=>exact λ _=>.nil
   | cons r t ih=>exact λ h=>.cons (h _ _ (by simp) r) (ih λ x y hx=>h x y (ay _ hx))
  exact .cons r (go t λ x y hx=>k x y (ay _ hx) λ z=>n1.1 (z▸hx))
 | _,_,i+1,@fR.cons _ _ _ a0 _ _ _ r0 t,n,h,k,r=>by
  have n1:=aZ.mp n;have h':=h;simp at h';have am:=aq h';exact .cons (k _ _ (by simp) (λ z=>n1.1 (z▸am)) r0) (t.R3 (i:=i) n1.2 (by simpa using h) (λ x y hx=>k x y (ay _ hx)) r)
 | _,_,i,.nil,_,h,_,_=>by simp at h
abbrev Wy:=Nat->Nat->Nat->Prop
structure nW (W:Wy) (a b:Nat) (e:Int):Prop where
 lo:0<=e
 hi:e<=1000000
 le:∀k,W k a b->e<=(k:Int)
 wit:e<1000000->W e.toNat a b
theorem nW.one (h:nW W a b e) (g:nW W a b f):e=f:=by
 by_cases h1:e<1000000
 .have:=g.le _ (h.wit h1);have h2:=h.lo;by_cases h3:f<1000000
  .have:=h.le _ (g.wit h3);have:=g.lo;lia
  .lia
 .by_cases h3:f<1000000
  .have:=h.le _ (g.wit h3);have:=g.lo;have:=h.hi;lia
  .have:=h.hi;have:=g.hi;lia
theorem nW.iff (h:nW W a b e) (i:∀k,W k a b↔W' k a b):nW W' a b e:=
 ⟨h.lo,h.hi,λ k q=>h.le k ((i k).mpr q),λ q=>(i _).mp (h.wit q)⟩
theorem nW.none (h:∀k,¬W k a b):nW W a b 1000000:=⟨by decide,by decide,λ k q=>(h k q).elim,λ q=>by lia⟩
def LW (U W:Wy):Wy:=λ k a b=>U k a b\/W k a b
def Bl (n:Nat) (U W:Wy):Wy:=λ k a b=>∃i j m,m<n/\i+j=k/\U i a m/\W j m b
def yy:Wy:=λ k a b=>k=0/\a=b
theorem nW.or (h:nW U a b e) (g:nW W a b f):nW (LW U W) a b (min e f):=by
 have:=h.lo;have:=h.hi;have:=g.lo;have:=g.hi;refine⟨by lia,by lia,λ k q=> ?_,λ q=> ?_⟩
 .rcases q with q|q
  .have:=h.le k q;lia
  .have:=g.le k q;lia
 .by_cases c:e<=f
  .rw [fb c] at q⊢;exact .inl (h.wit q)
  .rw [eT (Yl (Yj c))] at q⊢;exact .inr (g.wit q)
theorem nW.Mx:nW (LW yy W) a a 0:=⟨by decide,by decide,λ k _=>Yt,λ _=>.inl ⟨rfl,rfl⟩⟩
theorem nW.other (h:nW W a b e) (n:a≠b):nW (LW yy W) a b e:=
 h.iff λ k=>⟨.inr,λ q=>q.elim (λ z=>(n z.2).elim) id⟩
theorem nW.then {n:Nat} {U W:Wy} {a b:Nat} {f g:Nat->Int} (hf:∀m,m<n->nW U a m (f m)) (hg:∀m,m<n->nW W m b (g m)) {e:Int} (hi:e<=1000000) (le:∀m,m<n->e<=f m+g m) (at_:e=1000000\/∃m,m<n/\e=f m+g m):nW (Bl n U W) a b e:=by
 refine⟨?_,hi,?_,λ q=> ?_⟩
 .rcases at_ with z | ⟨m,hm,z⟩
  .exact Yc (by decide) (Yg z)
  .have:=(hf m hm).lo;have:=(hg m hm).lo;lia
 .rintro k ⟨i,j,m,hm,ek,u,w⟩;have:=(hf m hm).le i u;have:=(hg m hm).le j w;have:=le m hm;lia
 .rcases at_ with z | ⟨m,hm,z⟩
  .lia
  .have h1:=(hf m hm).lo;have h2:=(hg m hm).lo;refine⟨(f m).toNat,(g m).toNat,m,hm,by lia,(hf m hm).wit (by omega),(hg m hm).wit (by omega)⟩
inductive yb (W:Wy) (t:Nat):Nat->Nat->Nat->Prop
 | one {k a b:Nat}:W k a b->yb W t k a b
 | step {i j a c b:Nat}:W i a c->c<t->yb W t j c b->yb W t (i+j) a b
theorem yb.up (h:t<=s) (p:yb W t k a b):yb W s k a b:=by
 induction p with
 | one w=>exact .one w
 | step w c _ ih=>exact .step w (Za c h) ih
theorem yb.app (p:yb W t i a c) (hc:c<t) (q:yb W t j c b):yb W t (i+j) a b:=by
 induction p with
 | one w=>exact .step w hc q
 | step w c' _ ih=>
  rw [cX];exact .step w c' (ih hc q)
theorem yb.zero (p:yb W 0 k a b):W k a b:=by
 cases p with
 | one w=>exact w
 | step _ c _=>lia
theorem yb.cut (p:yb W (t+1) k a b):yb W t k a b\/∃i j,i+j<=k/\yb W t i a t/\yb W t j t b:=by
 induction p with
 | one w=>exact .inl (.one w)
 | @step i j a c b w hc _ ih=>
  by_cases e:c=t
  .subst e;rcases ih with h | ⟨i',j',l,h1,h2⟩
   .exact .inr ⟨i,j,az _,.one w,h⟩
   .exact .inr ⟨i,j',Zw (Zc Zo l),.one w,h2⟩
  .rcases ih with h | ⟨i',j',l,h1,h2⟩
   .exact .inl (.step w (Nat.lt_of_le_of_ne (Zs hc) e) h)
   .exact .inr ⟨i+i',j',Qaz l,.step w (Nat.lt_of_le_of_ne (Zs hc) e) h1,h2⟩
structure sF (W:Wy) (n t a b:Nat) (e:Int):Prop where
 lo:0<=e
 hi:e<=1000000
 le:∀k,yb W t k a b->e<=(k:Int)
 wit:e<1000000->yb W n e.toNat a b
theorem nW.half (h:nW W a b e):sF W n 0 a b e:=⟨h.lo,h.hi,λ k q=>h.le k q.zero,λ q=>.one (h.wit q)⟩
theorem sF.all (h:sF W n n a b e):nW (λ k a b=>yb W n k a b) a b e:=⟨h.lo,h.hi,h.le,h.wit⟩
theorem sF.put (ht:t<n) (h:sF W n t a b e) (hf:sF W n t a t f) (hg:sF W n t t b g):sF W n (t+1) a b (min e (f+g)):=by
 have h1:=h.lo;have h2:=h.hi;have h3:=hf.lo;have h4:=hg.lo;refine⟨by lia,by lia,λ k q=> ?_,λ q=> ?_⟩
 .rcases q.cut with z | ⟨i,j,l,z1,z2⟩
  .have:=h.le k z;lia
  .have:=hf.le i z1;have:=hg.le j z2;lia
 .by_cases c:e<=f+g
  .rw [fb c] at q⊢;exact h.wit q
  .rw [eT (Yl (Yj c))] at q⊢;rw [Int.toNat_add h3 h4];exact(hf.wit (by lia)).app ht (hg.wit (by lia))
theorem sF.low (h:sF W n (t+1) a b e):sF W n t a b e:=⟨h.lo,h.hi,λ k q=>h.le k (q.up Zk),h.wit⟩
def lT (one:Nat->Nat->Nat->Prop):List Nat->Nat->Nat->Prop
 | [],a,b=>a=b
 | i::w,a,b=>∃c,one i a c/\lT one w c b
theorem lT.app:∀{u v:List Nat} {a b:Nat},lT one (u++v) a b↔∃c,lT one u a c/\lT one v c b
 | [],v,a,b=>⟨λ h=>⟨a,rfl,h⟩,λ ⟨c,e,h⟩=>by cases e;exact h⟩
 | i::u,v,a,b=>by
  constructor
  .rintro⟨c,h1,h2⟩;obtain⟨d,h3,h4⟩:=lT.app.mp h2;exact⟨d,⟨c,h1,h3⟩,h4⟩
  .rintro⟨d,⟨c,h1,h3⟩,h4⟩;exact⟨c,h1,lT.app.mpr ⟨d,h3,h4⟩⟩
theorem lT.lt (hn:∀i a c,one i a c->c<n):∀{w:List Nat} {a b:Nat},a<n->lT one w a b->b<n
 | [],a,b,h,e=>by cases e;exact h
 | i::w,a,b,_,⟨c,h1,h2⟩=>lT.lt hn (hn _ _ _ h1) h2
def pS (one:Nat->Nat->Nat->Prop) (sh:Sh):Wy:=λ k a b=>∃w,sh.In w/\w.length=k/\lT one w a b
theorem Ml:pS one (.mark i) k a b↔k=1/\one i a b:=by
 constructor
 .rintro⟨w,h,e,t⟩
  cases h with
  | mark=>
   obtain⟨c,h1,h2⟩:=t
   cases h2;exact⟨e.symm,h1⟩
 .rintro⟨rfl,h⟩;exact⟨[i],.mark i,rfl,b,h,rfl⟩
theorem PH (hn:∀i a c,one i a c->c<n) (ha:a<n):pS one (.two j5 l r) k a b↔Bl n (pS one l) (pS one r) k a b:=by
 constructor
 .rintro⟨w,h,e,t⟩;generalize hs:Sh.two j5 l r=s at h
  cases h with
  | row h1 h2=>
   cases hs;obtain⟨c,t1,t2⟩:=lT.app.mp t;rw [ao] at e;exact⟨_,_,c,lT.lt hn ha t1,e,⟨_,h1,rfl,t1⟩,⟨_,h2,rfl,t2⟩⟩
  | left _=>exact absurd (Sh.two.inj hs).1 (by decide)
  | right _=>exact absurd (Sh.two.inj hs).1 (by decide)
  | _=>cases hs
 .rintro⟨i,j,m,_,rfl,⟨u,h1,rfl,t1⟩,⟨v,h2,rfl,t2⟩⟩;exact⟨u++v,.row h1 h2,ao,lT.app.mpr ⟨m,t1,t2⟩⟩
theorem SA:pS one (.two tU l r) k a b↔LW (pS one l) (pS one r) k a b:=by
 constructor
 .rintro⟨w,h,e,t⟩;generalize hs:Sh.two tU l r=s at h
  cases h with
  | row _ _=>exact absurd (Sh.two.inj hs).1 (by decide)
  | left h=>
   cases hs;exact .inl ⟨w,h,e,t⟩
  | right h=>
   cases hs;exact .inr ⟨w,h,e,t⟩
  | _=>cases hs
 .rintro(⟨w,h,e,t⟩ | ⟨w,h,e,t⟩)
  .exact⟨w,.left h,e,t⟩
  .exact⟨w,.right h,e,t⟩
theorem Kc:pS one (.one jy s) k a b↔LW yy (pS one s) k a b:=by
 constructor
 .rintro⟨w,h,e,t⟩;generalize hs:Sh.one jy s=s' at h
  cases h with
  | no _=>exact .inl ⟨e.symm,t⟩
  | yes h=>
   cases hs;exact .inr ⟨w,h,e,t⟩
  | done _=>exact absurd (Sh.one.inj hs).1 (by decide)
  | more _ _=>exact absurd (Sh.one.inj hs).1 (by decide)
  | once _ _=>exact absurd (Sh.one.inj hs).1 (by decide)
  | _=>cases hs
 .rintro(⟨rfl,rfl⟩ | ⟨w,h,e,t⟩)
  .exact⟨[],.no _,rfl,rfl⟩
  .exact⟨w,.yes h,e,t⟩
theorem Ju {one:Nat->Nat->Nat->Prop} {n:Nat} (hn:∀i a c,one i a c->c<n) {s t:Sh} {w:List Nat} (h:t.In w):t = .one ju s->∀{a b:Nat},a<n->lT one w a b->LW yy (yb (pS one s) n) w.length a b:=by
 induction h with
 | done _=>exact λ _ a b _ e=>.inl ⟨rfl,e⟩
 | @more t u v h1 h2 i1 i2=>
  intro e a b ha tr
  cases e;obtain⟨c,t1,t2⟩:=lT.app.mp tr;have hc:=lT.lt hn ha t1;rw [ao];rcases i2 rfl hc t2 with ⟨z,rfl⟩|p
  .rw [z];exact .inr (.one ⟨u,h1,rfl,t1⟩)
  .exact .inr (.step ⟨u,h1,rfl,t1⟩ hc p)
 | no _=>exact λ e=>absurd (Sh.one.inj e).1 (by decide)
 | yes _ _=>exact λ e=>absurd (Sh.one.inj e).1 (by decide)
 | once _ _ _ _=>exact λ e=>absurd (Sh.one.inj e).1 (by decide)
 | _=>intro e;cases e
theorem Jv (p:yb (pS one s) n k a b):∃u v,s.In u/\(Sh.one ju s).In v/\(u++v).length=k/\lT one (u++v) a b:=by
 induction p with
 | one w=>
  obtain⟨u,h,e,t⟩:=w;exact⟨u,[],h,.done _,by rwa [bI],by rwa [bI]⟩
 | step w hc _ ih=>
  obtain⟨u,h,e,t⟩:=w;obtain⟨u2,v2,h1,h2,e2,t2⟩:=ih;exact⟨u,u2++v2,h,.more h1 h2,by rw [ao,e,e2],lT.app.mpr ⟨_,t,t2⟩⟩
theorem Mm (hn:∀i a c,one i a c->c<n) (ha:a<n):pS one (.one ju s) k a b↔LW yy (yb (pS one s) n) k a b:=by
 constructor
 .rintro⟨w,h,rfl,t⟩;exact Ju hn h rfl ha t
 .rintro(⟨rfl,rfl⟩|p)
  .exact⟨[],.done _,rfl,rfl⟩
  .obtain⟨u,v,h1,h2,e,t⟩:=Jv p;exact⟨u++v,.more h1 h2,e,t⟩
theorem Mj {one:Nat->Nat->Nat->Prop} {n:Nat} (hn:∀i a c,one i a c->c<n) {s:Sh} {k a b:Nat} (ha:a<n):pS one (.one lZ s) k a b↔yb (pS one s) n k a b:=by
 constructor
 .rintro⟨w,h,rfl,tr⟩;generalize hs:Sh.one lZ s=s' at h
  cases h with
  | @once t u v h1 h2=>
   cases hs;obtain⟨c,t1,t2⟩:=lT.app.mp tr;have hc:=lT.lt hn ha t1;rw [ao];rcases Ju hn h2 rfl hc t2 with ⟨z,rfl⟩|p
   .rw [z];exact .one ⟨u,h1,rfl,t1⟩
   .exact .step ⟨u,h1,rfl,t1⟩ hc p
  | no _=>exact absurd (Sh.one.inj hs).1 (by decide)
  | yes _=>exact absurd (Sh.one.inj hs).1 (by decide)
  | done _=>exact absurd (Sh.one.inj hs).1 (by decide)
  | more _ _=>exact absurd (Sh.one.inj hs).1 (by decide)
  | _=>cases hs
 .intro p;obtain⟨u,v,h1,h2,e,t⟩:=Jv p;exact⟨u++v,.once h1 h2,e,t⟩
structure hI (kE:Int->List Int) (yl:Int->Nm->Int->Nm->Prop) (es:List En) (pl:Nat):Prop where
 up:∀(i j:Nat) (e f:En),es[i]? = some e->es[j]? = some f->i<=j->e.mX<=f.mX
 near:∀(e f:En),es[pl]? = some e->f∈es->f.mX<=e.mX+1
 links:∀(k:Nat) (e:En),es[k+1]? = some e->∃(j:Nat) (f:En),j<=k/\e.Gy=(j:Int)/\es[j]? = some f/\e.mX=f.mX+1/\e.rm∈kE f.rm/\yl e.rm f.th e.num e.th
 done:∀(j:Nat) (e:En),j<pl->es[j]? = some e->∀r∈kE e.rm,∀num to,yl r e.th num to->∃f∈es,i5 f=(to,r)/\f.mX<=e.mX+1
section
variable {kE:Int->List Int} {yl:Int->Nm->Int->Nm->Prop} {es:List En} {pl:Nat}
theorem hI.one:hI kE yl [e] 0:=by
 refine⟨λ i j x y hx hy _=> ?_,λ x y hx hy=> ?_,λ k x h=> ?_,λ j x h=>by lia⟩
 .have hi:i=0:=by
   have:=(ag.mp hx).1;simp at this;exact this
  have hj:j=0:=by
   have:=(ag.mp hy).1;simp at this;exact this
  subst hi;subst hj
  cases hx
  cases hy;exact cI _
 .cases hx;rw [aj.mp hy];lia
 .simp at h
theorem hI.push (h:hI kE yl es pl) (he:es[pl]? = some e) (hf:f.mX=e.mX+1) (hb:f.Gy=(pl:Int)) (hr:f.rm∈kE e.rm) (hm:yl f.rm e.th f.num f.th):hI kE yl (es ++ [f]) pl:=by
 have Ÿ:=(ag.mp he).1
 have last:∀{j:Nat} {y:En},(es ++ [f])[j]? = some y->es[j]? = some y\/(j=es.length/\y=f):=λ {j y} hy=>by
  by_cases hj:j<es.length
  .rw [aP hj] at hy;exact .inl hy
  .rw [bp (Zi hj)] at hy
   have z:j-es.length=0:=by
    have:=(ag.mp hy).1;simp at this;exact this
   rw [z] at hy
   cases hy;exact .inr ⟨by lia,rfl⟩
 have old:∀{j:Nat} {y:En},es[j]? = some y->(es ++ [f])[j]? = some y:=λ {j y} hy=>by
  rwa [aP (ag.mp hy).1]
 refine⟨λ i j x y hx hy l=> ?_,λ x y hx hy=> ?_,λ k x hx=> ?_,λ j x hj hx r t9 num to N_=> ?_⟩
 .rcases last hx with Xc | ⟨ei,ex⟩<;>rcases last hy with VO | ⟨ej,ey⟩
  .exact h.up i j x y Xc VO l
  .rw [ey,hf];exact h.near e x he (aq Xc)
  .have:=(ag.mp VO).1;lia
  .rw [ex,ey];exact cI _
 .have ex:x=e:=by
   rw [old he] at hx;exact(Option.some.inj hx).symm
  subst ex;rcases aA.mp hy with z|z
  .exact h.near x y he z
  .rw [aj.mp z,hf];exact cI _
 .rcases last hx with hx | ⟨ek,rfl⟩
  .obtain⟨j,g,h1,h2,h3,h4⟩:=h.links k x hx;exact⟨j,g,h1,h2,old h3,h4⟩
  .exact⟨pl,e,Zs (Za Ÿ (Zg ek)),hb,old he,hf,hr,hm⟩
 .rcases last hx with hx | ⟨ej,_⟩
  .obtain⟨g,h1,h2⟩:=h.done j x hj hx r t9 num to N_;exact⟨g,aN _ h1,h2⟩
  .lia
theorem hI.next (h:hI kE yl es pl) (he:es[pl]? = some e) (all:∀r∈kE e.rm,∀num to,yl r e.th num to->(to,r)∈es.map i5):hI kE yl es (pl+1):=by
 refine⟨h.up,λ x y hx hy=> ?_,h.links,λ j x hj hx r hr num to hm=> ?_⟩
 .have h1:=h.near e y he hy;have h2:=h.up pl (pl+1) e x he hx Zk;lia
 .by_cases c:j<pl
  .exact h.done j x c hx r hr num to hm
  .have ej:j=pl:=by exact Zq (Zs hj) (Zi c)
   subst ej;rw [he] at hx
   cases hx;obtain⟨f,hf,ef⟩:=aC.mp (all r hr num to hm);exact⟨f,hf,ef,h.near e f he hf⟩
end
def KP (ts:List Nm) (yl:Int->Nm->Int->Nm->Prop) (i a c:Nat):Prop:=∃k to num,ts[a]? = some k/\ts[c]? = some to/\yl ((i:Int)+1) k num to
section
variable {M:AJ} {yl:Int->Nm->Int->Nm->Prop} {es:List En} {pl:Nat} {ts:List Nm}
theorem hI.reach (h:hI (jT M) yl es pl) (hp:es.length<=pl):∀{w:List Nat} {r:Int} {a b:Nat} {k t:Nm} {f:En},f∈es->i5 f=(k,r)->ts[a]? = some k->ts[b]? = some t->mR M r w->lT (KP ts yl) w a b->∃g∈es,g.th=t/\nR M g.rm=true/\g.mX<=f.mX+(w.length:Int)
 | [],r,a,b,k,t,f,hf,ef,ha,hb,run,tr=>by
  cases tr;rw [ha] at hb
  cases hb;have e1:f.th=k:=congrArg Prod.fst ef;have e2:f.rm=r:=congrArg Prod.snd ef;exact⟨f,hf,e1,by rwa [e2],by simp⟩
 | i::w,r,a,b,k,t,f,hf,ef,ha,hb,⟨r1,r2⟩,⟨c,⟨k',to,num,h1,h2,h3⟩,tr⟩=>by
  rw [ha] at h1
  cases h1;obtain⟨j,hj⟩:=aL.mp hf;have e1:f.th=k:=congrArg Prod.fst ef;have e2:f.rm=r:=congrArg Prod.snd ef;obtain⟨g,hg,eg,fg⟩:=h.done j f (aF (ag.mp hj).1 hp) hj ((i:Int)+1) (by rwa [e2]) num to (by rwa [e1]);obtain⟨x,hx,x1,x2,x3⟩:=h.reach hp hg eg h2 hb r2 tr;exact⟨x,hx,x1,x2,by rw [aG];lia⟩
theorem hI.back (h:hI (jT M) yl es pl) (ok:qk M) {st:Nm} {a:Nat} (h0:∃e0,es[0]? = some e0/\e0.th=st/\e0.rm=0/\e0.mX=0) (ha:ts[a]? = some st) (Pr:∀e∈es,e.th∈ts):∀(n k:Nat) (e:En),k<n->es[k]? = some e->∃(w:List Nat) (b:Nat),ts[b]? = some e.th/\(w.length:Int)=e.mX/\lT (KP ts yl) w a b/\∀v,mR M e.rm v->mR M 0 (w++v)
 | 0,_,_,hk,_=>by lia
 | n+1,0,e,_,he=>by
  obtain⟨e0,q,q1,q2,q3⟩:=h0;rw [q] at he
  cases he;exact⟨[],a,by rwa [q1],q3.symm,rfl,λ v hv=>by rw [q2] at hv;exact hv⟩
 | n+1,k+1,e,hk,he=>by
  obtain⟨j,f,jk,_,hj,ff,hr,hm⟩:=h.links k e he;obtain⟨w,b,hb,lw,tr,run⟩:=hI.back h ok h0 ha Pr n j f (Qab jk hk) hj;obtain⟨c,hc⟩:=aL.mp (Pr e (aq he));have rg:=BS ok hr;have er:((((e.rm-1).toNat:Nat):Int)+1)=e.rm:=by exact QaA rg
  refine⟨w ++ [(e.rm-1).toNat],c,hc,by rw [ao,bg];lia,lT.app.mpr ⟨b,tr,c,⟨f.th,e.th,e.num,hb,hc,by rwa [er]⟩,rfl⟩,λ v hv=> ?_⟩;rw [bt];refine run _ ⟨by rwa [er],?_⟩
  rwa [er]
theorem hI.least (h:hI (jT M) yl es pl) (hp:es.length<=pl) (ok:qk M) {sh:Sh} (fits:∀w,mR M 0 w↔sh.In w) {st:Nm} {a b:Nat} (h0:∃e0,es[0]? = some e0/\e0.th=st/\e0.rm=0/\e0.mX=0) (nd:ts.Nodup) (ha:ts[a]? = some st) (Pr:∀e∈es,e.th∈ts) (jr:es.length<=2500)
  {p:Nat} {g:En} (hg:es[p]? = some g) (hb:ts[b]? = some g.th) (he:nR M g.rm=true) (first:∀q f,q<p->es[q]? = some f->f.th=g.th->nR M f.rm=false):nW (pS (KP ts yl) sh) a b g.mX:=by
 obtain⟨w,b',yp,lw,tr,run⟩:=h.back (ts:=ts) ok h0 ha Pr (p+1) p g (Nat.lt_succ_self _) hg;have eb:b'=b:=(cx (ag.mp yp).1 nd).mp (yp.trans hb.symm);subst eb
 have r0:mR M 0 w:=by
  have:=run [] he;rw [bI] at this;exact this
 have le:∀k,pS (KP ts yl) sh k a b'->g.mX<=(k:Int):=by
  rintro k ⟨u,hu,rfl,tu⟩;obtain⟨e0,q,q1,q2,q3⟩:=h0;obtain⟨x,hx,x1,x2,x3⟩:=h.reach (ts:=ts) hp (aq q) (show i5 e0=(st,0) by unfold i5;rw [q1,q2]) ha hb ((fits u).mpr hu) tu;obtain⟨j,hj⟩:=aL.mp hx;by_cases c:j<p
  .have:=first j x c hj x1
   rw [x2] at this
   cases this
  .have:=h.up p j g x hg hj (Zi c);lia
 have mX:∀(n k:Nat) (e:En),k<n->es[k]? = some e->e.mX<=(k:Int):=by
  intro n
  induction n with
  | zero=>intro k e hk;lia
  | succ n ih=>
   intro k e hk UA
   cases k with
   | zero=>
    obtain⟨e0,q,_,_,q3⟩:=h0;rw [q] at UA
    cases UA;exact Yc (Ye q3) Yt
   | succ k=>
    obtain⟨j,f,jk,_,hj,ff,_,_⟩:=h.links k e UA;have:=ih j f (Qab jk hk) hj;exact QaB ff jk this
 have:=mX (p+1) p g (Nat.lt_succ_self _) hg;have:=(ag.mp hg).1;exact⟨by lia,by lia,le,λ _=>⟨w,(fits w).mp r0,by lia,tr⟩⟩
theorem hI.WJ (h:hI (jT M) yl es pl) (hp:es.length<=pl) {sh:Sh} (fits:∀w,mR M 0 w↔sh.In w) {st:Nm} {a b:Nat} {t:Nm} (h0:∃e0,es[0]? = some e0/\e0.th=st/\e0.rm=0/\e0.mX=0) (ha:ts[a]? = some st) (hb:ts[b]? = some t) (no:∀f∈es,f.th=t->nR M f.rm=false):nW (pS (KP ts yl) sh) a b 1000000:=by
 refine nW.none ?_;rintro k ⟨u,hu,rfl,tu⟩;obtain⟨e0,q,q1,q2,q3⟩:=h0;obtain⟨x,hx,x1,x2,x3⟩:=h.reach (ts:=ts) hp (aq q) (show i5 e0=(st,0) by unfold i5;rw [q1,q2]) ha hb ((fits u).mpr hu) tu;have:=no x hx x1;rw [x2] at this
 cases this
end
def mU (fL:List (Int×ac×jQ)) (m:j_) (k:Nm) (num:Int) (to:Nm):Prop:=∃a fZ,(num,a,fZ)∈fL/\oH m ⟨fZ.name,fZ.weight,m.back⟩=true/\kI fZ m.back=k/\jv fZ m.back=to
def jA (fL:List (Int×ac×jQ)) (m:j_) (H:Hp) (kvs:List (Key×V)):Prop:=∀num a fZ,(num,a,fZ)∈fL->oH m ⟨fZ.name,fZ.weight,m.back⟩=true->∃(l:ac) (ys:List V) (b:ac),hV kvs (.inr (tx (kI fZ m.back)))=some (.ref l)/\H l=some (.lst ys)/\V.ref b∈ys/\H b=some (.tup [.int num,.str (tx (jv fZ m.back))])
section
variable {fL:List (Int×ac×jQ)} {m:j_} {H H':Hp} {kvs:List (Key×V)}
theorem jA.none:jA [] m H kvs:=λ _ _ _ h=>nomatch h
theorem jA.same (h:jA fL m H kvs) (s:fw H H'):jA fL m H' kvs:=λ num a fZ hm hf=>
 let ⟨l,ys,b,e1,e2,e3,e4⟩:=h num a fZ hm hf
 ⟨l,ys,b,e1,s _ _ e2,e3,s _ _ e4⟩
theorem jA.skip (h:jA fL m H kvs) (hf:oH m ⟨x.2.2.name,x.2.2.weight,m.back⟩=false):jA (fL ++ [x]) m H kvs:=λ num a fZ hm ī=>by
 rcases aA.mp hm with z|z
 .exact h num a fZ z ī
 .rw [<-aj.mp z] at hf;rw [hf] at ī
  cases ī
theorem jA.grow (h:jA fL m H kvs) (hv:hV kvs (.inr (tx (kI fZ m.back)))=some (.ref l)) (hl:H l=some (.lst ys)) (hb:H b=some (.tup [.int num,.str (tx (jv fZ m.back))])):jA (fL ++ [(num,a,fZ)]) m (upd H l (.lst (ys ++ [.ref b]))) kvs:=λ TN a' PM hm hf=>by
 have xZ:∀c (xs:List V),H c=some (.tup xs)->upd H l (.lst (ys ++ [.ref b])) c=some (.tup xs):=λ c xs e=>by
  rwa [fo (gA e hl (λ z=>nomatch z))]
 rcases aA.mp hm with z|z
 .obtain⟨l',GB,b',e1,e2,e3,e4⟩:=h TN a' PM z hf;by_cases c:l'=l
  .subst c;rw [hl] at e2
   cases e2;exact⟨l',_,b',e1,e_,aN _ e3,xZ _ _ e4⟩
  .exact⟨l',GB,b',e1,(fo c).trans e2,e3,xZ _ _ e4⟩
 .cases aj.mp z;exact⟨l,_,b,hv,e_,aD _ (by simp),xZ _ _ hb⟩
theorem jA.put (h:jA fL m H kvs) (hd:H d=some (.dK kvs)) (hv:hV kvs (.inr (tx k))=Option.none):jA fL m (upd H d (.dK (putK kvs (.inr (tx k)) (.ref l)))) (putK kvs (.inr (tx k)) (.ref l)):=λ num a fZ hm hf=>by
 obtain⟨l',GB,b',e1,e2,e3,e4⟩:=h num a fZ hm hf;refine⟨l',GB,b',?_,?_,e3,?_⟩
 .rw [EF,if_neg (λ z=>by rw [z,hv] at e1;cases e1)];exact e1
 .rwa [fo (gA e2 hd (λ z=>nomatch z))]
 .rwa [fo (gA e4 hd (λ z=>nomatch z))]
end
theorem jA.off (f:jA fL mk H kvs) (g:yc Hb H d n m good kvs) (hD:H D=some (.lst ys)) (hb:Hb D≠Option.none):jA fL mk (upd H D (.lst zs)) kvs:=λ num a fZ hm hf=>by
 obtain⟨l,us,b,e1,e2,e3,e4⟩:=f num a fZ hm hf;obtain⟨l',_,e,fr,_⟩:=g.there e1
 cases e;exact⟨l,us,b,e1,by rw [fo (λ q=>hb (by rwa [<-q]))];exact e2,e3,by rwa [fo (gA e4 hD (λ z=>nomatch z))]⟩
theorem hI.Þ (h:hI kE yl es pl) (hp:es.length<=pl):hI kE yl es es.length:=
 ⟨h.up,(λ e f he _=>by rw [bA (az _)] at he;cases he),h.links,λ j e hj he=>h.done j e (Za hj hp) he⟩
structure nV (B H:Hp) (q:ac) (as:List ac) (rows:List (List Int)):Prop where
 at_:H q=some (.lst (as.map V.ref))
 all:fR (λ x (l:List Int)=>H x=some (.lst (l.map V.int))) as rows
 nd:as.Nodup
 new:∀x∈as,x≠q/\B x=none
 own:B q=none
def Sq (n:Nat) (rows:List (List Int)):Prop:=rows.length=n/\∀l∈rows,l.length=n
def qv (rows:List (List Int)) (a b:Nat):Int:=((rows[a]?).getD []).getD b 0
def wM (W:Wy) (n:Nat) (rows:List (List Int)):Prop:=Sq n rows/\∀a b,a<n->b<n->nW W a b (qv rows a b)
theorem Sq.row (h:Sq n rows) (ha:a<n):∃l,rows[a]? = some l/\l.length=n:=by
 have la:a<rows.length:=by rwa [h.1]
 exact⟨rows[a],by simp,h.2 _ (dE la)⟩
theorem Ik (h:rows[a]? = some l) (g:l[b]? = some e):qv rows a b=e:=by
 unfold qv;rw [h,Option.getD_some,bW,g];rfl
theorem Sq.at (h:Sq n rows) (hl:rows[a]? = some l) (hb:b<n):l[b]? = some (qv rows a b):=by
 have ll:=h.2 l (aq hl);have:l[b]? = some (l[b]'(Za hb (Zg ll))):=by simp
 rw [this,Ik hl this]
theorem Sq.put (h:Sq n rows) (hl:rows[a]? = some l):Sq n (rows.set a (l.set b e)):=by
 refine⟨by rw [bQ];exact h.1,λ x hx=> ?_⟩;rcases bZ hx with z|z
 .exact h.2 x z
 .rw [z,bQ];exact h.2 l (aq hl)
theorem Ea (h:Sq n rows) (hl:rows[a]? = some l) (hb:b<n) (a' b':Nat):qv (rows.set a (l.set b e)) a' b'=if a'=a/\b'=b then e else qv rows a' b':=by
 have al:=(ag.mp hl).1;have ll:=h.2 l (aq hl);by_cases ea:a'=a
 .subst ea;unfold qv;rw [bO al,Option.getD_some,hl,Option.getD_some,bW,bW];by_cases eb:b'=b
  .subst eb;rw [bO (Za hb (Zg ll)),if_pos ⟨rfl,rfl⟩];rfl
  .rw [cg (λ z=>eb z.symm),if_neg (λ z=>eb z.2)]
 .unfold qv;rw [cg (λ z=>ea z.symm),if_neg (λ z=>ea z.1)]
theorem nV.rows {B H:Hp} {q:ac} {as:List ac} {rows:List (List Int)} (h:nV B H q as rows):jV H q rows:=⟨as,h.at_,h.all⟩
theorem nV.get {B H:Hp} {q:ac} {as:List ac} {rows:List (List Int)} (h:nV B H q as rows) {a:Nat} {l:List Int} (hl:rows[a]? = some l):∃x,as[a]? = some x/\H x=some (.lst (l.map V.int)):=h.all.at hl
theorem nV.put {B H:Hp} {q:ac} {as:List ac} {rows:List (List Int)} (h:nV B H q as rows) {a:Nat} {x:ac} {l:List Int} (hx:as[a]? = some x):nV B (upd H x (.lst (l.map V.int))) q as (rows.set a l):=by
 have hm:=aq hx;exact⟨(fo (λ z=>(h.new x hm).1 z.symm)).trans h.at_,h.all.R3 h.nd hx (λ y l' _ hy e=>(fo hy).trans e) e_,h.nd,h.new,h.own⟩
theorem nV.of {B H:Hp} {q:ac} {ar ks:List ac} {rows:List (List Int)} (hl:ar.length=rows.length) (d:H q=some (.lst (ks.map V.ref))) (al:fR (λ (c:ac×List Int) p=>H p=some (.lst (c.2.map V.int))) (ar.zip rows) ks) (nd:ks.Nodup) (out:∀a∈ks,a≠q/\B a=none) (hq:B q=none):nV B H q ks rows:=by
 have go:∀{as:List ac} {fs:List (List Int)} {bs:List ac},as.length=fs.length->fR (λ (c:ac×List Int) p=>H p=some (.lst (c.2.map V.int))) (as.zip fs) bs->fR (λ y (l:List Int)=>H y=some (.lst (l.map V.int))) bs fs:=by
  intro as
  induction as with
  | nil=>
   intro fs bs hl h
   cases fs with
   | nil=>cases h;exact .nil
   | cons _ _=>cases hl
  | cons a as ih=>
   intro fs bs hl h
   cases fs with
   | nil=>cases hl
   | cons m fs=>
    cases h with
    | cons r t=>exact .cons r (ih (by simpa using hl) t)
 exact⟨d,go hl al,nd,out,hq⟩
theorem wM.Mx (h:wM W n rows) (sq:Sq n gj) (c:∀a b,a<n->b<n->qv gj a b=if a=b then 0 else qv rows a b):wM (LW yy W) n gj:=by
 refine⟨sq,λ a b ha hb=> ?_⟩;rw [c a b ha hb];by_cases e:a=b
 .subst e;rw [if_pos rfl];exact nW.Mx
 .rw [if_neg e];exact(h.2 a b ha hb).other e
theorem LA (K:ai) (hc:X.calm=true) (hK:X.K=K:=by rfl):kL X (.builtin "min") (λ xs H Q=>∃(p:ac) (ns:List Int),xs = [.ref p]/\gg K H p (ns.map V.int)/\ns≠[]/\∀m∈ns,(∀a∈ns,m<=a)->Q (.int m) H):=by
 subst hK;intro pins s σ H xs us Q I r h;obtain⟨p,ns,rfl,hq,hn,q⟩:=h;obtain⟨u,rfl,ru⟩:=r.one
 cases ru;obtain⟨its,rv,pl,_⟩:=I.list hq;obtain⟨zs,rfl,rfl⟩:=zL rv
 have hl:s.heap.IsList p (intItems zs.toArray):=by
  have:=pl.isList
  simpa [intItems] using this
 have z0:0<zs.length:=List.length_pos_iff.mpr λ z=>hn (by rw [z];rfl);refine min_intList (I.ok.hd hc) hl (by simpa using z0) λ v h' tk hv hk=> ?_;obtain⟨t,rfl⟩:=intItems_at hv;obtain⟨h1,h2⟩:=argBest_lt (numAt zs.toArray) (zs.toArray.size-1);have e:zs.toArray.size=zs.length:=by simp
 have ix:∀j,j<zs.length->numAt zs.toArray j∈zs.map (·.1):=λ j hj=>by
  refine aC.mpr ⟨zs[j],dE hj,?_⟩;simp [numAt,hj]
 refine⟨.int _,H,I.kept hk,⟨t,rfl⟩,q _ (ix _ (by lia)) λ a ha=> ?_⟩;obtain⟨y,hy,rfl⟩:=aC.mp ha;obtain⟨j,hj,rfl⟩:=List.getElem_of_mem hy;have:=h2 j (by lia);have e2:numAt zs.toArray j=(zs[j]).1:=by simp [numAt,hj]
 rw [e2] at this;exact this
theorem wG (K:ai) (hl:Bx (PE X l tl)) (h:X.K=K:=by rfl):Bx (PI X tg l (N5 K tl)):=⟨h▸Jk hl.un⟩
noncomputable def jS (W:Wy) (a b:Nat):Int:=by
 classical
 exact if h:∃e,nW W a b e then Classical.choose h else 0
theorem lS (h:nW W a b e):jS W a b=e:=by
 have h2:∃e,nW W a b e:=⟨e,h⟩
 unfold jS;rw [dif_pos h2];exact(Classical.choose_spec h2).one h
noncomputable def tab (W:Wy) (n:Nat):List (List Int):=(List.range n).map λ a=>(List.range n).map λ b=>jS W a b
theorem IL (h:∀a b,a<n->b<n->∃e,nW W a b e):wM W n (tab W n):=by
 refine⟨⟨by simp [tab],λ l hl=> ?_⟩,λ a b ha hb=> ?_⟩
 .obtain⟨a,_,rfl⟩:=aC.mp hl;simp
 .obtain⟨e,he⟩:=h a b ha hb
  have:qv (tab W n) a b=jS W a b:=by
   refine Ik (l:=(List.range n).map λ b=>jS W a b) ?_ ?_
   .unfold tab;rw [ak,cC ha];rfl
   .rw [ak,cC hb];rfl
  rwa [this,lS he]
theorem EJ (d:H D=some (.lst (ks.map V.ref))) (al:fR (λ (c:Nat) p=>H p=some (.lst (((List.range n).map λ b=>jS W c b).map V.int))) (List.range n) ks):jV H D (tab W n):=by
 refine⟨ks,d,?_⟩
 have go:∀{cs:List Nat} {bs:List ac},fR (λ (c:Nat) p=>H p=some (.lst (((List.range n).map λ b=>jS W c b).map V.int))) cs bs->fR (λ x (l:List Int)=>H x=some (.lst (l.map V.int))) bs (cs.map λ a=>(List.range n).map λ b=>jS W a b):=by
  intro cs bs h
  induction h with
  | nil=>exact .nil
  | cons r _ ih=>exact .cons r ih
 exact go al
theorem wM.iff (h:wM W n rows) (i:∀k a b,a<n->(W k a b↔W' k a b)):wM W' n rows:=⟨h.1,λ a b ha hb=>(h.2 a b ha hb).iff λ k=>i k a b ha⟩
theorem fR.Xa {α β:Type} {R S:α->β->Prop}:∀{as:List α} {bs:List β},fR R as bs->(∀a b,a∈as->R a b->S a b)->fR S as bs
 | _,_,.nil,_=>.nil
 | _,_,.cons r t,h=>.cons (h _ _ (by simp) r) (t.Xa λ a b ha r=>h a b (ay _ ha) r)
theorem t_ (l:List Nm):(l.map λ x=>V.str (tx x)).all kx=true:=by
 rw [cB];intro v hv;obtain⟨x,_,rfl⟩:=aC.mp hv;rfl
theorem DD {ts:List Nm} (nd:ts.Nodup) {t:Nm} (h:t∈ts):∃j:Nat,ts[j]? = some t/\(ts.map λ x=>V.str (tx x))[j]? = some (V.str (tx t))/\xl (V.str (tx t)) (V.str (tx t))=true/\∀(m:Nat) (z:V),m<j->(ts.map λ x=>V.str (tx x))[m]? = some z->xl z (V.str (tx t))=false:=by
 obtain⟨j,hj⟩:=aL.mp h;refine⟨j,hj,by rw [ak,hj];rfl,by simp [xl],λ m z hm hz=> ?_⟩;rw [ak] at hz;obtain⟨u,hu,rfl⟩:=Option.map_eq_some_iff.mp hz
 have ne:¬tx u=tx t:=λ q=>by
  have q:=iA.mp q;subst q;have:=(cx (ag.mp hu).1 nd).mp (hu.trans hj.symm);exact Zf hm (Zg this)
 show (tx u==tx t)=false;exact beq_eq_false_iff_ne.mpr ne
structure YQ (M:AJ) (es:List En) (m:List (Nm×Int)):Prop where
 nd:(m.map (·.1)).Nodup
 hit:∀(t:Nm) (k:Int),(t,k)∈m->∃(j:Nat) (e:En),k=(j:Int)/\es[j]? = some e/\e.th=t/\nR M e.rm=true/\∀(q:Nat) (f:En),q<j->es[q]? = some f->f.th=t->nR M f.rm=false
 all:∀f∈es,nR M f.rm=true->f.th∈m.map (·.1)
theorem JS (M:AJ):∀(n:Nat) (es:List En),es.length=n->YQ M es (iU M.ends es 0 [])
 | 0,es,h=>by
  have e:es = []:=cq.mp h;subst e;exact⟨ck,λ t k h=>(by cases h),λ f h=>(by cases h)⟩
 | n+1,es,h=>by
  have ne:es≠[]:=λ z=>by rw [z] at h;cases h
  have US:=List.dropLast_concat_getLast ne;generalize es.dropLast=init at US;generalize es.getLast ne=e at US;subst US;rw [ao,bg] at h;have ih:=JS M n init (Zq (Zs (Ze h)) (Zs (Zg h)))
  have old:∀{j:Nat} {y:En},init[j]? = some y->(init ++ [e])[j]? = some y:=λ {j y} hy=>by
   rwa [aP (ag.mp hy).1]
  have back:∀{j:Nat} {y:En},j<init.length->(init ++ [e])[j]? = some y->init[j]? = some y:=λ {j y} hj hy=>by
   rw [aP hj] at hy;exact hy
  rw [ub];generalize iU M.ends init 0 []=m at ih
  have hold:∀(t:Nm) (k:Int),(t,k)∈m->∃(j:Nat) (f:En),k=(j:Int)/\(init ++ [e])[j]? = some f/\f.th=t/\nR M f.rm=true/\∀(q:Nat) (g:En),q<j->(init ++ [e])[q]? = some g->g.th=t->nR M g.rm=false:=λ t k hm=>by
   obtain⟨j,f,h1,h2,h3,h4,h5⟩:=ih.hit t k hm;have jl:=(ag.mp h2).1;exact⟨j,f,h1,old h2,h3,h4,λ q g hq hg=>h5 q g hq (back (Za hq (Zl jl)) hg)⟩
  by_cases c:(M.ends[e.rm.toNat]?).getD false=true/\e.th∉m.map (·.1)
  .rw [if_pos c];refine⟨?_,λ t k hm=> ?_,λ f hf he=> ?_⟩
   .rw [ax,bN];refine⟨ih.nd,by simp,λ a ha b hb z=> ?_⟩;have hb:b=e.th:=by simpa using hb
    exact c.2 (by rwa [<-hb,<-z])
   .rcases aA.mp hm with z|z
    .exact hold t k z
    .cases aj.mp z;refine⟨init.length,e,by simp,by simp,rfl,c.1,λ q g hq hg ht=> ?_⟩
     cases b:nR M g.rm with
     | false=>rfl
     | true=>
      have:=ih.all g (aq (back hq hg)) b;rw [ht] at this;exact(c.2 this).elim
   .rw [ax];rcases aA.mp hf with z|z
    .exact aN _ (ih.all f z he)
    .rw [aj.mp z];exact aD _ (by simp)
  .rw [if_neg c];refine⟨ih.nd,hold,λ f hf he=> ?_⟩;rcases aA.mp hf with z|z
   .exact ih.all f z he
   .rw [aj.mp z] at he⊢;by_cases q:e.th∈m.map (·.1)
    .exact q
    .exact(c ⟨he,q⟩).elim
def nN (m:List (Nm×Int)) (t:Nm):Int:=((m.find? λ y=>decide (y.1=t)).map (·.2)).getD 0
theorem rS:∀{m:List (Nm×Int)} {t:Nm},t∈m.map (·.1)->(t,nN m t)∈m
 | [],t,h=>by cases h
 | y::m,t,h=>by
  by_cases c:y.1=t
  .have:nN (y::m) t=y.2:=by
    unfold nN;simp [bH,c]
   rw [this,<-c];exact aY
  .have e:nN (y::m) t=nN m t:=by
    unfold nN;simp [bH,c]
   rw [e];rw [aB] at h;rcases av.mp h with z|z
   .exact(c z.symm).elim
   .exact ay _ (rS z)
theorem KC (nd:(m.map (·.1)).Nodup) (h:t∈m.map (·.1)):hV (gH m) (.inr (tx t))=some (.int (nN m t)):=by
 have h2:=lj (l:=t) (m:=m);rw [decide_eq_true h] at h2
 cases q:hV (gH m) (.inr (tx t)) with
 | none=>
  rw [q] at h2
  cases h2
 | some v=>
  have hm:=nY q;unfold gH at hm;obtain⟨y,hy,e⟩:=aC.mp hm;injection e with e1 e2
  injection e1 with e1
  have e1:=iA.mp e1;have:=wb nd hy (rS h) e1;rw [<-e2,this]
theorem Oy {M:AJ} {es:List En} {ts:List Nm} (h:∀e∈es,e.th∈ts):(iU M.ends es 0 []).length<=ts.length:=by
 have p:=JS M es.length es rfl
 have:=mE _ ts p.nd λ x hx=>by
  obtain⟨y,hy,rfl⟩:=aC.mp hx;obtain⟨j,e,_,he,et,_⟩:=p.hit y.1 y.2 hy;rw [<-et];exact h e (aq he)
 rw [ae] at this;exact this
theorem Cj {α:Type} {J:It} {H1:Hp} {fr:List Nat} {σ:St} {tt:TT} {te:TE} {Q:VK} {cs:List α} {g:α->V} (T:Tells J H1 (cs.map g)) (p:α->Bool) (R:Hp->α->ac×ac->Prop) (live:∀H c x,R H c x->H x.2≠none) (mono:∀c x H H',fw H H'->R H c x->R H' c x) (hz:cs.length<=dL)
  (ht:∀c H2 Q2,c∈cs->fw H1 H2->(∀H3,fw H2 H3->Q2 (p c) H3)->tt (kN (g c) fr σ) H2 Q2)
  (he:∀c H2 Q2,c∈cs->p c=true->fw H1 H2->(∀x H3,H2 x.1=none->H2 x.2=none->fw H2 H3->R H3 c x->Q2 (.ref x.1) H3)->te (kN (g c) fr σ) H2 Q2)
  (off:∀H c x D ys zs,H D=some (.lst ys)->x.1≠D->x.2≠D->R H c x->R (upd H D (.lst zs)) c x)
  (hQ:∀D H2 (as:List (ac×ac)),H1 D=none->fw H1 H2->H2 D=some (.lst (as.map λ x=>V.ref x.1))->fR (R H2) (cs.filter p) as->(as.map (·.2)).Nodup->(∀a∈as,a.1≠D/\a.2≠D/\H1 a.2=none)->Q (.ref D) H2):vn J H1 fr σ tt te Q:=by
 intro D hD;have hlen:(cs.map g).length=cs.length:=ae ..;refine⟨λ i m ys H2=>m=cs.length-i/\i<=cs.length/\∃as:List (ac×ac),ys=as.map (λ x=>V.ref x.1)/\fR (R H2) ((cs.take i).filter p) as/\(as.map (·.2)).Nodup/\(∀a∈as,a.1≠D/\a.2≠D/\H1 a.2=none)/\fw H1 H2/\H2 D=some (.lst ys),⟨_,rfl,aQ _,[],rfl,.nil,ck,λ a ha=>(nomatch ha),fw.new hD,e_⟩,?_⟩;rintro i m ys H2 ⟨rfl,hi,as,rfl,a2,nd,out,s2,d2⟩;by_cases iT:i<cs.length
 .refine .inr ⟨T.go i H2 (by rwa [hlen]) s2,λ x H3 y=> ?_⟩;obtain⟨rfl,hx⟩:=T.CW i H2 x H3 s2 (by rwa [hlen]) y;rw [ak] at hx
  cases hc:cs[i]? with
  | none=>rw [hc] at hx;cases hx
  | some c=>
   rw [hc] at hx;obtain rfl:g c=x:=Option.some.inj hx;have hm:c∈cs:=aq hc;have tk:(cs.take (i+1)).filter p=(cs.take i).filter p++(if p c then [c] else []):=take_succ_filter p cs i c hc;refine ht c H3 _ hm s2 λ H4 s4=> ?_
   cases hp:p c with
   | false=>
    rw [hp] at tk;refine⟨_,?_,rfl,iT,as,rfl,by rw [tk];simpa using a2.imp λ a b r=>mono _ _ _ _ s4 r,nd,out,s2.trans s4,s4 _ _ d2⟩;exact V2 iT
   | true=>
    rw [hp] at tk;have d4:=s4 _ _ d2;have VA:=s2.trans s4;refine he c H4 _ hm hp VA λ x H5 rZ sV s5 r5=>⟨s5 _ _ d4,?_,_,?_,rfl,iT,as ++ [x],?_,?_,?_,?_,(VA.trans s5).gh hD,e_⟩
    .have h1:=a2.len;have h2:=bG p (cs.take i);rw [aX] at h2;rw [ae];lia
    .exact V2 iT
    .rw [ax];rfl
    .have p1:x.1≠D:=λ z=>by
      rw [z,d4] at rZ
      cases rZ
     have p2:x.2≠D:=λ z=>by
      rw [z,d4] at sV
      cases sV
     rw [tk,if_pos rfl];refine fR.snoc (off _ _ _ _ _ _ (s5 _ _ d4) p1 p2 r5) (fR.QL (λ a b hb r=>off _ _ _ _ _ _ (s5 _ _ d4) (out b hb).1 (out b hb).2.1 (mono _ _ _ _ (s4.trans s5) r)) a2)
    .rw [ax,bN];refine⟨nd,cH _ _,λ a ha b hb z=> ?_⟩;have hb:b=x.2:=by simpa using hb
     rw [hb] at z;obtain⟨y,hy,rfl⟩:=aC.mp ha;obtain⟨j,hj⟩:=aL.mp hy
     have jl:j<((cs.take i).filter p).length:=by
      rw [a2.len];exact(ag.mp hj).1
     have:=live _ _ _ (mono _ _ _ _ s4 (a2.get (bq jl) hj));rw [z] at this;exact this sV
    .intro a ha;rcases aA.mp ha with z|z
     .exact out a z
     .rw [aj.mp z];refine⟨λ z=> ?_,λ z=> ?_,VA.free sV⟩
      .rw [z,d4] at rZ
       cases rZ
      .rw [z,d4] at sV
       cases sV
 .obtain rfl:i=cs.length:=by exact Zq hi (Zi iT)
  exact .inl ⟨by have:=T.stop H2 s2;rw [hlen] at this;exact this,hQ D H2 as hD s2 d2 (by rw [br] at a2;exact a2) nd out⟩
def tX (n:Int):Prop:=n.natAbs<=500000000000000000000000000000000000000000000000000000000001
theorem tX.lt (h:tX n):n.natAbs<10 ^ 60:=by
 have big:(10:Nat) ^ 60=1000000000000000000000000000000000000000000000000000000000000:=by decide
 unfold tX at h;rw [big];exact Zb h (Zd rfl)
def zo (ts:List Nm) (rs:List (Int×ac×jQ)) (m:j_) (a b:Nat):Prop:=∃k to num,ts[a]? = some k/\ts[b]? = some to/\mU rs m k num to
def AE (rs:List (Int×ac×jQ)):Nm->List (Int×Bool)->Nm->List GA->Prop
 | h,[],e,ss=>h=e/\ss = []
 | h,w::ws,e,ss=>∃ad fZ Y3,(w.1,ad,fZ)∈rs/\kI fZ w.2=h/\ss=⟨fZ.name,fZ.weight,w.2⟩::Y3/\AE rs (jv fZ w.2) ws e Y3
def AV (M:AJ) (es:List En) (t:Nm):List (Int×Bool):=((jN es es.length (nN (iU M.ends es 0 []) t).toNat).map (sL M.jj es)).reverse
def zU (ts:List Nm) (M:AJ) (es:List En):List (Nm×List (Int×Bool)):=(ts.filter λ t=>decide (t∈(iU M.ends es 0 []).map (·.1))).map λ t=>(t,AV M es t)
structure CP (ts:List Nm) (rs:List (Int×ac×jQ)) (ms:List j_) (sh:Sh) (a:Nat) (st:Nm) (fs:List (Nm×List (Int×Bool))):Prop where
 Æ:fs.map (·.1)=((List.range ts.length).filter λ b=>decide (jS (pS (λ i a b=>∃m,ms[i]? = some m/\zo ts rs m a b) sh) a b<1000000)).map λ b=>(ts[b]?).getD []
 way:∀t ws,(t,ws)∈fs->∃(b:Nat) (ss:List GA),ts[b]? = some t/\jS (pS (λ i a b=>∃m,ms[i]? = some m/\zo ts rs m a b) sh) a b=(ws.length:Int)/\ws.length<=62/\AE rs st ws t ss/\ss.length=ws.length/\kS (λ i p=>∃m s,ms[i]? = some m/\ss[p]? = some s/\oH m s=true) sh 0 ws.length
theorem AE.snoc {rs:List (Int×ac×jQ)} {num:Int} {ad:ac} {fZ:jQ} {b:Bool} (hm:(num,ad,fZ)∈rs):∀{ws:List (Int×Bool)} {h:Nm} {ss:List GA},AE rs h ws (kI fZ b) ss->AE rs h (ws ++ [(num,b)]) (jv fZ b) (ss ++ [⟨fZ.name,fZ.weight,b⟩])
 | [],h,ss,⟨e1,e2⟩=>by
  subst e2;exact⟨ad,fZ,[],hm,e1.symm,rfl,rfl,rfl⟩
 | w::ws,h,ss,⟨ad',PM,Y3,h1,h2,h3,h4⟩=>by
  subst h3;exact⟨ad',PM,Y3 ++ [⟨fZ.name,fZ.weight,b⟩],h1,h2,rfl,AE.snoc hm h4⟩
theorem vW (h:plain rs=plain GY) (hm:(num,a,fZ)∈rs):∃a',(num,a',fZ)∈GY:=by
 have:(num,fZ)∈plain GY:=by
  rw [<-h];exact aC.mpr ⟨_,hm,rfl⟩
 obtain⟨⟨n,a',t⟩,h1,h2⟩:=aC.mp this
 cases h2;exact⟨a',h1⟩
theorem zS (h:plain rs=plain GY):mU rs m k num to↔mU GY m k num to:=by
 constructor
 .rintro⟨a,fZ,h1,h2⟩;obtain⟨a',h3⟩:=vW h h1;exact⟨a',fZ,h3,h2⟩
 .rintro⟨a,fZ,h1,h2⟩;obtain⟨a',h3⟩:=vW h.symm h1;exact⟨a',fZ,h3,h2⟩
def O7 (fL:List (Int×ac×jQ)) (jj:List j_) (r:Int) (k:Nm) (num:Int) (to:Nm):Prop:=∃mk,jj[(r-1).toNat]? = some mk/\mU fL mk k num to
theorem Nx (h:plain rs=plain fL):KP ts (O7 fL ms)=λ i a b=>∃m,ms[i]? = some m/\zo ts rs m a b:=by
 funext i a c
 refine propext ⟨?_,?_⟩
 .rintro⟨k,to,num,h1,h2,mk,h3,h4⟩;rw [show ((i:Int)+1-1).toNat=i from QaC] at h3;exact⟨mk,h3,k,to,num,h1,h2,(zS h).mpr h4⟩
 .rintro⟨mk,h3,k,to,num,h1,h2,h4⟩;exact⟨k,to,num,h1,h2,mk,by rwa [show ((i:Int)+1-1).toNat=i from QaC],(zS h).mp h4⟩
theorem Om (kn:Vi sh) (lv:sh.leaves=List.range ms.length) (md:kB (sh.real ms) M) (w:List Nat):mR M 0 w↔sh.In w:=by
 have Ι:sh.leaves=List.range' 0 sh.leaves.length:=by
  rw [lv,aJ];exact List.range_eq_range'
 exact⟨λ h=>wu (ms:=ms) kn 0 Ι (md.back h),λ h=>md.led (T3 h 0 Ι)⟩
theorem EO {es:List En} {ts:List Nm} {n:Nat} (nd:(es.map i5).Nodup) (hs:∀e∈es,e.th∈ts/\1<=e.rm/\e.rm<=n):es.length<=ts.length*n:=by
 have:=mE (es.map i5) (ts.flatMap λ t=>(List.range n).map λ (r:Nat)=>(t,(r:Int)+1)) nd λ x hx=>by
  obtain⟨e,he,rfl⟩:=aC.mp hx;obtain⟨h1,h2,h3⟩:=hs e he;refine List.mem_flatMap.mpr ⟨e.th,h1,aC.mpr ⟨(e.rm-1).toNat,aV.mpr (QaD h2 h3),?_⟩⟩;unfold i5;rw [show (((e.rm-1).toNat:Nat):Int)+1=e.rm by lia]
 rw [ae,List.length_flatMap] at this;simp only [ae,aJ] at this
 have sm:∀l:List Nm,(l.map λ _=>n).sum=l.length*n:=by
  intro l
  induction l with
  | nil=>simp
  | cons a l ih=>rw [aB,cj,ih,aG,Nat.succ_mul];exact Nat.add_comm _ _
 rw [sm] at this;exact this
theorem Ls {α:Type} {d:α} {ts:List α} {p:α->Bool} {q:Nat->Bool} (h:∀b t,ts[b]? = some t->p t=q b):ts.filter p=((List.range ts.length).filter q).map λ b=>(ts[b]?).getD d:=by
 have key:∀j,j<=ts.length->(ts.take j).filter p=((List.range j).filter q).map λ b=>(ts[b]?).getD d:=by
  intro j
  induction j with
  | zero=>intro _;rfl
  | succ j ih=>
   intro hj;have ht:ts[j]? = some (ts[j]' hj):=by simp
   rw [iJ ht,eY,List.filter_append,List.filter_append,ax,ih (Zc Zk hj)]
   congr 1
   have:=h j _ ht;generalize ts[j]' hj=t at ht this
   cases c:q j with
   | true=>
    rw [c] at this;simp [this,c,ht]
   | false=>
    rw [c] at this;simp [this,c]
 have:=key ts.length (az _);rw [br] at this;exact this
def HZ (fs:List (Nm×List (Int×Bool))):Tk:=.list (fs.map λ f=>.tuple [.str (tx f.1),.list (f.2.map Mi)])
theorem Lq (o:∀f∈fs,NA f.1):L_ 4 (HZ fs):=by
 refine FN (uX λ d hd=> ?_);obtain⟨f,hf,rfl⟩:=aC.mp hd;refine JN (uX λ d hd=> ?_);simp only [av,bb,or_false] at hd;rcases hd with rfl|rfl
 .exact⟨(JO (o f hf)).1,bj (JO (o f hf)).2 (aQ _)⟩
 .exact Mf f.2
structure i7 (B H:Hp) (q:ac) (ps:List (ac×ac)) (fs:List (Nm×List (Int×Bool))):Prop where
 at_:H q=some (.lst (ps.map λ x=>V.ref x.1))
 rows:fR (λ f (x:ac×ac)=>H x.1=some (.tup [.str (tx f.1),.ref x.2])/\hZ H x.2 f.2) fs ps
 nd:(ps.map (·.2)).Nodup
 new:∀x∈ps,x.2≠q/\B x.2=none
 own:B q=none
theorem i7.keep (h:i7 B H q ps fs) (kt:∀b xs,H b=some (.tup xs)->H' b=some (.tup xs)) (kl:∀b ys,B b=none->H b=some (.lst ys)->H' b=some (.lst ys)):i7 B H' q ps fs:=by
 refine⟨kl _ _ h.own h.at_,?_,h.nd,h.new,h.own⟩
 have go:∀{fs:List (Nm×List (Int×Bool))} {ps:List (ac×ac)},(∀x∈ps,B x.2=none)->fR (λ f (x:ac×ac)=>H x.1=some (.tup [.str (tx f.1),.ref x.2])/\hZ H x.2 f.2) fs ps->fR (λ f (x:ac×ac)=>H' x.1=some (.tup [.str (tx f.1),.ref x.2])/\hZ H' x.2 f.2) fs ps:=by
  intro fs ps hn h
  induction h with
  | nil=>exact .nil
  | cons r _ ih=>
   obtain⟨r1,as,r2,r3⟩:=r;exact .cons ⟨kt _ _ r1,as,kl _ _ (hn _ aY) r2,r3.imp λ _ _ z=>kt _ _ z⟩ (ih λ x hx=>hn x (ay _ hx))
 exact go (λ x hx=>(h.new x hx).2) h.rows
theorem i7.same (h:i7 B H q ps fs) (s:fw H H'):i7 B H' q ps fs:=h.keep (λ _ _ e=>s _ _ e) λ _ _ _ e=>s _ _ e
section
variable {M:AJ} {ts:List Nm} {rs fL:List (Int×ac×jQ)} {st:Nm} {es:List En} {good:Bool->Nm->Int->Nm->Prop}
theorem Mg (pe:plain rs=plain fL) (ok:qk M) (bk:iO M.jj good st es) (full:hI (jT M) (O7 fL M.jj) es es.length):∀(n k:Nat) (e:En),k<n->es[k]? = some e->∃(ss:List GA) (w:List Nat),AE rs st ((jN es k k).map (sL M.jj es)).reverse e.th ss/\ss.length=(jN es k k).length/\w.length=ss.length/\(∀(p i:Nat),w[p]? = some i->∃m s,M.jj[i]? = some m/\ss[p]? = some s/\oH m s=true)/\∀v,mR M e.rm v->mR M 0 (w++v)
 | 0,_,_,hk,_=>by lia
 | n+1,0,e,_,he=>by
  rw [bk.fst] at he
  cases he;exact⟨[],[],⟨rfl,rfl⟩,rfl,rfl,λ p i h=>by simp at h,λ v hv=>hv⟩
 | n+1,k+1,e,hk,he=>by
  obtain⟨j,f,jk,hb,hj,ff,hr,mk,FG,a,fZ,tm,fit,gf,gt⟩:=full.links k e he;obtain⟨ss,w,h1,h2,h3,h4,h5⟩:=Mg pe ok bk full n j f (Qab jk hk) hj;obtain⟨a',tm'⟩:=vW pe.symm tm;have rg:=BS ok hr;have er:((((e.rm-1).toNat:Nat):Int)+1)=e.rm:=by exact QaA rg
  have ň:sL M.jj es (k+1)=(e.num,mk.back):=by
   unfold sL;rw [he];show (e.num,((M.jj[(e.rm-1).toNat]?).map j_.back).getD false)=_;rw [FG];rfl
  refine⟨ss ++ [⟨fZ.name,fZ.weight,mk.back⟩],w ++ [(e.rm-1).toNat],?_,?_,by simp [h3],λ p i hp=> ?_,λ v hv=> ?_⟩
  .rw [pG bk he hb,aB,cP,ň,<-gt];refine AE.snoc tm' ?_
   rwa [gf]
  .rw [pG bk he hb];simp [h2]
  .by_cases c:p<w.length
   .rw [aP c] at hp;obtain⟨m,s,q1,q2,q3⟩:=h4 p i hp;exact⟨m,s,q1,by rwa [aP (Za c (Ze h3))],q3⟩
   .rw [bp (Zi c)] at hp
    have z:p-w.length=0:=by
     have:=(ag.mp hp).1;simp at this;exact this
    rw [z] at hp
    cases hp;exact⟨mk,_,FG,by rw [bp (Zc (Zg h3) (Zi c)),show p-ss.length=0 by lia];rfl,fit⟩
  .rw [bt];refine h5 _ ⟨by rwa [er],?_⟩
   rwa [er]
theorem HU {sh:Sh} {ms:List j_} {a:Nat} (pe:plain rs=plain fL) (ok:qk M) (kn:Vi sh) (lv:sh.leaves=List.range ms.length) (md:kB (sh.real ms) M) (bk:iO M.jj good st es) (jr:es.length<=2500) (Pr:∀e∈es,e.th∈ts) (WR:(es.map i5).Nodup) (full:hI (jT M) (O7 fL M.jj) es es.length) (nd:ts.Nodup) (ha:ts[a]? = some st) (sm:ts.length*ms.length<=62):CP ts rs ms sh a st (zU ts M es):=by
 have Â:M.jj=ms:=by rw [md.jj,Sh.E5 lv]
 have fits:=Om kn lv md;have EP:=JS M es.length es rfl;have h0:∃e0,es[0]? = some e0/\e0.th=st/\e0.rm=0/\e0.mX=0:=⟨_,bk.fst,rfl,rfl,rfl⟩
 have small:es.length<=63:=by
  cases es with
  | nil=>simp
  | cons e0 Gx=>
   have:=EO (es:=Gx) (ts:=ts) (n:=ms.length) (aZ.mp WR).2 λ e he=>by
    obtain⟨k,hk⟩:=aL.mp he;have hk':(e0::Gx)[k+1]? = some e:=by simpa using hk
    obtain⟨j,f,mk,_,_,_,_,r1,r2,_⟩:=bk.Pk k e hk';have:=(ag.mp r2).1;rw [Â] at this;exact⟨Pr e (ay _ he),r1,by lia⟩
   rw [aG];lia
 have mX:∀(n k:Nat) (e:En),k<n->es[k]? = some e->e.mX<=(k:Int):=by
  intro n
  induction n with
  | zero=>intro k e hk;lia
  | succ n ih=>
   intro k e hk UA
   cases k with
   | zero=>
    rw [bk.fst] at UA
    cases UA;exact cI _
   | succ k=>
    obtain⟨j,f,jk,_,hj,ff,_,_⟩:=full.links k e UA;have:=ih j f (Qab jk hk) hj;exact QaB ff jk this
 have hit:∀(b:Nat) (t:Nm),ts[b]? = some t->t∈(iU M.ends es 0 []).map (·.1)->∃(j:Nat) (e:En),(nN (iU M.ends es 0 []) t)=(j:Int)/\es[j]? = some e/\e.th=t/\nR M e.rm=true/\e.mX<=62/\nW (pS (λ i a b=>∃m,ms[i]? = some m/\zo ts rs m a b) sh) a b e.mX:=by
  intro b t hb hm;obtain⟨j,e,ej,hj,et,ee,first⟩:=EP.hit t _ (rS hm);have jl:=(ag.mp hj).1;have fj:=mX (j+1) j e (Nat.lt_succ_self _) hj;refine⟨j,e,ej,hj,et,ee,by lia,?_⟩;have:=full.least (ts:=ts) (az _) ok fits h0 nd ha Pr jr hj (by rwa [et]) ee (λ q f hq hf h=>first q f hq hf (h.trans et));rw [Nx pe,Â] at this;exact this
 refine⟨?_,?_⟩
 .unfold zU;rw [aR];refine Eq.trans (Eq.trans ?_ (List.map_id _)) (Ls (d:= []) (p:=λ t=>decide (t∈(iU M.ends es 0 []).map (·.1))) (q:=λ b=>decide (jS (pS (λ i a b=>∃m,ms[i]? = some m/\zo ts rs m a b) sh) a b<1000000)) λ b t hb=> ?_)
  .rfl
  .by_cases c:t∈(iU M.ends es 0 []).map (·.1)
   .obtain⟨j,e,_,_,_,_,f62,fs⟩:=hit b t hb c;rw [decide_eq_true c,lS fs,decide_eq_true (Yb f62 (by decide))]
   .have:=full.WJ (ts:=ts) (az _) fits h0 ha hb λ f hf ht=>by
     cases q:nR M f.rm with
     | false=>rfl
     | true=>exact(c (by rw [<-ht];exact EP.all f hf q)).elim
    rw [Nx pe,Â] at this;rw [decide_eq_false c,lS this,decide_eq_false (Yx (by decide))]
 .intro t ws hm;obtain⟨t',ht',e⟩:=aC.mp hm
  cases e;obtain⟨h1,h2⟩:=bF.mp ht';obtain⟨b,hb⟩:=aL.mp h1;obtain⟨j,e,ej,hj,et,ee,f62,fs⟩:=hit b t hb (of_decide_eq_true h2);have jl:=(ag.mp hj).1;obtain⟨ss,w,w1,w2,w3,w4,w5⟩:=Mg pe ok bk full (j+1) j e (Nat.lt_succ_self _) hj
  have hw:AV M es t=((jN es j j).map (sL M.jj es)).reverse:=by
   unfold AV;rw [ej,au,rT bk es.length j j (Zl jl) (az _) jl]
  have lw:(AV M es t).length=(jN es j j).length:=by rw [hw,List.length_reverse,ae]
  have fe:=bk.mX j e hj
  have r0:mR M 0 w:=by
   have:=w5 [] ee;rw [bI] at this;exact this
  refine⟨b,ss,hb,by rwa [lS fs,lw],by lia,by rwa [hw,<-et],w2.trans lw.symm,?_⟩
  have:=kS.of (fit:=λ i p=>∃m s,ms[i]? = some m/\ss[p]? = some s/\oH m s=true) ((fits w).mp r0) 0 λ p i hp=>by
   rw [eG];rw [<-Â];exact w4 p i hp
  rw [eG,show w.length=(AV M es t).length from Zq (Zc (Ze w3) (Zc (Ze w2) (Zg lw))) (Zc (Ze lw) (Zc (Zg w2) (Zg w3)))] at this;exact this
end
structure gS (no:List ac) (H H':Hp):Prop where
 tup:∀b xs,H b=some (.tup xs)->H' b=some (.tup xs)
 lst:∀b ys,b∉no->H b=some (.lst ys)->H' b=some (.lst ys)
section
variable {no no':List ac} {H H' H2:Hp}
theorem gS.refl (no:List ac) (H:Hp):gS no H H:=⟨λ _ _ e=>e,λ _ _ _ e=>e⟩
theorem fw.kH (s:fw H H'):gS no H H':=⟨λ _ _ e=>s _ _ e,λ _ _ _ e=>s _ _ e⟩
theorem gS.trans (a:gS no H H') (b:gS no H' H2):gS no H H2:=⟨λ c xs e=>b.tup c xs (a.tup c xs e),λ c ys n e=>b.lst c ys n (a.lst c ys n e)⟩
theorem gS.mono (a:gS no H H') (h:∀b∈no,b∈no'):gS no' H H':=⟨a.tup,λ b ys n e=>a.lst b ys (λ z=>n (h b z)) e⟩
theorem gS.put (hp:p∈no) (h:H p=some (.lst ys)):gS no H (upd H p o):=
 ⟨λ b xs e=>(fo (gA e h (λ z=>nomatch z))).trans e,λ b zs n e=>(fo (λ z=>n (by rwa [z]))).trans e⟩
theorem gS.dic (h:H p=some (.dK kvs)):gS no H (upd H p o):=
 ⟨λ b xs e=>(fo (gA e h (λ z=>nomatch z))).trans e,λ b zs n e=>(fo (gA e h (λ z=>nomatch z))).trans e⟩
theorem gk.kH (w:gk C H p W) (s:Step H (W.own p) H' F'):gS no H H':=by
 refine⟨s.tup,λ b ys _ e=>s.off b _ (λ z=> ?_) e⟩;simp only [WS.own,av,aC] at z;rcases z with rfl|rfl|rfl | ⟨x,hx,rfl⟩
 .rw [w.obj] at e;cases e
 .rw [w.val] at e;cases e
 .rw [w.fZ] at e;cases e
 .rw [w.each x hx] at e;cases e
theorem nE.kH (h:nE H a ms) (k:gS no H H') (n:a∉no):nE H' a ms:=by
 obtain⟨am,e,al⟩:=h;exact⟨am,k.lst _ _ n e,al.imp λ _ _ r=>⟨k.tup _ _ r.1,r.2⟩⟩
theorem hZ.kH (h:hZ H a ws) (k:gS no H H') (n:a∉no):hZ H' a ws:=by
 obtain⟨as,e,al⟩:=h;exact⟨as,k.lst _ _ n e,al.imp λ _ _ r=>k.tup _ _ r⟩
structure rG (no:List ac) (H:Hp) (q:ac) (fs:List (Nm×List (Int×Bool))):Prop where
 out:q∉no
 at_:∃ps:List (ac×ac),H q=some (.lst (ps.map λ x=>V.ref x.1))/\fR (λ f (x:ac×ac)=>H x.1=some (.tup [.str (tx f.1),.ref x.2])/\x.2∉no/\hZ H x.2 f.2) fs ps
theorem rG.keep (h:rG no H q fs) (k:gS no H H'):rG no H' q fs:=by
 obtain⟨o,ps,e,al⟩:=h;exact⟨o,ps,k.lst _ _ o e,al.imp λ _ _ ⟨r1,r2,r3⟩=>⟨k.tup _ _ r1,r2,r3.kH k r2⟩⟩
theorem rG.dat {K:ai} {q:ac} {fs:List (Nm×List (Int×Bool))} (h:rG no H q fs):rH K H (.ref q) (HZ fs):=by
 obtain⟨_,ps,e,al⟩:=h;refine .lst (gg.of e) ?_
 have go:∀{fs:List (Nm×List (Int×Bool))} {ps:List (ac×ac)},fR (λ f (x:ac×ac)=>H x.1=some (.tup [.str (tx f.1),.ref x.2])/\x.2∉no/\hZ H x.2 f.2) fs ps->qo K H (ps.map λ x=>V.ref x.1) (fs.map λ f=>.tuple [.str (tx f.1),.list (f.2.map Mi)]):=by
  intro fs ps h
  induction h with
  | nil=>exact .nil
  | cons r _ ih=>exact .cons (.tup (oV.of r.1) (.cons (.str _) (.cons r.2.2.dat .nil))) ih
 exact go al
theorem i7.toK (h:i7 B H q ps fs) (al:∀b∈no,B b≠none):rG no H q fs:=by
 refine⟨λ z=>al q z h.own,ps,h.at_,?_⟩
 have go:∀{fs:List (Nm×List (Int×Bool))} {ps:List (ac×ac)},(∀x∈ps,B x.2=none)->fR (λ f (x:ac×ac)=>H x.1=some (.tup [.str (tx f.1),.ref x.2])/\hZ H x.2 f.2) fs ps->fR (λ f (x:ac×ac)=>H x.1=some (.tup [.str (tx f.1),.ref x.2])/\x.2∉no/\hZ H x.2 f.2) fs ps:=by
  intro fs ps hn h
  induction h with
  | nil=>exact .nil
  | cons r _ ih=>exact .cons ⟨r.1,λ z=>al _ z (hn _ aY),r.2⟩ (ih λ x hx=>hn x (ay _ hx))
 exact go (λ x hx=>(h.new x hx).2) h.rows
def AH (no:List ac) (H:Hp) (u v:V):Prop:=(u = .i6/\v = .i6)\/∃(q kq:ac) (fs:List (Nm×List (Int×Bool))),u = .ref q/\v = .ref kq/\(∀f∈fs,NA f.1)/\rG no H q fs/\rG no H kq fs
theorem AH.keep (h:AH no H u v) (k:gS no H H'):AH no H' u v:=by
 rcases h with h | ⟨q,kq,fs,h1,h2,h3,h4,h5⟩
 .exact .inl h
 .exact .inr ⟨q,kq,fs,h1,h2,h3,h4.keep k,h5.keep k⟩
def AF (no:List ac) (H:Hp) (vs:List V) (n:Nat):Prop:=vs.length=2*n/\∀k,k<n->∃u v,vs[2*k]? = some u/\vs[2*k+1]? = some v/\AH no H u v
theorem AF.none:AF no H [] 0:=⟨rfl,λ k hk=>by lia⟩
theorem AF.keep (h:AF no H vs n) (k:gS no H H'):AF no H' vs n:=⟨h.1,λ j hj=>let ⟨u,v,h1,h2,h3⟩:=h.2 j hj;⟨u,v,h1,h2,h3.keep k⟩⟩
theorem AF.add (h:AF no H vs n) (p:AH no H u v):AF no H (vs ++ [u] ++ [v]) (n+1):=by
 refine⟨by rw [ao,ao,h.1,bg,bg];exact rfl,λ k hk=> ?_⟩;have l:=h.1;by_cases c:k<n
 .obtain⟨u',v',h1,h2,h3⟩:=h.2 k c;refine⟨u',v',?_,?_,h3⟩
  .rwa [bt,aP (by lia)]
  .rwa [bt,aP (by lia)]
 .have e:k=n:=by exact Zq (Zs hk) (Zi c)
  subst e;refine⟨u,v,?_,?_,p⟩
  .rw [bt,bp (Ze l),show 2*k-vs.length=0 from Nat.sub_eq_zero_of_le (Zg l)];rfl
  .rw [bt,bp (Zc (Ze l) Zk),show 2*k+1-vs.length=1 by lia];rfl
theorem AH.dat {K:ai} {u v:V} (h:AH no H u v):∃d,rH K H u d/\rH K H v d/\L_ 4 d:=by
 rcases h with ⟨rfl,rfl⟩ | ⟨q,kq,fs,rfl,rfl,h3,h4,h5⟩
 .exact⟨.none,.i6,.i6,by unfold L_;decide⟩
 .exact⟨HZ fs,h4.dat,h5.dat,Lq h3⟩
end
theorem Fb (w:gk C H p W) (e:H l=some (.lst ys)):l∉W.own p:=λ z=>by
 simp only [WS.own,av,aC] at z;rcases z with rfl|rfl|rfl | ⟨x,hx,rfl⟩
 .rw [w.obj] at e;cases e
 .rw [w.val] at e;cases e
 .rw [w.fZ] at e;cases e
 .rw [w.each x hx] at e;cases e
theorem Lz (as:List Int) (lo:Int) (h0:0<=lo):sE (as.map V.int) (some lo) none=(as.drop lo.toNat).map V.int:=by
 obtain⟨k,rfl⟩:=cJ h0;unfold sE;rw [HT.E2,HT.Jc,au,ae,List.map_drop];by_cases h:k<=as.length
 .rw [Nat.min_eq_left h];exact dI (by rw [cV,ae];exact Nat.le_refl _)
 .rw [Nat.min_eq_right (Zl (Zj h)),List.drop_of_length_le (by rw [ae];exact Nat.le_refl _),List.drop_of_length_le (by rw [ae];exact Zl (Zj h))];simp
structure gN (K:ai) (x:Str) (st:pc) (f:ac) (d:ce):Prop where
 at_:aU K ii x=some (some (.ref f))
 fn:Pb K x x st f d
structure i4 (K:ai) (C:ac) (m q:Str) (st:pc) (f:ac) (d:ce):Prop where
 at_:bw K (.ref C) m=some (some (.ref f))
 n:dG K (.ref f)=true
 fn:Pb K m q st f d
section
variable {K:ai} {st:pc} {f:ac} {d:ce} {ps:List Str}
theorem gN.ok (D:gN K x st f d) (X:K.In h) (G:h.Ns ii mg) (b:∀(kV doc pm:bv) (an:Option ac) (iw ct:bv) (us:List bv),us.length=ps.length->JaZ (cb x x (nr st) (ky st) (fC st) .none kV doc pm an iw ct) ⟨us,[]⟩=pure (ps.zip us):=by intro _ _ _ _ _ _;first|exact T1 λ _=>rfl|exact ln2 λ _ _=>rfl|exact ā λ _ _ _=>rfl|exact RY λ _ _ _ _=>rfl|exact ZO λ _ _ _ _ _=>rfl|exact Ā λ _ _ _ _ _ _=>rfl):gD K mg x st ps f d:=⟨D.fn,D.fn.binds b,bu X G D.at_⟩
theorem i4.ok (D:i4 K C m q st f d) (b:∀(kV doc pm:bv) (an:Option ac) (iw ct:bv) (us:List bv),us.length=ps.length->JaZ (cb m q (nr st) (ky st) (fC st) .none kV doc pm an iw ct) ⟨us,[]⟩=pure (ps.zip us):=by intro _ _ _ _ _ _;first|exact T1 λ _=>rfl|exact ln2 λ _ _=>rfl|exact ā λ _ _ _=>rfl|exact RY λ _ _ _ _=>rfl|exact ZO λ _ _ _ _ _=>rfl|exact Ā λ _ _ _ _ _ _=>rfl):iC K C m q st ps f d:=⟨⟨D.at_,D.n,D.fn.kp⟩,D.fn,D.fn.binds b⟩
end
section
variable {α:Type} {P:List α->Prop}
theorem ln0 (h:P []):∀us,us.length=0->P us
 | [],_=>h
theorem RX (h:∀a,∀us:List α,us.length=n->P (a::us)):∀us,us.length=n+1->P us
 | a::us,e=>h a us (Nat.succ.inj e)
end
theorem T1 {α:Type} {P:List α->Prop} (h:∀a,P [a]):∀us,us.length=1->P us:=RX λ a=>ln0 (P:=λ us=>P (a::us)) (h a)
theorem ln2 {α:Type} {P:List α->Prop} (h:∀a b,P [a,b]):∀us,us.length=2->P us:=RX λ a=>T1 (P:=λ us=>P (a::us)) (h a)
theorem ā {α:Type} {P:List α->Prop} (h:∀a b c,P [a,b,c]):∀us,us.length=3->P us:=RX λ a=>ln2 (P:=λ us=>P (a::us)) (h a)
theorem RY {α:Type} {P:List α->Prop} (h:∀a b c d,P [a,b,c,d]):∀us,us.length=4->P us:=RX λ a=>ā (P:=λ us=>P (a::us)) (h a)
theorem ZO {α:Type} {P:List α->Prop} (h:∀a b c d e,P [a,b,c,d,e]):∀us,us.length=5->P us:=RX λ a=>RY (P:=λ us=>P (a::us)) (h a)
theorem Ā {α:Type} {P:List α->Prop} (h:∀a b c d e f,P [a,b,c,d,e,f]):∀us,us.length=6->P us:=RX λ a=>ZO (P:=λ us=>P (a::us)) (h a)
theorem ln7 {α:Type} {P:List α->Prop} (h:∀a b c d e f g,P [a,b,c,d,e,f,g]):∀us,us.length=7->P us:=RX λ a=>Ā (P:=λ us=>P (a::us)) (h a)
theorem ln8 {α:Type} {P:List α->Prop} (h:∀a b c d e f g i,P [a,b,c,d,e,f,g,i]):∀us,us.length=8->P us:=RX λ a=>ln7 (P:=λ us=>P (a::us)) (h a)
theorem exV {a:V} {P:V->Prop}:(∃v,(some (some a):Option (Option V))=some (some v)/\P v)=P a:=propext ⟨λ ⟨_,e,h⟩=>by cases e;exact h,λ h=>⟨a,rfl,h⟩⟩
theorem exI {n:Int} {P:Int->Prop}:(∃i,V.int n=V.int i/\P i)=P n:=propext ⟨λ ⟨_,e,h⟩=>by cases e;exact h,λ h=>⟨n,rfl,h⟩⟩
theorem exB {n:Bool} {P:Bool->Prop}:(∃i,V.bl n=V.bl i/\P i)=P n:=propext ⟨λ ⟨_,e,h⟩=>by cases e;exact h,λ h=>⟨n,rfl,h⟩⟩
theorem exR {n:ac} {P:ac->Prop}:(∃i,V.ref n=V.ref i/\P i)=P n:=propext ⟨λ ⟨_,e,h⟩=>by cases e;exact h,λ h=>⟨n,rfl,h⟩⟩
theorem Ň {m n:Int} {P:Int->Int->Prop}:(∃i j,V.int m=V.int i/\V.int n=V.int j/\P i j)=P m n:=propext ⟨λ ⟨_,_,e,f,h⟩=>by cases e;cases f;exact h,λ h=>⟨m,n,rfl,rfl,h⟩⟩
theorem exL {a:ac} {α:Type} {P:ac->α->Prop}:(∃p y,[V.ref a] = [V.ref p]/\P p y)=∃y,P a y:=propext ⟨λ ⟨_,y,e,h⟩=>by cases e;exact⟨y,h⟩,λ ⟨y,h⟩=>⟨a,y,rfl,h⟩⟩
theorem jY (h:∀A B:St->Hp->Prop,(∀σ H,t1 D σ H->A σ H)->(∀σ H,t2 D σ H->B σ H)->Kp c (λ _=>A) (λ _=>B) D σ H):Kp c t1 t2 D σ H:=
 h (λ σ H=>t1 D σ H) (λ σ H=>t2 D σ H) (λ _ _ x=>x) λ _ _ x=>x
end L2
namespace Ţ
open PySem L2
def top (i:Nat):pc:=PySem.Challenge.pw_tieseek_k32_whole_reached_as_the_web_tur.main.body.getD i (.Pass ⟨0,0,0,0⟩)
abbrev qJ:pc:=top 13
abbrev nL:pc:=top 14
abbrev tN:pc:=top 17
abbrev vH:pc:=top 23
abbrev mh:pc:=top 24
abbrev GU:pc:=top 25
abbrev qK:pc:=top 27
abbrev qL:pc:=top 28
abbrev vR:pc:=top 29
abbrev tM:pc:=top 31
abbrev GV:pc:=top 32
abbrev y_:pc:=top 33
abbrev vS:pc:=top 34
abbrev vG:pc:=top 35
abbrev pd:pc:=top 39
abbrev mj:pc:=top 40
abbrev qH:pc:=top 43
abbrev vM:pc:=top 44
abbrev vL:pc:=top 45
abbrev vI:pc:=top 46
abbrev zd:pc:=top 47
abbrev tP:pc:=top 48
abbrev qF:pc:=top 49
abbrev Dj:pc:=top 50
abbrev vO:pc:=top 51
abbrev za:pc:=top 52
abbrev qG:pc:=top 53
abbrev tQ:pc:=top 54
abbrev vK:pc:=top 55
abbrev tO:pc:=top 56
abbrev vN:pc:=top 57
abbrev vQ:pc:=top 58
abbrev vJ:pc:=top 59
abbrev qI:pc:=top 60
abbrev Dk:pc:=top 61
abbrev nK:pc:=top 62
abbrev pb:pc:=top 63
abbrev zb:pc:=top 64
abbrev zc:pc:=top 65
abbrev vP:pc:=top 66
abbrev lF:pc:=top 67
abbrev MK:pc:=top 68
abbrev mw:pc:=inClass (top 22) 0
abbrev mr:pc:=inClass (top 22) 1
abbrev mn:pc:=inClass (top 22) 2
abbrev jP:pc:=inClass (top 22) 3
abbrev km:pc:=inClass (top 22) 4
abbrev j3:pc:=inClass (top 22) 5
abbrev jx:pc:=inClass (top 22) 6
abbrev tT:pc:=inClass (top 41) 0
abbrev kj:pc:=inClass (top 41) 1
abbrev lH:pc:=inClass (top 41) 2
abbrev lI:pc:=inClass (top 41) 3
abbrev kP:pc:=inClass (top 41) 4
abbrev gC:pc:=inClass (top 41) 7
abbrev nM:pc:=inClass (top 41) 8
abbrev lG:pc:=inClass (top 41) 9
abbrev pf:pc:=inClass (top 41) 10
abbrev tR:pc:=inClass (top 41) 13
abbrev vT:pc:=inClass (top 41) 14
abbrev ph:pc:=inClass (top 41) 15
abbrev tS:pc:=inClass (top 41) 16
def vw:Str:="abcdefghijklmnopqrstuvwxyz"
def tG:Str:="_"
theorem cs0:Str.ofString "mark" = tx [109,97,114,107]:=by decide +kernel
theorem OM:Str.ofString "or" = tx [111,114]:=by decide +kernel
theorem cs2:Str.ofString "row" = tx [114,111,119]:=by decide +kernel
theorem cs3:Str.ofString "maybe" = tx [109,97,121,98,101]:=by decide +kernel
theorem cs4:Str.ofString "some" = tx [115,111,109,101]:=by decide +kernel
theorem cs5:Str.ofString "<" = tx [60]:=by decide +kernel
theorem cs6:Str.ofString ">" = tx [62]:=by decide +kernel
theorem cs7:Str.ofString "=" = tx [61]:=by decide +kernel
theorem cs8:Str.ofString "!" = tx [33]:=by decide +kernel
theorem cs9:Str.ofString "abcdefghijklmnopqrstuvwxyz" = tx [97,98,99,100,101,102,103,104,105,106,107,108,109,110,111,112,113,114,115,116,117,118,119,120,121,122]:=by decide +kernel
theorem X4:Str.ofString "" = tx []:=by decide +kernel
theorem X3:Str.ofString "_" = tx [95]:=by decide +kernel
theorem X2:Str.ofString "many" = tx [109,97,110,121]:=by decide +kernel
theorem Ah:vw=tx [97,98,99,100,101,102,103,104,105,106,107,108,109,110,111,112,113,114,115,116,117,118,119,120,121,122]:=by decide +kernel
theorem xw:tG=tx [95]:=by decide +kernel
local macro_rules | `(tactic| walk_at "rd")=> `(tactic| ((try dsimp only [L2.start,yD,tC,Ko,YY,Vy,EL,AX,PQ,IV,Mt,IS,Kp,EK,tB,PZ,Y0,PU,IX,PR,IQ,Y1,wO,sI,IT,PN,PV,xO,nj,YZ,IP,yg,Wb,PY,rI,Ph,rU,aB,bz,aG,aW,List.replicate,cW,eZ,List.getElem?_cons_zero,dF,dn,dq,Nat.reduceSub,Nat.reduceAdd,kN,Option.join,Option.bind_some,id_eq,Y',ç,P5,IW,eA,Bool.not_false,Vs,Vq,Int.reduceLT,Int.reduceLE,Int.reducePow,Nat.reduceLT,Nat.reduceLeDiff,Int.reduceToNat,Int.reduceNeg,Nat.reducePow,C2,C4,P7,Bp,PX,yh,Jd,C8,C7,Dp,G2,G0,Dn,SY,CV,IU,S1,G1,Q4,JM,Q8,C9,C6,C5,C3,IM,Al,LY,zg,cs0,OM,cs2,cs3,cs4,cs5,cs6,cs7,cs8,cs9,X4,X3,X2,Ah,xw,Q5,MW,yE]);(try simp only [↓exV,↓exI,↓exB,↓exR,↓Ň,↓exL,↓exists_eq_left',L2.start,yD,tC,Ko,YY,Vy,EL,AX,PQ,IV,Mt,IS,Kp,EK,tB,PZ,Y0,PU,IX,PR,IQ,Y1,wO,sI,IT,PN,PV,xO,nj,YZ,IP,yg,Wb,PY,rI,Ph,rU,aB,bz,aG,aW,List.replicate,cW,eZ,bI,List.getElem?_cons_zero,dF,dn,dq,Option.some.injEq,V.int.injEq,V.str.injEq,V.bl.injEq,V.ref.injEq,V.ty.injEq,List.cons.injEq,and_true,true_and,exists_and_left,exists_eq_left',exists_eq_left,decide_eq_true_eq,Nat.sub_self,Nat.reduceSub,Nat.reduceAdd,yA,reduceCtorEq,false_and,exists_false,if_false,if_true,cD,and_assoc,kN,Option.join,Option.bind_some,id_eq,Y',ç,P5,IW,Bool.not_eq_true',decide_eq_false_iff_not,eA,Bool.not_false,not_true_eq_false,not_false_eq_true,decide_true,decide_false,rM,CZ,iA,Vs,Vq,PK,Int.reduceLT,Int.reduceLE,Int.reducePow,Nat.reduceLT,Nat.reduceLeDiff,Int.reduceToNat,Int.reduceNeg,Nat.reducePow,C2,C4,P7,Bp,PX,yh,Jd,C8,C7,Dp,G2,G0,Dn,SY,CV,IU,S1,G1,Q4,JM,Q8,C9,C6,C5,C3,IM,Al,LY,zg,cs0,OM,cs2,cs3,cs4,cs5,cs6,cs7,cs8,cs9,X4,X3,X2,Ah,xw,Q5,MW,yE])))
local macro_rules | `(tactic| walk_at "o")=> `(tactic| first|exact Or.inl rfl|exact Or.inr rfl)
local macro_rules | `(tactic| walk_at "sc")=> `(tactic| exact⟨rfl,rfl,rfl,by decide +kernel,rfl,by decide +kernel,by decide +kernel⟩)
local macro_rules | `(tactic| walk_at "rs")=> `(tactic| simp only [L2.start,aB,bz,aG,aW,List.replicate,cW,eZ,bI,Nat.sub_self,Nat.reduceSub,Nat.reduceAdd])
local macro_rules | `(tactic| walk_at "rg")=> `(tactic| simp only [nj,dn,dq])
set_option genInjectivity false in
set_option genSizeOf false in
structure Ad where
 xG:ac
 xt:ce
 tj:ac
 sY:ce
 uh:ac
 ud:ce
 CA:ac
 B0:ce
 rj:ac
 qU:ce
 O0:ac
 OI:ce
 xH:ac
 xu:ce
 xI:ac
 xv:ce
 CK:ac
 Cd:ce
 Au:ac
 zY:ce
 O1:ac
 OJ:ce
 Ga:ac
 FQ:ce
 CL:ac
 Ce:ce
 Cz:ac
 BZ:ce
 vg:ac
 u0:ce
 rk:ac
 qV:ce
 xE:ac
 xp:ce
 CF:ac
 B_:ce
 CD:ac
 B3:ce
 CB:ac
 B1:ce
 Ge:ac
 FU:ce
 Ax:ac
 Aa:ce
 xC:ac
 xn:ce
 J9:ac
 JW:ce
 CH:ac
 Ca:ce
 Aw:ac
 z_:ce
 xD:ac
 xo:ce
 Ay:ac
 Ab:ce
 wI:ac
 wB:ce
 Av:ac
 zZ:ce
 CG:ac
 B':ce
 CJ:ac
 Cc:ce
 CC:ac
 B2:ce
 xF:ac
 xq:ce
 Ei:ac
 DZ:ce
 tf:ac
 sX:ce
 vf:ac
 uZ:ce
 Gb:ac
 FR:ce
 Gd:ac
 FT:ce
 CI:ac
 Cb:ce
 qd:ac
 p_:ce
 mQ:ac
 qX:ce
 rq:ac
 qW:ce
 iq:ac
 ik:ce
 lO:ac
 lN:ce
 nD:ac
 ny:ce
 mP:ac
 mJ:ce
 kK:ac
 kJ:ce
 ui:ac
 Af:ce
 nC:ac
 nv:ce
 qh:ac
 qb:ce
 qi:ac
 qc:ce
 oO:ac
 oK:ce
 tw:ac
 s_:ce
 tq:ac
 sZ:ce
 qg:ac
 qa:ce
 vh:ac
 u4:ce
 Az:ac
 Ac:ce
 CM:ac
 Cf:ce
 vi:ac
 u5:ce
 AA:ac
 Ae:ce
 qY:ac
 oM:ac
 kR:ac
 jI:ac
 pK:ac
 u9:ac
 lB:ac
 An:ac
 gb:ac
 g9:ac
abbrev Ad.cs (t:Ad):List ac:= [t.oM,t.kR,t.jI,t.pK,t.u9,t.lB,t.An]
structure Txt (K:ai) (mg:Str->Option bv) (t:Ad):Prop where
 BO:gD K mg "good_name" qJ ["text"] t.xG t.xt
 xk:gD K mg "few_figures" nL ["number"] t.tj t.sY
 uO:gD K mg "marks_of" tN ["tree"] t.uh t.ud
 machine:gD K mg "machine" vH ["tree"] t.CA t.B0
 uv:gD K mg "weight_meets" mh ["weight","sign","number"] t.rj t.qU
 fits:gD K mg "fits" GU ["mark","step"] t.O0 t.OI
 BP:gD K mg "gone_step" qK ["tie","back"] t.xH t.xu
 BQ:gD K mg "gone_from" qL ["tie","back"] t.xI t.xv
 JJ:gD K mg "gone_to" vR ["tie","back"] t.CK t.Cd
 Fp:gD K mg "moves_by" tM ["web","mark"] t.Au t.zY
 book:gD K mg "book" GV ["web","made","start"] t.O1 t.OJ
 Mh:gD K mg "way_in" y_ ["made","entries","place"] t.Ga t.FQ
 JR:gD K mg "ends_in" vS ["made","entries"] t.CL t.Ce
 Jg:gD K mg "reached" vG ["web","tree","start"] t.Cz t.BZ
 ue:gD K mg "check_name" pd ["name"] t.vg t.u0
 u6:gD K mg "check_number" mj ["number"] t.rk t.qV
 rX:gD K mg "_law_cell_at" qH ["script","k"] t.xE t.xp
 ym:gD K mg "_law_mixed" vM ["cell"] t.CF t.B_
 Jz:gD K mg "_law_names" vL ["cell"] t.CD t.B3
 Jy:gD K mg "_law_whole" vI ["found"] t.CB t.B1
 HI:gD K mg "_law_base" zd ["cell"] t.Ge t.FU
 zD:gD K mg "_law_number" tP ["cell","turn","base"] t.Ax t.Aa
 BI:gD K mg "_law_mark_by" qF ["cell","names","base"] t.xC t.xn
 l_fit:gD K mg "_law_fit" Dj ["mark","step"] t.J9 t.JW
 JB:gD K mg "_law_grown" vO ["cells","names","base","most"] t.CH t.Ca
 wj:gD K mg "_law_real" za ["shape","marks"] t.Aw t.z_
 wo:gD K mg "_law_closure" qG ["inner"] t.xD t.xo
 zF:gD K mg "_law_behind" tQ ["left","right"] t.Ay t.Ab
 rW:gD K mg "_law_spans" vK ["shape","fitted","size"] t.wI t.wB
 FA:gD K mg "_law_things" tO ["cell","many"] t.Av t.zZ
 JA:gD K mg "_law_least" vN ["row","right","b"] t.CG t.B'
 DK:gD K mg "_law_again" vQ ["far"] t.CJ t.Cc
 DI:gD K mg "_law_still" vJ ["far"] t.CC t.B2
 BK:gD K mg "_law_by_mark" qI ["mark","things","ties"] t.xF t.xq
 BJ:gD K mg "_law_far" Dk ["shape","marks","things","ties"] t.Ei t.DZ
 xc:gD K mg "_law_way_steps" nK ["way","ties","start","end"] t.tf t.sX
 zE:gD K mg "_law_good_way" pb ["way","far","grown","ties","start","end"] t.vf t.uZ
 NV:gD K mg "_law_good" zb ["found","grown","things","ties","start"] t.Gb t.FR
 NW:gD K mg "_law_deed" zc ["web","turn","cell","all_names","things","ties","names","base"] t.Gd t.FT
 DJ:gD K mg "_law_asked" vP ["web","tree","start"] t.CI t.Cb
 nO:gD K mg "_law_answer_good" lF ["found","grown","things","ties","start"] t.qd t.p_
 vo:iC K t.gb "__init__" "Builder.__init__" mw ["self"] t.mQ t.qX
 lU:iC K t.gb "link" "Builder.link" mr ["self","lasts","firsts"] t.rq t.qW
 iX:iC K t.gb "part" "Builder.part" mn ["self","tree"] t.iq t.ik
 nF:iC K t.gb "mark_part" "Builder.mark_part" jP ["self"] t.lO t.lN
 qq:iC K t.gb "or_part" "Builder.or_part" km ["self","left_tree","right_tree"] t.nD t.ny
 oS:iC K t.gb "row_part" "Builder.row_part" j3 ["self","left_tree","right_tree"] t.mP t.mJ
 lQ:iC K t.gb "repeat_part" "Builder.repeat_part" jx ["self","kind","inner_tree"] t.kK t.kJ
 Gh:iC K t.g9 "__init__" "Web.__init__" tT ["self"] t.ui t.Af
 iP:iC K t.g9 "check_thing" "Web.check_thing" kj ["self","name"] t.nC t.nv
 nT:iC K t.g9 "check_tie" "Web.check_tie" lH ["self","number"] t.qh t.qb
 tE:iC K t.g9 "add_thing" "Web.add_thing" lI ["self","name"] t.qi t.qc
 rA:iC K t.g9 "drop_thing" "Web.drop_thing" kP ["self","name"] t.oO t.oK
 xK:Em K t.g9 "add_tie" "Web.add_tie" gC ["self","start","name","end","weight"] [.int 0] t.tw t.s_
 xJ:iC K t.g9 "cut_tie" "Web.cut_tie" nM ["self","number"] t.tq t.sZ
 tD:iC K t.g9 "has_thing" "Web.has_thing" lG ["self","name"] t.qg t.qa
 AB:iC K t.g9 "things" "Web.things" pf ["self"] t.vh t.u4
 Gf:iC K t.g9 "ties" "Web.ties" tR ["self"] t.Az t.Ac
 J_:iC K t.g9 "tie" "Web.tie" vT ["self","number"] t.CM t.Cf
 AD:iC K t.g9 "out_of" "Web.out_of" ph ["self","name"] t.vi t.u5
 Gg:iC K t.g9 "into" "Web.into" tS ["self","name"] t.AA t.Ae
 LB:∃u,mg "LETTERS" = some u/\RelV (.str vw) u
 Am:∃u,mg "MOST_LETTERS" = some u/\RelV (.int 12) u
 Il:∃u,mg "ANY_NAME" = some u/\RelV (.str tG) u
 JY:∃u,mg "MARKS" = some u/\RelV (.int 0) u
 LC:∃u,mg "FOLLOWS" = some u/\RelV (.int 1) u
 U8:∃u,mg "ENDS" = some u/\RelV (.int 2) u
 Bc:∃u,mg "MOST_THINGS" = some u/\RelV (.int 100) u
 FY:∃u,mg "MOST_TIES" = some u/\RelV (.int 400) u
 iG:mg "len" = none
 jo:mg "isinstance" = none
 OZ:mg "bool" = none
 J6:mg "int" = none
 iB:mg "range" = none
 mO:mg "list" = none
 J5:mg "min" = none
 J3:mg "tuple" = none
 rh:mg "sorted" = none
 J4:mg "set" = none
 U':mg "reversed" = none
 aaa:mg "str" = none
 Ru:mg "ValueError" = none
 X7:mg "abs" = none
 F7:mg "enumerate" = none
 Va:mg "dict" = none
 X6:mg "all" = none
 Sd:mg "SeekError" = some (.ref t.qY)
 Oi:mg "NoName" = some (.ref t.oM)
 HY:mg "NoNumber" = some (.ref t.kR)
 BR:mg "NoThing" = some (.ref t.jI)
 Q0:mg "NoTie" = some (.ref t.pK)
 QZ:mg "Twice" = some (.ref t.u9)
 FK:mg "StillTied" = some (.ref t.lB)
 UJ:mg "Full" = some (.ref t.An)
 Lo:mg "Builder" = some (.ref t.gb)
 XH:mg "Web" = some (.ref t.g9)
 xs:Iy K t.qY t.cs
 xm:O2 K t.cs
 gO:Ew K t.gb
 Hw:Mk K t.gb t.mQ
 ji:mS K t.gb "followers"
 ic:Ew K t.g9
 TU:Mk K t.g9 t.ui
 gP:mS K t.g9 "kept_values"
 g8:mS K t.g9 "kept_ties"
 i_:mS K t.g9 "coming_number"
theorem Txt.Lf (_:Txt K mg t):t.oM∈t.cs:=by simp [Ad.cs]
theorem Txt.Ka (T:Txt K mg t):x_ K mg "NoName" t.oM:=T.xs.cls T.Lf T.Oi
theorem Txt.FD (_:Txt K mg t):t.kR∈t.cs:=by simp [Ad.cs]
theorem Txt.EC (T:Txt K mg t):x_ K mg "NoNumber" t.kR:=T.xs.cls T.FD T.HY
theorem Txt.zM (_:Txt K mg t):t.jI∈t.cs:=by simp [Ad.cs]
theorem Txt.yx (T:Txt K mg t):x_ K mg "NoThing" t.jI:=T.xs.cls T.zM T.BR
theorem Txt.N4 (_:Txt K mg t):t.pK∈t.cs:=by simp [Ad.cs]
theorem Txt.Ma (T:Txt K mg t):x_ K mg "NoTie" t.pK:=T.xs.cls T.N4 T.Q0
theorem Txt.N3 (_:Txt K mg t):t.u9∈t.cs:=by simp [Ad.cs]
theorem Txt.L' (T:Txt K mg t):x_ K mg "Twice" t.u9:=T.xs.cls T.N3 T.QZ
theorem Txt.DN (_:Txt K mg t):t.lB∈t.cs:=by simp [Ad.cs]
theorem Txt.CY (T:Txt K mg t):x_ K mg "StillTied" t.lB:=T.xs.cls T.DN T.FK
theorem Txt.QK (_:Txt K mg t):t.An∈t.cs:=by simp [Ad.cs]
theorem Txt.IH (T:Txt K mg t):x_ K mg "Full" t.An:=T.xs.cls T.QK T.UJ
def Ad.cl (t:Ad):Rf->ac
 | .noName=>t.oM | .Fo=>t.kR | .DC=>t.jI | .WL=>t.qY | .RV=>t.pK | .twice=>t.u9 | .Bq=>t.lB | .full=>t.An
inductive uC (vs:List V) (H:Hp) (Q:VK) (_E:XK):Prop
 | mk (l):vs = [.str (tx l)]->l.length<=dL->(∀H',fw H H'->Q (.bl (pZ l)) H')->uC vs H Q _E
inductive sO (t:Ad) (vs:List V) (H:Hp) (Q:VK) (E:XK):Prop
 | mk (l):vs = [.str (tx l)]->l.length<=dL->(∀H',fw H H'->if pZ l=false then E (.ref t.oM) none H' else Q .i6 H')->sO t vs H Q E
inductive wX (t:Ad) (vs:List V) (H:Hp) (Q:VK) (_E:XK):Prop
 | mk (p dx):vs = [.ref p]->H p=some (.ins t.g9 dx [])->(∀H' W,gk t.g9 H' p W->W.vals = []->W.fL = []->W.next=0->(∀b o,b≠p->H b=some o->H' b=some o)->(∀b∈W.own p,b=p\/H b=none)->Q .i6 H')->wX t vs H Q _E
inductive lX (t:Ad) (vs:List V) (H:Hp) (Q:VK) (E:XK):Prop
 | mk (p W l):vs = [.ref p,.str (tx l)]->gk t.g9 H p W->(if l∈W.vals.map (·.1) then Q .i6 H else E (.ref t.jI) none H)->lX t vs H Q E
def told (t:Ad) (p:ac) (W:WS) (H:Hp) (Q:VK) (E:XK) (v:V):Except Rf WA->Prop
 | .error r=>∀H',fw H H'->E (.ref (t.cl r)) none H'
 | .ok A=>∀H' W',gk t.g9 H' p W'->W'.abs=A->Step H (W.own p) H' (W'.own p)->Q v H'
inductive oi (t:Ad) (vs:List V) (H:Hp) (Q:VK) (E:XK):Prop
 | mk (p W l):vs = [.ref p,.str (tx l)]->gk t.g9 H p W->l.length<=dL->told t p W H Q E .i6 (W.abs.As l)->oi t vs H Q E
inductive m7 (t:Ad) (vs:List V) (H:Hp) (Q:VK) (E:XK):Prop
 | mk (p W l):vs = [.ref p,.str (tx l)]->gk t.g9 H p W->told t p W H Q E .i6 (W.abs.wA l)->m7 t vs H Q E
inductive og (t:Ad) (vs:List V) (H:Hp) (Q:VK) (_E:XK):Prop
 | mk (p W l):vs = [.ref p,.str (tx l)]->gk t.g9 H p W->Q (.bl (decide (l∈W.vals.map (·.1)))) H->og t vs H Q _E
inductive sP (t:Ad) (vs:List V) (H:Hp) (Q:VK) (_E:XK):Prop
 | mk (p W):vs = [.ref p]->gk t.g9 H p W->(∀a,H a=none->Q (.ref a) (upd H a (.lst ((W.vals.map (·.1)).map λ z=>.str (tx z)))))->sP t vs H Q _E
inductive vA (t:Ad) (f:jQ->Nm) (vs:List V) (H:Hp) (Q:VK) (E:XK):Prop
 | mk (p W l):vs = [.ref p,.str (tx l)]->gk t.g9 H p W->(if l∈W.vals.map (·.1) then ∀a H',H a=none->fw H H'->H' a=some (.lst ((W.abs.at_ f l).map V.int))->Q (.ref a) H' else E (.ref t.jI) none H)->vA t f vs H Q E
inductive qA (vs:List V) (H:Hp) (Q:VK) (_E:XK):Prop
 | mk (n:Int):vs = [.int n]->Q (.bl (decide (n.natAbs<10 ^ 60))) H->qA vs H Q _E
inductive pU (t:Ad) (vs:List V) (H:Hp) (Q:VK) (E:XK):Prop
 | mk (n:Int):vs = [.int n]->(if n.natAbs<10 ^ 60 then Q .i6 H else E (.ref t.kR) none H)->pU t vs H Q E
inductive oh (t:Ad) (vs:List V) (H:Hp) (Q:VK) (E:XK):Prop
 | mk (p W n):vs = [.ref p,.int n]->gk t.g9 H p W->(if n∈W.fL.map (·.1) then Q .i6 H else E (.ref t.pK) none H)->oh t vs H Q E
inductive qB (t:Ad) (vs:List V) (H:Hp) (Q:VK) (E:XK):Prop
 | mk (p W n):vs = [.ref p,.int n]->gk t.g9 H p W->told t p W H Q E .i6 (W.abs.Ii n)->qB t vs H Q E
inductive qC (t:Ad) (vs:List V) (H:Hp) (Q:VK) (E:XK):Prop
 | mk (p W s n e w):vs = [.ref p,.str (tx s),.str (tx n),.str (tx e),.int w]->gk t.g9 H p W->((∀x∈W.fL.map (·.1),x<W.next))->n.length<=dL->told t p W H Q E (.int W.next) (W.abs.Iw s n e w)->qC t vs H Q E
inductive wW (t:Ad) (vs:List V) (H:Hp) (Q:VK) (_E:XK):Prop
 | mk (p W):vs = [.ref p]->gk t.g9 H p W->(∀a,H a=none->Q (.ref a) (upd H a (.lst ((W.fL.map (·.1)).map V.int))))->wW t vs H Q _E
inductive yS (t:Ad) (vs:List V) (H:Hp) (Q:VK) (E:XK):Prop
 | mk (p W n):vs = [.ref p,.int n]->gk t.g9 H p W->(if n∈W.fL.map (·.1) then ∀a fZ,(n,a,fZ)∈W.fL->Q (.ref a) H else E (.ref t.pK) none H)->yS t vs H Q E
def Gk (l:List Nat):Prop:=1<=l.length/\l.length<=12/\∀x∈l,x∈F_
def kW (H:Hp) (p:ac) (ns:List (List Nat)):Prop:=H p=some (.lst (ns.map λ l=>.str (tx l)))/\ns.length=4/\∀l∈ns,Gk l
def xi (n:Int):Prop:=n.natAbs<=500000000000000000000000000000000000000000000000000000000000
inductive uA (K:ai) (vs:List V) (H:Hp) (Q:VK) (_E:XK):Prop
 | mk (a:ac) (ns:List Int) (k:Int):vs = [.ref a,.int k]->gg K H a (ns.map V.int)->0<=k->(∀c,Q (.int c) H)->uA K vs H Q _E
inductive yM (vs:List V) (H:Hp) (Q:VK) (_E:XK):Prop
 | mk (c):vs = [.int c]->(∀m:Int,0<=m->m<2147483629->Q (.int m) H)->yM vs H Q _E
inductive yL (vs:List V) (H:Hp) (Q:VK) (_E:XK):Prop
 | mk (c):vs = [.int c]->(∀p H' ns,H p=none->fw H H'->kW H' p ns->Q (.ref p) H')->yL vs H Q _E
inductive Bv (vs:List V) (H:Hp) (Q:VK) (_E:XK):Prop
 | mk (c):vs = [.int c]->(∀n:Int,xi n->Q (.int n) H)->Bv vs H Q _E
inductive wU (vs:List V) (H:Hp) (Q:VK) (_E:XK):Prop
 | mk (c t b):vs = [.int c,.int t,.int b]->xi b->(∀n:Int,tX n->Q (.int n) H)->wU vs H Q _E
inductive ux (vs:List V) (H:Hp) (Q:VK) (_E:XK):Prop
 | mk (c a ns b):vs = [.int c,.ref a,.int b]->kW H a ns->xi b->(∀m p H',uk m->tX m.num->H p=none->fw H H'->H' p=some (.tup (Hy m))->Q (.ref p) H')->ux vs H Q _E
inductive lD (vs:List V) (H:Hp) (Q:VK) (_E:XK):Prop
 | mk (w sg n):vs = [.int w,.str (tx sg),.int n]->Q (.bl (Fv w sg n)) H->lD vs H Q _E
inductive IZ (vs:List V) (H:Hp) (Q:VK) (_E:XK):Prop
 | mk (a b m sp):vs = [.ref a,.ref b]->H a=some (.tup (Hy m))->H b=some (.tup (Kr sp))->Q (.bl (oH m sp)) H->IZ vs H Q _E
inductive ER (vs:List V) (H:Hp) (Q:VK) (_E:XK):Prop
 | mk (a b m sp):vs = [.ref a,.ref b]->H a=some (.tup (Hy m))->H b=some (.tup (Kr sp))->uk m->(∀H',fw H H'->Q (.bl (oH m sp)) H')->ER vs H Q _E
inductive yJ (vs:List V) (H:Hp) (Q:VK) (_E:XK):Prop
 | mk (n:Int):vs = [.int n]->Q (.bl true) H->yJ vs H Q _E
theorem JI (h:Gk l):pZ l=true:=by
 unfold pZ;rw [bc,decide_eq_true_eq,cB];exact⟨⟨h.1,h.2.1⟩,λ x hx=>decide_eq_true (h.2.2 x hx)⟩
inductive wR (vs:List V) (H:Hp) (Q:VK) (_E:XK):Prop
 | mk (c n:Int):vs = [.int c,.int n]->0<=n->n<=12->(∀q H' (ls:List Nm),H q=none->fw H H'->H' q=some (.lst (ls.map λ l=>.str (tx l)))->ls.length=n.toNat->ls.Nodup->(∀l∈ls,Gk l)->Q (.ref q) H')->wR vs H Q _E
inductive uD (vs:List V) (H:Hp) (Q:VK) (_E:XK):Prop
 | mk (a:ac) (t:jQ) (b:Bool):vs = [.ref a,.bl b]->H a=some (.tup (xN t))->(∀p,H p=none->Q (.ref p) (upd H p (.tup (Kr ⟨t.name,t.weight,b⟩))))->uD vs H Q _E
inductive uE (vs:List V) (H:Hp) (Q:VK) (_E:XK):Prop
 | mk (a:ac) (t:jQ) (b:Bool):vs = [.ref a,.bl b]->H a=some (.tup (xN t))->Q (.str (tx (kI t b))) H->uE vs H Q _E
inductive yQ (vs:List V) (H:Hp) (Q:VK) (_E:XK):Prop
 | mk (a:ac) (t:jQ) (b:Bool):vs = [.ref a,.bl b]->H a=some (.tup (xN t))->Q (.str (tx (jv t b))) H->yQ vs H Q _E
def Goes (W:WS) (b:Bool) (k:Nm) (num:Int) (to:Nm):Prop:=∃a fZ,(num,a,fZ)∈W.fL/\kI fZ b=k/\jv fZ b=to
inductive wQ (t:Ad) (vs:List V) (H:Hp) (Q:VK) (_E:XK):Prop
 | mk (p mk:ac) (W:WS) (m:j_):vs = [.ref p,.ref mk]->gk t.g9 H p W->W.fL.length<=63->H mk=some (.tup (Hy m))->(∀d H' kvs,H d=none->fw H H'->yc H H' d 63 63 (mU W.fL m) kvs->jA W.fL m H' kvs->Q (.ref d) H')->wQ t vs H Q _E
def vj (W:WS) (M:AJ) (r:Int) (k:Nm) (num:Int) (to:Nm):Prop:=∃mk,M.jj[(r-1).toNat]? = some mk/\mU W.fL mk k num to
inductive I_ (t:Ad) (vs:List V) (H:Hp) (Q:VK) (E:XK):Prop
 | mk (p a:ac) (W:WS) (M:AJ) (st:Nm):vs = [.ref p,.ref a,.str (tx st)]->gk t.g9 H p W->W.fL.length<=63->((∀x∈W.fL,x.2.2.start∈W.vals.map (·.1)/\x.2.2.stop∈W.vals.map (·.1)))->AI H a M->qk M->((st∉W.vals.map (·.1)->E (.ref t.jI) none H))->((st∈W.vals.map (·.1)->∀q H' es,H q=none->fw H H'->pR H' q es->iO M.jj (Goes W) st es->es.length<=2500->(∀e∈es,e.th∈W.vals.map (·.1))->(es.map i5).Nodup->hI (jT M) (vj W M) es es.length->Q (.ref q) H'))->I_ t vs H Q E
inductive Bs (vs:List V) (H:Hp) (Q:VK) (_E:XK):Prop
 | mk (a q:ac) (M:AJ) (st:Nm) (good:Bool->Nm->Int->Nm->Prop) (es:List En) (k:Nat):vs = [.ref a,.ref q,.int k]->AI H a M->qk M->pR H q es->iO M.jj good st es->es.length<=2500->k<es.length->(∀l H',H l=none->fw H H'->hZ H' l ((jN es es.length k).map (sL M.jj es)).reverse->Q (.ref l) H')->Bs vs H Q _E
inductive yR (vs:List V) (H:Hp) (Q:VK) (_E:XK):Prop
 | mk (a q:ac) (M:AJ) (st:Nm) (good:Bool->Nm->Int->Nm->Prop) (es:List En):vs = [.ref a,.ref q]->AI H a M->qk M->pR H q es->iO M.jj good st es->es.length<=2500->(∀l H',H l=none->fw H H'->RA H' l (iU M.ends es 0 [])->Q (.ref l) H')->yR vs H Q _E
def rB (H:Hp) (r:ac) (m:j_):Prop:=H r=some (.tup (Hy m))/\J' m
theorem rB.keep (k:∀b xs,H b=some (.tup xs)->H' b=some (.tup xs)) (h:rB H r m):rB H' r m:=⟨k _ _ h.1,h.2⟩
theorem rB.same (s:fw H H') (h:rB H r m):rB H' r m:=⟨s _ _ h.1,h.2⟩
inductive m4 (d:Nat) (vs:List V) (H:Hp) (Q:VK) (_E:XK):Prop
 | mk (a tr):vs = [.ref a]->h_ H a tr->tr.deep<=d->tr.marks.length<=100->(∀p H' rs,H p=none->fw H H'->H' p=some (.lst (rs.map V.ref))->fR (rB H') rs tr.marks->Q (.ref p) H')->m4 d vs H Q _E
theorem n_ (h:m4 0 vs H Q E):False:=by
 obtain⟨a,tr,_,_,hd,_⟩:=h;have:=tr.oJ;exact Zf (Za (Zd rfl) this) hd
theorem Lr {l:List Tr} {i:Nat} {z:Tr} (h:l[i]? = some z):((l.take i).flatMap Tr.marks).length+z.marks.length<=(l.flatMap Tr.marks).length:=by
 induction l generalizing i with
 | nil=>cases h
 | cons a r ih=>
  cases i with
  | zero=>
   simp at h;subst h;simp
  | succ i=>
   have:=ih (i:=i) (by simpa using h);simp only [List.take_succ_cons,dA,ao];exact Qaz this
theorem zG {tr:Tr} (h:tr.kind≠qR):tr.marks=tr.kids.flatMap Tr.marks:=by
 cases tr with
 | mark m=>exact absurd rfl h
 | two k l r=>simp [Tr.marks,Tr.kids]
 | one k t=>simp [Tr.marks,Tr.kids]
inductive pW (t:Ad) (vs:List V) (H:Hp) (Q:VK) (_E:XK):Prop
 | mk (p dx):vs = [.ref p]->H p=some (.ins t.gb dx [])->(∀H' f d,rK t.gb H' p f [d] [[]]->H f=none->H d=none->(∀b o,b≠p->H b=some o->H' b=some o)->Q .i6 H')->pW t vs H Q _E
inductive pV (t:Ad) (vs:List V) (H:Hp) (Q:VK) (_E:XK):Prop
 | mk (b f la lb:ac) (ds:List ac) (F:List (List Int)) (ls fs:List Int):vs = [.ref b,.ref la,.ref lb]->rK t.gb H b f ds F->H la=some (.lst (ls.map V.int))->H lb=some (.lst (fs.map V.int))->la≠f->lb≠f->((∀x∈ls,0<=x/\x<F.length))->((∀x∈fs,0<=x/\x<F.length))->F.length<=200->(∀H' F',rK t.gb H' b f ds F'->F'.length=F.length->mW F F' (λ a o=>a∈ls/\o∈fs)->L2.Step H (f::ds) H' (f::ds)->Q .i6 H')->pV t vs H Q _E
inductive gR (t:Ad) (n:Nat) (vs:List V) (H:Hp) (Q:VK) (_E:XK):Prop
 | mk (b a f:ac) (ds:List ac) (F:List (List Int)) (tr:Tr):vs = [.ref b,.ref a]->rK t.gb H b f ds F->h_ H a tr->tr.deep<=n->F.length+tr.marks.length<=200->CN t.gb H b f ds F tr Q->gR t n vs H Q _E
theorem kY (h:gR t 0 vs H Q E):False:=by
 obtain⟨b,a,f,ds,F,tr,_,_,_,hd,_⟩:=h;have:=tr.oJ;exact Zf (Za (Zd rfl) this) hd
inductive kZ (t:Ad) (vs:List V) (H:Hp) (Q:VK) (_E:XK):Prop
 | mk (b f:ac) (ds:List ac) (F:List (List Int)) (m:j_):vs = [.ref b]->rK t.gb H b f ds F->F.length<=200->CN t.gb H b f ds F (.mark m) Q->kZ t vs H Q _E
inductive lY (t:Ad) (kd:List Nat) (n:Nat) (vs:List V) (H:Hp) (Q:VK) (_E:XK):Prop
 | mk (b al ar f:ac) (ds:List ac) (F:List (List Int)) (l r:Tr):vs = [.ref b,.ref al,.ref ar]->rK t.gb H b f ds F->h_ H al l->h_ H ar r->(Tr.two kd l r).deep<=n->F.length+(Tr.two kd l r).marks.length<=200->CN t.gb H b f ds F (.two kd l r) Q->lY t kd n vs H Q _E
inductive qD (t:Ad) (n:Nat) (vs:List V) (H:Hp) (Q:VK) (_E:XK):Prop
 | mk (b a f:ac) (kd:List Nat) (ds:List ac) (F:List (List Int)) (x:Tr):vs = [.ref b,.str (tx kd),.ref a]->kd∈ones->rK t.gb H b f ds F->h_ H a x->(Tr.one kd x).deep<=n->F.length+x.marks.length<=200->CN t.gb H b f ds F (.one kd x) Q->qD t n vs H Q _E
structure Vk (H H':Hp) (p:ac) (M:AJ):Prop where
 at_:∃(lm lf le:ac) (am af:List ac),H' p=some (.tup [.ref lm,.ref lf,.ref le])/\H' lm=some (.lst (am.map V.ref))/\fR (λ x k=>H' x=some (.tup (Hy k))/\uk k) am M.jj/\H' lf=some (.lst (af.map V.ref))/\fR (λ x l=>H' x=some (.lst (l.map V.int))) af M.kE/\H' le=some (.lst (M.ends.map V.bl))/\
  af.Nodup/\(∀x∈af,H x=none/\x≠lm/\x≠lf/\x≠le)/\H lm=none/\H lf=none/\H le=none/\lm≠lf/\lm≠le/\lf≠le
theorem Vk.ü (h:Vk H H' p M):AI H' p M:=by
 obtain⟨lm,lf,le,am,af,e,e1,a1,e2,a2,e3,_⟩:=h.at_;exact⟨lm,lf,le,e,⟨am,e1,a1⟩,⟨af,e2,a2⟩,e3⟩
inductive yI (vs:List V) (H:Hp) (Q:VK) (_E:XK):Prop
 | mk (a:ac) (tr:Tr):vs = [.ref a]->h_ H a tr->tr.deep<=40->tr.marks.length<=24->((∀m∈tr.marks,uk m))->(∀p H' M,H p=none->fw H H'->Vk H H' p M->qk M->kB tr M->Q (.ref p) H')->yI vs H Q _E
inductive yO (vs:List V) (H:Hp) (Q:VK) (_E:XK):Prop
 | mk (lc nm:ac) (b:Int) (mo:Nat) (cs:List Int) (ns:List (List Nat)):vs = [.ref lc,.ref nm,.int b,.int (mo:Int)]->H lc=some (.lst (cs.map V.int))->cs.length<=63->kW H nm ns->xi b->1<=mo->mo<=16->(∀p sa ml H' sh ms,H p=none->H ml=none->fw H H'->H' p=some (.tup [.ref sa,.ref ml])->jC H' sa sh->nE H' ml ms->sh.leaves=List.range ms.length->ms.length<=mo->ms.length<=max 1 cs.length->sh.ones<=mo->(∀m∈ms,tX m.num)->Q (.ref p) H')->yO vs H Q _E
inductive rN (d:Nat) (vs:List V) (H:Hp) (Q:VK) (_E:XK):Prop
 | mk (sa ml:ac) (sh:Sh) (ms:List j_):vs = [.ref sa,.ref ml]->jC H sa sh->sh.deep<=d->nE H ml ms->((∀i∈sh.leaves,i<ms.length))->(∀p H',fw H H'->h_ H' p (sh.real ms)->Q (.ref p) H')->rN d vs H Q _E
theorem qz (h:rN 0 vs H Q E):False:=by
 obtain⟨sa,ml,sh,ms,_,_,hd,_⟩:=h;have:=sh.oJ;exact Zf (Za (Zd rfl) this) hd
inductive uz (vs:List V) (H:Hp) (Q:VK) (_E:XK):Prop
 | mk (q:ac) (rows:List (List Int)) (R S:Nat->Nat->Prop) (n:Nat):vs = [.ref q]->jV H q rows->qj rows R n->n<=62->((∀a c,S a c↔c=a\/∃b,a<b/\R a b/\S b c))->((∀a b,a<=n->S a b->a<=b/\b<=n))->(∀q' H' gj,H q'=none->fw H H'->jV H' q' gj->qj gj S n->Q (.ref q') H')->uz vs H Q _E
inductive wV (vs:List V) (H:Hp) (Q:VK) (_E:XK):Prop
 | mk (p q:ac) (BC pY:List (List Int)) (R S:Nat->Nat->Prop) (n:Nat):vs = [.ref p,.ref q]->jV H p BC->qj BC R n->jV H q pY->qj pY S n->n<=62->(∀q' H' gj,H q'=none->fw H H'->jV H' q' gj->qj gj (λ a c=>∃b,R a b/\S b c) n->Q (.ref q') H')->wV vs H Q _E
inductive oX (d:Nat) (vs:List V) (H:Hp) (Q:VK) (_E:XK):Prop
 | mk (sa fl:ac) (n:Nat) (sh:Sh) (F:List (List Int)):vs = [.ref sa,.ref fl,.int (n:Int)]->jC H sa sh->sh.deep<=d->jV H fl F->((∀i∈sh.leaves,i<F.length))->((∀l∈F,∀x∈l,0<=x/\x<n))->((∀l∈F,l.length<=100))->n<=62->(∀q H' rows,H q=none->fw H H'->jV H' q rows->qj rows (kS (λ i p=>(p:Int)∈(F[i]?).getD []) sh) n->Q (.ref q) H')->oX d vs H Q _E
theorem pT (h:oX 0 vs H Q E):False:=by
 obtain⟨sa,fl,n,sh,F,_,_,hd,_⟩:=h;have:=sh.oJ;exact Zf (Za (Zd rfl) this) hd
inductive yN (vs:List V) (H:Hp) (Q:VK) (_E:XK):Prop
 | mk (x q:ac) (b n:Nat) (row:List Int) (rows:List (List Int)):vs = [.ref x,.ref q,.int (b:Int)]->H x=some (.lst (row.map V.int))->jV H q rows->Sq n rows->row.length=n->b<n->n<=100->(∀(e:Int) H',fw H H'->e<=1000000->(∀m,m<n->e<=row.getD m 0+qv rows m b)->(e=1000000\/∃m,m<n/\e=row.getD m 0+qv rows m b)->Q (.int e) H')->yN vs H Q _E
inductive yP (vs:List V) (H:Hp) (Q:VK) (_E:XK):Prop
 | mk (q:ac) (n:Nat) (W:Wy) (rows:List (List Int)):vs = [.ref q]->jV H q rows->n<=100->wM W n rows->(∀q' H' gj,H q'=none->fw H H'->jV H' q' gj->wM (yb W n) n gj->Q (.ref q') H')->yP vs H Q _E
inductive yK (vs:List V) (H:Hp) (Q:VK) (_E:XK):Prop
 | mk (q:ac) (n:Nat) (W:Wy) (rows:List (List Int)):vs = [.ref q]->jV H q rows->n<=100->wM W n rows->(∀q' H' gj,H q'=none->fw H H'->jV H' q' gj->wM (LW yy W) n gj->Q (.ref q') H')->yK vs H Q _E
def Ej (ts:List Nm) (rs:List (Int×ac×jQ)):Prop:=∀x∈rs,x.2.2.start∈ts/\x.2.2.stop∈ts
inductive uB (vs:List V) (H:Hp) (Q:VK) (_E:XK):Prop
 | mk (mk lt pt:ac) (m:j_) (ts:List Nm) (rs:List (Int×ac×jQ)):vs = [.ref mk,.ref lt,.ref pt]->H mk=some (.tup (Hy m))->uk m->H lt=some (.lst (ts.map λ l=>.str (tx l)))->ts.Nodup->ts.length<=12->nU H pt rs->(rs.map (·.1)).Nodup->rs.length<=63->Ej ts rs->(∀q H' rows,H q=none->fw H H'->jV H' q rows->wM (λ k a b=>k=1/\zo ts rs m a b) ts.length rows->Q (.ref q) H')->uB vs H Q _E
inductive uy (d:Nat) (vs:List V) (H:Hp) (Q:VK) (_E:XK):Prop
 | mk (sa ml lt pt:ac) (sh:Sh) (ms:List j_) (ts:List Nm) (rs:List (Int×ac×jQ)):vs = [.ref sa,.ref ml,.ref lt,.ref pt]->jC H sa sh->sh.deep<=d->nE H ml ms->((∀i∈sh.leaves,i<ms.length))->H lt=some (.lst (ts.map λ l=>.str (tx l)))->ts.Nodup->ts.length<=12->nU H pt rs->(rs.map (·.1)).Nodup->rs.length<=63->Ej ts rs->(∀q H' rows,H q=none->fw H H'->jV H' q rows->wM (pS (λ i a b=>∃m,ms[i]? = some m/\zo ts rs m a b) sh) ts.length rows->Q (.ref q) H')->uy d vs H Q _E
theorem sN (h:uy 0 vs H Q E):False:=by
 obtain⟨_,_,_,_,sh,_,_,_,_,_,hd,_⟩:=h;have:=sh.oJ;exact Zf (Za (Zd rfl) this) hd
inductive yH (t:Ad) (vs:List V) (H:Hp) (Q:VK) (E:XK):Prop
 | mk (p a:ac) (W:WS) (tr:Tr) (st:Nm):vs = [.ref p,.ref a,.str (tx st)]->gk t.g9 H p W->W.fL.length<=63->((∀x∈W.fL,x.2.2.start∈W.vals.map (·.1)/\x.2.2.stop∈W.vals.map (·.1)))->h_ H a tr->tr.deep<=40->tr.marks.length<=24->((∀m∈tr.marks,uk m))->((st∉W.vals.map (·.1)->∀H',fw H H'->E (.ref t.jI) none H'))->((st∈W.vals.map (·.1)->∀q H' ps M es,fw H H'->qk M->kB tr M->iO M.jj (Goes W) st es->es.length<=2500->(∀e∈es,e.th∈W.vals.map (·.1))->(es.map i5).Nodup->hI (jT M) (vj W M) es es.length->i7 H H' q ps (zU (W.vals.map (·.1)) M es)->Q (.ref q) H'))->yH t vs H Q E
theorem nodup_keys {m:List (Nm×Int)} (h:(m.map (·.1)).Nodup):(m.map ((λ (x:Key×V)=>x.1)∘λ y=>((.inr (tx y.1):Key),V.int y.2))).Nodup:=by
 induction m with
 | nil=>exact ck
 | cons y m ih=>
  rw [aB,aZ] at h;rw [aB,aZ];refine⟨λ z=> ?_,ih h.2⟩;obtain⟨x,hx,e⟩:=aC.mp z;have e:(Sum.inr (tx x.1):Key) = .inr (tx y.1):=e;injection e with e
  exact h.1 (aC.mpr ⟨x,hx,iA.mp e⟩)
def O4 (H:Hp) (q:ac) (ss:List GA):Prop:=∃as:List ac,H q=some (.lst (as.map V.ref))/\fR (λ x s=>H x=some (.tup (Kr s))) as ss
inductive qy (vs:List V) (H:Hp) (Q:VK) (_E:XK):Prop
 | mk (wl pt:ac) (st en:Nm) (ws:List (Int×Bool)) (rs:List (Int×ac×jQ)) (ss:List GA):vs = [.ref wl,.ref pt,.str (tx st),.str (tx en)]->hZ H wl ws->nU H pt rs->(rs.map (·.1)).Nodup->AE rs st ws en ss->ws.length<=100->(∀q H',H q=none->fw H H'->O4 H' q ss->Q (.ref q) H')->qy vs H Q _E
inductive sM (vs:List V) (H:Hp) (Q:VK) (_E:XK):Prop
 | mk (wl gr sa ml pt:ac) (n:Nat) (st en:Nm) (sh:Sh) (ms:List j_) (ws:List (Int×Bool)) (rs:List (Int×ac×jQ)) (ss:List GA):vs = [.ref wl,.int (n:Int),.ref gr,.ref pt,.str (tx st),.str (tx en)]->H gr=some (.tup [.ref sa,.ref ml])->jC H sa sh->sh.deep<=40->nE H ml ms->((∀i∈sh.leaves,i<ms.length))->ms.length<=100->hZ H wl ws->ws.length=n->n<=62->nU H pt rs->(rs.map (·.1)).Nodup->AE rs st ws en ss->ss.length=n->(kS (λ i p=>∃m s,ms[i]? = some m/\ss[p]? = some s/\oH m s=true) sh 0 n)->(∀H',fw H H'->Q (.bl true) H')->sM vs H Q _E
inductive Bt (vs:List V) (H:Hp) (Q:VK) (_E:XK):Prop
 | mk (q gr sa ml lt pt:ac) (B:Hp) (ps:List (ac×ac)) (fs:List (Nm×List (Int×Bool))) (ts:List Nm) (rs:List (Int×ac×jQ)) (sh:Sh) (ms:List j_) (a:Nat) (st:Nm):vs = [.ref q,.ref gr,.ref lt,.ref pt,.str (tx st)]->i7 B H q ps fs->H gr=some (.tup [.ref sa,.ref ml])->jC H sa sh->sh.deep<=40->nE H ml ms->((∀i∈sh.leaves,i<ms.length))->ms.length<=100->H lt=some (.lst (ts.map λ l=>.str (tx l)))->ts.Nodup->ts.length<=12->nU H pt rs->(rs.map (·.1)).Nodup->rs.length<=63->Ej ts rs->ts[a]? = some st->CP ts rs ms sh a st fs->(∀H',fw H H'->Q (.bl true) H')->Bt vs H Q _E
theorem Kk (hf:∀m,m<n->∃e,nW U a m e) (hg:∀m,m<n->∃e,nW W m b e):∃e,nW (Bl n U W) a b e:=by
 have key:∀j,j<=n->∃e:Int,e<=1000000/\(∀m,m<j->e<=jS U a m+jS W m b)/\(e=1000000\/∃m,m<j/\e=jS U a m+jS W m b):=by
  intro j
  induction j with
  | zero=>exact λ _=>⟨1000000,cI _,λ m hm=>by lia,.inl rfl⟩
  | succ j ih=>
   intro hj;obtain⟨e,h1,h2,h3⟩:=ih (Zc Zk hj);by_cases c:e<=jS U a j+jS W j b
   .refine⟨e,h1,λ m hm=> ?_,h3.imp id λ ⟨m,hm,q⟩=>⟨m,Zt (Zl hm),q⟩⟩;by_cases z:m=j
    .rwa [z]
    .exact h2 m (Nat.lt_of_le_of_ne (Zs hm) z)
   .refine⟨jS U a j+jS W j b,Yl (Ya (Yj c) h1),λ m hm=> ?_,.inr ⟨j,Nat.lt_succ_self _,rfl⟩⟩;by_cases z:m=j
    .rw [z];exact cI _
    .have:=h2 m (Nat.lt_of_le_of_ne (Zs hm) z);exact Yl (Ya (Yj c) this)
 obtain⟨e,h1,h2,h3⟩:=key n (az _);exact⟨e,nW.then (λ m hm=>let ⟨e,h⟩:=hf m hm;by rwa [lS h]) (λ m hm=>let ⟨e,h⟩:=hg m hm;by rwa [lS h]) h1 h2 h3⟩
theorem NI (x y:Int):(if y<x then y else x)=min x y:=by
 by_cases h:y<x
 .rw [if_pos h,eT (Yl h)]
 .rw [if_neg h,fb (Yi h)]
structure Turn (t:Ad) (H:Hp) (pw lt pt:ac) (W:WS) (rs:List (Int×ac×jQ)) (ts:List Nm):Prop where
 Ex:gk t.g9 H pw W
 rows:nU H pt rs
 lst:H lt=some (.lst (ts.map λ l=>.str (tx l)))
 po:pt∉W.own pw
 A8:W.abs.names=ts
 eq:plain rs=W.abs.fL
 P_:(rs.map (·.1)).Pairwise (· < ·)
 low:∀x∈rs.map (·.1),0<=x/\x<W.next
 fZ:∀x∈rs,x.2.2.start∈ts/\x.2.2.stop∈ts/\So x.2.2
 next:0<=W.next
section
variable {t:Ad} {H H':Hp} {pw lt pt:ac} {W W':WS} {rs GY:List (Int×ac×jQ)} {ts RG:List Nm}
theorem Turn.same (n:Turn t H pw lt pt W rs ts) (s:fw H H'):Turn t H' pw lt pt W rs ts:=⟨n.Ex.same s,n.rows.same s,s _ _ n.lst,n.po,n.A8,n.eq,n.P_,n.low,n.fZ,n.next⟩
theorem Turn.names (n:Turn t H pw lt pt W rs ts):W.vals.map (·.1)=ts:=by rw [<-oB];exact n.A8
theorem Turn.RH (n:Turn t H pw lt pt W rs ts):ts.Nodup:=by rw [<-n.names];exact n.Ex.names
theorem Turn.nd (n:Turn t H pw lt pt W rs ts):(rs.map (·.1)).Nodup:=n.P_.imp λ h=>Int.ne_of_lt h
theorem Turn.ń (n:Turn t H pw lt pt W rs ts):W.fL.length=rs.length:=by
 have h1:=congrArg List.length n.eq;unfold L2.plain WS.abs at h1;simp only [ae] at h1;exact h1.symm
theorem Turn.ends (n:Turn t H pw lt pt W rs ts):∀x∈W.fL,x.2.2.start∈W.vals.map (·.1)/\x.2.2.stop∈W.vals.map (·.1):=λ x hx=>by
 have h1:(x.1,x.2.2)∈W.abs.fL:=aC.mpr ⟨x,hx,rfl⟩;rw [<-n.eq] at h1;unfold L2.plain at h1;obtain⟨y,hy,e⟩:=aC.mp h1;injection e with e1 e2
 have:=n.fZ y hy;rw [<-e2,n.names];exact⟨this.1,this.2.1⟩
theorem Turn.VC (n:Turn t H pw lt pt W rs ts):lt∉W.own pw:=Fb n.Ex n.lst
theorem Turn.put (n:Turn t H pw lt pt W rs ts) (e:H l=some (.lst ys)) (ne:l≠lt):Turn t (upd H l o) pw lt pt W rs ts:=by
 have kt:∀b (xs:List V),H b=some (.tup xs)->upd H l o b=some (.tup xs):=λ b xs h=>(fo (gA h e (λ z=>nomatch z))).trans h;exact⟨n.Ex.keep (λ b o hb h=>(fo (λ z=>Fb n.Ex e (by rwa [<-z]))).trans h) kt,⟨(fo (gA n.rows.at_ e (λ z=>nomatch z))).trans n.rows.at_,λ x hx=>kt _ _ (n.rows.iM x hx)⟩,(fo ne.symm).trans n.lst,n.po,n.A8,n.eq,n.P_,n.low,n.fZ,n.next⟩
theorem Turn.QX (n:Turn t H pw lt pt W rs ts) (s:L2.Step H (W.own pw) H2 (W'.own pw)) (w2:gk t.g9 H2 pw W') (k3:∀b o,b≠pt->b≠lt->H2 b=some o->H3 b=some o) (hp:H3 pt=some (.dK (fU GY))) (hl:H3 lt=some (.lst (RG.map λ l=>.str (tx l)))) (iM:∀x∈GY,H2 x.2.1=some (.tup (xN x.2.2))) (A8:W'.abs.names=RG) (eq:L2.plain GY=W'.abs.fL) (P_:(GY.map (·.1)).Pairwise (· < ·)) (low:∀x∈GY.map (·.1),0<=x/\x<W'.next)
  (fZ:∀x∈GY,x.2.2.start∈RG/\x.2.2.stop∈RG/\So x.2.2) (next:0<=W'.next):Turn t H3 pw lt pt W' GY RG:=by
 have p2:H2 pt=some (.dK (fU rs)):=s.off _ _ n.po n.rows.at_;have l2:=s.off _ _ n.VC n.lst;have ŷ:pt∉W'.own pw:=s.apart n.po n.rows.at_;have lo2:lt∉W'.own pw:=s.apart n.VC n.lst;have kt:∀b (xs:List V),H2 b=some (.tup xs)->H3 b=some (.tup xs):=λ b xs e=>k3 b _ (gA e p2 (λ z=>nomatch z)) (gA e l2 (λ z=>nomatch z)) e;exact⟨w2.keep (λ b o hb e=>k3 b o (λ z=>ŷ (by rwa [<-z])) (λ z=>lo2 (by rwa [<-z])) e) kt,⟨hp,λ x hx=>kt _ _ (iM x hx)⟩,hl,ŷ,A8,eq,P_,low,fZ,next⟩
end
inductive Bu (t:Ad) (vs:List V) (H:Hp) (Q:VK) (_E:XK):Prop
 | mk (pw la lt pt nm:ac) (tu c b:Int) (all:List Nm) (W:WS) (rs:List (Int×ac×jQ)) (ts:List Nm) (ns:List (List Nat)):vs = [.ref pw,.int tu,.int c,.ref la,.ref lt,.ref pt,.ref nm,.int b]->la≠lt->H la=some (.lst (all.map λ l=>.str (tx l)))->all.length=5->((∀l∈all,Gk l))->Turn t H pw lt pt W rs ts->((∀l∈ts,l∈all))->rs.length<=62->kW H nm ns->nm≠lt->xi b->(∀H' W' GY RG,Turn t H' pw lt pt W' GY RG->(∀l∈RG,l∈all)->GY.length<=rs.length+1->gS [lt] H H'->Q .i6 H')->Bu t vs H Q _E
inductive tJ (t:Ad) (vs:List V) (H:Hp) (Q:VK) (_E:XK):Prop
 | mk (p a:ac) (W:WS) (tr:Tr) (st:Nm):vs = [.ref p,.ref a,.str (tx st)]->gk t.g9 H p W->W.fL.length<=63->((∀x∈W.fL,x.2.2.start∈W.vals.map (·.1)/\x.2.2.stop∈W.vals.map (·.1)))->h_ H a tr->tr.deep<=40->tr.marks.length<=24->((∀m∈tr.marks,uk m))->((st∉W.vals.map (·.1)->∀H',fw H H'->Q .i6 H'))->((st∈W.vals.map (·.1)->∀q H' ps M es,fw H H'->qk M->kB tr M->iO M.jj (Goes W) st es->es.length<=2500->(∀e∈es,e.th∈W.vals.map (·.1))->(es.map i5).Nodup->hI (jT M) (vj W M) es es.length->i7 H H' q ps (zU (W.vals.map (·.1)) M es)->Q (.ref q) H'))->tJ t vs H Q _E
inductive kO (vs:List V) (H:Hp) (Q:VK) (_E:XK):Prop
 | mk (v:V) (gr sa ml lt pt:ac) (ts:List Nm) (rs:List (Int×ac×jQ)) (sh:Sh) (ms:List j_) (st:Nm):vs = [v,.ref gr,.ref lt,.ref pt,.str (tx st)]->H gr=some (.tup [.ref sa,.ref ml])->jC H sa sh->sh.deep<=40->nE H ml ms->((∀i∈sh.leaves,i<ms.length))->ms.length<=100->H lt=some (.lst (ts.map λ l=>.str (tx l)))->ts.Nodup->ts.length<=12->nU H pt rs->(rs.map (·.1)).Nodup->rs.length<=63->Ej ts rs->((st∉ts->v = .i6))->((st∈ts->∃(q:ac) (B:Hp) (ps:List (ac×ac)) (fs:List (Nm×List (Int×Bool))) (a:Nat),v = .ref q/\i7 B H q ps fs/\ts[a]? = some st/\CP ts rs ms sh a st fs))->(∀H',fw H H'->Q (.bl true) H')->kO vs H Q _E
section
variable {P:im} {w:io} {K:ai} {mg:Str->Option bv} {base:Heap} {t:Ad}
theorem Dg:fI ["text"] ["text"] (fC qJ):=by walk_at "sc"
theorem Dy (T:Txt K mg t):fX P w K mg base (ij P w) 1 t.xG t.xt ["text"] (uC):=by
 refine T.BO.fn.okN Dg (λ iw A outer s H vs Q E hr h=> ?_)
 .obtain⟨l,rfl,hz,k⟩:=h
  refine⟨_,Bx.un (fh (fF (vd (OX b_ (fJ Eb (by rfl) T.iG PySem.boot_len (a_ (fq 0) d_)) (jM T.Am)) (nA (fJ (OP rfl) (by rfl) T.X6 PyProof.Rows.boot_all (a_ (iV rfl (N:= ["sign"]) (fr:= []) (qp.of (by kernel_rfl)) (Ro (fq 0)) (λ _ _ _ _ _=>gB)
    (λ _ _ _ _ _=>(iW Tz (fq 0) (jM T.LB) (by with_unfolding_all rfl)))) d_)))))),?_⟩
  walk_at "rd";refine⟨hz,?_⟩
  split
  .rename_i h1
   have Z9:1<=l.length/\l.length<=12:=by
    simp only [bc,decide_eq_true_eq] at h1;lia
   refine SX (cs:=F_) l rfl hz (λ c H2 Q2 _ h=>⟨_,rfl,c,rfl,_,rfl,by rwa [rM]⟩) λ H2 s2=> ?_
   have e:pZ l=l.all λ c=>decide (c∈F_):=by
    unfold pZ;rw [decide_eq_true Z9,Bool.true_and]
   rw [<-e];exact k H2 s2
  .rename_i h1
   have e:pZ l=false:=by
    unfold pZ;rw [decide_eq_false (λ z=>h1 (by simp only [bc,decide_eq_true_eq];lia)),Bool.false_and]
   rw [<-e];exact k H (fw.refl _)
theorem A0:fI ["name"] ["name"] (fC pd):=by walk_at "sc"
theorem sS (T:Txt K mg t):fX P w K mg base (ij P w) 2 t.vg t.u0 ["name"] (sO t):=by
 have Gp:=Dy (P:=P) (w:=w) (base:=base) T;refine T.ue.fn.Hk A0 (λ iw A outer s H vs Q E hr h=> ?_)
 .obtain⟨l,rfl,hz,k⟩:=h
  refine⟨_,Bx.un (fh (fS (jJ (iu (fK T.BO Gp hr kr (a_ (fq 0) d_))))
   (fh (jK (T.Ka) lR rfl fW))
   fH)),?_⟩
  walk_at "rd";exact⟨l,rfl,hz,λ H2 s2=>⟨_,rfl,k H2 s2⟩⟩
theorem E1:fI ["self"] ["self"] (fC tT):=by walk_at "sc"
theorem Fl (T:Txt K mg t):fX P w K mg base (ij P w) 1 t.ui t.Af ["self"] (wX t):=by
 refine T.Gh.fn.okN E1 (λ iw A outer s H vs Q E hr h=> ?_)
 .obtain⟨p,dx,rfl,hp,k⟩:=h
  refine⟨_,Bx.un (c_ (vc (fq 0) j8)
   (c_ (vc (fq 0) j8)
   (fh (vc (fq 0) b_)))),?_⟩
  walk_at "rd";intro d1 h1;have n1:p≠d1:=fA hp h1;refine⟨_,_,_,by rwa [fo n1],T.ic,T.gP,by simp,λ d2 h2=> ?_⟩
  have n2:d2≠p:=λ z=>by
   rw [z,e_] at h2
   cases h2
  rw [fo n2] at h2
  have n3:d2≠d1:=λ z=>by
   rw [z,e_] at h2
   cases h2
  rw [fo n3] at h2;refine⟨_,_,_,by rw [fo n2.symm];exact e_,T.ic,T.g8,bV (lq _ _ _) (by decide),_,_,_,e_,T.ic,T.i_,bV (bj (lq _ _ _) (dD (lq _ _ _))) (by decide),?_⟩;refine k _ ⟨dx,d1,d2,[],[],0⟩ ⟨e_,?_,?_,λ x hx=>absurd hx (by simp),λ x hx=>absurd hx (by simp),?_,by simp,by simp,by simp,by simp⟩ rfl rfl rfl (λ b o hb e=> ?_) λ b hb=> ?_
  .show upd _ p _ d1=_;rw [fo n1.symm,fo n1.symm,fo n3.symm,fo n1.symm,e_];rfl
  .show upd _ p _ d2=_;rw [fo n2,fo n2,e_];rfl
  .simpa using n3.symm
  .rwa [fo hb,fo hb,fo (fA e h2),fo hb,fo (fA e h1)]
  .simp only [WS.own,av,bz,bb,or_false] at hb;rcases hb with rfl|rfl|rfl
   .exact .inl rfl
   .exact .inr h1
   .exact .inr h2
theorem tL:fI ["self","name"] ["self","name"] (fC kj):=by walk_at "sc"
theorem jh (T:Txt K mg t):fX P w K mg base (ij P w) 1 t.nC t.nv ["self","name"] (lX t):=by
 refine T.iP.fn.Hk tL (λ iw A outer s H vs Q E hr h=> ?_)
 .obtain⟨p,W,l,rfl,hw,k⟩:=h
  refine⟨_,Bx.un (fh (fS (r_ (pM (jO hr) (fq 1) (gU (fq 0))))
   (fh (jK (T.yx) lR rfl fW))
   fH)),?_⟩
  walk_at "rd";refine⟨_,_,_,hw.obj,T.ic,T.gP,_,rfl,_,rfl,_,lM.k (k:=.inr (tx l)) hw.val,?_⟩;rw [mY];by_cases h:l∈W.vals.map (·.1)
  .rw [if_pos h] at k
   rwa [decide_eq_true h]
  .rw [if_neg h] at k
   rwa [decide_eq_false h]
theorem A2:fI ["self","name"] ["self","name"] (fC ph):=by walk_at "sc"
theorem A6 (T:Txt K mg t):fX P w K mg base (ij P w) 2 t.vi t.u5 ["self","name"] (vA t jQ.start):=by
 have gM:=jh (P:=P) (w:=w) (base:=base) T;refine T.AD.fn.Hk A2 (len:=λ vs H Q E h=>by obtain⟨_,_,_,rfl,_⟩:=h;rfl) (λ iw A outer s H vs Q E hr h=> ?_)
 .obtain⟨p,W,l,rfl,hw,k⟩:=h
  refine⟨_,Bx.un (c_ (fT (ip (fq 0) T.ic T.iP gM hr kr (a_ (fq 1) d_)))
   (fh (fF (Cr rfl (N:= ["number","name","self"]) (fr:= [1,0]) (qp.of (by kernel_rfl)) (gU (fq 0)) (λ _ _ _ _ _=>(oN (fG iE (fc (ni K) (j9 (jO hr) (F0 K (fq 2)) (fq 0)) b_) (fq 1) (fO _))))
    (λ _ _ _ _ _=>(fq 0)))))),?_⟩
  walk_at "rd";refine⟨_,_,hw.obj,rfl,p,W,l,rfl,hw,?_⟩;by_cases h:l∈W.vals.map (·.1)
  .rw [if_pos h] at k⊢;exact hw.J7 T.ic T.g8 (f:=jQ.start) (i:=0) (λ t=>nB (j:=0) rfl) rfl (λ _=>rfl) (λ _=>rfl) k
  .rw [if_neg h] at k⊢;exact k
theorem EZ:fI ["self","name"] ["self","name"] (fC tS):=by walk_at "sc"
theorem Fj (T:Txt K mg t):fX P w K mg base (ij P w) 2 t.AA t.Ae ["self","name"] (vA t jQ.stop):=by
 have gM:=jh (P:=P) (w:=w) (base:=base) T;refine T.Gg.fn.Hk EZ (len:=λ vs H Q E h=>by obtain⟨_,_,_,rfl,_⟩:=h;rfl) (λ iw A outer s H vs Q E hr h=> ?_)
 .obtain⟨p,W,l,rfl,hw,k⟩:=h
  refine⟨_,Bx.un (c_ (fT (ip (fq 0) T.ic T.iP gM hr kr (a_ (fq 1) d_)))
   (fh (fF (Cr rfl (N:= ["number","name","self"]) (fr:= [1,0]) (qp.of (by kernel_rfl)) (gU (fq 0)) (λ _ _ _ _ _=>(oN (fG iE (fc (ni K) (j9 (jO hr) (F0 K (fq 2)) (fq 0)) b_) (fq 1) (fO _))))
    (λ _ _ _ _ _=>(fq 0)))))),?_⟩
  walk_at "rd";refine⟨_,_,hw.obj,rfl,p,W,l,rfl,hw,?_⟩;by_cases h:l∈W.vals.map (·.1)
  .rw [if_pos h] at k⊢;exact hw.J7 T.ic T.g8 (f:=jQ.stop) (i:=2) (λ t=>nB (j:=2) rfl) rfl (λ _=>rfl) (λ _=>rfl) k
  .rw [if_neg h] at k⊢;exact k
theorem vF:fI ["self","name"] ["self","name"] (fC lI):=by walk_at "sc"
theorem wa (T:Txt K mg t):fX P w K mg base (ij P w) 3 t.qi t.qc ["self","name"] (oi t):=by
 have pQ:=sS (P:=P) (w:=w) (base:=base) T;refine T.tE.fn.Hk vF (λ iw A outer s H vs Q E hr h=> ?_)
 .obtain⟨p,W,l,rfl,hw,hz,k⟩:=h
  refine⟨_,Bx.un (c_ (fT (fK T.ue pQ hr kr (a_ (fq 1) d_)))
   (c_ (fS (r_ (Ee (jO hr) (fq 1) (gU (fq 0))))
   (fh (jK (T.L') lR rfl fW))
   fH)
   (c_ (fS (fG Nw (fJ r9 (by rfl) T.iG PySem.boot_len (a_ (gU (fq 0)) d_)) (jM T.Bc) (fO _))
   (fh (jK (T.IH) lR rfl fW))
   fH)
   (fh (q_ (jO hr) (gU (fq 0)) (fq 1) j8))))),?_⟩
  walk_at "rd";refine⟨l,rfl,hz,λ H1 s1=> ?_⟩;unfold WA.As at k;rw [oB] at k
  cases hg:pZ l with
  | false=>
   rw [if_pos hg] at k;exact k H1 s1
  | true=>
   rw [if_neg (by rw [hg];simp)] at k;have w1:=hw.same s1;refine⟨_,_,_,w1.obj,T.ic,T.gP,_,rfl,_,rfl,_,lM.k (k:=.inr (tx l)) w1.val,?_⟩;rw [mY];by_cases h:l∈W.vals.map (·.1)
   .rw [if_pos h] at k;rw [decide_eq_true h,if_pos rfl];exact k H1 s1
   .rw [if_neg h] at k;rw [decide_eq_false h,if_neg aI];refine⟨_,_,_,w1.obj,T.ic,T.gP,_,rfl,_,rfl,_,w1.val,?_⟩
    have el:W.abs.things.length=W.vals.length:=by
     unfold WS.abs;rw [ae]
    have UY:(iZ W.vals).length=W.vals.length:=by
     unfold iZ;rw [ae]
    rw [el] at k;rw [UY];by_cases XG:100<=W.vals.length
    .rw [if_pos XG] at k;rw [if_pos (by lia)];exact k H1 s1
    .rw [if_neg XG] at k;rw [if_neg (Yy (Yr (Zj XG)))];intro d hd;have nd:p≠d:=fA w1.obj hd;have ndv:W.dv≠d:=fA w1.val hd;refine⟨_,_,_,by rw [fo nd];exact w1.obj,T.ic,T.gP,_,rfl,_,rfl,_,AQ.k (k:=.inr (tx l)) (by rw [fo ndv];exact w1.val) (by rw [UY];exact aF (show W.vals.length<100 from Zj XG) (f_ (by decide))),?_⟩;obtain⟨w2,st⟩:=w1.added hd h (Zj XG);refine k _ _ w2 ?_ ((Step.same s1).trans st);unfold WS.abs;simp only [ax,aB,bz]
theorem uH:fI ["self","name"] ["self","name"] (fC kP):=by walk_at "sc"
theorem uM (T:Txt K mg t):fX P w K mg base (ij P w) 3 t.oO t.oK ["self","name"] (m7 t):=by
 have gM:=(jh (P:=P) (w:=w) (base:=base) T).mono (show 1<=2 by decide);have Et:=A6 (P:=P) (w:=w) (base:=base) T;have ID:=Fj (P:=P) (w:=w) (base:=base) T;refine T.rA.fn.Hk uH (λ iw A outer s H vs Q E hr h=> ?_)
 .obtain⟨p,W,l,rfl,hw,k⟩:=h
  refine⟨_,Bx.un (c_ (fT (ip (fq 0) T.ic T.iP gM hr kr (a_ (fq 1) d_)))
   (c_ (fS (mM (wF (ip (fq 0) T.ic T.AD Et hr kr (a_ (fq 1) d_))) (pL (wF (ip (fq 0) T.ic T.Gg ID hr kr (a_ (fq 1) d_))))).L7
   (fh (jK (T.CY) lR rfl fW))
   fH)
   (fh (fT (wH (gU (fq 0)) (fq 1)))))),?_⟩
  walk_at "rd";refine⟨_,_,hw.obj,rfl,p,W,l,rfl,hw,?_⟩;unfold WA.wA at k;rw [oB] at k;by_cases h:l∈W.vals.map (·.1)
  .rw [if_neg (λ z=>z h)] at k;rw [if_pos h];refine⟨_,_,hw.obj,rfl,p,W,l,rfl,hw,?_⟩;rw [if_pos h];intro a1 H1 XA s1 EA;refine⟨_,.inl ⟨_,gg.of EA,rfl⟩,?_⟩;by_cases e1:W.abs.at_ jQ.start l = []
   .rw [e1];have w1:=hw.same s1;refine W_ ⟨_,_,w1.obj,rfl,p,W,l,rfl,w1,?_⟩;rw [if_pos h];intro a2 H2 ı s2 BN;refine⟨_,.inl ⟨_,gg.of BN,rfl⟩,?_⟩;by_cases e2:W.abs.at_ jQ.stop l = []
    .rw [e2];rw [if_neg (by rw [e1,e2];simp)] at k;have w2:=w1.same s2
     have ks:(hV (iZ W.vals) (.inr (tx l))).isSome=true:=by
      rw [mY,decide_eq_true h]
     obtain⟨v,hv⟩:=Option.isSome_iff_exists.mp ks;refine W_ ⟨_,_,_,w2.obj,T.ic,T.gP,_,rfl,_,rfl,.inl ⟨_,.inl w2.val⟩,_,w2.val,.inr (tx l),rfl,_,hv,?_⟩;obtain⟨w3,st⟩:=w2.dropped (l:=l);refine k _ _ w3 ?_ ((Step.same (s1.trans s2)).trans st);unfold WS.abs;simp only [cv];rfl
    .rw [if_pos (.inr e2)] at k
     have:(!(List.map V.int (W.abs.at_ jQ.stop l)).isEmpty)=true:=by
      cases q:W.abs.at_ jQ.stop l with
      | nil=>exact absurd q e2
      | cons _ _=>rfl
     rw [this];exact W9 (k _ (s1.trans s2))
   .rw [if_pos (.inl e1)] at k
    have:(!(List.map V.int (W.abs.at_ jQ.start l)).isEmpty)=true:=by
     cases q:W.abs.at_ jQ.start l with
     | nil=>exact absurd q e1
     | cons _ _=>rfl
    rw [this];exact W9 (k _ s1)
  .rw [if_pos h] at k;rw [if_neg h];exact k H (fw.refl _)
theorem vD:fI ["self","name"] ["self","name"] (fC lG):=by walk_at "sc"
theorem v_ (T:Txt K mg t):fX P w K mg base (ij P w) 1 t.qg t.qa ["self","name"] (og t):=by
 refine T.tD.fn.okN vD (λ iw A outer s H vs Q E hr h=> ?_)
 .obtain⟨p,W,l,rfl,hw,k⟩:=h;refine⟨_,Bx.un (fh (fF (Rq (Ee (jO hr) (fq 1) (gU (fq 0)))))),?_⟩;walk_at "rd";refine⟨_,_,_,hw.obj,T.ic,T.gP,_,rfl,_,rfl,_,lM.k (k:=.inr (tx l)) hw.val,?_⟩
  rwa [mY]
theorem A1:fI ["self"] ["self"] (fC pf):=by walk_at "sc"
theorem A5 (T:Txt K mg t):fX P w K mg base (ij P w) 1 t.vh t.u4 ["self"] (sP t):=by
 refine T.AB.fn.okN A1 (λ iw A outer s H vs Q E hr h=> ?_)
 .obtain⟨p,W,rfl,hw,k⟩:=h;refine⟨_,Bx.un (fh (fF (iK (mL rfl) (by rfl) T.mO bC (a_ (gU (fq 0)) d_)))),?_⟩;walk_at "rd";refine⟨_,_,_,hw.obj,T.ic,T.gP,_,rfl,_,rfl,_,.inl hw.val,λ a ha=> ?_⟩
  have e:(iZ W.vals).map (λ kv=>kV kv.1)=(W.vals.map (·.1)).map λ z=>V.str (tx z):=by
   unfold iZ;rw [aR,aR];rfl
  rw [e];exact k a ha
theorem yZ:fI ["number"] ["number"] (fC nL):=by walk_at "sc"
theorem zt (T:Txt K mg t):fX P w K mg base (ij P w) 1 t.tj t.sY ["number"] (qA):=by
 refine T.xk.fn.okN yZ (λ iw A outer s H vs Q E hr h=> ?_)
 .obtain⟨n,rfl,k⟩:=h;refine⟨_,Bx.un (fh (fF (iW oy (fJ OQ (by rfl) T.X7 PyProof.Rows.boot_abs (a_ (fq 0) d_)) (fE zk b_ b_) (fO _)))),?_⟩;walk_at "rd";have big:(10:Nat) ^ 60=1000000000000000000000000000000000000000000000000000000000000:=by decide
  have e:decide ((if n<0 then -n else n)<(1000000000000000000000000000000000000000000000000000000000000:Int))=decide (n.natAbs<10 ^ 60):=by
   rw [decide_eq_decide,big]
   split<;>omega
  rw [e];exact⟨by decide,k⟩
theorem xQ:fI ["number"] ["number"] (fC mj):=by walk_at "sc"
theorem xV (T:Txt K mg t):fX P w K mg base (ij P w) 2 t.rk t.qV ["number"] (pU t):=by
 have Bg:=zt (P:=P) (w:=w) (base:=base) T;refine T.u6.fn.Hk xQ (λ iw A outer s H vs Q E hr h=> ?_)
 .obtain⟨n,rfl,k⟩:=h
  refine⟨_,Bx.un (fh (fS (jJ (iu (fK T.xk Bg hr kr (a_ (fq 0) d_))))
   (fh (jK (T.EC) lR rfl fW))
   fH)),?_⟩
  walk_at "rd";refine⟨n,rfl,_,rfl,?_⟩;by_cases h:n.natAbs<10 ^ 60
  .rw [if_pos h] at k;exact gy (by rw [decide_eq_true h];decide) k
  .rw [if_neg h] at k;exact jf (decide_eq_false h) k
theorem vE:fI ["self","number"] ["self","number"] (fC lH):=by walk_at "sc"
theorem oA (T:Txt K mg t):fX P w K mg base (ij P w) 1 t.qh t.qb ["self","number"] (oh t):=by
 refine T.nT.fn.Hk vE (λ iw A outer s H vs Q E hr h=> ?_)
 .obtain⟨p,W,n,rfl,hw,k⟩:=h
  refine⟨_,Bx.un (fh (fS (r_ (pM (jO hr) (fq 1) (gU (fq 0))))
   (fh (jK (T.Ma) lR rfl fW))
   fH)),?_⟩
  walk_at "rd";refine⟨_,_,_,hw.obj,T.ic,T.g8,_,rfl,_,rfl,_,lM.k (k:=.inl n) hw.fZ,?_⟩;rw [mZ];by_cases h:n∈W.fL.map (·.1)
  .rw [if_pos h] at k
   rwa [decide_eq_true h]
  .rw [if_neg h] at k
   rwa [decide_eq_false h]
theorem y9:fI ["self","number"] ["self","number"] (fC nM):=by walk_at "sc"
theorem zu (T:Txt K mg t):fX P w K mg base (ij P w) 2 t.tq t.sZ ["self","number"] (qB t):=by
 have lL:=oA (P:=P) (w:=w) (base:=base) T;refine T.xJ.fn.Hk y9 (λ iw A outer s H vs Q E hr h=> ?_)
 .obtain⟨p,W,n,rfl,hw,k⟩:=h
  refine⟨_,Bx.un (c_ (fT (ip (fq 0) T.ic T.nT lL hr kr (a_ (fq 1) d_)))
   (fh (fT (wH (gU (fq 0)) (fq 1))))),?_⟩
  walk_at "rd";refine⟨_,_,hw.obj,rfl,p,W,n,rfl,hw,?_⟩
  have ea:W.abs.fL.map (·.1)=W.fL.map (·.1):=by
   unfold WS.abs;rw [aR];rfl
  unfold WA.Ii at k;rw [ea] at k;by_cases h:n∈W.fL.map (·.1)
  .rw [if_neg (λ z=>z h)] at k;rw [if_pos h]
   have ks:(hV (fU W.fL) (.inl n)).isSome=true:=by
    rw [mZ,decide_eq_true h]
   obtain⟨v,hv⟩:=Option.isSome_iff_exists.mp ks;refine⟨_,_,_,hw.obj,T.ic,T.g8,_,rfl,_,rfl,.inl ⟨_,.inl hw.fZ⟩,_,hw.fZ,.inl n,rfl,_,hv,?_⟩;obtain⟨w3,st⟩:=hw.cut (n:=n);refine k _ _ w3 ?_ st;unfold WS.abs;simp only [cv];rfl
  .rw [if_pos h] at k;rw [if_neg h];exact k H (fw.refl _)
theorem qE:fI ["self","start","name","end","weight","number"] ["self","start","name","end","weight"] (fC gC):=by walk_at "sc"
theorem zv (T:Txt K mg t):fX P w K mg base (ij P w) 3 t.tw t.s_ ["self","start","name","end","weight"] (qC t):=by
 have gM:=(jh (P:=P) (w:=w) (base:=base) T).mono (show 1<=2 by decide);have pQ:=sS (P:=P) (w:=w) (base:=base) T;have AN:=xV (P:=P) (w:=w) (base:=base) T;refine T.xK.fn.Hk qE (λ iw A outer s H vs Q E hr h=> ?_)
 .obtain⟨p,W,s,n,e,wt,rfl,hw,low,hz,k⟩:=h
  refine⟨_,Bx.un (c_ (fT (ip (fq 0) T.ic T.iP gM hr kr (a_ (fq 1) d_)))
   (c_ (fT (ip (fq 0) T.ic T.iP gM hr kr (a_ (fq 3) d_)))
   (c_ (fT (fK T.ue pQ hr kr (a_ (fq 2) d_)))
   (c_ (fT (fK T.u6 AN hr kr (a_ (fq 4) d_)))
   (c_ (fS (fG Nw (fJ r9 (by rfl) T.iG PySem.boot_len (a_ (gU (fq 0)) d_)) (jM T.FY) (fO _))
   (fh (jK (T.IH) lR rfl fW))
   fH)
   (c_ (fD 5 qE.nd (gU (fq 0)))
   (c_ (q_ (jO hr) (gU (fq 0)) (fq 5) (gF (a_ (fq 1) (a_ (fq 2) (a_ (fq 3) (a_ (fq 4) d_))))))
   (c_ (vc (fq 0) (fE iN (fq 5) b_))
   (fh (fF (fq 5))))))))))),?_⟩
  walk_at "rd";unfold WA.Iw at k;rw [oB] at k;refine⟨_,_,hw.obj,rfl,p,W,s,rfl,hw,?_⟩;by_cases hs:s∈W.vals.map (·.1)
  .rw [if_pos hs];refine⟨_,_,hw.obj,rfl,p,W,e,rfl,hw,?_⟩;by_cases he:e∈W.vals.map (·.1)
   .rw [if_pos he];rw [if_neg (λ z=>z.elim (λ y=>y hs) (λ y=>y he))] at k;refine⟨n,rfl,hz,λ H1 s1=> ?_⟩
    cases hg:pZ n with
    | false=>
     rw [if_pos hg] at k;exact k H1 s1
    | true=>
     rw [if_neg (by rw [hg];simp)] at k;rw [if_neg (by simp)];refine⟨wt,rfl,?_⟩;by_cases hn:wt.natAbs<10 ^ 60
     .rw [if_neg (Zy hn)] at k;rw [if_pos hn];have w1:=hw.same s1
      have el:W.abs.fL.length=W.fL.length:=by
       unfold WS.abs;rw [ae]
      have UY:(fU W.fL).length=W.fL.length:=by
       unfold fU;rw [ae]
      rw [el] at k;refine⟨_,_,_,w1.obj,T.ic,T.g8,_,rfl,_,rfl,_,w1.fZ,?_⟩;rw [UY];by_cases XF:400<=W.fL.length
      .rw [if_pos XF] at k;exact jf (by lia) (k H1 s1)
      .rw [if_neg XF] at k;refine gy (Yy (Yr (Zj XF))) ⟨_,_,_,w1.obj,T.ic,T.i_,_,rfl,?_⟩;refine⟨by decide,λ a ha=> ?_⟩;have np:p≠a:=fA w1.obj ha;have nt:W.dt≠a:=fA w1.fZ ha
       have hl:W.next∉W.fL.map (·.1):=λ z=>by
        have:=low _ z;exact Yf this (Int.le_refl _)
       obtain⟨w2,st⟩:=w1.Ø (t:=⟨s,n,e,wt⟩) ha hl (Zj XF);refine⟨_,_,_,by rw [fo np];exact w1.obj,T.ic,T.g8,_,rfl,_,rfl,_,AQ.k (k:=.inl W.next) (by rw [fo nt];exact w1.fZ) (by rw [UY];exact aF (show W.fL.length<400 from Zj XF) (f_ (by decide))),_,rfl,_,_,_,by rw [fo w1.ZE.symm,fo np];exact w1.obj,T.ic,T.i_,by show 3<1000;decide,?_⟩;rw [Kz];refine k _ _ w2 ?_ ((Step.same s1).trans st);unfold WS.abs;simp only [ax,aB,bz]
     .rw [if_pos (Zi hn)] at k;rw [if_neg hn];exact k H1 s1
   .rw [if_neg he];rw [if_pos (.inr he)] at k;exact k H (fw.refl _)
  .rw [if_neg hs];rw [if_pos (.inl hs)] at k;exact k H (fw.refl _)
theorem EY:fI ["self"] ["self"] (fC tR):=by walk_at "sc"
theorem Fi (T:Txt K mg t):fX P w K mg base (ij P w) 1 t.Az t.Ac ["self"] (wW t):=by
 refine T.Gf.fn.okN EY (λ iw A outer s H vs Q E hr h=> ?_)
 .obtain⟨p,W,rfl,hw,k⟩:=h;refine⟨_,Bx.un (fh (fF (iK (mL rfl) (by rfl) T.mO bC (a_ (gU (fq 0)) d_)))),?_⟩;walk_at "rd";refine⟨_,_,_,hw.obj,T.ic,T.g8,_,rfl,_,rfl,_,.inl hw.fZ,λ a ha=> ?_⟩
  have e:(fU W.fL).map (λ kv=>kV kv.1)=(W.fL.map (·.1)).map V.int:=by
   unfold fU;rw [aR,aR];rfl
  rw [e];exact k a ha
theorem GS:fI ["self","number"] ["self","number"] (fC vT):=by walk_at "sc"
theorem Hj (T:Txt K mg t):fX P w K mg base (ij P w) 2 t.CM t.Cf ["self","number"] (yS t):=by
 have lL:=oA (P:=P) (w:=w) (base:=base) T;refine T.J_.fn.Hk GS (λ iw A outer s H vs Q E hr h=> ?_)
 .obtain⟨p,W,n,rfl,hw,k⟩:=h
  refine⟨_,Bx.un (c_ (fT (ip (fq 0) T.ic T.nT lL hr kr (a_ (fq 1) d_)))
   (fh (fF (j9 (jO hr) (gU (fq 0)) (fq 1))))),?_⟩
  walk_at "rd";refine⟨_,_,hw.obj,rfl,p,W,n,rfl,hw,?_⟩;by_cases h:n∈W.fL.map (·.1)
  .rw [if_pos h] at k⊢;obtain⟨⟨n',a,fZ⟩,hx,e⟩:=aC.mp h;have e':n'=n:=e;subst e';exact⟨_,_,_,hw.obj,T.ic,T.g8,_,rfl,_,rfl,_,JL (.inl hw.fZ) hw.nums hx,k a fZ hx⟩
  .rw [if_neg h] at k⊢;exact k
theorem Df:fI ["script","k"] ["script","k"] (fC qH):=by walk_at "sc"
theorem Dw (T:Txt K mg t):fX P w K mg base (ij P w) 1 t.xE t.xp ["script","k"] (uA K):=by
 refine T.rX.fn.okN Df (λ iw A outer s H vs Q E hr h=> ?_)
 .obtain⟨a,ns,k0,rfl,hs,h0,k⟩:=h
  refine⟨_,Bx.un (c_ (fS (fG oy (fq 1) (fJ fQ (by rfl) T.iG PySem.boot_len (a_ (fq 0) d_)) (fO _))
   (fh (fF (fc fP (fq 0) (fq 1))))
   fH)
   (fh (fF b_))),?_⟩
  walk_at "rd";refine⟨_,.inl hs,?_⟩;rw [ae]
  split
  .rename_i h
   obtain⟨v,e1,e2⟩:=pN (xs:=ns.map V.int) h0 (by rwa [ae]);obtain⟨z,_,rfl⟩:=iR e2;exact⟨a,_,_,_,rfl,rfl,hs,e1,k z⟩
  .exact k 0
theorem GP:fI ["cell"] ["cell"] (fC vM):=by walk_at "sc"
theorem tW (T:Txt K mg t):fX P w K mg base (ij P w) 1 t.CF t.B_ ["cell"] (yM):=by
 refine T.ym.fn.okN GP (λ iw A outer s H vs Q E hr h=> ?_)
 .obtain⟨c,rfl,k⟩:=h;refine⟨_,Bx.un (fh (fF (fE gz (fE iN (fE tV (fE gz (fq 0) (fE zk b_ b_)) b_) b_) b_))),?_⟩;walk_at "rd";refine⟨by decide,.inr ⟨by decide,by decide⟩,?_⟩;generalize c%1000000000000000000000000000000000000000000000000000000000000*48271+12345=z;exact k _ (Int.emod_nonneg _ (by decide)) (Int.emod_lt_of_pos _ (by decide))
theorem jg:fI ["cell","letters","spread","size","base","at","names","turn","row"] ["cell"] (fC vL):=by walk_at "sc"
theorem Hc (T:Txt K mg t):fX P w K mg base (ij P w) 1 t.CD t.B3 ["cell"] (yL):=by
 refine T.Jz.fn.okN jg (λ iw A outer s H vs Q E hr h=> ?_)
 .obtain⟨c,rfl,k⟩:=h
  refine⟨_,Bx.un (c_ (fD 1 jg.nd fW)
   (c_ (fD 2 jg.nd (fE gz (fq 0) (fE zk b_ b_)))
   (c_ (fD 3 jg.nd (fE iN b_ (fE gz (fq 2) b_)))
   (c_ (kz (i:=4) jg.nd rfl (by walk_at "o") rfl (N:= ["k","spread"]) (fr:= [2]) (qp.of (by kernel_rfl)) (gJ rfl T.iB (a_ (fq 3) d_)) (λ _ _ _ _ _=>gB)
    (λ _ _ _ _ _=>(fE gz (fE iN (fE gK (fq 1) b_) (fE tV (fE gz (fE gK (fq 1) b_) b_) (fq 0))) b_)))
   (c_ (fD 5 jg.nd (fE gz (fE gK (fq 2) b_) (fq 3)))
   (c_ (fD 6 jg.nd (gi d_))
   (c_ (gX PassesOwn.never rfl (gJ rfl T.iB (a_ b_ d_)) (gn 7 jg.nd)
   (c_ (fD 8 jg.nd (iK u7 (by rfl) T.mO bC (a_ (fq 4) d_)))
   (c_ (sf (fE gz (fE iN (fc fP (fq 4) (fq 5)) (fE tV (fq 7) (fE iN b_ (fE gz (fE gK (fq 2) b_) b_)))) b_) (su (fq 8) (fq 5) set_list))
   (fh (fT (ig aE aT aS gE (fq 6) (a_ (ig PySem.F.plainAttrs_str PySem.F.slot_str_join PySem.F.type_str_join Jt fW (a_ (iV rfl (N:= ["k","letters"]) (fr:= [1]) (qp.of (by kernel_rfl)) (gq (fq 8)) (λ _ _ _ _ _=>gB)
    (λ _ _ _ _ _=>(fc HM (fq 1) (fq 0)))) d_)) d_)))))))
   (c_ (fT (ig aE aT aS gE (fq 6) (a_ (fE G5 (fc fP (fq 6) b_) (fc HM (fq 1) (fE gz (fE gK (fq 2) b_) b_))) d_)))
   (fh (fF (fq 6))))))))))),?_⟩
  walk_at "rs";refine fk λ N hN=> ?_;walk_at "rd";refine hN _ _ ?_;refine fk λ N hN=> ?_;walk_at "rd";refine⟨by decide,hN _ _ ?_⟩;generalize c%1000000000=n;refine fk λ N hN=> ?_;walk_at "rd";refine hN _ _ ?_;obtain⟨sz,hsz,z1,z2⟩:∃sz:Int,1+n%11=sz/\1<=sz/\sz<=11:=⟨_,rfl,by lia,by lia⟩
  rw [hsz];refine fk λ N hN=> ?_;walk_at "rd";refine⟨_,rfl,_,rfl,by lia,by lia,comp_map (iQ (n:=sz.toNat)) (λ j=>.int ((n/121+n/3146%3*(0+(j:Int)))%26)) (f_ (by rw [aJ];lia)) (λ j H2 Q2 _ _ h=> ?_) λ bs H1 hbs s1 d1=>hN _ _ ?_⟩
  .walk_at "rd";exact⟨.inl (by lia),h _ (fw.refl _)⟩
  obtain⟨js,e1,VI,ZG⟩:∃js:List Int,H1 bs=some (.lst (js.map V.int))/\js.length=sz.toNat/\∀j∈js,0<=j/\j<26:=by
   refine⟨(List.range sz.toNat).map λ (j:Nat)=>(n/121+n/3146%3*(0+(j:Int)))%26,by rwa [aR],by simp,λ j hj=> ?_⟩;obtain⟨x,_,rfl⟩:=aC.mp hj;omega
  clear d1;refine fk λ N hN=> ?_;walk_at "rd";refine⟨Ya (by decide) z1,hN _ _ ?_⟩;obtain⟨at_,UE,a1,a2⟩:∃at_:Int,n/11%sz=at_/\0<=at_/\at_<sz:=⟨_,rfl,dQ _ (Ym (Ya (by decide) z1)),dr _ (Ya (by decide) z1)⟩
  rw [UE];clear UE hsz;refine fk λ N hN=> ?_;walk_at "rd";refine⟨aQ _,λ ps QN=>hN _ _ ?_⟩;have n1:fw H1 (upd H1 ps (.lst [])):=fw.new QN;have e2:=n1 _ _ e1;have s2:=s1.trans n1;have Lg:=s1.free QN;have õ:bs≠ps:=λ z=>by rw [<-z,e1] at QN;cases QN
  have p2:upd H1 ps (.lst []) ps=some (.lst []):=e_;generalize upd H1 ps (.lst [])=H2 at e2 s2 p2;clear e1 n1;refine fk λ N hN=> ?_
  refine⟨_,rfl,by decide,by decide,j7 (n:=3) (lo:=0) (λ i σ H3=>∃v v' ls,σ = [some (.int c),some (.str (tx F_)),some (.int n),some (.int sz),some (.ref bs),some (.int at_),some (.ref ps),v,v']/\fw H H3/\H3 bs=some (.lst (js.map V.int))/\H3 ps=some (.lst (ls.map λ l=>.str (tx l)))/\ls.length=i/\∀l∈ls,l.length=sz.toNat/\∀x∈l,x∈F_)
   ⟨none,none,[],rfl,s2,e2,p2,rfl,λ l hl=>nomatch hl⟩ ?_ ?_⟩
  .rintro i σ H3 hi ⟨v,v',ls,rfl,s3,b3,p3,ll,lo⟩;clear hN;refine fk λ N2 hN=> ?_;walk_at "rg";walk_at "rd";refine⟨_,.inl (gg.of b3),λ r hr=>hN _ _ ?_⟩;have n4:fw H3 (upd H3 r (.lst (js.map V.int))):=fw.new hr;have r4:upd H3 r (.lst (js.map V.int)) r=some (.lst (js.map V.int)):=e_;have s4:=s3.trans n4;have b4:=n4 _ _ b3;have p4:=n4 _ _ p3;have Ul:=s3.free hr;have ô:bs≠r:=λ z=>by rw [<-z,b3] at hr;cases hr
   have ï:ps≠r:=λ z=>by rw [<-z,p3] at hr;cases hr
   clear n4;generalize upd H3 r (.lst (js.map V.int))=H4 at r4 s4 b4 p4;refine fk λ N2 hN=> ?_;walk_at "rd";obtain⟨v1,e1,Pz⟩:=pN (xs:=js.map V.int) a1 (by rw [ae,VI];exact QaE a2);obtain⟨z,hz,rfl⟩:=iR Pz;refine fN b4 e1 ⟨.inl (by lia),_,rfl,_,r4,_,rY a1 (by rw [ae,VI];exact QaE a2),hN _ _ ?_⟩;rw [<-di (f:=V.int)]
   have Xx:∀j∈js.set at_.toNat ((z+(0+(i:Int))*(1+n/9438%12))%26),0<=j/\j<26:=λ j hj=>by
    rcases bZ hj with h|h
    .exact ZG j h
    .omega
   have WX:(js.set at_.toNat ((z+(0+(i:Int))*(1+n/9438%12))%26)).length=sz.toNat:=by rw [bQ,VI]
   generalize js.set at_.toNat ((z+(0+(i:Int))*(1+n/9438%12))%26)=R1 at Xx WX;have s5:fw H (upd H4 r (.lst (R1.map V.int))):=s4.gh Ul;have r5:upd H4 r (.lst (R1.map V.int)) r=some (.lst (R1.map V.int)):=e_;have b5:upd H4 r (.lst (R1.map V.int)) bs=some (.lst (js.map V.int)):=(fo ô).trans b4;have p5:upd H4 r (.lst (R1.map V.int)) ps=some (.lst (ls.map λ l=>.str (tx l))):=(fo ï).trans p4;generalize upd H4 r (.lst (R1.map V.int))=H5 at s5 r5 b5 p5;walk_at "rd";refine⟨gu (gg.of p5),_,rfl,r,rfl,⟨_,gg.of r5⟩,Ci (gg.of r5) Xx (by lia) (λ j H6 Q6 h=> ?_) λ D H6 hD s6 d6=>⟨D,_,rfl,rfl,d6,by rw [ED];lia,_,s6 _ _ p5,?_,s5.trans s6 |>.gh Lg,(fo õ).trans (s6 _ _ b5),ls ++ [R1.map uQ],?_,?_,λ l hl=> ?_⟩⟩
   .walk_at "rd";exact h
   .rw [ae,ll];exact aF (show i<3000 from Za hi (Zd rfl)) (f_ (by decide))
   .rw [e_,ax,Bk];rfl
   .rw [ao,ll];rfl
   .rcases aA.mp hl with h|h
    .exact lo l h
    .rw [aj.mp h];exact⟨by rw [ae,WX],EE R1⟩
  .rintro σ H3 ⟨v,v',ls,rfl,s3,b3,p3,ll,lo⟩;refine hN _ _ ?_;refine fk λ N hN=> ?_;walk_at "rd"
   obtain⟨l0,lr,rfl⟩:∃l0 lr,ls=l0::lr:=by
    cases ls with
    | nil=>cases ll
    | cons a b=>exact⟨a,b,rfl⟩
   obtain⟨l1,l2⟩:=lo l0 (by simp);refine⟨gu (gg.of p3),fN (v:=.str (tx l0)) p3 gW (Jh (by decide) (Int.emod_nonneg _ (by decide)) (by show n/31%26<26;exact Int.emod_lt_of_pos _ (by decide)) λ x hx=>⟨_,rfl,_,rfl,?_,_,p3,?_,hN _ _ ?_⟩)⟩
   .rw [yA,yA];exact f_ (by simp only [aG,aW];lia)
   .rw [ae,ll];exact aF (show 3<3000 by decide) (f_ (by decide))
   walk_at "rd";refine k ps _ ((l0::lr) ++ [l0 ++ [x]]) Lg (s3.gh Lg) ⟨?_,?_,λ l hl=> ?_⟩
   .rw [e_,ax];simp only [aB,bz,CZ,cW]
   .rw [ao,ll];rfl
   .rcases aA.mp hl with h|h
    .obtain⟨h1,h2⟩:=lo l h;exact⟨by lia,by lia,h2⟩
    .rw [aj.mp h];refine⟨by rw [ao];simp,by rw [ao,l1];simp only [aG,aW];lia,λ y hy=> ?_⟩;rcases aA.mp hy with h|h
     .exact l2 y h
     .rw [aj.mp h];exact aq hx
theorem BB:fI ["cell","size"] ["cell"] (fC zd):=by walk_at "sc"
theorem BF (T:Txt K mg t):fX P w K mg base (ij P w) 1 t.Ge t.FU ["cell"] (Bv):=by
 refine T.HI.fn.okN BB (λ iw A outer s H vs Q E hr h=> ?_)
 .obtain⟨c,rfl,k⟩:=h
  refine⟨_,Bx.un (c_ (fD 1 BB.nd (fE gz (fq 0) (fE zk b_ b_)))
   (c_ (fS (fG iE (fE gz (fq 1) b_) b_ (fO _))
   (fh (fF (fE pq b_ (fE gK (fq 1) b_))))
   fH)
   (fh (fF (fE gK (fq 1) b_))))),?_⟩
  walk_at "rd";refine⟨by decide,?_⟩
  split<;>exact k _ (by unfold xi;lia)
theorem EW:fI ["cell","turn","base"] ["cell","turn","base"] (fC tP):=by walk_at "sc"
theorem wY (T:Txt K mg t):fX P w K mg base (ij P w) 2 t.Ax t.Aa ["cell","turn","base"] (wU):=by
 have AM:=BF (P:=P) (w:=w) (base:=base) T;refine T.zD.fn.okN EW (λ iw A outer s H vs Q E hr h=> ?_)
 .obtain⟨c,tu,b,rfl,hb,k⟩:=h
  refine⟨_,Bx.un (c_ (fS (fG iE (fE gz (fq 1) b_) b_ (fO _))
   (fh (fF (fE pq (fE iN (fq 2) (fE gz (fE gK (fq 1) b_) b_)) b_)))
   fH)
   (c_ (fS (fG iE (fE gz (fq 1) b_) b_ (fO _))
   (fh (fF (fE pq (fE gz (fE gK (fq 1) b_) b_) b_)))
   fH)
   (fh (fF (fK T.HI AM hr fM (a_ (fq 0) d_)))))),?_⟩
  walk_at "rd";unfold xi at hb;refine fV (λ _=>k _ (by unfold tX;omega)) λ _=>fV (λ _=>k _ (by unfold tX;lia)) λ _=>⟨_,rfl,λ n hn=>k n ?_⟩
  unfold xi at hn;unfold tX;exact Zc hn (Zd rfl)
theorem ke:fI ["cell","names","base","turn","sign","number"] ["cell","names","base"] (fC qF):=by walk_at "sc"
theorem Du (T:Txt K mg t):fX P w K mg base (ij P w) 3 t.xC t.xn ["cell","names","base"] (ux):=by
 have oR:=(tW (P:=P) (w:=w) (base:=base) T).mono (show 1<=2 by decide);have uq:=wY (P:=P) (w:=w) (base:=base) T;refine T.BI.fn.okN ke (λ iw A outer s H vs Q E hr h=> ?_)
 .obtain⟨c,a,ns,b,rfl,hn,hb,k⟩:=h
  refine⟨_,Bx.un (c_ (fD 3 ke.nd (fE gK (fK T.ym oR hr fM (a_ (fq 0) d_)) b_))
   (c_ (fD 4 ke.nd (fc fP Ap (fE gz (fE gK (fq 3) b_) b_)))
   (c_ (fD 5 ke.nd b_)
   (c_ (fS (fG mC (fq 4) fW (fO _))
   (fh (fD 5 ke.nd (fK T.zD uq hr fM (a_ (fq 0) (a_ (fE gK (fq 3) b_) (a_ (fq 2) d_))))))
   fH)
   (fh (fF (gF (a_ fW (a_ (fc fP (fE mD (fq 1) (gi (a_ fW d_))) (fE gz (fq 3) b_)) (a_ (iW iE (fE gz (fE gK (fq 3) b_) b_) b_ (fO _)) (a_ (fq 4) (a_ (fq 5) d_)))))))))))),?_⟩
  walk_at "rs";obtain⟨hn1,Ut,ĝ⟩:=hn;refine fk λ N hN=> ?_;walk_at "rd";refine⟨_,rfl,λ m h0 h1=>⟨_,rfl,hN _ _ ?_⟩⟩;obtain⟨tu,htu⟩:∃tu:Int,m/8=tu:=⟨_,rfl⟩
  rw [htu];refine fk λ N hN=> ?_;walk_at "rd";refine⟨by decide,λ p hp=>P' (Int.emod_nonneg _ (by decide)) (by show tu/10%6<6;exact Int.emod_lt_of_pos _ (by decide)) λ v hv=>hN _ _ ?_⟩
  have pick:∃a,v = .str (tx a)/\a∈[[],[60],[62],[61],[33]]:=by
   simp only [av,bb,or_false] at hv;rcases hv with rfl|rfl|rfl|rfl|rfl|rfl<;>exact⟨_,rfl,by decide⟩
  obtain⟨sg,rfl,hsg⟩:=pick;have s1:=fw.new (o:=.lst [V.str (tx []),V.str (tx []),V.str (tx [60]),V.str (tx [62]),V.str (tx [61]),V.str (tx [33])]) hp;generalize upd H p (.lst [V.str (tx []),V.str (tx []),V.str (tx [60]),V.str (tx [62]),V.str (tx [61]),V.str (tx [33])])=H1 at s1;refine fk λ N hN=> ?_;walk_at "rd";refine hN _ _ ?_;refine fk λ N hN=> ?_
  have hM:∀n:Int,tX n->(sg = []->n=0)->N [some (.int c),some (.ref a),some (.int b),some (.int tu),some (.str (tx sg)),some (.int n)] H1:=by
   intro n hn h0;refine hN _ _ ?_;walk_at "rd";refine⟨by decide,λ q hq=>⟨_,(s1.gh (o:=.lst [V.str (tx [95])]) (s1.free hq)) _ _ hn1,_,e_,by simp only [ae,Ut];decide,λ r hr=> ?_⟩⟩;obtain⟨v,e1,e2⟩:=pN (xs:=(ns.map λ l=>V.str (tx l)) ++ [V.str (tx [95])]) (i:=tu%5) (Int.emod_nonneg _ (by decide)) (by simp only [ao,ae,Ut];show tu%5<5;exact Int.emod_lt_of_pos _ (by decide))
   have pick:∃l,v = .str (tx l)/\(l = [95]\/Gk l):=by
    have:=aq e2;rcases aA.mp this with h|h
    .obtain⟨l,hl,rfl⟩:=aC.mp h;exact⟨l,rfl,.inr (ĝ l hl)⟩
    .rw [aj.mp h];exact⟨[95],rfl,.inl rfl⟩
   obtain⟨l,rfl,hl⟩:=pick;have s2:=(fw.new (o:=.lst [V.str (tx [95])]) hq).gh (o:=.lst ((ns.map λ l=>V.str (tx l)) ++ [V.str (tx [95])])) ((fw.new (o:=.lst [V.str (tx [95])]) hq).free hr);refine fN e_ e1 ⟨by decide,λ p3 h3=> ?_⟩;have s3:=s2.gh (o:=.tup (Hy ⟨l,decide (tu/5%2=1),sg,n⟩)) (s2.free h3);exact k ⟨l,_,sg,n⟩ p3 _ ⟨hl,hsg,hn.lt,h0⟩ hn (s1.free (s2.free h3)) (s1.trans s3) e_
  walk_at "rd";refine fV (λ h=> ?_) λ h=> ?_
  .exact⟨_,_,_,rfl,hb,λ n hn=>hM n hn λ z=>absurd z h⟩
  .exact hM 0 (by unfold tX;decide) λ _=>rfl
theorem xP:fI ["weight","sign","number"] ["weight","sign","number"] (fC mh):=by walk_at "sc"
theorem xU (T:Txt K mg t):fX P w K mg base (ij P w) 1 t.rj t.qU ["weight","sign","number"] (lD):=by
 refine T.uv.fn.okN xP (λ iw A outer s H vs Q E hr h=> ?_)
 .obtain⟨wt,sg,n,rfl,k⟩:=h
  refine⟨_,Bx.un (c_ (fS (fG iE (fq 1) fW (fO _))
   (fh (fF (iW oy (fq 0) (fq 2) (fO _))))
   fH)
   (c_ (fS (fG iE (fq 1) fW (fO _))
   (fh (fF (iW Js (fq 0) (fq 2) (fO _))))
   fH)
   (c_ (fS (fG iE (fq 1) fW (fO _))
   (fh (fF (iW iE (fq 0) (fq 2) (fO _))))
   fH)
   (c_ (fS (fG iE (fq 1) fW (fO _))
   (fh (fF (iW mC (fq 0) (fq 2) (fO _))))
   fH)
   (fh (fF jn)))))),?_⟩
  walk_at "rd";unfold Fv at k;refine fV (λ h=> ?_) λ h=> ?_
  .rw [if_pos h] at k;exact k
  rw [if_neg h] at k;refine fV (λ h=> ?_) λ h=> ?_
  .rw [if_pos h] at k;exact k
  rw [if_neg h] at k;refine fV (λ h=> ?_) λ h=> ?_
  .rw [if_pos h] at k;exact k
  rw [if_neg h] at k;refine fV (λ h=> ?_) λ h=> ?_
  .rw [if_pos h] at k;exact k
  rw [if_neg h] at k;exact k
theorem P6:fI ["mark","step"] ["mark","step"] (fC GU):=by walk_at "sc"
theorem QD (T:Txt K mg t):fX P w K mg base (ij P w) 2 t.O0 t.OI ["mark","step"] (IZ):=by
 have AK:=xU (P:=P) (w:=w) (base:=base) T;refine T.fits.fn.okN P6 (λ iw A outer s H vs Q E hr h=> ?_)
 .obtain⟨a,b,m,sp,rfl,ha,hb,k⟩:=h
  refine⟨_,Bx.un (c_ (fS (fG mC (fc fB (fq 1) b_) (fc fB (fq 0) b_) (fO _))
   (fh (fF jn))
   fH)
   (c_ (fS (u_ (fG mC (fc fB (fq 0) b_) (jM T.Il) (fO _)) (qZ (fG mC (fc fB (fq 0) b_) (fc fB (fq 1) b_) (fO _)))).L7
   (fh (fF jn))
   fH)
   (fh (fF (fK T.uv AK hr fM (a_ (fc fB (fq 1) b_) (a_ (fc fB (fq 0) b_) (a_ (fc fB (fq 0) b_) d_)))))))),?_⟩
  walk_at "rd"
  have last:∀(_:sp.back=m.back) (_:m.nm = [95]\/m.nm=sp.nm),E7 K (V.ref b) (V.int 1) H λ x H1=>E7 K (V.ref a) (V.int 3) H1 λ Vu H1=>E7 K (V.ref a) (V.int 4) H1 λ PB H1=>lD [x,Vu,PB] H1 Q E0:=by
   intro h1 h2;refine fu hb rfl (fu ha rfl (fu ha rfl ⟨_,_,_,rfl,?_⟩));unfold oH at k;rw [decide_eq_true h1] at k;rcases h2 with h2|h2
   .rw [decide_eq_true h2] at k
    simpa using k
   .rw [decide_eq_true h2] at k
    simpa using k
  refine fu hb rfl (fu ha rfl ⟨rfl,fV (λ h=> ?_) λ h=>fu ha rfl ⟨rfl,?_⟩⟩)
  .have h1:¬sp.back=m.back:=λ z=>h (by rw [z]);unfold oH at k;rw [decide_eq_false h1] at k;exact k
  have h1:sp.back=m.back:=by
   have:=Classical.not_not.mp h;injection this
  refine fV (λ h2=>fu ha rfl (fu hb rfl ⟨rfl,fV (λ h3=> ?_) λ h3=> ?_⟩)) λ h2=> ?_
  .have n2:¬m.nm = [95]:=λ z=>h2 (by rw [z]);have n3:¬m.nm=sp.nm:=λ z=>h3 (by rw [z]);unfold oH at k;rw [decide_eq_true h1,decide_eq_false n2,decide_eq_false n3] at k;exact k
  .have:=Classical.not_not.mp h3;exact last h1 (.inr (by injection this with z;exact iA.mp z))
  .have:=Classical.not_not.mp h2;exact last h1 (.inl (by injection this with z;exact iA.mp z))
theorem yY:fI ["mark","step","low","high"] ["mark","step"] (fC Dj):=by walk_at "sc"
theorem Fg (T:Txt K mg t):fX P w K mg base (ij P w) 1 t.J9 t.JW ["mark","step"] (ER):=by
 refine T.l_fit.fn.okN yY (λ iw A outer s H vs Q E hr h=> ?_)
 .obtain⟨a,b,m,sp,rfl,ha,hb,om,k⟩:=h
  refine⟨_,Bx.un (c_ (fS (mM (fG pA (fc fB (fq 0) b_) (gi (a_ fW (a_ (fc fB (fq 1) b_) d_))) (by with_unfolding_all rfl)) (pL (fG mC (fc fB (fq 0) b_) (fc fB (fq 1) b_) (fO _)))).L7
   (fh (fF jn))
   fH)
   (c_ (fD 2 yY.nd (iW oy (fc fB (fq 1) b_) (fc fB (fq 0) b_) (fO _)))
   (c_ (fD 3 yY.nd (iW Js (fc fB (fq 1) b_) (fc fB (fq 0) b_) (fO _)))
   (fh (fF (fc fP (gi (a_ jn (a_ (fq 2) (a_ (fq 3) (a_ (vd (Ec (fq 2)) (nA (Ec (fq 3)))) (a_ (Ip (fq 2) (nA (fq 3))) d_)))))) (ig aE cF cE uN Ap (a_ (fc fB (fq 0) b_) d_)))))))),?_⟩
  walk_at "rs";refine fk λ N hN=> ?_;walk_at "rd";refine fu ha rfl (fu hb rfl ⟨by decide,λ p hp=>Dm (ns:= [[95],sp.nm]) (gg.of e_) ⟨_,rfl,?_⟩⟩);have s1:fw H (upd H p (.lst [V.str (tx [95]),V.str (tx sp.nm)])):=fw.new hp;generalize upd H p (.lst [V.str (tx [95]),V.str (tx sp.nm)])=H1 at s1;have XA:=s1 _ _ ha;have Oe:=s1 _ _ hb;refine fV (λ h=> ?_) λ h=>fu XA rfl (fu Oe rfl ⟨rfl,fV (λ h2=> ?_) λ h2=>hN _ _ ?_⟩)
  .have:=k H1 s1;unfold oH at this;have n1:¬(m.nm = [95]\/m.nm=sp.nm):=λ z=>by simp [z] at h
   rw [not_or] at n1;rw [decide_eq_false n1.1,decide_eq_false n1.2] at this
   simpa using this
  .have:=k H1 s1;unfold oH at this;have n1:¬sp.back=m.back:=λ z=>h2 (by rw [z]);rw [decide_eq_false n1] at this
   simpa using this
  have e1:(decide (sp.back=m.back)&&(decide (m.nm = [95])||decide (m.nm=sp.nm)))=true:=by
   have z1:sp.back=m.back:=by
    have:=Classical.not_not.mp h2;injection this with z
    exact z.symm
   have z2:m.nm = [95]\/m.nm=sp.nm:=by
    by_cases z:m.nm = [95]
    .exact .inl z
    .exact .inr (by simpa [z] using h)
   simp [z1,z2]
  have k2:∀H',fw H1 H'->Q (.bl (Fv sp.wt m.sg m.num)) H':=λ H' s'=>by
   have:=k H' (s1.trans s');unfold oH at this;rw [e1,Bool.true_and] at this;exact this
  clear k e1 h h2;refine fk λ N hN=> ?_;walk_at "rd";refine fu Oe rfl (fu XA rfl ⟨_,rfl,_,rfl,hN _ _ ?_⟩);refine fk λ N hN=> ?_;walk_at "rd";refine fu Oe rfl (fu XA rfl ⟨_,rfl,_,rfl,hN _ _ ?_⟩);obtain⟨b1,OA⟩:∃b1,decide (sp.wt<m.num)=b1:=⟨_,rfl⟩
  obtain⟨b2,Sk⟩:∃b2,decide (m.num<sp.wt)=b2:=⟨_,rfl⟩
  rw [OA,Sk]
  have go:∀(D D2:ac) (H2 H3:Hp),H1 D=none->H2=upd H1 D (.lst [.bl true,.bl b1,.bl b2,.bl (!b1 && !b2),.bl (b1||b2)])->H2 D2=none->H3=upd H2 D2 (.lst [.str (tx []),.str (tx [60]),.str (tx [62]),.str (tx [61]),.str (tx [33])])->
    Vw K "list" (V.ref D2) H3/\E7 K (V.ref a) (V.int 3) H3 λ x H4=>∃Vu,H4 D2=some (.lst Vu)/\kx x=true/\Vu.all kx=true/\∃(PB:Nat) (Vt:V),Vu[PB]? = some Vt/\xl Vt x=true/\(∀(m:Nat) (z':V),m<PB->Vu[m]? = some z'->xl z' x=false)/\MX K (.ref D) (.int PB) H4 Q:=by
   rintro D D2 H2 H3 hD rfl FI rfl;have s2:=fw.new (o:=.lst [.bl true,.bl b1,.bl b2,.bl (!b1 && !b2),.bl (b1||b2)]) hD;have n3:=fw.new (o:=.lst [.str (tx []),.str (tx [60]),.str (tx [62]),.str (tx [61]),.str (tx [33])]) FI;have d3:=n3 D _ e_;have s3:=s2.trans n3;refine⟨gu (gg.of e_),fu (s3 _ _ XA) rfl ?_⟩;have kk:=k2 _ s3;have ì:=om.sg;unfold Fv at kk
   have c3:decide (sp.wt=m.num)=(!b1 && !b2):=by
    rw [<-OA,<-Sk];by_cases h1:sp.wt<m.num
    .simp only [h1,decide_true,eA,Bool.false_and,decide_eq_false_iff_not];exact Yn h1
    .by_cases h2:m.num<sp.wt
     .simp only [h1,h2,decide_true,decide_false,eA,Bool.and_false,decide_eq_false_iff_not];exact Ym h2
     .simp only [h1,h2,decide_false,Bool.not_false,Bool.and_true,decide_eq_true_eq];exact Yq (Yi h2) (Yi h1)
   have c4:(!decide (sp.wt=m.num))=(b1||b2):=by
    rw [c3]
    cases b1<;>cases b2<;>rfl
   rw [c3,OA,show decide (sp.wt>m.num)=b2 from Sk] at kk
   have no:∀(sg:List Nat) (j:Nat),[[],[60],[62],[61],[33]][j]? = some sg->∀(i:Nat) (z':V),i<j->[V.str (tx []),V.str (tx [60]),V.str (tx [62]),V.str (tx [61]),V.str (tx [33])][i]? = some z'->xl z' (V.str (tx sg))=false:=by
    intro sg j hj i z' hi hz
    have hj5:j<5:=by
     obtain⟨y,_⟩:=ag.mp hj;exact y
    match j,i,hj5,hi,hj,hz with
    | 1,0,_,_,hj,hz|2,0,_,_,hj,hz|2,1,_,_,hj,hz|3,0,_,_,hj,hz|3,1,_,_,hj,hz|3,2,_,_,hj,hz|4,0,_,_,hj,hz|4,1,_,_,hj,hz|4,2,_,_,hj,hz|4,3,_,_,hj,hz=>
     cases hj
     cases hz;rfl
   have nn:(!(!b1 && !b2))=(b1||b2):=by cases b1<;>cases b2<;>rfl
   rw [nn] at kk;generalize m.sg=sg at kk ì;simp only [av,bb,or_false] at ì;rcases ì with rfl|rfl|rfl|rfl|rfl
   .exact⟨_,e_,rfl,rfl,0,_,rfl,rfl,no _ _ rfl,fN d3 rfl kk⟩
   .exact⟨_,e_,rfl,rfl,1,_,rfl,rfl,no _ _ rfl,fN d3 rfl kk⟩
   .exact⟨_,e_,rfl,rfl,2,_,rfl,rfl,no _ _ rfl,fN d3 rfl kk⟩
   .exact⟨_,e_,rfl,rfl,3,_,rfl,rfl,no _ _ rfl,fN d3 rfl kk⟩
   .exact⟨_,e_,rfl,rfl,4,_,rfl,rfl,no _ _ rfl,fN d3 rfl kk⟩
  cases b1<;>cases b2
  .walk_at "rd";exact⟨by decide,λ D hD=>⟨by decide,λ D2 FI=>go D D2 _ _ hD rfl FI rfl⟩⟩
  .walk_at "rd";exact⟨by decide,λ D hD=>⟨by decide,λ D2 FI=>go D D2 _ _ hD rfl FI rfl⟩⟩
  .walk_at "rd";exact⟨by decide,λ D hD=>⟨by decide,λ D2 FI=>go D D2 _ _ hD rfl FI rfl⟩⟩
  .walk_at "rd";exact⟨by decide,λ D hD=>⟨by decide,λ D2 FI=>go D D2 _ _ hD rfl FI rfl⟩⟩
theorem GO:fI ["found"] ["found"] (fC vI):=by walk_at "sc"
theorem G_ (T:Txt K mg t):fX P w K mg base (ij P w) 1 t.CB t.B1 ["found"] (yJ):=by
 refine T.Jy.fn.okN GO (λ iw A outer s H vs Q E hr h=> ?_)
 .obtain⟨n,rfl,k⟩:=h;refine⟨_,Bx.un (fh (fF (vd (fJ jF (by rfl) T.jo bE (a_ (fq 0) (a_ (ug T.J6 cS) d_))) (nA (Ec (fJ jF (by rfl) T.jo bE (a_ (fq 0) (a_ (ug T.OZ PyProof.Rows.boot_bool) d_)))))))),?_⟩;walk_at "rd";exact⟨_,.int _,_,T6 K,jf rfl ⟨_,.int _,_,T7 K,k⟩⟩
theorem iD:fI ["cell","many","letters","spread","size","base","at","things","turn","row"] ["cell","many"] (fC tO):=by walk_at "sc"
theorem Ff (T:Txt K mg t):fX P w K mg base (ij P w) 1 t.Av t.zZ ["cell","many"] (wR):=by
 refine T.FA.fn.okN iD (λ iw A outer s H vs Q E hr h=> ?_)
 .obtain⟨c,n,rfl,n0,n1,k⟩:=h
  refine⟨_,Bx.un (c_ (fD 2 iD.nd fW)
   (c_ (fD 3 iD.nd (fE gz (fq 0) (fE zk b_ b_)))
   (c_ (fD 4 iD.nd (fE iN b_ (fE gz (fq 3) b_)))
   (c_ (kz (i:=5) iD.nd rfl (by walk_at "o") rfl (N:= ["k","spread"]) (fr:= [3]) (qp.of (by kernel_rfl)) (gJ rfl T.iB (a_ b_ d_)) (λ _ _ _ _ _=>gB)
    (λ _ _ _ _ _=>(fE gz (fE iN (fE gK (fq 1) b_) (fE tV (fE gz (fE gK (fq 1) b_) b_) (fq 0))) b_)))
   (c_ (fD 6 iD.nd (fE gz (fE gK (fq 3) b_) (fq 4)))
   (c_ (fD 7 iD.nd (gi d_))
   (c_ (gX PassesOwn.never rfl (gJ rfl T.iB (a_ (fq 1) d_)) (gn 8 iD.nd)
   (c_ (fD 9 iD.nd (jL m_ (fq 5) lC (jU (fq 4))))
   (c_ (sf (fE gz (fE iN (fc fP (fq 5) (fq 6)) (fE tV (fq 8) (fE iN b_ (fE gz (fE gK (fq 3) b_) b_)))) b_) (su (fq 9) (fq 6) set_list))
   (c_ (fS (fG iE (fE gz (fq 3) b_) b_ (fO _))
   (fh (fD 9 iD.nd (jL m_ (fq 5) lC (jU (fE iN (fq 8) b_)))))
   fH)
   (fh (fT (ig aE aT aS gE (fq 7) (a_ (ig PySem.F.plainAttrs_str PySem.F.slot_str_join PySem.F.type_str_join Jt fW (a_ (iV rfl (N:= ["k","letters"]) (fr:= [2]) (qp.of (by kernel_rfl)) (gq (fq 9)) (λ _ _ _ _ _=>gB)
    (λ _ _ _ _ _=>(fc HM (fq 1) (fq 0)))) d_)) d_))))))))
   (fh (fF (fq 7)))))))))),?_⟩
  walk_at "rs";refine fk λ N hN=> ?_;walk_at "rd";refine hN _ _ ?_;refine fk λ N hN=> ?_;walk_at "rd";refine⟨by decide,hN _ _ ?_⟩;generalize c%1000000000=sp;refine fk λ N hN=> ?_;walk_at "rd";refine hN _ _ ?_;obtain⟨sz,hsz,z1,z2⟩:∃sz:Int,1+sp%12=sz/\1<=sz/\sz<=12:=⟨_,rfl,by lia,by lia⟩
  rw [hsz];clear hsz;refine fk λ N hN=> ?_;walk_at "rd";refine⟨_,rfl,by decide,by decide,comp_map (iQ (n:=12)) (λ j=>.int ((sp/144+sp/3744%3*(0+(j:Int)))%26)) (f_ (by rw [aJ];exact Zd rfl)) (λ j H2 Q2 _ _ h=> ?_) λ bs H1 hbs s1 d1=>hN _ _ ?_⟩
  .walk_at "rd";exact⟨.inl (by lia),h _ (fw.refl _)⟩
  obtain⟨js,e1,VI,ZG⟩:∃js:List Int,H1 bs=some (.lst (js.map V.int))/\js.length=12/\∀j∈js,0<=j/\j<26:=by
   refine⟨(List.range 12).map λ (j:Nat)=>(sp/144+sp/3744%3*(0+(j:Int)))%26,by rwa [aR],by simp,λ j hj=> ?_⟩;obtain⟨x,_,rfl⟩:=aC.mp hj;omega
  clear d1;refine fk λ N hN=> ?_;walk_at "rd";refine⟨Ya (by decide) z1,hN _ _ ?_⟩;obtain⟨at_,UE,a1,a2⟩:∃at_:Int,sp/12%sz=at_/\0<=at_/\at_<sz:=⟨_,rfl,dQ _ (Ym (Ya (by decide) z1)),dr _ (Ya (by decide) z1)⟩
  rw [UE];clear UE;refine fk λ N hN=> ?_;walk_at "rd";refine⟨aQ _,λ ps QN=>hN _ _ ?_⟩;have n1:fw H1 (upd H1 ps (.lst [])):=fw.new QN;have e2:=n1 _ _ e1;have s2:=s1.trans n1;have Lg:=s1.free QN;have õ:bs≠ps:=λ z=>by rw [<-z,e1] at QN;cases QN
  have p2:upd H1 ps (.lst []) ps=some (.lst []):=e_;generalize upd H1 ps (.lst [])=H2 at e2 s2 p2;clear e1 n1;have d0:1+sp/11232%2=1\/1+sp/11232%2=2:=by lia
  obtain⟨dl,JH⟩:∃dl:Int,1+sp/11232%2=dl:=⟨_,rfl⟩
  rw [JH] at d0;refine fk λ N hN=> ?_
  refine⟨_,rfl,_,rfl,by lia,by lia,j7 (n:=n.toNat) (lo:=0) (λ i σ H3=>∃v v',σ = [some (.int c),some (.int n),some (.str (tx F_)),some (.int sp),some (.int sz),some (.ref bs),some (.int at_),some (.ref ps),v,v']/\fw H H3/\H3 bs=some (.lst (js.map V.int))/\H3 ps=some (.lst (((List.range i).map (kM js sz at_ dl (sp%5=4))).map λ l=>.str (tx l))))
   ⟨none,none,rfl,s2,e2,p2⟩ ?_ ?_⟩
  .rintro i σ H3 hi ⟨v,v',rfl,s3,b3,p3⟩;clear hN;walk_at "rg";refine fk λ N2 hN=> ?_;walk_at "rd";refine⟨bs,_,rfl,gg.of b3,λ r hr=>hN _ _ ?_⟩;rw [D_ _ _ (Yc a1 (Yl a2))];have n4:fw H3 (upd H3 r (.lst ((js.take sz.toNat).map V.int))):=fw.new hr;have r4:upd H3 r (.lst ((js.take sz.toNat).map V.int)) r=some (.lst ((js.take sz.toNat).map V.int)):=e_;have s4:=s3.trans n4;have b4:=n4 _ _ b3;have p4:=n4 _ _ p3;have Ul:=s3.free hr;have ô:bs≠r:=λ z=>by rw [<-z,b3] at hr;cases hr
   have ï:ps≠r:=λ z=>by rw [<-z,p3] at hr;cases hr
   clear n4;generalize upd H3 r (.lst ((js.take sz.toNat).map V.int))=H4 at r4 s4 b4 p4;refine fk λ N2 hN=> ?_;walk_at "rd"
   have hz:js[at_.toNat]? = some (js.getD at_.toNat 0):=by
    have:at_.toNat<js.length:=by lia
    rw [bW,bq this];rfl
   rw [JH];refine fN b4 (v:=.int (js.getD at_.toNat 0)) (gx a1 (by rw [ak,hz];rfl)) ⟨.inl (by lia),_,rfl,_,r4,_,rY a1 (by rw [ae,aX];lia),hN _ _ ?_⟩;rw [<-di (f:=V.int),Int.zero_add];have s5:fw H (upd H4 r (.lst (((js.take sz.toNat).set at_.toNat ((js.getD at_.toNat 0+(i:Int)*dl)%26)).map V.int))):=s4.gh Ul;have r5:upd H4 r (.lst (((js.take sz.toNat).set at_.toNat ((js.getD at_.toNat 0+(i:Int)*dl)%26)).map V.int)) r=some (.lst (((js.take sz.toNat).set at_.toNat ((js.getD at_.toNat 0+(i:Int)*dl)%26)).map V.int)):=e_;have b5:=(fo (o:=.lst (((js.take sz.toNat).set at_.toNat ((js.getD at_.toNat 0+(i:Int)*dl)%26)).map V.int)) ô).trans b4;have p5:=(fo (o:=.lst (((js.take sz.toNat).set at_.toNat ((js.getD at_.toNat 0+(i:Int)*dl)%26)).map V.int)) ï).trans p4;generalize upd H4 r (.lst (((js.take sz.toNat).set at_.toNat ((js.getD at_.toNat 0+(i:Int)*dl)%26)).map V.int))=H5 at s5 r5 b5 p5;refine fk λ N2 hN=> ?_
   have hM:∀(r':ac) (kk:List Int) (H6:Hp),fw H5 H6->H6 r'=some (.lst (kk.map V.int))->(∀j∈kk,0<=j/\j<26)->kk.length<=12->kk.map uQ=kM js sz at_ dl (sp%5=4) i->N2 [some (.int c),some (.int n),some (.str (tx F_)),some (.int sp),some (.int sz),some (.ref bs),some (.int at_),some (.ref ps),some (.int (i:Int)),some (.ref r')] H6:=by
    intro r' kk H6 s6 r6 ok6 l6 e6;refine hN _ _ ?_;have p6:=s6 _ _ p5;walk_at "rd";refine⟨gu (gg.of p6),_,rfl,r',rfl,⟨_,gg.of r6⟩,Ci (gg.of r6) ok6 (Zc l6 (Zd rfl)) (λ j H7 Q7 h=> ?_) λ D H7 hD s7 d7=>⟨D,_,rfl,rfl,d7,by rw [ED];exact Zc l6 (Zd rfl),_,s7 _ _ p6,?_,((s5.trans s6).trans s7).gh Lg,(fo õ).trans (s7 _ _ (s6 _ _ b5)),?_⟩⟩
    .walk_at "rd";exact h
    .rw [ae,ae,aJ];exact aF (show i<3000 by lia) (f_ (by decide))
    .rw [e_,Bk,e6,eY,ax,ax];rfl
   walk_at "rd";refine fV (λ h=>⟨bs,_,rfl,gg.of b5,λ r2 t9=> ?_⟩) λ h=> ?_
   .rw [D_ _ _ Qaw,show ((i:Int)+1).toNat=i+1 from rfl];refine hM r2 (js.take (i+1)) _ (fw.new t9) e_ (λ j hj=>ZG j (List.mem_of_mem_take hj)) (by rw [aX];lia) ?_;unfold kM;rw [if_pos h]
   .refine hM r _ H5 (fw.refl _) r5 (λ j hj=> ?_) (by rw [bQ,aX];exact Qas VI) ?_
    .rcases bZ hj with z|z
     .exact ZG j (List.mem_of_mem_take z)
     .lia
    .unfold kM;rw [if_neg h]
  .rintro σ H3 ⟨v,v',rfl,s3,b3,p3⟩;refine hN _ _ ?_;walk_at "rd";refine k ps H3 _ Lg s3 p3 (by rw [ae,aJ]) (Kj VI z1 z2 a1 a2 d0 (by lia)) λ l hl=> ?_;obtain⟨i,hi,rfl⟩:=aC.mp hl;exact GI VI z1 z2 (by have:=aV.mp hi;lia)
theorem Dh:fI ["tie","back"] ["tie","back"] (fC qK):=by walk_at "sc"
theorem Dz (T:Txt K mg t):fX P w K mg base (ij P w) 1 t.xH t.xu ["tie","back"] (uD):=by
 refine T.BP.fn.okN Dh (λ iw A outer s H vs Q E hr h=> ?_)
 .obtain⟨a,t,b,rfl,ha,k⟩:=h;refine⟨_,Bx.un (fh (fF (gF (a_ (fc fB (fq 0) b_) (a_ (fc fB (fq 0) b_) (a_ (fq 1) d_)))))),?_⟩;walk_at "rd";exact fu ha rfl (fu ha rfl ⟨by decide,λ p hp=>k p hp⟩)
theorem Di:fI ["tie","back"] ["tie","back"] (fC qL):=by walk_at "sc"
theorem DA (T:Txt K mg t):fX P w K mg base (ij P w) 1 t.xI t.xv ["tie","back"] (uE):=by
 refine T.BQ.fn.okN Di (λ iw A outer s H vs Q E hr h=> ?_)
 .obtain⟨a,t,b,rfl,ha,k⟩:=h;refine⟨_,Bx.un (fh (fF (sv (iu (fq 1)) (fc fB (fq 0) b_) (fc fB (fq 0) b_)))),?_⟩;walk_at "rd";unfold kI at k
  cases b with
  | true=>exact fu ha rfl k
  | false=>exact fu ha rfl k
theorem GR:fI ["tie","back"] ["tie","back"] (fC vR):=by walk_at "sc"
theorem Hh (T:Txt K mg t):fX P w K mg base (ij P w) 1 t.CK t.Cd ["tie","back"] (yQ):=by
 refine T.JJ.fn.okN GR (λ iw A outer s H vs Q E hr h=> ?_)
 .obtain⟨a,t,b,rfl,ha,k⟩:=h;refine⟨_,Bx.un (fh (fF (sv (iu (fq 1)) (fc fB (fq 0) b_) (fc fB (fq 0) b_)))),?_⟩;walk_at "rd";unfold jv at k
  cases b with
  | true=>exact fu ha rfl k
  | false=>exact fu ha rfl k
theorem k7:fI ["web","mark","back","found","number","tie"] ["web","mark"] (fC tM):=by walk_at "sc"
theorem Fd (T:Txt K mg t):fX P w K mg base (ij P w) 3 t.Au t.zY ["web","mark"] (wQ t):=by
 have IC:=(Fi (P:=P) (w:=w) (base:=base) T).mono (show 1<=2 by decide);have LV:=Hj (P:=P) (w:=w) (base:=base) T;have Vn:=QD (P:=P) (w:=w) (base:=base) T;have Gq:=(Dz (P:=P) (w:=w) (base:=base) T).mono (show 1<=2 by decide);have LS:=(Hh (P:=P) (w:=w) (base:=base) T).mono (show 1<=2 by decide);have Gr:=(DA (P:=P) (w:=w) (base:=base) T).mono (show 1<=2 by decide);refine T.Fp.fn.okN k7 (λ iw A outer s H vs Q E hr h=> ?_)
 .obtain⟨p,mk,W,m,rfl,w,jr,hm,k⟩:=h
  refine⟨_,Bx.un (c_ (fD 2 k7.nd (fc fB (fq 1) b_))
   (c_ (fD 3 k7.nd j8)
   (c_ (gX PassesOwn.never rfl (gq (Ed (fq 0) T.ic T.Gf IC hr fM)) (gn 4 k7.nd)
   (c_ (fD 5 k7.nd (ip (fq 0) T.ic T.J_ LV hr fM (a_ (fq 4) d_)))
   (fh (fS (iu (fK T.fits Vn hr fM (a_ (fq 1) (a_ (fK T.BP Gq hr fM (a_ (fq 5) (a_ (fq 2) d_))) d_))))
   (fh (fT (ig aE aT aS gE (Cq (fq 3) (fK T.BQ Gr hr fM (a_ (fq 5) (a_ (fq 2) d_))) (gi d_)) (a_ (gF (a_ (fq 4) (a_ (fK T.JJ LS hr fM (a_ (fq 5) (a_ (fq 2) d_))) d_))) d_))))
   fH))))
   (fh (fF (fq 3)))))),?_⟩
  walk_at "rs";refine fk λ N hN=> ?_;walk_at "rd";refine fu hm rfl (hN _ _ ?_);refine fk λ N hN=> ?_;walk_at "rd";refine λ d hd=>hN _ _ ?_;have g0:yc H (upd H d (.dK [])) d 0 0 (mU W.fL m) []:=⟨e_,az _,by simp,λ p hp=>nomatch hp⟩
  have s0:fw H (upd H d (.dK [])):=fw.new hd;generalize upd H d (.dK [])=H1 at g0 s0;refine fk λ N hN=> ?_;have w1:=w.same s0
  refine⟨_,rfl,_,_,_,rfl,w1.obj,rfl,p,W,rfl,w1,λ la Li=>⟨la,rfl,⟨_,gg.of e_⟩,jb (xs:=(W.fL.map (·.1)).map V.int) (λ i σ H2=>∃v v' kvs,σ = [some (.ref p),some (.ref mk),some (.bl m.back),some (.ref d),v,v']/\fw H H2/\H2 la=some (.lst ((W.fL.map (·.1)).map V.int))/\yc H H2 d i i (mU W.fL m) kvs/\(∀p∈kvs,p.2≠V.ref la)/\jA (W.fL.take i) m H2 kvs)
   ⟨none,none,[],rfl,s0.gh (s0.free Li),e_,g0.same (fw.new Li),(λ p hp=>nomatch hp),jA.none⟩ (λ i σ H2 _ hz=>by obtain⟨v,v',kvs,_,_,l2,_⟩:=hz;exact gg.of l2) ?_ ?_⟩⟩
  .rintro i x σ H2 hx ⟨v,v',kvs,rfl,s2,l2,g2,o2,f2⟩;clear hN;walk_at "rg";rw [ak,ak,Option.map_map] at hx;obtain⟨⟨num,a,fZ⟩,sV,rfl⟩:=Option.map_eq_some_iff.mp hx;have mem:=aq sV;clear hx;have w2:=w.same s2;dsimp only [Function.comp];refine fk λ N2 hN=> ?_;walk_at "rd";refine⟨_,_,w2.obj,rfl,p,W,num,rfl,w2,?_⟩;rw [if_pos (aC.mpr ⟨_,mem,rfl⟩)];intro a' PM ú;have e:=wb w.nums mem ú rfl
   cases e;refine hN _ _ ?_;walk_at "rd";have δ:i<63:=aF (ag.mp sV).1 jr;refine⟨a,fZ,m.back,rfl,w2.iM _ mem,λ q hq=> ?_⟩;have n3:fw H2 (upd H2 q (.tup (Kr ⟨fZ.name,fZ.weight,m.back⟩))):=fw.new hq;have q3:upd H2 q (.tup (Kr ⟨fZ.name,fZ.weight,m.back⟩)) q=some (.tup (Kr ⟨fZ.name,fZ.weight,m.back⟩)):=e_;have s3:=s2.trans n3;have l3:=n3 _ _ l2;have g3:=g2.same n3;have f3:=f2.same n3;have tk:=iJ sV;have a3:=n3 _ _ (w2.iM _ mem);generalize upd H2 q (.tup (Kr ⟨fZ.name,fZ.weight,m.back⟩))=H3 at n3 q3 s3 l3 g3 f3 a3;refine⟨mk,q,m,_,rfl,s3 _ _ hm,q3,_,rfl,fV (λ ft=> ?_) λ ft=>⟨s3,l3,kvs,g3.weak (cf _) (cf _),o2,by rw [tk];exact f3.skip (by simpa using ft)⟩⟩;refine⟨.inl ⟨_,.inl g3.at_⟩,a,fZ,m.back,rfl,a3,aQ _,λ l hl=> ?_⟩;have n4:fw H3 (upd H3 l (.lst [])):=fw.new hl;have q4:upd H3 l (.lst []) l=some (.lst []):=e_;have s4:=s3.trans n4;have l4:=n4 _ _ l3;have g4:=g3.same n4;have f4:=f3.same n4;have a4:=n4 _ _ a3
   have new:∀p∈kvs,p.2≠V.ref l:=λ p hp z=>by
    obtain⟨k',l',ys,e,f,h,_⟩:=g3.row p hp;rw [e] at z
    cases z;rw [h] at hl
    cases hl
   have VH:la≠l:=λ z=>by rw [z,hl] at l3;cases l3
   have fl:H l=none:=s3.free hl;generalize upd H3 l (.lst [])=H4 at n4 q4 s4 l4 g4 f4 a4;have ok:mU W.fL m (kI fZ m.back) num (jv fZ m.back):=⟨a,fZ,mem,ft,rfl,rfl⟩
   have last:∀(kvs:List (Key×V)) (n:Nat) (H5:Hp) (l':ac) (ys:List V),fw H H5->H5 la=some (.lst ((W.fL.map (·.1)).map V.int))->yc H H5 d n i (mU W.fL m) kvs->jA (W.fL.take i) m H5 kvs->n<=i+1->hV kvs (.inr (tx (kI fZ m.back)))=some (.ref l')->H5 l'=some (.lst ys)->ys.length<=i->H l'=none->(∀p∈kvs,p.2≠V.ref la)->∀b,H5 b=none->
     ∃x,upd H5 b (.tup [.int num,.str (tx (jv fZ m.back))]) l'=some (.lst x)/\x.length<dL/\fw H (upd (upd H5 b (.tup [.int num,.str (tx (jv fZ m.back))])) l' (.lst (x ++ [.ref b])))/\upd (upd H5 b (.tup [.int num,.str (tx (jv fZ m.back))])) l' (.lst (x ++ [.ref b])) la=some (.lst ((W.fL.map (·.1)).map V.int))/\
      ∃kvs,yc H (upd (upd H5 b (.tup [.int num,.str (tx (jv fZ m.back))])) l' (.lst (x ++ [.ref b]))) d (i+1) (i+1) (mU W.fL m) kvs/\(∀p∈kvs,p.2≠V.ref la)/\jA (W.fL.take (i+1)) m (upd (upd H5 b (.tup [.int num,.str (tx (jv fZ m.back))])) l' (.lst (x ++ [.ref b]))) kvs:=by
    intro kvs n H5 l' ys s5 l5 g5 f5' hn hv h5 z5 f5 o5 b hb;have n6:fw H5 (upd H5 b (.tup [.int num,.str (tx (jv fZ m.back))])):=fw.new hb;have q6:upd H5 b (.tup [.int num,.str (tx (jv fZ m.back))]) b=some (.tup [.int num,.str (tx (jv fZ m.back))]):=e_;generalize upd H5 b (.tup [.int num,.str (tx (jv fZ m.back))])=H6 at n6 q6;refine⟨ys,n6 _ _ h5,bV z5 (aF (show i<100 from Za δ (Zd rfl)) (f_ (by decide))),(s5.trans n6).gh f5,?_,kvs,((g5.same n6).grow hv (n6 _ _ h5) q6 ok).weak hn (az _),o5,by rw [tk];exact(f5'.same n6).grow hv (n6 _ _ h5) q6⟩;rw [fo (λ z=>o5 _ (nY hv) (by rw [z]))];exact n6 _ _ l5
   refine⟨kvs,g4.at_,.inr (tx (kI fZ m.back)),rfl,bV g4.len (aF (show i<100 from Za δ (Zd rfl)) (f_ (by decide))),λ v hv=> ?_,λ hv=> ?_⟩
   .obtain⟨l',ys,rfl,f',h',z',r'⟩:=g4.there hv;exact⟨gu (gg.of h'),a,fZ,m.back,rfl,a4,by decide,λ b hb=>⟨l',rfl,last kvs i H4 l' ys s4 l4 g4 f4 (cf _) hv h' z' f' o2 b hb⟩⟩
   .have g5:=g4.put hv fl q4 new
    have dk:∀c (o:HO),(∀z,o≠.dK z)->H4 c=some o->upd H4 d (.dK (putK kvs (.inr (tx (kI fZ m.back))) (.ref l))) c=some o:=λ c o no e=>by
     rwa [fo (gA e g4.at_ (no _))]
    have h5:=dk l _ (λ z h=>by cases h) q4;refine⟨gu (gg.of h5),a,fZ,m.back,rfl,dk _ _ (λ z h=>by cases h) a4,by decide,λ b hb=>last _ _ _ l [] (s4.gh hd) (dk _ _ (λ z h=>by cases h) l4) g5 (f4.put g4.at_ hv) (az _) (by rw [EF,if_pos rfl]) h5 (aQ _) fl (λ p hp=> ?_) b hb⟩;rw [mB _ hv] at hp;rcases aA.mp hp with hp|hp
    .exact o2 p hp
    .rw [aj.mp hp];exact λ z=>VH (by cases z;rfl)
  .rintro σ H2 ⟨v,v',kvs,rfl,s2,l2,g2,o2,f2⟩;refine hN _ _ ?_;walk_at "rd";rw [ae,ae] at g2;rw [ae,ae,br] at f2;exact k d H2 kvs hd s2 (g2.weak jr jr) f2
theorem kT:fI ["web","made","start","moves","entries","seen","place","entry","room","number","thing"] ["web","made","start"] (fC GV):=by walk_at "sc"
theorem QE (T:Txt K mg t):fX P w K mg base (ij P w) 4 t.O1 t.OJ ["web","made","start"] (I_ t):=by
 have yd:=(v_ (P:=P) (w:=w) (base:=base) T).mono (show 1<=3 by decide);have IA:=Fd (P:=P) (w:=w) (base:=base) T;refine T.book.fn.Hk kT (λ iw A outer s H vs Q E hr h=> ?_)
 .obtain⟨p,a,W,M,st,rfl,w,jr,AW,hM,ok,Ĉ,T5⟩:=h
  refine⟨_,Bx.un (c_ (fS (jJ (iu (ip (fq 0) T.ic T.tD yd hr kr (a_ (fq 2) d_))))
   (fh (jK (T.yx) lR rfl fW))
   fH)
   (c_ (kz (i:=3) kT.nd rfl (by walk_at "o") rfl (N:= ["mark","web"]) (fr:= [0]) (qp.of (by kernel_rfl)) (gq (fc fB (fq 1) (jM T.JY))) (λ _ _ _ _ _=>gB)
    (λ _ _ _ _ _=>(fK T.Fp IA hr fM (a_ (fq 1) (a_ (fq 0) d_)))))
   (c_ (fD 4 kT.nd (gi (a_ (gF (a_ (fq 2) (a_ b_ (a_ b_ (a_ (uf tI b_) (a_ (uf tI b_) d_)))))) d_)))
   (c_ (fD 5 kT.nd (LI (jO hr) (gF (a_ (fq 2) (a_ b_ d_))) jn))
   (c_ (fD 6 kT.nd b_)
   (c_ (Cn PassesOwn.leaving (fG oy (fq 6) (fJ fQ (by rfl) T.iG PySem.boot_len (a_ (fq 4) d_)) (fO _))
   (c_ (fD 7 kT.nd (fc fP (fq 4) (fq 6)))
   (c_ (gX PassesOwn.leaving rfl (gq (fc fP (fc fB (fq 1) (jM T.LC)) (fc fB (fq 7) b_))) (gn 8 kT.nd)
   (fh (gX PassesOwn.leaving rfl (gq (LJ (jO hr) (fc fP (fq 3) (fE pq (fq 8) b_)) (fc fB (fq 7) b_) (gi d_))) (J1 rfl (sj (gn 9 kT.nd) (sj (gn 10 kT.nd) FZ)))
   (fh (fS (r_ (pM (jO hr) (gF (a_ (fq 10) (a_ (fq 8) d_))) (fq 5)))
   (c_ (q_ (jO hr) (fq 5) (gF (a_ (fq 10) (a_ (fq 8) d_))) jn)
   (fh (fT (ig aE aT aS gE (fq 4) (a_ (gF (a_ (fq 10) (a_ (fq 8) (a_ (fE iN (fc fB (fq 7) b_) b_) (a_ (fq 9) (a_ (fq 6) d_)))))) d_)))))
   fH)))))
   (fh (fD 6 kT.nd (fE iN (fq 6) b_))))))
   (fh (fF (fq 4))))))))),?_⟩
  walk_at "rs";obtain⟨xm,xf,xe,ha,hm,hf,he⟩:=hM.at_;refine fk λ N hN=> ?_;walk_at "rd";refine⟨_,_,w.obj,rfl,p,W,st,rfl,w,_,rfl,?_⟩;by_cases nQ:st∈W.vals.map (·.1)
  case neg=>
   rw [decide_eq_false nQ];exact Ĉ nQ
  have k:=T5 nQ;rw [decide_eq_true nQ];refine hN _ _ ?_;refine fk λ N hN=> ?_;walk_at "rd";obtain⟨as,ZY,al⟩:=hm
  have T0:Tells (Sv K xm) H ((as.zip M.jj).map λ c=>V.ref c.1):=by
   have e:(as.zip M.jj).map (λ c=>V.ref c.1)=as.map V.ref:=by
    rw [show (λ c:ac×j_=>V.ref c.1)=V.ref∘Prod.fst from rfl,<-aR,List.map_fst_zip (by rw [al.len];exact az _)]
   rw [e];exact gT (gg.of ZY)
  have lm:=ok.jr;refine⟨_,rfl,_,_,_,_,rfl,rfl,oV.of ha,rfl,xm,rfl,⟨_,gg.of ZY⟩,U6 T0 (λ D H2 c v=>∃(Hb:Hp) (d:ac) (kvs:List (Key×V)),v=V.ref d/\Hb D≠none/\yc Hb H2 d 63 63 (mU W.fL c.2) kvs/\jA W.fL c.2 H2 kvs) (λ D c v H2 H3 s ⟨Hb,d,kvs,e,h1,h2,h3⟩=>⟨Hb,d,kvs,e,h1,h2.same s,h3.same s⟩) (f_ (by rw [b9];lia)) (λ D c H2 ys Q2 hc s2 hD h=> ?_) (λ H2 c v D ys zs hD ⟨Hb,d,kvs,e,h1,h2,h3⟩=>⟨Hb,d,kvs,e,h1,h2.off hD h1,h3.off h2 hD h1⟩) λ pm H2 ys ς s2 d2 all=>hN _ _ ?_⟩
  .walk_at "rd";obtain⟨h1,h2⟩:=al.zip c hc;exact⟨p,c.1,W,c.2,rfl,w.same s2,jr,s2 _ _ h1,λ d H3 kvs hd s3 g3 f3=>h (.ref d) H3 s3 ⟨H2,d,kvs,rfl,(by rw [hD];exact λ z=>nomatch z),g3,f3⟩⟩
  clear hN N T0
  have mv:∀(i:Nat) (mk:j_),M.jj[i]? = some mk->∃(Hb:Hp) (d:ac) (kvs:List (Key×V)),ys[i]? = some (V.ref d)/\yc Hb H2 d 63 63 (mU W.fL mk) kvs/\jA W.fL mk H2 kvs:=by
   intro i mk hi;obtain⟨x,hx,_⟩:=al.at hi
   have hz:(as.zip M.jj)[i]? = some (x,mk):=by
    rw [List.getElem?_zip_eq_some];exact⟨hx,hi⟩
   have ly:ys.length=(as.zip M.jj).length:=all.len.symm;have il:=(ag.mp hz).1;obtain⟨Hb,d,kvs,e,_,g,f⟩:=all.get hz (show ys[i]? = some (ys[i]'(Za il (Zg ly))) by simp);exact⟨Hb,d,kvs,by rw [<-e];simp,g,f⟩
  clear all;have w2:=w.same s2;have a2:=s2 _ _ ha;have f2:=hf.same s2;refine fk λ N hN=> ?_;walk_at "rd";refine⟨by decide,λ b0 VU=>⟨by decide,λ qe VP=>hN _ _ ?_⟩⟩;have n3:fw H2 (upd H2 b0 (.tup [.str (tx st),.int 0,.int 0,.int (-1),.int (-1)])):=fw.new VU;have fe:H2 qe=none:=n3.free VP;have E3:pR (upd (upd H2 b0 (.tup [.str (tx st),.int 0,.int 0,.int (-1),.int (-1)])) qe (.lst [.ref b0])) qe [⟨st,0,0,-1,-1⟩]:=⟨[b0],e_,.cons ((fo (λ z=>by rw [<-z,e_] at VP;cases VP)).trans e_) .nil⟩
  have s3:fw H2 (upd (upd H2 b0 (.tup [.str (tx st),.int 0,.int 0,.int (-1),.int (-1)])) qe (.lst [.ref b0])):=n3.trans (fw.new VP);generalize upd (upd H2 b0 (.tup [.str (tx st),.int 0,.int 0,.int (-1),.int (-1)])) qe (.lst [.ref b0])=H3 at E3 s3;refine fk λ N hN=> ?_;walk_at "rd";refine λ qs ZU=>⟨by decide,λ b1 Oe=> ?_⟩
  have q1:qs≠b1:=λ z=>by rw [<-z,e_] at Oe;cases Oe
  refine⟨(fo q1).trans e_,nP (st,0),e_,hN _ _ ?_⟩;have fs:H2 qs=none:=s3.free ZU;have n4:fw H3 (upd (upd (upd H3 qs (.dT [])) b1 (.tup [.str (tx st),.int 0])) qs (.dT (putK [] (nP (st,0)) (.bl true)))):=((fw.new ZU).trans (fw.new Oe)).gh ZU
  have B4:yf H2 (upd (upd (upd H3 qs (.dT [])) b1 (.tup [.str (tx st),.int 0])) qs (.dT (putK [] (nP (st,0)) (.bl true)))) qe qs M.jj (Goes W) st (W.vals.map (·.1)) [⟨st,0,0,-1,-1⟩]:=
   ⟨s3.trans n4,E3.same n4,e_,iO.one,by simp,λ e he=>by rwa [aj.mp he]⟩
  generalize upd (upd (upd H3 qs (.dT [])) b1 (.tup [.str (tx st),.int 0])) qs (.dT (putK [] (nP (st,0)) (.bl true)))=H4 at B4;clear n4 Oe q1 ZU E3 s3 VP n3;refine fk λ N hN=> ?_;walk_at "rd";refine hN _ _ ?_;refine fk λ N hN=> ?_;have lt:(W.vals.map (·.1)).length<=100:=by rw [ae];exact w.jr
  refine Mc (λ σ H5=>∃(es:List En) (pl:Nat) (v1 v2 v3 v4:Option V),σ = [some (.ref p),some (.ref a),some (.str (tx st)),some (.ref pm),some (.ref qe),some (.ref qs),some (.int pl),v1,v2,v3,v4]/\yf H2 H5 qe qs M.jj (Goes W) st (W.vals.map (·.1)) es/\hI (jT M) (vj W M) es pl)
   (λ σ _=>2600-è σ) ⟨_,0,none,none,none,none,rfl,B4,hI.one⟩ ?_ ?_
  .rintro σ H5 ⟨es,pl,v1,v2,v3,v4,rfl,B5,F5⟩;have XM:=B5.jr lt lm;walk_at "rd";obtain⟨Vc,Pu,Bd⟩:=id B5.ents;refine⟨_,.inl (gg.of Pu),fV (λ iT=> ?_) λ hge=> ?_⟩
   rotate_left
   .refine hN _ _ ?_;walk_at "rd"
    have ge:es.length<=pl:=by
     rw [ae,Bd.len] at hge;lia
    exact k qe H5 es (s2.free fe) (s2.trans B5.old) B5.ents B5.ok XM B5.th B5.nd (F5.Þ ge)
   clear hN
   have Ÿ:pl<es.length:=by
    rw [ae,Bd.len] at iT;exact Int.ofNat_lt.mp iT
   obtain⟨e,Gv⟩:∃e,es[pl]? = some e:=⟨es[pl],by simp⟩
   obtain⟨be,Ll,L4⟩:=Bd.at Gv;refine fN Pu (nB (by rw [ak,Ll];rfl)) ?_;obtain⟨r0,r1⟩:=B5.ok.rm Gv;obtain⟨l,hl⟩:∃l,M.kE[e.rm.toNat]? = some l:=⟨M.kE[e.rm.toNat]'(by have:=ok.lf;exact Qac r1 this),by simp⟩
   obtain⟨xs,xr,h1,h2,h3⟩:=(f2.same B5.old).get hl;obtain⟨_,Ū,Z9,Z8,h3'⟩:=f2.get hl
   have exr:Ū=xr:=by
    have:=B5.old _ _ Z9;rw [h1] at this
    cases this;rw [h2] at Z8
    cases Z8;rfl
   subst exr
   refine⟨_,rfl,_,_,_,_,rfl,rfl,oV.of (B5.old _ _ a2),rfl,_,rfl,_,_,_,_,rfl,rfl,oV.of L4,rfl,_,_,_,_,rfl,rfl,gg.of h1,gx r0 h2,Ū,rfl,⟨_,gg.of h3⟩,jb (xs:=l.map V.int) (λ i σ H6=>∃(es:List En) (v2 v3 v4:Option V),σ = [some (.ref p),some (.ref a),some (.str (tx st)),some (.ref pm),some (.ref qe),some (.ref qs),some (.int pl),some (.ref be),v2,v3,v4]/\yf H2 H6 qe qs M.jj (Goes W) st (W.vals.map (·.1)) es/\es[pl]? = some e/\H6 be=some (.tup (Lw e))/\hI (jT M) (vj W M) es pl/\∀r∈l.take i,∀num to,vj W M r e.th num to->(to,r)∈es.map i5)
    ⟨es,v2,v3,v4,rfl,B5,Gv,L4,F5,λ r hr=>nomatch hr⟩ (λ i σ H6 _ hz=>by obtain⟨es,v2,v3,v4,_,B6,_⟩:=hz;exact gg.of (B6.old _ _ h3')) ?_ ?_⟩
   .clear XM Pu Bd iT Ÿ Gv Ll L4 h1 h2 h3 B5 Z9 F5;clear es Vc;rintro i0 x σ H6 hx ⟨es,v2,v3,v4,rfl,B6,Gv,L4,F6,D6⟩;walk_at "rg";rw [ak] at hx;obtain⟨r,hr,rfl⟩:=Option.map_eq_some_iff.mp hx;have tk:=iJ hr
    have hrl:r∈jT M e.rm:=by
     unfold jT;rw [hl];exact aq hr
    obtain⟨g0,g1⟩:=ok.xS l (aq hl) r (aq hr);clear hx;obtain⟨mk,FG⟩:∃mk,M.jj[(r-1).toNat]? = some mk:=⟨M.jj[(r-1).toNat]'(QaD g0 g1),by simp⟩
    obtain⟨Hb,d,kvs,hys,gm,fm⟩:=mv _ mk FG;have ļ:=gm.same B6.old;refine⟨_,rfl,_,rfl,_,_,rfl,rfl,_,_,_,_,rfl,rfl,gg.of (B6.old _ _ d2),gx (Int.sub_nonneg_of_le g0) hys,d,rfl,.inl ⟨_,.inl ļ.at_⟩,_,rfl,_,_,_,_,rfl,rfl,oV.of L4,rfl,aQ _,λ lz hlz=> ?_⟩;have n7:fw H6 (upd H6 lz (.lst [])):=fw.new hlz;have z7:upd H6 lz (.lst []) lz=some (.lst []):=e_;have B7:=B6.same n7;have U0:=n7 _ _ L4;generalize upd H6 lz (.lst [])=H7 at n7 z7 B7 U0;have gm7:=ļ.same n7;refine⟨_,lM.k (k:=.inr (tx e.th)) gm7.at_,?_⟩
    obtain⟨lw,zs,ew,đ,hw,good,full⟩:∃(lw:ac) (zs:List V),(hV kvs (.inr (tx e.th))).getD (.ref lz) = .ref lw/\H7 lw=some (.lst zs)/\(H2 lw=some (.lst zs)\/zs = [])/\(∀y∈zs,∃b num to,y = .ref b/\H2 b=some (.tup [.int num,.str (tx to)])/\mU W.fL mk e.th num to)/\∀num to,mU W.fL mk e.th num to->∃b,V.ref b∈zs/\H2 b=some (.tup [.int num,.str (tx to)]):=by
     cases hv:hV kvs (.inr (tx e.th)) with
     | none=>
      refine⟨lz,[],rfl,z7,.inr rfl,(λ y hy=>nomatch hy),λ num to hg=> ?_⟩;obtain⟨a',fZ,mt,ft,ek,et⟩:=hg;obtain⟨l',_,_,e1,_⟩:=fm num a' fZ mt ft;rw [ek,hv] at e1
      cases e1
     | some v=>
      obtain⟨l',zs,rfl,_,h',_,r'⟩:=gm.there hv;refine⟨l',zs,rfl,n7 _ _ (B6.old _ _ h'),.inl h',r',λ num to hg=> ?_⟩;obtain⟨a',fZ,mt,ft,ek,et⟩:=hg;obtain⟨l'',us,b',e1,e2,e3,e4⟩:=fm num a' fZ mt ft;rw [ek,hv] at e1
      cases e1;rw [h'] at e2
      cases e2;exact⟨b',e3,by rw [e4,et]⟩
    refine⟨lw,ew,⟨_,gg.of đ⟩,jb (xs:=zs) (λ i σ H8=>∃(es:List En) (v3 v4:Option V),σ = [some (.ref p),some (.ref a),some (.str (tx st)),some (.ref pm),some (.ref qe),some (.ref qs),some (.int pl),some (.ref be),some (.int r),v3,v4]/\yf H2 H8 qe qs M.jj (Goes W) st (W.vals.map (·.1)) es/\es[pl]? = some e/\H8 be=some (.tup (Lw e))/\H8 lw=some (.lst zs)/\hI (jT M) (vj W M) es pl/\(∀r∈l.take i0,∀num to,vj W M r e.th num to->(to,r)∈es.map i5)/\∀b num to,V.ref b∈zs.take i->H2 b=some (.tup [.int num,.str (tx to)])->(to,r)∈es.map i5)
     ⟨es,v3,v4,rfl,B7,Gv,U0,đ,F6,D6,λ b num to hb=>nomatch hb⟩ (λ i σ H8 _ hz=>by obtain⟨es,v3,v4,_,B8,_,_,h8,_⟩:=hz;exact gg.of h8) ?_ ?_⟩
    .clear Gv L4 U0 đ B6 B7 ļ gm7 n7 z7 F6 D6;clear es;rintro j x σ H8 hx ⟨es,v3,v4,rfl,B8,Gv,L4,h8,F8,D8,E8⟩;have tk8:=iJ hx;have hw2:H2 lw=some (.lst zs):=hw.resolve_right λ z=>by rw [z] at hx;cases hx
     obtain⟨b,num,to,rfl,hb,go⟩:=good x (aq hx);have aan:=B8.jr lt lm;refine⟨b,_,rfl,oV.of (B8.old _ _ hb),rfl,?_⟩;refine⟨_,_,rfl,_,_,rfl,rfl,?_⟩;dsimp only [nj,dn,dq];refine DB λ N9 hN9=> ?_;walk_at "rd"
     have Xd:to∈W.vals.map (·.1):=by
      obtain⟨_,fZ,mt,_,_,rfl⟩:=go;unfold jv
      split
      .exact(AW _ mt).1
      .exact(AW _ mt).2
     have goB:Goes W mk.back e.th num to:=let ⟨a',fZ,mt,_,e1,e2⟩:=go;⟨a',fZ,mt,e1,e2⟩;refine⟨by decide,λ b1 Oe=> ?_⟩;have n9:fw H8 (upd H8 b1 (.tup [.str (tx to),.int r])):=fw.new Oe;have q9:upd H8 b1 (.tup [.str (tx to),.int r]) b1=some (.tup ((nP (to,r)).map kV)):=e_;have B9:=B8.same n9;have UZ:=n9 _ _ L4;have h9:=n9 _ _ h8;generalize upd H8 b1 (.tup [.str (tx to),.int r])=H9 at n9 q9 B9 UZ h9;refine⟨_,lM.t (k:=nP (to,r)) B9.seen q9,?_⟩;rw [Bz]
     have Pk:∀(Gx:List En),(∀s,s∈es.map i5->s∈Gx.map i5)->(to,r)∈Gx.map i5->(∀r∈l.take i0,∀num to,vj W M r e.th num to->(to,r)∈Gx.map i5)/\∀b num to,V.ref b∈zs.take (j+1)->H2 b=some (.tup [.int num,.str (tx to)])->(to,r)∈Gx.map i5:=by
      intro Gx sub hh;refine⟨λ r hr num to hg=>sub _ (D8 r hr num to hg),λ b' TN Ů yp ŏ=> ?_⟩;rw [tk8] at yp;rcases aA.mp yp with z|z
      .exact sub _ (E8 b' TN Ů z ŏ)
      .cases aj.mp z;rw [hb] at ŏ
       have e2:tx to=tx Ů:=by
        injection ŏ with q
        injection q with q
        injection q with _ q
        injection q with q
        injection q
       rwa [<-iA.mp e2]
     refine fV (λ hn=> ?_) λ Pr=>hN9 _ _ ⟨es,_,_,rfl,B9,Gv,UZ,h9,F8,Pk es (λ s h=>h) (by simpa using Pr)⟩;have new:(to,r)∉es.map i5:=of_decide_eq_false hn;refine⟨by decide,λ b2 QV=> ?_⟩;have AR:fw H9 (upd H9 b2 (.tup [.str (tx to),.int r])):=fw.new QV;have RP:upd H9 b2 (.tup [.str (tx to),.int r]) b2=some (.tup ((nP (to,r)).map kV)):=e_;have YR:=B9.same AR;have Sj:=AR _ _ UZ;generalize upd H9 b2 (.tup [.str (tx to),.int r])=CO at AR RP YR Sj
     have off:∀c (o:HO),(∀z,o≠.dT z)->CO c=some o->upd CO qs (.dT (putK (kF es) (nP (to,r)) (.bl true))) c=some o:=λ c o no hc=>by
      rwa [fo (gA hc YR.seen (no _))]
     have Si:=off _ _ (λ z q=>by cases q) Sj;refine⟨_,AQ.t (k:=nP (to,r)) YR.seen RP (aF (show (kF es).length<3000 by unfold kF;rw [ae];exact Zb aan (Zd rfl)) (f_ (by decide))),?_,fu Si rfl ⟨_,rfl,by decide,λ b3 Z5=> ?_⟩⟩
     .obtain⟨as,ha,_⟩:=YR.ents;exact gu (gg.of (off _ _ (λ z q=>by cases q) ha))
     obtain⟨xs,hx,lx,B11⟩:=YR.put (e:=⟨to,r,e.mX+1,num,pl⟩) new fe fs rfl Gv rfl g0 FG goB Xd Z5;refine⟨xs,hx,aF (show xs.length<3000 from Zb (Ze lx) (Zb aan (Zd rfl))) (f_ (by decide)),hN9 _ _ ⟨_,_,_,rfl,B11,by rwa [aP (ag.mp Gv).1],?_,B11.old _ _ hw2,F8.push Gv rfl rfl hrl ⟨mk,FG,go⟩,Pk _ (λ s h=>by rw [ax];exact aN _ h) (by rw [ax];exact aD _ (by simp [i5]))⟩⟩
     have c1:upd (upd CO qs (.dT (putK (kF es) (nP (to,r)) (.bl true)))) b3 (.tup [.str (tx to),.int r,.int (e.mX+1),.int num,.int pl]) be=some (.tup (Lw e)):=by
      rwa [fo (fA Si Z5)]
     rwa [fo (gA c1 hx (λ z=>nomatch z))]
    .rintro σ H8 ⟨es,v3,v4,rfl,B8,Gv,L4,h8,F8,D8,E8⟩;walk_at "rd";refine⟨es,B8,Gv,L4,F8,λ r' ο num to hg=> ?_⟩;rw [tk] at ο;rcases aA.mp ο with z|z
     .exact D8 r' z num to hg
     .rw [aj.mp z] at hg⊢;obtain⟨mk',Xq,hg⟩:=hg;rw [FG] at Xq
      cases Xq;obtain⟨b',Oe,QV⟩:=full num to hg;exact E8 b' num to (by rwa [br]) QV
   .rintro σ H6 ⟨es,v2,v3,v4,rfl,B6,Gv,L4,F6,D6⟩;walk_at "rd";rw [ae,br] at D6;refine⟨⟨es,pl+1,by rw [Int.natCast_succ],B6,F6.next Gv λ r hr=>D6 r (by unfold jT at hr;rw [hl] at hr;exact hr)⟩,?_⟩;show 2600-((pl:Int)+1).toNat<2600-((pl:Int)).toNat;lia
  .intro σ H5 Q1 Q2 hq;walk_at "rd";rintro⟨v,e1,v1,e2,q,e3,x,e4,i,e5,e6⟩;exact⟨v,e1,v1,e2,q,e3,x,e4,i,e5,hq _ _ e6⟩
theorem oj:fI ["made","entries","place","way","entry","mark"] ["made","entries","place"] (fC y_):=by walk_at "sc"
theorem KR (T:Txt K mg t):fX P w K mg base (ij P w) 1 t.Ga t.FQ ["made","entries","place"] (Bs):=by
 refine T.Mh.fn.okN oj (λ iw A outer s H vs Q E hr h=> ?_)
 .obtain⟨a,q,M,st,good,es,k,rfl,hM,ok,hE,bo,jr,kl,kk⟩:=h
  refine⟨_,Bx.un (c_ (fD 3 oj.nd (gi d_))
   (c_ (fD 4 oj.nd (fc fP (fq 1) (fq 2)))
   (c_ (Cn PassesOwn.never (fG Nw (fc fB (fq 4) b_) b_ (fO _))
   (c_ (fD 5 oj.nd (fc fP (fc fB (fq 0) (jM T.JY)) (fE pq (fc fB (fq 4) b_) b_)))
   (c_ (fT (ig aE aT aS gE (fq 3) (a_ (gF (a_ (fc fB (fq 4) b_) (a_ (fc fB (fq 5) b_) d_))) d_)))
   (fh (fD 4 oj.nd (fc fP (fq 1) (fc fB (fq 4) b_)))))))
   (c_ (fT (yw aE PySem.F.slot_list_reverse PySem.F.type_list_reverse Hu (fq 3)))
   (fh (fF (fq 3))))))),?_⟩
  walk_at "rs";obtain⟨xm,xf,xe,ha,hm,hf,he⟩:=hM.at_;obtain⟨as,hq,al⟩:=id hE;obtain⟨ams,ZY,Ar⟩:=hm;refine fk λ N hN=> ?_;walk_at "rd";refine⟨aQ _,λ wl R8=>hN _ _ ?_⟩;have s1:fw H (upd H wl (.lst [])):=fw.new R8;have W1:hZ (upd H wl (.lst [])) wl []:=⟨[],e_,.nil⟩
  generalize upd H wl (.lst [])=H1 at s1 W1;refine fk λ N hN=> ?_;walk_at "rd";obtain⟨e0,he0⟩:∃e,es[k]? = some e:=⟨es[k],by simp⟩
  obtain⟨be0,VU,r0⟩:=al.at he0;refine fN (s1 _ _ hq) (nB (by rw [ak,VU];rfl)) (hN _ _ ?_);refine fk λ N hN=> ?_
  refine Md (λ m σ H5=>∃(e:En) (be:ac) (done:List Nat) (v5:Option V),σ = [some (.ref a),some (.ref q),some (.int k),some (.ref wl),some (.ref be),v5]/\fw H H5/\hZ H5 wl (done.map (sL M.jj es))/\es[m]? = some e/\H be=some (.tup (Lw e))/\jN es es.length k=done++jN es m m) k
   ⟨e0,be0,[],none,rfl,s1,W1,he0,r0,rT bo _ _ _ (Zl kl) (az _) kl⟩ ?_ ?_
  .rintro m σ H5 ⟨e,be,done,v5,rfl,s5,W5,Pu,r5,line⟩;walk_at "rd";refine fu (s5 _ _ r5) rfl ⟨_,rfl,fV (λ h=> ?_) λ h=> ?_⟩
   .cases m with
    | zero=>
     rw [bo.fst] at Pu
     cases Pu;exact absurd h (show ¬(0:Int)<=-1 by decide)
    | succ m=>
     clear hN;obtain⟨j,f,mk,jle,UC,hf5,aal,h1,FG,hg⟩:=bo.Pk m e Pu;obtain⟨bm,hbm,rm,_⟩:=Ar.at FG;obtain⟨Vc,Ug,Bd⟩:=W5;obtain⟨bf,hbf,rf⟩:=al.at hf5
     have lw:Vc.length<=2500:=by
      have h2:(jN es es.length k).length<=es.length:=BH _ _;rw [line,ao] at h2;have h3:=Bd.len;rw [ae] at h3;exact Zc (Ze h3) (Zc Zk (Zc h2 jr))
     refine fu (s5 _ _ ha) rfl (fu (s5 _ _ r5) rfl ⟨_,rfl,fN (s5 _ _ ZY) (gx (Int.sub_nonneg_of_le h1) (by rw [ak,hbm];rfl)) ⟨gu (gg.of Ug),fu (s5 _ _ r5) rfl (fu (s5 _ _ rm) rfl ⟨by decide,λ b hb=> ?_⟩)⟩⟩);have n6:fw H5 (upd H5 b (.tup [.int e.num,.bl mk.back])):=fw.new hb;have q6:upd H5 b (.tup [.int e.num,.bl mk.back]) b=some (.tup [.int e.num,.bl mk.back]):=e_;generalize upd H5 b (.tup [.int e.num,.bl mk.back])=H6 at n6 q6;refine⟨_,n6 _ _ Ug,aF (show (Vc.map V.ref).length<3000 by rw [ae];exact Zb lw (Zd rfl)) (f_ (by decide)),?_⟩;have s7:fw H (upd H6 wl (.lst (Vc.map V.ref ++ [.ref b]))):=(s5.trans n6).gh R8;have W7:=Kb (w:=(e.num,mk.back)) (n6 _ _ Ug) (Bd.imp λ _ _ r=>n6 _ _ r) q6;generalize upd H6 wl (.lst (Vc.map V.ref ++ [.ref b]))=H7 at s7 W7;refine fu (s7 _ _ r5) rfl (fN (s7 _ _ hq) (by rw [UC];exact nB (by rw [ak,hbf];rfl)) ⟨j,Zt jle,f,bf,rfl,s7,done ++ [m+1],?_,hf5,rf,?_⟩)
     .rw [ax]
      have:sL M.jj es (m+1)=(e.num,mk.back):=by
       unfold sL;rw [Pu];show (e.num,((M.jj[(e.rm-1).toNat]?).map j_.back).getD false)=_;rw [FG];rfl
      rwa [aB,this]
     .rw [line,pG bo Pu UC,bt];rfl
   .cases m with
    | succ m=>
     obtain⟨j,f,mk,jle,UC,_⟩:=bo.Pk m e Pu;exact absurd (show (0:Int)<=e.Gy by lia) h
    | zero=>
     refine hN _ _ ?_;walk_at "rd";obtain⟨Vc,Ug,Bd⟩:=W5;rw [mH,bI] at line;refine⟨gu (gg.of Ug),_,Ug,kk wl _ R8 (s5.gh R8) ?_⟩;rw [line];exact Me Ug Bd
  .intro σ H5 Q1 Q2 hq;walk_at "rd";rintro⟨v,e1,b,xs,i,u,e2,e3,e4,e5,j,e6,e7⟩;exact⟨v,e1,b,xs,i,u,e2,e3,e4,e5,j,e6,hq _ _ e7⟩
theorem o_:fI ["made","entries","found","place","entry"] ["made","entries"] (fC vS):=by walk_at "sc"
theorem Hi (T:Txt K mg t):fX P w K mg base (ij P w) 1 t.CL t.Ce ["made","entries"] (yR):=by
 refine T.JR.fn.okN o_ (λ iw A outer s H vs Q E hr h=> ?_)
 .obtain⟨a,q,M,st,good,es,rfl,hM,ok,hE,bo,jr,kk⟩:=h
  refine⟨_,Bx.un (c_ (fD 2 o_.nd j8)
   (c_ (gX PassesOwn.never rfl (OW rfl T.F7 (a_ (fq 1) d_)) (J1 rfl (sj (gn 3 o_.nd) (sj (gn 4 o_.nd) FZ)))
   (fh (fS (iu (fc fP (fc fB (fq 0) (jM T.U8)) (fc fB (fq 4) b_)))
   (fh (fT (Cq (fq 2) (fc fB (fq 4) b_) (fq 3))))
   fH)))
   (fh (fF (LH rfl (by rfl) T.mO (fq 2)))))),?_⟩
  walk_at "rs";refine fk λ N hN=> ?_;walk_at "rd";refine λ fd hfd=>hN _ _ ?_;have s1:fw H (upd H fd (.dK [])):=fw.new hfd;have q1:upd H fd (.dK []) fd=some (.dK (gH [])):=e_;generalize upd H fd (.dK [])=H1 at s1 q1;obtain⟨xm,xf,xe,ha,hm,hf,he⟩:=hM.at_;obtain⟨as,hq,al⟩:=id hE;refine fk λ N hN=> ?_
  refine⟨_,rfl,q,_,rfl,gg.of (s1 _ _ hq),Oj (xs:=as.map V.ref) (λ i σ H2=>∃v v',σ = [some (.ref a),some (.ref q),some (.ref fd),v,v']/\fw H H2/\H2 fd=some (.dK (gH (iU M.ends (es.take i) 0 []))))
   ⟨none,none,rfl,s1,q1⟩ (λ i σ H2 _ hz=>by obtain⟨v,v',_,s2,_⟩:=hz;exact gg.of (s2 _ _ hq)) ?_ ?_⟩
  .rintro i y b σ H2 hy hb ⟨v,v',rfl,s2,q2⟩;rw [ak] at hy;obtain⟨be,Ll,rfl⟩:=Option.map_eq_some_iff.mp hy;have il:i<es.length:=by rw [<-al.len];exact(ag.mp Ll).1
   have ZZ:es[i]? = some es[i]:=by simp
   have ä:=al.get Ll ZZ;clear hN;have n3:fw H2 (upd H2 b (.tup [.int i,.ref be])):=fw.new hb;have b3:upd H2 b (.tup [.int i,.ref be]) b=some (.tup [.int i,.ref be]):=e_;generalize upd H2 b (.tup [.int i,.ref be])=H3 at n3 b3;have s3:=s2.trans n3;have q3:=n3 _ _ q2;refine⟨b,_,rfl,oV.of b3,rfl,?_⟩;walk_at "rd";generalize es[i]=e at ZZ ä;obtain⟨r0,r1⟩:=bo.rm ZZ;obtain⟨eb,heb⟩:∃eb,M.ends[e.rm.toNat]? = some eb:=⟨M.ends[e.rm.toNat]'(by have:=ok.le;exact Qac r1 this),by simp⟩
   have len:(gH (iU M.ends (es.take i) 0 [])).length<dL:=by
    have h1:=BY M.ends (es.take i) 0 [];rw [aX,aW] at h1;refine aF (show _<3000 from ?_) (f_ (by decide));unfold gH;rw [ae];lia
   have zl:(es.take i).length=i:=by rw [aX];lia
   have nx:iU M.ends (es.take (i+1)) 0 []=if eb=true/\e.th∉(iU M.ends (es.take i) 0 []).map (·.1) then iU M.ends (es.take i) 0 [] ++ [(e.th,(i:Int))] else iU M.ends (es.take i) 0 []:=by
    rw [iJ ZZ,ub,heb,zl,eG];rfl
   rw [nx];refine fu (s3 _ _ ha) rfl (fu (s3 _ _ ä) rfl (fN (s3 _ _ he) (gx r0 (by rw [ak,heb];rfl)) ⟨_,rfl,fV (λ h=> ?_) λ h=>⟨s3,?_⟩⟩))
   .subst h;refine⟨.inl ⟨_,.inl q3⟩,fu (s3 _ _ ä) rfl ⟨_,q3,.inr (tx e.th),rfl,len,λ v hv=>⟨s3,?_⟩,λ hv=>⟨s3.gh hfd,?_⟩⟩⟩
    .have h1:e.th∈(iU M.ends (es.take i) 0 []).map (·.1):=by
      have h2:=lj (l:=e.th) (m:=iU M.ends (es.take i) 0 []);rw [hv] at h2;exact of_decide_eq_true h2.symm
     rwa [if_neg (λ z=>z.2 h1)]
    .have h1:e.th∉(iU M.ends (es.take i) 0 []).map (·.1):=by
      have h2:=lj (l:=e.th) (m:=iU M.ends (es.take i) 0 []);rw [hv] at h2;exact of_decide_eq_false h2.symm
     rw [if_pos ⟨rfl,h1⟩,e_,(NB h1).2]
   .rwa [if_neg (λ z=>h z.1)]
  .rintro σ H2 ⟨v,v',rfl,s2,q2⟩;refine hN _ _ ?_;walk_at "rd";rw [ae,al.len,br] at q2;refine⟨_,.inl q2,λ l bs H3 hl lb s3 h3 _ h5=>kk l H3 (s2.free hl) (s2.trans s3) ⟨bs,h3,J8 _ _ lb λ i x y hx hy=>h5 i x y hx hy⟩⟩
theorem ng:fI ["tree","found","part"] ["tree"] (fC tN):=by walk_at "sc"
theorem Dt (T:Txt K mg t) (d:Nat):fX P w K mg base (ij P w) (1+d) t.uh t.ud ["tree"] (m4 d):=by
 induction d with
 | zero=>exact T.uO.fn.okN ng (len:=λ vs H Q E h=>(n_ h).elim) (λ iw A outer s H vs Q E hr h=>(n_ h).elim)
 | succ d ih=>
 have uo:=ih;refine T.uO.fn.okN ng (λ iw A outer s H vs Q E hr h=> ?_)
 .obtain⟨a,tr,rfl,ha,hd,hm,k⟩:=h
  refine⟨_,Bx.un (c_ (fS (fG iE (fc fB (fq 0) b_) fW (fO _))
   (fh (fF (gi (a_ (fq 0) d_))))
   fH)
   (c_ (fD 1 ng.nd (gi d_))
   (c_ (gX PassesOwn.never rfl (Rn (jL SN (fq 0) (jU b_) lC)) (gn 2 ng.nd)
   (fh (fT (ig aE dC dB wd (fq 1) (a_ (fK T.uO uo hr fM (a_ (fq 2) d_)) d_)))))
   (fh (fF (fq 1)))))),?_⟩
  walk_at "rd";rcases ha.kids with ⟨m,rfl,ea,oa⟩ | ⟨as,ea,ka,R0,ĉ,l2,l1⟩
  .refine fu ea rfl ⟨rfl,jf rfl ⟨by decide,λ p hp=> ?_⟩⟩;have n:=fw.new (o:=.lst [.ref a]) hp;exact k p _ [a] hp n e_ (.cons ⟨n _ _ ea,oa⟩ .nil)
  .have nk:¬V.str (tx tr.kind)=V.str (tx [109,97,114,107]):=λ z=>ĉ (by
    have:tx tr.kind=tx [109,97,114,107]:=by injection z
    exact iA.mp this)
   refine fu ea gW ⟨rfl,gy nk ⟨aQ _,λ f hf=> ?_⟩⟩;have s0:=fw.new (o:=.lst []) hf;have f0:upd H f (.lst []) f=some (.lst []):=e_;generalize upd H f (.lst [])=H0 at s0 f0;refine⟨_,rfl,_,rfl,a,_,rfl,oV.of (s0 _ _ ea),OK _ _,λ q hq=> ?_⟩;rw [Cg];have s1:=s0.gh (o:=.tup (as.map V.ref)) (s0.free hq);have n1:=fw.new (o:=.tup (as.map V.ref)) hq;have Uo:upd H0 q (.tup (as.map V.ref)) q=some (.tup (as.map V.ref)):=e_;generalize upd H0 q (.tup (as.map V.ref))=H1 at s1 Uo n1
   have hfq:f≠q:=λ z=>by
    rw [<-z,f0] at hq
    cases hq
   refine⟨q,rfl,⟨_,oV.of Uo⟩,Q9 (K:=K) (a:=q) (xs:=as.map V.ref) (λ i σ H2=>∃v rs,σ = [some (.ref a),some (.ref f),v]/\fw H H2/\H2 q=some (.tup (as.map V.ref))/\H2 f=some (.lst (rs.map V.ref))/\fR (rB H2) rs ((tr.kids.take i).flatMap Tr.marks))
    ⟨none,[],rfl,s1,Uo,n1 _ _ f0,.nil⟩ (λ i σ H2 _ ⟨_,_,_,_,z,_⟩=>oV.of z) ?_ ?_⟩
   .rintro i y σ H2 hi ⟨v,rs,rfl,s2,q2,f2,al⟩;obtain⟨x,hx,rfl⟩:=iR hi
    have il:i<as.length:=by
     obtain⟨z,_⟩:=ag.mp hx;exact z
    obtain⟨z,hz⟩:∃z,tr.kids[i]? = some z:=⟨tr.kids[i]'(by rwa [<-ka.len]),by simp⟩
    have dz:=Tr.K8 (aq hz);have mz:tr.marks.length=(tr.kids.flatMap Tr.marks).length:=by rw [zG ĉ]
    have tk:=iJ hz;have tot:=Lr hz;rw [<-mz] at tot;have lr:=al.len;walk_at "rd";refine⟨gu (gg.of f2),x,z,rfl,(ka.get hx hz).same s2,by lia,Zc Zo (Zc tot hm),λ p H3 Ŷ hp s3 e3 V0=> ?_⟩;have l3:=V0.len;have f3:=s3 _ _ f2;have LX:=My (o:=.lst ((rs++Ŷ).map V.ref)) (fw.refl H3) f3;refine⟨f,p,_,_,rfl,rfl,f3,e3,f_ (by simp only [ae];lia),?_⟩;rw [<-ax,tk];refine⟨(s2.trans s3).gh hf,LX.tup _ _ (s3 _ _ q2),rs++Ŷ,e_,?_⟩;rw [List.flatMap_append];simp only [dA,List.flatMap_nil,bI];exact(al.imp λ _ _ y=>(y.same s3).keep LX.tup).append (V0.imp λ _ _ y=>y.keep LX.tup)
   .rintro σ H2 ⟨v,rs,rfl,s2,q2,f2,al⟩;rw [ae,ka.len,br,<-zG ĉ] at al;walk_at "rd";exact k f H2 rs hf s2 f2 al
theorem Fe (T:Txt K mg t):fX P w K mg base (ij P w) (1+40) t.uh t.ud ["tree"] (m4 40):=Dt T 40
theorem xR:fI ["self"] ["self"] (fC mw):=by walk_at "sc"
theorem xY (T:Txt K mg t):fX P w K mg base (ij P w) 1 t.mQ t.qX ["self"] (pW t):=by
 refine T.vo.fn.okN xR (λ iw A outer s H vs Q E hr h=> ?_)
 .obtain⟨p,dx,rfl,hp,k⟩:=h;refine⟨_,Bx.un (fh (vc (fq 0) (gi (a_ j8 d_)))),?_⟩;walk_at "rd";intro d QU;refine⟨by decide,λ f hf=> ?_⟩
  have Δ:f≠d:=λ z=>by
   rw [z,e_] at hf
   cases hf
  rw [fo Δ] at hf;have ž:p≠d:=fA hp QU;have Ž:p≠f:=fA hp hf;refine⟨_,_,_,by rwa [fo Ž,fo ž],T.gO,T.ji,by simp,?_⟩;refine k _ f d ⟨⟨dx,e_⟩,by rw [fo Ž.symm,e_];rfl,.cons (by rw [fo ž.symm,fo Δ.symm,e_];rfl) .nil,by simp,⟨λ l hl=>by rw [aj.mp hl];exact ck,λ l hl x hx=>by rw [aj.mp hl] at hx;cases hx⟩⟩ hf QU λ b o hb e=> ?_
  rwa [fo hb,fo (fA e hf),fo (fA e QU)]
theorem lE:fI ["self","lasts","firsts","room","other"] ["self","lasts","firsts"] (fC mr):=by walk_at "sc"
theorem lJ (T:Txt K mg t):fX P w K mg base (ij P w) 1 t.rq t.qW ["self","lasts","firsts"] (pV t):=by
 refine T.lU.fn.okN lE (λ iw A outer s H vs Q E hr h=> ?_)
 .obtain⟨b,f,la,lb,ds,F,ls,fs,rfl,hb,ha,hc,na,nc,hls,Ĩ,jr,k⟩:=h
  refine⟨_,Bx.un (fh (gX PassesOwn.never rfl (gq (fq 1)) (gn 3 lE.nd)
   (fh (gX PassesOwn.never rfl (gq (fq 2)) (gn 4 lE.nd)
   (fh (q_ (jO hr) (fc fP (gU (fq 0)) (fq 3)) (fq 4) jn)))))),?_⟩
  walk_at "rs";have na':=hb.out ha na;have Θ:=hb.out hc nc
  refine⟨_,rfl,la,rfl,⟨_,gg.of ha⟩,jb (K:=K) (a:=la) (xs:=ls.map V.int) (λ i σ H2=>∃(v v':Option V) (F2:List (List Int)),σ = [some (.ref b),some (.ref la),some (.ref lb),v,v']/\rK t.gb H2 b f ds F2/\F2.length=F.length/\mW F F2 (λ a o=>a∈ls.take i/\o∈fs)/\L2.Step H (f::ds) H2 (f::ds))
   ⟨none,none,F,rfl,hb,rfl,(mW.refl F).iff (λ a o=>by simp),L2.Step.refl _ _⟩ (λ i σ H2 _ hz=>by obtain⟨_,_,_,_,_,_,_,s2⟩:=hz;exact gg.of (s2.off _ _ na' ha)) ?_ ?_⟩
  .rintro i y σ H2 hi ⟨v,v',F2,rfl,b2,l2,Gz,s2⟩;obtain⟨x,hx,rfl⟩:=iR hi;obtain⟨x0,x1⟩:=hls x (aq hx);walk_at "rg"
   refine⟨_,rfl,lb,rfl,⟨_,gg.of (s2.off _ _ Θ hc)⟩,jb (K:=K) (a:=lb) (xs:=fs.map V.int) (λ j σ H3=>∃(v':Option V) (F3:List (List Int)),σ = [some (.ref b),some (.ref la),some (.ref lb),some (.int x),v']/\rK t.gb H3 b f ds F3/\F3.length=F.length/\mW F F3 (λ a o=>(a∈ls.take i/\o∈fs)\/(a=x/\o∈fs.take j))/\L2.Step H (f::ds) H3 (f::ds))
    ⟨v',F2,rfl,b2,l2,Gz.iff (λ a o=>by simp),s2⟩ (λ j σ H3 _ hz=>by obtain⟨_,_,_,_,_,_,s3⟩:=hz;exact gg.of (s3.off _ _ Θ hc)) ?_ ?_⟩
   .rintro j y σ H3 hj ⟨v',F3,rfl,b3,l3,YE,s3⟩;obtain⟨o,ho,rfl⟩:=iR hj;obtain⟨o0,o1⟩:=Ĩ o (aq ho);obtain⟨d,hd,ed⟩:=b3.room x0 (Ya x1 (Yo (Zg l3)));obtain⟨dx,eb⟩:=b3.obj;walk_at "rg";walk_at "rd";refine⟨_,_,_,eb,T.gO,T.ji,_,rfl,fN b3.lst (v:=.ref d) (gx x0 (by rw [ak,hd];rfl)) ⟨d,rfl,_,AQ.k (k:=.inl o) ed ?_,?_⟩⟩
    .unfold NX;rw [ae];have:=b3.ok.len _ (aq (Eo x0 (show x<F3.length from Ya x1 (Yo (Zg l3)))));exact bV this (aF (show _<3000 from Zb (Ze l3) (Zb jr (Zd rfl))) (f_ (by decide)))
    .rw [S2];have tk:=iJ ho;refine⟨xT F3 x o,b3.put x0 (Ya x1 (Yo (Zg l3))) o0 (Ya o1 (Yo (Zg l3))) hd,by rwa [E9],?_,s3.trans (b3.Qb hd ⟨_,ed⟩)⟩;intro a c h0;rw [NK x0 (Ya x1 (Yo (Zg l3))) h0,YE a c h0,tk];dsimp only;rw [aA,aj];constructor
     .rintro((z|z | ⟨z1,z2⟩) | ⟨z1,z2⟩)
      .exact .inl z
      .exact .inr (.inl z)
      .exact .inr (.inr ⟨z1,.inl z2⟩)
      .exact .inr (.inr ⟨z1,.inr z2⟩)
     .rintro(z|z | ⟨z1,z2|z2⟩)
      .exact .inl (.inl z)
      .exact .inl (.inr (.inl z))
      .exact .inl (.inr (.inr ⟨z1,z2⟩))
      .exact .inr ⟨z1,z2⟩
   .rintro σ H3 ⟨v',F3,rfl,b3,l3,YE,s3⟩;refine⟨_,_,F3,rfl,b3,l3,YE.iff (λ a o=> ?_),s3⟩;rw [ae,br,iJ hx,aA,aj];constructor
    .rintro(⟨z1,z2⟩ | ⟨z1,z2⟩)
     .exact⟨.inl z1,z2⟩
     .exact⟨.inr z1,z2⟩
    .rintro⟨z1|z1,z2⟩
     .exact .inl ⟨z1,z2⟩
     .exact .inr ⟨z1,z2⟩
  .rintro σ H2 ⟨v,v',F2,rfl,b2,l2,Gz,s2⟩;rw [ae,br] at Gz;exact k H2 F2 b2 l2 Gz s2
theorem lg:fI ["self","room"] ["self"] (fC jP):=by walk_at "sc"
theorem qQ (T:Txt K mg t):fX P w K mg base (ij P w) 1 t.lO t.lN ["self"] (kZ t):=by
 refine T.nF.fn.okN lg (λ iw A outer s H vs Q E hr h=> ?_)
 .obtain⟨b,f,ds,F,m,rfl,hb,jr,k⟩:=h
  refine⟨_,Bx.un (c_ (fD 1 lg.nd (fJ fQ (by rfl) T.iG PySem.boot_len (a_ (gU (fq 0)) d_)))
   (c_ (fT (ig aE aT aS gE (gU (fq 0)) (a_ j8 d_)))
   (fh (fF (gF (a_ jn (a_ (gi (a_ (fq 1) d_)) (a_ (gi (a_ (fq 1) d_)) d_)))))))),?_⟩
  walk_at "rs";obtain⟨dx,eb⟩:=hb.obj;have ln:=hb.len;refine fk λ N hN=> ?_;walk_at "rd";refine⟨_,_,_,eb,T.gO,T.ji,_,rfl,f,rfl,_,.inl (gg.of hb.lst),hN _ _ ?_⟩;refine fk λ N hN=> ?_;walk_at "rd";refine⟨_,_,_,eb,T.gO,T.ji,_,rfl,gu (gg.of hb.lst),λ d0 QU=>⟨f,rfl,_,(fo (fA hb.lst QU)).trans hb.lst,?_,hN _ _ ?_⟩⟩
  .rw [ae,ln];exact aF (show _<3000 from Zb jr (Zd rfl)) (f_ (by decide))
  have b2:=hb.more QU;have s2:=hb.NH (xs:=ds.map V.ref ++ [.ref d0]) QU;generalize upd (upd H d0 (.dK [])) f (.lst (ds.map V.ref ++ [.ref d0]))=H2 at b2 s2;have ad:=(mW.more F).iff (S:=(Tr.mark m).kE F.length) λ a c=>Iff.rfl;walk_at "rd";have e0:(((ds.map V.ref).length:Nat):Int)=(F.length:Int):=by rw [ae,ln]
  rw [e0];refine⟨by decide,λ x1 rZ=>⟨by decide,λ x2 sV=>⟨by decide,λ x3 DO=> ?_⟩⟩⟩;have fr:∀x,H2 x=none->H x=none:=λ x hx=>s2.free b2.Fz hx;have n1:=fw.new (o:=.lst [V.int (F.length:Int)]) rZ;have n2:=fw.new (o:=.lst [V.int (F.length:Int)]) sV;exact k.fin b2 (by rw [ao];rfl) ad s2 (n1.trans n2) (fr _ rZ) (fr _ (n1.free sV)) (n2 _ _ e_) e_ DO
theorem j2:fI ["self","left_tree","right_tree","left","right"] ["self","left_tree","right_tree"] (fC km):=by walk_at "sc"
theorem sC (T:Txt K mg t) (d:Nat) (ih:fX P w K mg base (ij P w) (2+2*d) t.iq t.ik ["self","tree"] (gR t d)):fX P w K mg base (ij P w) (2+2*d+1) t.nD t.ny ["self","left_tree","right_tree"] (lY t tU (d+1)):=by
 have g_:=ih;refine T.qq.fn.okN j2 (len:=λ vs H Q E h=>by obtain⟨_,_,_,_,_,_,_,_,rfl,_⟩:=h;rfl) (λ iw A outer s H vs Q E hr h=> ?_)
 .obtain⟨b,al,ar,f,ds,F,l,r,rfl,hb,hl,Ul,hd,jr,k⟩:=h
  refine⟨_,Bx.un (c_ (fD 3 j2.nd (ip (fq 0) T.gO T.iX g_ hr fM (a_ (fq 1) d_)))
   (c_ (fD 4 j2.nd (ip (fq 0) T.gO T.iX g_ hr fM (a_ (fq 2) d_)))
   (fh (fF (gF (a_ (Ip (fc fB (fq 3) b_) (nA (fc fB (fq 4) b_))) (a_ (fE mD (fc fB (fq 3) b_) (fc fB (fq 4) b_)) (a_ (fE mD (fc fB (fq 3) b_) (fc fB (fq 4) b_)) d_)))))))),?_⟩
  walk_at "rs";obtain⟨dx,eb⟩:=hb.obj;have mm:(Tr.two tU l r).marks.length=l.marks.length+r.marks.length:=ao
  have dd:l.deep<=d/\r.deep<=d:=by
   simp only [Tr.deep] at hd;exact Qaa hd
  refine fk λ N hN=> ?_;walk_at "rd";refine⟨_,_,eb,rfl,b,al,f,ds,F,l,rfl,hb,hl,dd.1,QaF jr mm,λ p l1 l2 H1 Rj F1 hp EA BN b1 n1 V1 e1 f1 f2 s1=>hN _ _ ?_⟩;obtain⟨ő,OA⟩:=b1.obj;refine fk λ N hN=> ?_;walk_at "rd";refine⟨_,_,OA,rfl,b,ar,f,ds++Rj,F1,r,rfl,b1,Ul.step s1,dd.2,QaG n1 jr mm,λ p' Φ Υ H2 XY F2 hp' Xv Ux b2 n2 Gz e2 g1 g2 s2=>hN _ _ ?_⟩;walk_at "rd";have h1:=s2.off _ _ (b1.out f1 (fA hb.lst EA).symm) f1;have h2:=s2.off _ _ (b1.out f2 (fA hb.lst BN).symm) f2;have t1:=s2.tup _ _ e1;have A3:=s1.trans s2;rw [bt] at b2 A3;have fr:∀x,H2 x=none->H x=none:=λ x hx=>A3.free b2.Fz hx;have z1:=l.pI F.length;have z2:=l.pH F.length;have z3:=r.pI F1.length;have z4:=r.pH F1.length
  have ad:mW F F2 ((Tr.two tU l r).kE F.length):=(V1.trans Gz).iff λ a c=>by
   rw [n1];simp [Tr.kE]
  have nn:(Tr.two tU l r).nul=(l.nul||r.nul):=by simp [Tr.nul]
  have ff:(Tr.two tU l r).jq F.length=l.jq F.length++r.jq F1.length:=by
   rw [n1];simp [Tr.jq]
  have fl:(Tr.two tU l r).je F.length=l.je F.length++r.je F1.length:=by
   rw [n1];simp [Tr.je]
  have fin:∀x1 x2 x3,H2 x1=none->upd H2 x1 (.lst ((l.jq F.length).map V.int++(r.jq F1.length).map V.int)) x2=none->upd (upd H2 x1 (.lst ((l.jq F.length).map V.int++(r.jq F1.length).map V.int))) x2 (.lst ((l.je F.length).map V.int++(r.je F1.length).map V.int)) x3=none->
    Q (.ref x3) (upd (upd (upd H2 x1 (.lst ((l.jq F.length).map V.int++(r.jq F1.length).map V.int))) x2 (.lst ((l.je F.length).map V.int++(r.je F1.length).map V.int))) x3 (.tup [.bl (l.nul||r.nul),.ref x1,.ref x2])):=by
   intro x1 x2 x3 rZ sV DO;have m1:=fw.new (o:=.lst ((l.jq F.length).map V.int++(r.jq F1.length).map V.int)) rZ;have m2:=fw.new (o:=.lst ((l.je F.length).map V.int++(r.je F1.length).map V.int)) sV;rw [<-nn];exact k.fin b2 (by lia) ad A3 (m1.trans m2) (fr _ rZ) (fr _ (m1.free sV)) (by rw [ff,ax];exact m2 _ _ e_) (by rw [fl,ax];exact e_) DO
  refine fu t1 rfl ⟨_,rfl,?_⟩;have SK:((l.jq F.length).map V.int).length+((r.jq F1.length).map V.int).length<=dL:=f_ (by rw [ae,ae];exact Qad z1 z3 jr mm);have Y2:((l.je F.length).map V.int).length+((r.je F1.length).map V.int).length<=dL:=f_ (by rw [ae,ae];exact Qad z2 z4 jr mm)
  cases hn:l.nul with
  | true=>
   rw [hn] at fin;refine jf rfl (fu t1 rfl (fu e2 rfl ⟨_,rfl,_,rfl,_,h1,_,g1,SK,λ x1 rZ=> ?_⟩));have m1:=fw.new (o:=.lst ((l.jq F.length).map V.int++(r.jq F1.length).map V.int)) rZ;exact fu (m1 _ _ t1) rfl (fu (m1 _ _ e2) rfl ⟨_,rfl,_,rfl,_,m1 _ _ h2,_,m1 _ _ g2,Y2,λ x2 sV=>⟨by decide,λ x3 DO=>fin x1 x2 x3 rZ sV DO⟩⟩)
  | false=>
   rw [hn] at fin;refine gy aI (fu e2 rfl (fu t1 rfl (fu e2 rfl ⟨_,rfl,_,rfl,_,h1,_,g1,SK,λ x1 rZ=> ?_⟩)));have m1:=fw.new (o:=.lst ((l.jq F.length).map V.int++(r.jq F1.length).map V.int)) rZ;exact fu (m1 _ _ t1) rfl (fu (m1 _ _ e2) rfl ⟨_,rfl,_,rfl,_,m1 _ _ h2,_,m1 _ _ g2,Y2,λ x2 sV=>⟨by decide,λ x3 DO=>fin x1 x2 x3 rZ sV DO⟩⟩)
theorem iy:fI ["self","left_tree","right_tree","left","right","firsts","lasts"] ["self","left_tree","right_tree"] (fC j3):=by walk_at "sc"
theorem qP (T:Txt K mg t) (d:Nat) (ih:fX P w K mg base (ij P w) (2+2*d) t.iq t.ik ["self","tree"] (gR t d)):fX P w K mg base (ij P w) (2+2*d+1) t.mP t.mJ ["self","left_tree","right_tree"] (lY t j5 (d+1)):=by
 have g_:=ih;have jG:=(lJ (P:=P) (w:=w) (base:=base) T).mono (show 1<=2+2*d from Zc (Zd rfl) Zk);refine T.oS.fn.okN iy (len:=λ vs H Q E h=>by obtain⟨_,_,_,_,_,_,_,_,rfl,_⟩:=h;rfl) (λ iw A outer s H vs Q E hr h=> ?_)
 .obtain⟨b,al,ar,f,ds,F,l,r,rfl,hb,hl,Ul,hd,jr,k⟩:=h
  refine⟨_,Bx.un (c_ (fD 3 iy.nd (ip (fq 0) T.gO T.iX g_ hr fM (a_ (fq 1) d_)))
   (c_ (fD 4 iy.nd (ip (fq 0) T.gO T.iX g_ hr fM (a_ (fq 2) d_)))
   (c_ (fT (ip (fq 0) T.gO T.lU jG hr fM (a_ (fc fB (fq 3) b_) (a_ (fc fB (fq 4) b_) d_))))
   (c_ (fD 5 iy.nd (sv (iu (fc fB (fq 3) b_)) (fE mD (fc fB (fq 3) b_) (fc fB (fq 4) b_)) (fc fB (fq 3) b_)))
   (c_ (fD 6 iy.nd (sv (iu (fc fB (fq 4) b_)) (fE mD (fc fB (fq 3) b_) (fc fB (fq 4) b_)) (fc fB (fq 4) b_)))
   (fh (fF (gF (a_ (vd (fc fB (fq 3) b_) (nA (fc fB (fq 4) b_))) (a_ (fq 5) (a_ (fq 6) d_))))))))))),?_⟩
  walk_at "rs";obtain⟨dx,eb⟩:=hb.obj;have mm:(Tr.two j5 l r).marks.length=l.marks.length+r.marks.length:=ao
  have dd:l.deep<=d/\r.deep<=d:=by
   simp only [Tr.deep] at hd;exact Qaa hd
  refine fk λ N hN=> ?_;walk_at "rd";refine⟨_,_,eb,rfl,b,al,f,ds,F,l,rfl,hb,hl,dd.1,QaF jr mm,λ p l1 l2 H1 Rj F1 hp EA BN b1 n1 V1 e1 f1 f2 s1=>hN _ _ ?_⟩;obtain⟨ő,OA⟩:=b1.obj;refine fk λ N hN=> ?_;walk_at "rd";refine⟨_,_,OA,rfl,b,ar,f,ds++Rj,F1,r,rfl,b1,Ul.step s1,dd.2,QaG n1 jr mm,λ p' Φ Υ H2 XY F2 hp' Xv Ux b2 n2 Gz e2 g1 g2 s2=>hN _ _ ?_⟩;have h1:=s2.off _ _ (b1.out f1 (fA hb.lst EA).symm) f1;have h2:=s2.off _ _ (b1.out f2 (fA hb.lst BN).symm) f2;have t1:=s2.tup _ _ e1;have A3:=s1.trans s2;rw [bt] at b2 A3;have r1:=l.jX F.length;have r2:=r.jz F1.length;obtain⟨dx2,Sk⟩:=b2.obj;have VD:=(fA hb.lst BN).symm;have VE:=(fA hb.lst EA).symm;have ż:=(fA b1.lst Xv).symm;have nr2:=(fA b1.lst Ux).symm;refine fk λ N hN=> ?_;walk_at "rd";refine⟨_,_,Sk,rfl,fu t1 rfl (fu e2 rfl ⟨b,f,l2,Φ,ds++(Rj++XY),F2,_,_,rfl,b2,h2,g1,VD,ż,λ x hx=> ?_,λ x hx=> ?_,by lia,λ H3 F3 b3 n3 YE s3=>hN _ _ ?_⟩)⟩
  .have:=r1 x hx;lia
  .have:=r2 x hx;exact Qaj this n2
  have u1:=s3.off _ _ (b2.out h1 VE) h1;have u2:=s3.off _ _ (b2.out h2 VD) h2;have v1:=s3.off _ _ (b2.out g1 ż) g1;have v2:=s3.off _ _ (b2.out g2 nr2) g2;have t3:=s3.tup _ _ t1;have q3:=s3.tup _ _ e2;have L0:=A3.trans s3;have fr:∀x,H3 x=none->H x=none:=λ x hx=>L0.free b3.Fz hx;have fr2:∀x,H1 x=none->H x=none:=λ x hx=>s1.free b1.Fz hx;clear u2;have w2:=s3.off _ _ (b2.out h2 VD) h2;have z1:=l.pI F.length;have z2:=l.pH F.length;have z3:=r.pI F1.length;have z4:=r.pH F1.length;have o1:¬j5=tU:=by decide
  have ad:mW F F3 ((Tr.two j5 l r).kE F.length):=((V1.trans Gz).trans YE).iff λ a c=>by
   rw [n1];simp only [Tr.kE,ne_eq,o1,not_false_eq_true,true_and,or_assoc]
  have nn:(Tr.two j5 l r).nul=(l.nul&&r.nul):=by simp [Tr.nul,o1]
  have ff:(Tr.two j5 l r).jq F.length=if l.nul=true then l.jq F.length++r.jq F1.length else l.jq F.length:=by
   rw [n1];simp [Tr.jq,o1]
  have fl:(Tr.two j5 l r).je F.length=if r.nul=true then l.je F.length++r.je F1.length else r.je F1.length:=by
   rw [n1];simp [Tr.je,o1]
  have SK:((l.jq F.length).map V.int).length+((r.jq F1.length).map V.int).length<=dL:=f_ (by rw [ae,ae];exact Qad z1 z3 jr mm);have Y2:((l.je F.length).map V.int).length+((r.je F1.length).map V.int).length<=dL:=f_ (by rw [ae,ae];exact Qad z2 z4 jr mm);refine fk λ N hN=> ?_
  have hM:∀x1 H4,fw H3 H4->H x1=none->H4 x1=some (.lst (((Tr.two j5 l r).jq F.length).map V.int))->N [some (.ref b),some (.ref al),some (.ref ar),some (.ref p),some (.ref p'),some (.ref x1),none] H4:=by
   intro x1 H4 s4 rZ e4;refine hN _ _ ?_;refine fk λ N hN=> ?_
   have hM:∀x2 H5,fw H3 H5->H x2=none->H5 x1=some (.lst (((Tr.two j5 l r).jq F.length).map V.int))->H5 x2=some (.lst (((Tr.two j5 l r).je F.length).map V.int))->N [some (.ref b),some (.ref al),some (.ref ar),some (.ref p),some (.ref p'),some (.ref x1),some (.ref x2)] H5:=by
    intro x2 H5 s5 sV e5 e6;refine hN _ _ ?_;have fin:=λ x3 DO=>k.fin (x:=x3) b3 (by lia) ad L0 s5 rZ sV e5 e6 DO;rw [nn] at fin;walk_at "rd";refine fu (s5 _ _ t3) rfl ⟨_,rfl,?_⟩
    cases hn:l.nul with
    | true=>
     rw [hn] at fin;exact jf rfl (fu (s5 _ _ q3) rfl ⟨by decide,λ x3 DO=>fin x3 DO⟩)
    | false=>
     rw [hn] at fin;exact gy aI ⟨by decide,λ x3 DO=>fin x3 DO⟩
   walk_at "rd";refine fu (s4 _ _ q3) rfl ⟨_,rfl,fV (λ h=> ?_) λ h=> ?_⟩
   .refine fu (s4 _ _ t3) rfl (fu (s4 _ _ q3) rfl ⟨_,rfl,_,rfl,_,s4 _ _ w2,_,s4 _ _ v2,Y2,λ x2 sV=> ?_⟩);have m2:=fw.new (o:=.lst ((l.je F.length).map V.int++(r.je F1.length).map V.int)) sV;refine hM x2 _ (s4.trans m2) (fr _ (s4.free sV)) (m2 _ _ e4) ?_;rw [e_,fl,if_pos h,ax]
   .refine fu (s4 _ _ q3) rfl (hM Υ _ s4 (fr2 _ Ux) e4 ?_);rw [fl,if_neg h];exact s4 _ _ v2
  walk_at "rd";refine fu t3 rfl ⟨_,rfl,fV (λ h=> ?_) λ h=> ?_⟩
  .refine fu t3 rfl (fu q3 rfl ⟨_,rfl,_,rfl,_,u1,_,v1,SK,λ x1 rZ=> ?_⟩);refine hM x1 _ (fw.new rZ) (fr _ rZ) ?_;rw [e_,ff,if_pos h,ax]
  .refine fu t3 rfl (hM l1 _ (fw.refl _) EA ?_)
   rwa [ff,if_neg h]
theorem ki:fI ["self","kind","inner_tree","inner"] ["self","kind","inner_tree"] (fC jx):=by walk_at "sc"
theorem oz (T:Txt K mg t) (d:Nat) (ih:fX P w K mg base (ij P w) (2+2*d) t.iq t.ik ["self","tree"] (gR t d)):fX P w K mg base (ij P w) (2+2*d+1) t.kK t.kJ ["self","kind","inner_tree"] (qD t (d+1)):=by
 have g_:=ih;have jG:=(lJ (P:=P) (w:=w) (base:=base) T).mono (show 1<=2+2*d from Zc (Zd rfl) Zk);refine T.lQ.fn.okN ki (len:=λ vs H Q E h=>by obtain⟨_,_,_,_,_,_,_,rfl,_⟩:=h;rfl) (λ iw A outer s H vs Q E hr h=> ?_)
 .obtain⟨b,a,f,kd,ds,F,x,rfl,R0,hb,hx,hd,jr,k⟩:=h
  refine⟨_,Bx.un (c_ (fD 3 ki.nd (ip (fq 0) T.gO T.iX g_ hr fM (a_ (fq 2) d_)))
   (c_ (fS (fG mC (fq 1) fW (fO _))
   (fh (fT (ip (fq 0) T.gO T.lU jG hr fM (a_ (fc fB (fq 3) b_) (a_ (fc fB (fq 3) b_) d_)))))
   fH)
   (fh (fF (gF (a_ (Ip (fc fB (fq 3) b_) (nA (iW mC (fq 1) fW (fO _)))) (a_ (fc fB (fq 3) b_) (a_ (fc fB (fq 3) b_) d_)))))))),?_⟩
  walk_at "rs";obtain⟨dx,eb⟩:=hb.obj;refine fk λ N hN=> ?_;walk_at "rd";refine⟨_,_,eb,rfl,b,a,f,ds,F,x,rfl,hb,hx,cO hd,jr,λ p l1 l2 H1 Rj F1 hp EA BN b1 n1 V1 e1 f1 f2 s1=>hN _ _ ?_⟩;obtain⟨ő,OA⟩:=b1.obj;have VE:=(fA hb.lst EA).symm;have VD:=(fA hb.lst BN).symm;have r1:=x.jX F.length;have r2:=x.jz F.length;have nn:(Tr.one kd x).nul=(x.nul || !decide (kd=lZ)):=rfl;refine fk λ N hN=> ?_
  have hM:∀H2 F2,rK t.gb H2 b f (ds++Rj) F2->F2.length=F.length+x.marks.length->mW F F2 ((Tr.one kd x).kE F.length)->L2.Step H1 (f::(ds++Rj)) H2 (f::(ds++Rj))->N [some (.ref b),some (.str (tx kd)),some (.ref a),some (.ref p)] H2:=by
   intro H2 F2 b2 n2 Gz s2;refine hN _ _ ?_;have t1:=s2.tup _ _ e1;have h1:=s2.off _ _ (b1.out f1 VE) f1;have h2:=s2.off _ _ (b1.out f2 VD) f2;have fin:=λ x3 DO=>k.fin (x:=x3) b2 n2 Gz (s1.trans s2) (fw.refl _) EA BN h1 h2 DO;rw [nn] at fin;walk_at "rd";refine fu t1 rfl ⟨_,rfl,?_⟩
   cases hn:x.nul with
   | true=>
    rw [hn] at fin;exact jf rfl (fu t1 rfl (fu t1 rfl ⟨by decide,λ x3 DO=>fin x3 DO⟩))
   | false=>
    rw [hn] at fin;exact gy aI (fu t1 rfl (fu t1 rfl ⟨by decide,λ x3 DO=>fin x3 DO⟩))
  walk_at "rd";refine fV (λ h=> ?_) λ h=> ?_
  .refine⟨_,_,OA,rfl,fu e1 rfl (fu e1 rfl ⟨b,f,l2,l1,ds++Rj,F1,_,_,rfl,b1,f2,f1,VD,VE,λ y hy=> ?_,λ y hy=> ?_,Zc (Ze n1) jr,λ H2 F2 b2 n2 Gz s2=>hM H2 F2 b2 (n2.trans n1) ((V1.trans Gz).iff λ a c=> ?_) s2⟩)⟩
   .have:=r1 y hy;exact Qaj this n1
   .have:=r2 y hy;exact Qaj this n1
   .exact⟨λ z=>z.elim .inl λ z=>.inr ⟨h,z⟩,λ z=>z.elim .inl λ z=>.inr z.2⟩
  .refine hM H1 F1 b1 n1 (V1.iff λ a c=> ?_) (L2.Step.refl _ _);exact⟨.inl,λ z=>z.elim id λ z=>absurd z.1 h⟩
theorem pX:fI ["self","tree"] ["self","tree"] (fC mn):=by walk_at "sc"
theorem vY (T:Txt K mg t) (d:Nat) (ih:fX P w K mg base (ij P w) (2+2*d) t.iq t.ik ["self","tree"] (gR t d)):fX P w K mg base (ij P w) (2+2*d+2) t.iq t.ik ["self","tree"] (gR t (d+1)):=by
 have qu:=oz T d ih;have sG:=(qQ (P:=P) (w:=w) (base:=base) T).mono (show 1<=2+2*d+1 from Zo);have vm:=sC T d ih;have ur:=qP T d ih;refine T.iX.fn.okN pX (λ iw A outer s H vs Q E hr h=> ?_)
 .obtain⟨b,a,f,ds,F,tr,rfl,hb,ha,hd,jr,k⟩:=h
  refine⟨_,Bx.un (c_ (fS (fG iE (fc fB (fq 1) b_) fW (fO _))
   (fh (fF (Ed (fq 0) T.gO T.nF sG hr fM)))
   fH)
   (c_ (fS (fG iE (fc fB (fq 1) b_) fW (fO _))
   (fh (fF (ip (fq 0) T.gO T.qq vm hr fM (a_ (fc fB (fq 1) b_) (a_ (fc fB (fq 1) b_) d_)))))
   fH)
   (c_ (fS (fG iE (fc fB (fq 1) b_) fW (fO _))
   (fh (fF (ip (fq 0) T.gO T.oS ur hr fM (a_ (fc fB (fq 1) b_) (a_ (fc fB (fq 1) b_) d_)))))
   fH)
   (fh (fF (ip (fq 0) T.gO T.lQ qu hr fM (a_ (fc fB (fq 1) b_) (a_ (fc fB (fq 1) b_) d_)))))))),?_⟩
  walk_at "rs";obtain⟨dx,eb⟩:=hb.obj;walk_at "rd"
  cases ha with
  | mark e o=>exact fu e rfl ⟨rfl,jf rfl ⟨_,_,eb,rfl,b,f,ds,F,_,rfl,hb,Zc Zk jr,k⟩⟩
  | @two _ al ar kd l r e hk hl t9=>
   simp only [vx,av,bb,or_false] at hk;rcases hk with rfl|rfl
   .refine fu e rfl ⟨rfl,gy (by decide) (fu e rfl ⟨rfl,gy (by decide) (fu e rfl ⟨rfl,jf rfl ⟨_,_,eb,rfl,fu e rfl (fu e rfl ⟨b,al,ar,f,ds,F,l,r,rfl,hb,hl,t9,hd,jr,k⟩)⟩⟩)⟩)⟩
   .refine fu e rfl ⟨rfl,gy (by decide) (fu e rfl ⟨rfl,jf rfl ⟨_,_,eb,rfl,fu e rfl (fu e rfl ⟨b,al,ar,f,ds,F,l,r,rfl,hb,hl,t9,hd,jr,k⟩)⟩⟩)⟩
  | @one _ i kd x e hk hi=>
   have n1:∀z∈[qR,tU,j5],¬V.str (tx kd)=V.str (tx z):=by
    intro z hz q;have q:kd=z:=iA.mp (by injection q);subst q;revert hk hz;simp only [ones,av,bb,or_false];rintro(rfl|rfl|rfl)<;>decide
   exact fu e gW ⟨rfl,gy (n1 _ (by simp [qR])) (fu e gW ⟨rfl,gy (n1 _ (by simp [tU])) (fu e gW ⟨rfl,gy (n1 _ (by simp [j5])) ⟨_,_,eb,rfl,fu e gW (fu e rfl ⟨b,i,f,kd,ds,F,x,rfl,hk,hb,hi,hd,jr,k⟩)⟩⟩)⟩)⟩
theorem vX (T:Txt K mg t) (d:Nat):fX P w K mg base (ij P w) (2+2*d) t.iq t.ik ["self","tree"] (gR t d):=by
 induction d with
 | zero=>exact T.iX.fn.okN pX (len:=λ vs H Q E h=>(kY h).elim) (λ iw A outer s H vs Q E hr h=>(kY h).elim)
 | succ d ih=>exact(show 2+2*d+2=2+2*(d+1) from rfl)▸vY T d ih
theorem xX (T:Txt K mg t):fX P w K mg base (ij P w) (82) t.iq t.ik ["self","tree"] (gR t 40):=vX T 40
theorem ma:fI ["tree","builder","whole","follows","ends"] ["tree"] (fC vH):=by walk_at "sc"
theorem G9 (T:Txt K mg t):fX P w K mg base (ij P w) 84 t.CA t.B0 ["tree"] (yI):=by
 have AO:=(xY (P:=P) (w:=w) (base:=base) T).mono (show 1<=82 by decide);have g_:=(xX (P:=P) (w:=w) (base:=base) T).mono (show 82<=83 by decide);have jG:=(lJ (P:=P) (w:=w) (base:=base) T).mono (show 1<=83 by decide);have uo:=(Fe (P:=P) (w:=w) (base:=base) T).mono (show 41<=83 by decide);refine T.machine.fn.okN ma (λ iw A outer s H vs Q E hr h=> ?_)
 .obtain⟨a,tr,rfl,ha,hd,jr,okm,k⟩:=h
  refine⟨_,Bx.un (c_ (fD 1 ma.nd (Cp T.Hw AO hr (by rfl) T.Lo T.vo.b .nil fM))
   (c_ (fD 2 ma.nd (ip (fq 1) T.gO T.iX g_ hr fM (a_ (fq 0) d_)))
   (c_ (fT (ip (fq 1) T.gO T.lU jG hr fM (a_ (gi (a_ b_ d_)) (a_ (fc fB (fq 2) b_) d_))))
   (c_ (kz (i:=3) ma.nd rfl (by walk_at "o") rfl (N:= ["rooms"]) (fr:= []) (qp.of (by kernel_rfl)) (gq (gU (fq 1))) (λ _ _ _ _ _=>gB)
    (λ _ _ _ _ _=>(fJ (x6 rfl) (by rfl) T.rh PyProof.Rows.boot_sorted (a_ (fq 0) d_))))
   (c_ (fD 4 ma.nd (fE mD (gi (a_ (fc fB (fq 2) b_) d_)) (iV rfl (N:= ["room","whole"]) (fr:= [2]) (qp.of (by kernel_rfl)) (Io rfl T.iB (a_ b_ (a_ (fJ fQ (by rfl) T.iG PySem.boot_len (a_ (fq 3) d_)) d_))) (λ _ _ _ _ _=>gB)
    (λ _ _ _ _ _=>(iW (zm K) (fq 0) (fc (ni K) (fq 1) b_) (by with_unfolding_all rfl))))))
   (fh (fF (gF (a_ (fK T.uO uo hr fM (a_ (fq 0) d_)) (a_ (fq 3) (a_ (fq 4) d_))))))))))),?_⟩
  walk_at "rs";refine fk λ N hN=> ?_;walk_at "rd";intro b dx VU Ĭ ne0;have sB:fw H (upd (upd H dx (.own b)) b (.ins t.gb dx [])):=(fw.new Ĭ).gh VU;refine⟨b,dx,rfl,e_,λ H1 f d b1 Pt QU k1=>⟨rfl,hN _ _ ?_⟩⟩;have s1:fw H H1:=λ c o e=>k1 c o (fA e VU) (sB _ _ e);have hf:H f=none:=sB.free Pt;have ĭ:H d=none:=sB.free QU;clear k1;obtain⟨ő,OA⟩:=b1.obj;refine fk λ N hN=> ?_;walk_at "rd";refine⟨_,_,OA,rfl,b,a,f,[d],[[]],tr,rfl,b1,ha.same s1,hd,by simp only [aG,aW];lia,λ p l1 l2 H2 XY F2 hp EA BN b2 n2 Gz e2 f1 f2 s2=>hN _ _ ?_⟩;obtain⟨dx2,Sk⟩:=b2.obj;have F1:([[]]:List (List Int)).length=1:=rfl;rw [F1] at n2 Gz f1 f2;have VE:l1≠f:=(fA b1.lst EA).symm;refine fk λ N hN=> ?_;walk_at "rd";refine⟨_,_,Sk,rfl,by decide,λ z hz=> ?_⟩;have m3:=fw.new (o:=.lst [V.int 0]) hz;have z3:upd H2 z (.lst [V.int 0]) z=some (.lst ([(0:Int)].map V.int)):=e_;have nz:z≠f:=(fA b2.lst hz).symm;generalize upd H2 z (.lst [V.int 0])=H3 at m3 z3;have b3:=b2.same m3;refine fu (m3 _ _ e2) rfl ⟨b,f,z,l1,[d]++XY,F2,[0],tr.jq 1,rfl,b3,z3,m3 _ _ f1,nz,VE,λ x hx=> ?_,λ x hx=> ?_,by lia,λ H4 F4 b4 n4 ad4 s4=>hN _ _ ?_⟩
  .rw [aj.mp hx];lia
  .have:=tr.jz 1 x hx;lia
  have ad:mW [[]] F4 λ a c=>tr.kE 1 a c\/(a∈[(0:Int)]/\c∈tr.jq 1):=Gz.trans ad4;have LZ:=(s2.trans (L2.Step.same m3)).trans s4
  have ML:fw H H4:=λ c o e=>LZ.off c o (λ q=>by
   rcases av.mp q with rfl|q
   .rw [hf] at e
    cases e
   .rw [aj.mp q,ĭ] at e
    cases e) (s1 _ _ e)
  have e4:=s4.tup _ _ (m3 _ _ e2);have f4:=s4.off _ _ (b3.out (m3 _ _ f2) (fA b1.lst BN).symm) (m3 _ _ f2);have ha4:=ha.same ML;obtain⟨dx4,eb4⟩:=b4.obj;have HH:F4.length=1+tr.marks.length:=by exact n4.trans n2
  have RY:=b4.len;clear LZ s4 ad4 Gz b3 f1 f2 e2 b2 m3 z3 hz nz s2 Sk dx2;refine fk λ N hN=> ?_;refine⟨_,rfl,b,_,_,_,_,rfl,eb4,T.gO,T.ji,rfl,f,rfl,⟨_,gg.of b4.lst⟩,jE (cs:=([d]++XY).zip F4) (g:=λ c=>V.ref c.1) (gT (by rw [rL RY];exact gg.of b4.lst)) (λ H5 c p=>∃out:List Int,H5 p=some (.lst (out.map V.int))/\out.Perm c.2/\out.Pairwise (·<=·)) (λ H5 c p ⟨out,e,_⟩ z=>by rw [e] at z;cases z) (λ c p H5 H6 s ⟨out,e,r⟩=>⟨out,s _ _ e,r⟩) (f_ (by rw [b9];lia)) (λ c H5 Q2 hc s5 h=> ?_) (λ H5 c p D o n ⟨out,e,r⟩=>⟨out,(fo n).trans e,r⟩) λ lf H5 af hlf s5 d5 Bd nd5 ê=>hN _ _ ?_⟩
  .have ec:=b4.al.zip c hc;have nc:=b4.ok.len c.2 (dP hc).2;walk_at "rd";exact⟨_,.inl (s5 _ _ ec),c.2,by unfold NX;rw [aR];rfl,by lia,λ l out hl pm up=>h l _ hl (fw.new hl) ⟨out,e_,pm,up⟩⟩
  have P9:=ML.trans s5;walk_at "rg";have e5:=s5 _ _ e4;refine fk λ N hN=> ?_;refine⟨_,rfl,_,_,_,_,rfl,rfl,oV.of e5,rfl,(by show 1<=dL;decide),λ q0 π=> ?_⟩;have m6:=fw.new (o:=.lst [V.bl tr.nul]) π;have q6:upd H5 q0 (.lst [V.bl tr.nul]) q0=some (.lst [V.bl tr.nul]):=e_;have nq:q0≠lf:=(fA d5 π).symm;generalize upd H5 q0 (.lst [V.bl tr.nul])=H6 at m6 q6;have SS:=P9.trans m6
  have laf:af.length=1+tr.marks.length:=by
   have:=Bd.len;rw [b9,RY,Nat.min_self] at this;exact this.symm.trans HH
  have cnt:((((af.map V.ref).length:Nat):Int)-1).toNat=tr.marks.length:=by
   rw [ae];lia
  refine⟨_,rfl,lf,_,rfl,.inl (gg.of (m6 _ _ d5)),_,_,rfl,⟨by decide,by decide,by rw [ae];lia,by rw [ae];lia⟩,comp_map (iQ (n:=((((af.map V.ref).length:Nat):Int)-1).toNat)) (λ (j:Nat)=>.bl (decide (1+(j:Int)∈tr.je 1))) (f_ (by rw [aJ];exact Zc (Ze cnt) (Zc jr (Zd rfl)))) (λ j H7 Q2 _ s7 h=> ?_) λ D H7 hD s7 d7=> ?_⟩
  .walk_at "rd";exact fu (s7 _ _ (m6 _ _ e5)) rfl (MV (gg.of (s7 _ _ (m6 _ _ (s5 _ _ f4)))) (h _ (fw.refl _)))
  rw [cnt] at d7;refine⟨q0,D,_,_,rfl,rfl,s7 _ _ q6,d7,f_ (by simp only [aG,aW,ae,aJ];lia),λ le hle=>hN _ _ ?_⟩;have m8:=fw.new (o:=.lst ([V.bl tr.nul]++(List.range tr.marks.length).map λ (j:Nat)=>.bl (decide (1+(j:Int)∈tr.je 1)))) hle
  have e8:upd H7 le (.lst ([V.bl tr.nul]++(List.range tr.marks.length).map λ (j:Nat)=>.bl (decide (1+(j:Int)∈tr.je 1)))) le=some (.lst ((tr.nul::(List.range tr.marks.length).map λ (j:Nat)=>decide (1+(j:Int)∈tr.je 1)).map V.bl)):=by
   rw [e_,aB,aR];rfl
  generalize upd H7 le (.lst ([V.bl tr.nul]++(List.range tr.marks.length).map λ (j:Nat)=>.bl (decide (1+(j:Int)∈tr.je 1))))=H8 at m8 e8;have Y6:=(m6.trans s7).trans m8;have Y9:=P9.trans Y6;walk_at "rg";walk_at "rd";refine⟨a,tr,rfl,ha.same Y9,hd,Zc jr (Zd rfl),λ lm H9 am QR s9 e9 al9=>⟨by decide,λ pp ρ=> ?_⟩⟩;obtain⟨outs,p1,p2⟩:=Jq RY Bd;obtain⟨Pj,mdM⟩:=QI b4.ok HH jr ad p1;have AR:=fw.new (o:=.tup [.ref lm,.ref lf,.ref le]) ρ;have Wi:=(Y6.trans s9).trans AR;have lf8:=Y6 _ _ d5;have le7:H7 lf≠none:=by rw [s7 _ _ (m6 _ _ d5)];exact λ q=>nomatch q
  refine k pp _ _ ((Y9.trans s9).free ρ) ((Y9.trans s9).trans AR) ⟨lm,lf,le,am,af,e_,AR _ _ e9,?_,Wi _ _ d5,p2.imp λ x l e=>Wi _ _ e,AR _ _ (s9 _ _ e8),nd5,λ x hx=> ?_,Y9.free QR,ML.free hlf,?_,?_,?_,?_⟩ Pj mdM
  .exact fR.QL (λ x m hm r=>⟨AR _ _ r.1,okm m hm⟩) al9
  .obtain⟨o1,o2⟩:=ê x hx;obtain⟨l,_,ex⟩:=p2.ù hx;have x8:=Y6 _ _ ex;have x7:=s7 _ _ (m6 _ _ ex);exact⟨ML.free o2,fA x8 QR,o1,fA x7 hle⟩
  .exact(P9.trans (m6.trans s7)).free hle
  .exact(fA lf8 QR).symm
  .exact(fA e8 QR).symm
  .exact fA (s7 _ _ (m6 _ _ d5)) hle
theorem ie:fI ["cells","names","base","most","stack","marks","single","cell","turn","right","left","inner","shape","part"] ["cells","names","base","most"] (fC vO):=by walk_at "sc"
theorem He (T:Txt K mg t):fX P w K mg base (ij P w) 4 t.CH t.Ca ["cells","names","base","most"] (yO):=by
 have oR:=(tW (P:=P) (w:=w) (base:=base) T).mono (show 1<=3 by decide);have Gm:=Du (P:=P) (w:=w) (base:=base) T;refine T.JB.fn.okN ie (λ iw A outer s H vs Q E hr h=> ?_)
 .obtain⟨lc,nm,b,mo,cs,ns,rfl,hc,c63,hn,hb,mo1,aae,k⟩:=h
  refine⟨_,Bx.un (c_ (fD 4 ie.nd (gi d_))
   (c_ (fD 5 ie.nd (gi d_))
   (c_ (fD 6 ie.nd b_)
   (c_ (gX PassesOwn.never rfl (gq (fE mD (fq 0) (jL m_ (gi (a_ b_ d_)) lC (jU (fE pq b_ (fJ (wC rfl) (by rfl) T.J5 cR (a_ b_ (a_ (fJ fQ (by rfl) T.iG PySem.boot_len (a_ (fq 0) d_)) d_)))))))) (gn 7 ie.nd)
   (c_ (fD 8 ie.nd (fE gz (fK T.ym oR hr fM (a_ (fq 7) d_)) b_))
   (fh (fS (mM (fG oy (fq 8) b_ (fO _)) (mM (jJ (wF (fq 4))) (pL (u_ (fG oy (fq 8) b_ (fO _)) (qZ (fG oy (fJ fQ (by rfl) T.iG PySem.boot_len (a_ (fq 4) d_)) b_ (fO _)))).L7))).L7
   (fh (fS (fG oy (fJ fQ (by rfl) T.iG PySem.boot_len (a_ (fq 5) d_)) (fq 3) (fO _))
   (c_ (fT (ig aE aT aS gE (fq 4) (a_ (gF (a_ fW (a_ (fJ fQ (by rfl) T.iG PySem.boot_len (a_ (fq 5) d_)) d_))) d_)))
   (fh (fT (ig aE aT aS gE (fq 5) (a_ (fK T.BI Gm hr fM (a_ (fq 7) (a_ (fq 1) (a_ (fq 2) d_)))) d_)))))
   fH))
   (fh (fS (fG oy (fq 8) b_ (fO _))
   (c_ (fD 9 ie.nd (yw aE dU dS Hv (fq 4)))
   (c_ (fD 10 ie.nd (yw aE dU dS Hv (fq 4)))
   (fh (fT (ig aE aT aS gE (fq 4) (a_ (gF (a_ (fc fP (gi (a_ fW (a_ fW d_))) (fE pq (fq 8) b_)) (a_ (fq 10) (a_ (fq 9) d_)))) d_))))))
   (fh (fS (fG oy (fq 6) (fq 3) (fO _))
   (c_ (fD 6 ie.nd (fE iN (fq 6) b_))
   (c_ (fD 11 ie.nd (yw aE dU dS Hv (fq 4)))
   (fh (fT (ig aE aT aS gE (fq 4) (a_ (gF (a_ (fc fP Ap (fE pq (fq 8) b_)) (a_ (fq 11) d_))) d_))))))
   fH))))))))
   (c_ (fD 12 ie.nd (fc fP (fq 4) b_))
   (c_ (gX PassesOwn.never rfl (gq (jL m_ (fq 4) (jU b_) lC)) (gn 13 ie.nd)
   (fh (fD 12 ie.nd (gF (a_ fW (a_ (fq 12) (a_ (fq 13) d_)))))))
   (fh (fF (gF (a_ (fq 12) (a_ (fq 5) d_))))))))))),?_⟩
  walk_at "rs";refine fk λ N hN=> ?_;walk_at "rd";refine⟨aQ _,λ st nQ=>hN _ _ ?_⟩;have s1:=fw.new (o:=.lst []) nQ;have t1:upd H st (.lst []) st=some (.lst []):=e_;generalize upd H st (.lst [])=H1 at s1 t1;refine fk λ N hN=> ?_;walk_at "rd";refine⟨aQ _,λ ml QQ=>hN _ _ ?_⟩;have n2:=fw.new (o:=.lst []) QQ;have ğ:=s1.free QQ;have s2:=s1.trans n2;have t2:=n2 _ _ t1;have m2:upd H1 ml (.lst []) ml=some (.lst []):=e_;have Vx:st≠ml:=fA t1 QQ;generalize upd H1 ml (.lst [])=H2 at s2 t2 m2;clear n2 t1 s1 QQ;refine fk λ N hN=> ?_;walk_at "rd";refine hN _ _ ?_;refine fk λ N hN=> ?_;refine⟨_,rfl,by decide,λ z hz=> ?_⟩;have n3:=fw.new (o:=.lst [V.int 0]) hz;have z3:upd H2 z (.lst [V.int 0]) z=some (.lst ([(0:Int)].map V.int)):=e_;generalize upd H2 z (.lst [V.int 0])=H3 at n3 z3;have s3:=s2.trans n3;refine⟨_,rfl,lc,_,rfl,.inl (gg.of (s3 _ _ hc)),_,_,rfl,_,_,rfl,rfl,_,rfl,z,_,rfl,gg.of z3,λ z4 ζ=> ?_⟩;generalize Ħ:(1:Int)-(if (((cs.map V.int).length:Nat):Int)<1 then (((cs.map V.int).length:Nat):Int) else 1)=hi
  have hi0:0<=hi/\hi<=1/\(hi=0->1<=cs.length)/\(hi=1->cs.length=0):=by
   rw [ae] at Ħ
   split at Ħ<;>lia
  obtain⟨es,ees,eel⟩:∃es:List Int,sE ([(0:Int)].map V.int) none (some hi)=es.map V.int/\es.length=hi.toNat:=by
   refine⟨[(0:Int)].take hi.toNat,D_ _ _ hi0.1,?_⟩;rw [aX];simp only [aG,aW];lia
  rw [ees];have n4:=fw.new (o:=.lst (es.map V.int)) ζ;have Ó:upd H3 z4 (.lst (es.map V.int)) z4=some (.lst (es.map V.int)):=e_;generalize upd H3 z4 (.lst (es.map V.int))=H4 at n4 Ó;have s4:=s3.trans n4;refine⟨lc,z4,_,_,rfl,rfl,s4 _ _ hc,Ó,f_ (by rw [ae,ae];lia),λ cl Pw=> ?_⟩;rw [<-ax];have n5:=fw.new (o:=.lst ((cs++es).map V.int)) Pw;have c5:upd H4 cl (.lst ((cs++es).map V.int)) cl=some (.lst ((cs++es).map V.int)):=e_;have s5:=s4.trans n5;have t5:=n5 _ _ (n4 _ _ (n3 _ _ t2));have m5:=n5 _ _ (n4 _ _ (n3 _ _ m2));generalize upd H4 cl (.lst ((cs++es).map V.int))=H5 at n5 c5 s5 t5 m5
  have ă:1<=(cs++es).length/\(cs++es).length=max 1 cs.length:=by
   rw [ao];lia
  generalize cs++es=ds at c5 ă
  have cst:cl≠st:=λ q=>by
   rw [q,t5] at c5;have:([]:List V)=ds.map V.int:=by injection c5 with q1;injection q1
   have:=congrArg List.length this;rw [ae] at this;simp at this;exact Zf (Za (Zd rfl) ă.1) (Zg this)
  have cml:cl≠ml:=λ q=>by
   rw [q,m5] at c5;have:([]:List V)=ds.map V.int:=by injection c5 with q1;injection q1
   have:=congrArg List.length this;rw [ae] at this;simp at this;exact Zf (Za (Zd rfl) ă.1) (Zg this)
  clear n5 n4 n3 Ó z3 hz ζ Pw s4 s3 s2 t2 m2 ees eel hi0 Ħ
  refine⟨cl,rfl,⟨_,gg.of c5⟩,jb (K:=K) (a:=cl) (xs:=ds.map V.int) (λ i σ H6=>∃(v6 v7 v8 v9 v10 v11:Option V) (sg:Nat) (as:List ac) (sl:List Sh) (am:List ac) (ms:List j_),σ = [some (.ref lc),some (.ref nm),some (.int b),some (.int (mo:Int)),some (.ref st),some (.ref ml),some (.int (sg:Int)),v6,v7,v9,v10,v11,none,none]/\fw H H6/\H6 cl=some (.lst (ds.map V.int))/\H6 st=some (.lst (as.map V.ref))/\fR (jC H6) as sl/\H6 ml=some (.lst (am.map V.ref))/\fR (λ x k=>H6 x=some (.tup (Hy k))/\uk k/\tX k.num) am ms/\AS sl=List.range ms.length/\Ez sl<=sg/\sg<=mo/\ms.length<=mo/\ms.length<=i/\(0<i->1<=sl.length))
   ⟨none,none,none,none,none,none,0,[],[],[],[],rfl,s5,c5,t5,.nil,m5,.nil,rfl,az _,aQ _,aQ _,az _,λ z=>absurd z (by decide)⟩ (λ i σ H6 _ hz=>by obtain⟨_,_,_,_,_,_,_,_,_,_,_,_,_,z,_⟩:=hz;exact gg.of z) ?_ ?_⟩
  .rintro i y σ H6 hi ⟨v6,v7,v8,v9,v10,v11,sg,as,sl,am,ms,rfl,s6,c6,t6,al,m6,Ar,lv,on,ME,VG,mi,ne⟩;obtain⟨c,hc2,rfl⟩:=iR hi;have la:=al.len;have lm:=Ar.len;have ll:=Jw sl;rw [lv,aJ] at ll;clear hN;walk_at "rg";refine fk λ N2 hN=> ?_;walk_at "rd";refine⟨_,rfl,λ tu tu0 tu1=>⟨_,rfl,hN _ _ ?_⟩⟩;have w0:0<=tu%8/\tu%8<8:=by lia
   generalize tu%8=tm at w0;refine DB λ N2 hN=> ?_;have hM:∀(v8 v9 v10 v11:Option V) (sg:Nat) (as:List ac) (sl:List Sh) (am:List ac) (ms:List j_) (H7:Hp),fw H H7->H7 cl=some (.lst (ds.map V.int))->H7 st=some (.lst (as.map V.ref))->fR (jC H7) as sl->H7 ml=some (.lst (am.map V.ref))->fR (λ x k=>H7 x=some (.tup (Hy k))/\uk k/\tX k.num) am ms->AS sl=List.range ms.length->Ez sl<=sg->sg<=mo->ms.length<=mo->ms.length<=i+1->1<=sl.length->N2 [some (.ref lc),some (.ref nm),some (.int b),some (.int (mo:Int)),some (.ref st),some (.ref ml),some (.int (sg:Int)),some (.int c),some (.int tm),v9,v10,v11,none,none] H7:=λ v8 v9 v10 v11 sg as sl am ms H7 a1 a2 a3 a4 a5 a6 a7 a8 a9 a10 a11 a12=>hN _ _ ⟨_,_,v8,v9,v10,v11,sg,as,sl,am,ms,rfl,a1,a2,a3,a4,a5,a6,a7,a8,a9,a10,a11,λ _=>a12⟩;clear hN;have kt:∀(c:ac) (ys:List V) (o:HO),H6 c=some (.lst ys)->∀b xs,H6 b=some (.tup xs)->upd H6 c o b=some (.tup xs):=λ c ys o hc b xs e=>(fo λ z=>by rw [z,hc] at e;cases e).trans e;refine jY λ A B hA hB=> ?_;walk_at "rd";refine(λ XD=>fV (λ _=>XD) λ h1=>⟨_,.inl ⟨_,gg.of t6,rfl⟩,fV (λ _=>XD) λ h2=> ?_⟩) (hA _ _ ?_)
   .clear hA hB A B;walk_at "rd";refine⟨_,.inl (gg.of m6),fV (λ Ĺ=> ?_) λ Ĺ=> ?_⟩
    .rw [ae,lm] at Ĺ;refine⟨gu (gg.of t6),_,.inl (gg.of m6),by decide,λ p hp=> ?_⟩;rw [ae,lm];have n7:=fw.new (o:=.tup [V.str (tx [109,97,114,107]),V.int (ms.length:Int)]) hp;have p7:upd H6 p (.tup [V.str (tx [109,97,114,107]),V.int (ms.length:Int)]) p=some (.tup [V.str (tx [109,97,114,107]),V.int (ms.length:Int)]):=e_;generalize upd H6 p (.tup [V.str (tx [109,97,114,107]),V.int (ms.length:Int)])=H7 at n7 p7;have t7:=n7 _ _ t6;refine⟨_,t7,?_,?_⟩
     .rw [ae,la];exact aF (show _<3000 from Zb ll (Za (Yv Ĺ) (Zc aae (Zd rfl)))) (f_ (by decide))
     have k8:∀b xs,H7 b=some (.tup xs)->upd H7 st (.lst (as.map V.ref ++ [.ref p])) b=some (.tup xs):=λ b xs e=>(fo λ z=>by rw [z,t7] at e;cases e).trans e;have s8:fw H (upd H7 st (.lst (as.map V.ref ++ [.ref p]))):=(s6.trans n7).gh nQ
     have t8:upd H7 st (.lst (as.map V.ref ++ [.ref p])) st=some (.lst ((as ++ [p]).map V.ref)):=by
      rw [e_,ax];rfl
     have m8:upd H7 st (.lst (as.map V.ref ++ [.ref p])) ml=some (.lst (am.map V.ref)):=(fo Vx.symm).trans (n7 _ _ m6);have c8:upd H7 st (.lst (as.map V.ref ++ [.ref p])) cl=some (.lst (ds.map V.int)):=(fo cst).trans (n7 _ _ c6);have al8:=fR.snoc (jC.mark (k8 _ _ p7)) (al.imp λ a b r=>jC.keep (λ b xs e=>k8 b xs (n7 _ _ e)) r);have X_:=Ar.imp λ a b (r:H6 a=some (.tup (Hy b))/\uk b/\tX b.num)=>And.intro (k8 _ _ (n7 _ _ r.1)) r.2;generalize upd H7 st (.lst (as.map V.ref ++ [.ref p]))=H8 at s8 t8 m8 c8 al8 X_;refine⟨gu (gg.of m8),c,nm,ns,b,rfl,⟨s8 _ _ hn.1,hn.2⟩,hb,λ m pm H9 wm nb ς s9 e9=>⟨_,s9 _ _ m8,?_,?_⟩⟩
     .rw [ae,lm];exact aF (show _<3000 from Zb VG (Zb aae (Zd rfl))) (f_ (by decide))
     have m9:=s9 _ _ m8;have Č:∀o b xs,H9 b=some (.tup xs)->upd H9 ml o b=some (.tup xs):=λ o b xs e=>(fo λ z=>by rw [z,m9] at e;cases e).trans e
     have fin:∀(v:Option V) (y:ac) (my:j_) (Gj:Hp),H9 y=some (.tup (Hy my))->uk my/\tX my.num->Gj=upd H9 ml (.lst (am.map V.ref ++ [.ref y]))->N2 [some (.ref lc),some (.ref nm),some (.int b),some (.int (mo:Int)),some (.ref st),some (.ref ml),some (.int (sg:Int)),some (.int c),some (.int tm),v9,v10,v11,none,none] Gj:=by
      rintro v y my _ ey wy rfl;refine hM v v9 v10 v11 sg (as ++ [p]) (sl ++ [.mark ms.length]) (am ++ [y]) (ms ++ [my]) _ ((s8.trans s9).gh ğ) ((fo cml).trans (s9 _ _ c8)) ((fo Vx).trans (s9 _ _ t8)) (al8.imp λ a b r=>jC.keep (Č _) (r.same s9)) ?_ (fR.snoc ⟨Č _ _ _ ey,wy⟩ (X_.imp λ a b r=>⟨Č _ _ _ (s9 _ _ r.1),r.2⟩)) ?_ ?_ ME ?_ ?_ ?_
      .rw [e_,ax];rfl
      .rw [pE,lv,ao];exact GZ _
      .rwa [pB]
      .rw [ao,bg];exact Yv Ĺ
      .rw [ao,bg];exact Zp mi
      .rw [ao,bg];exact Zo
     exact fin none pm m _ e9 ⟨wm,nb⟩ rfl
    .rw [ae,lm] at Ĺ;refine hM v8 v9 v10 v11 sg as sl am ms H6 s6 c6 t6 al m6 Ar lv on ME VG (Zc mi Zk) ?_
     cases sl with
     | nil=>
      have:=congrArg List.length lv;rw [aJ] at this;simp [AS] at this;lia
     | cons x r=>simp
   .have Ŝ:as≠[]:=λ z=>by
     rw [z] at h2;exact h2 rfl
    have s1:1<=sl.length:=by
     rw [<-la];exact List.length_pos_iff.mpr Ŝ
    have tk:∀(P:Prop),tm<5->(tm=3->P)->(tm=4->P)->P:=λ P h5 p3 p4=>by
     have:tm=3\/tm=4:=by lia
     rcases this with z|z
     .exact p3 z
     .exact p4 z
    refine fV (λ h5=>⟨_,.inl (gg.of t6),fV (λ _=>XD) λ h6=>hB _ _ ?_⟩) λ h5=>hB _ _ ?_
    .clear XD hA hB A B;refine jY λ A B hA hB=> ?_;walk_at "rd";refine jf h5 (hA _ _ ?_);clear hA hB A B;walk_at "rd";rw [ae] at h6;obtain⟨as',y,rfl⟩:=rO Ŝ;obtain⟨oU,x,rfl⟩:=rO (l:=as') (λ z=>by rw [z] at h6;simp at h6);obtain⟨Wd,v,rfl⟩:=rO (l:=sl) (λ z=>by rw [z] at s1;simp at s1);obtain⟨GK,u,rfl⟩:=rO (l:=Wd) (λ z=>by rw [z] at la;simp at la);have VJ:oU.length=GK.length:=by simpa using la
     have hy:jC H6 y v:=al.get (i:=oU.length+1) (by simp) (by rw [VJ];simp);have hx:jC H6 x u:=al.get (i:=oU.length) (by simp) (by rw [VJ];simp)
     have ş:fR (jC H6) oU GK:=by
      have h1:=al.take oU.length;rw [bt,dZ,VJ,bt,dZ] at h1;exact h1
     have d1:(((oU ++ [x] ++ [y]).map V.ref).dropLast)=(oU ++ [x]).map V.ref:=by
      rw [ax,aB,bz,eh]
     have d2:(((oU ++ [x]).map V.ref).dropLast)=oU.map V.ref:=by
      rw [ax,aB,bz,eh]
     have ý:AS (GK ++ [u] ++ [v])=AS GK++(u.leaves++v.leaves):=by
      rw [pE,pE];simp [AS]
     have ë:Ez (GK ++ [u] ++ [v])=Ez GK+(u.ones+v.ones):=by
      rw [pB,pB];simp only [Ez,aB,bz,cj,dJ];exact Nat.add_assoc _ _ _
     refine⟨gu (gg.of t6),st,_,.ref y,rfl,rfl,t6,by simp,?_⟩;rw [d1];have t7:upd H6 st (.lst ((oU ++ [x]).map V.ref)) st=some (.lst ((oU ++ [x]).map V.ref)):=e_;refine⟨gu (gg.of t7),st,_,.ref x,rfl,rfl,t7,by simp,?_⟩;rw [d2];have s8:fw H (upd (upd H6 st (.lst ((oU ++ [x]).map V.ref))) st (.lst (oU.map V.ref))):=(s6.gh nQ).gh nQ;have t8:upd (upd H6 st (.lst ((oU ++ [x]).map V.ref))) st (.lst (oU.map V.ref)) st=some (.lst (oU.map V.ref)):=e_;have o8:∀b o,b≠st->H6 b=some o->upd (upd H6 st (.lst ((oU ++ [x]).map V.ref))) st (.lst (oU.map V.ref)) b=some o:=λ b o hb e=>(fo hb).trans ((fo hb).trans e);generalize upd (upd H6 st (.lst ((oU ++ [x]).map V.ref))) st (.lst (oU.map V.ref))=H8 at s8 t8 o8;have k8:∀b xs,H6 b=some (.tup xs)->H8 b=some (.tup xs):=λ b xs e=>o8 b _ (λ z=>by rw [z,t6] at e;cases e) e;refine⟨gu (gg.of t8),by decide,λ p hp=> ?_⟩;have n9:=fw.new (o:=.lst [V.str (tx [114,111,119]),V.str (tx [111,114])]) hp;have p9:upd H8 p (.lst [V.str (tx [114,111,119]),V.str (tx [111,114])]) p=some (.lst [V.str (tx [114,111,119]),V.str (tx [111,114])]):=e_;generalize upd H8 p (.lst [V.str (tx [114,111,119]),V.str (tx [111,114])])=H9 at n9 p9
     have fin:∀kd∈vx,3<=dL/\∀p,H9 p=none->∃Vt,upd H9 p (.tup [.str (tx kd),.ref x,.ref y]) st=some (.lst Vt)/\Vt.length<dL/\N2 [some (.ref lc),some (.ref nm),some (.int b),some (.int (mo:Int)),some (.ref st),some (.ref ml),some (.int (sg:Int)),some (.int c),some (.int tm),some (.ref y),some (.ref x),v11,none,none] (upd (upd H9 p (.tup [.str (tx kd),.ref x,.ref y])) st (.lst (Vt ++ [V.ref p]))):=by
      intro kd hk;refine⟨by decide,λ q hq=> ?_⟩;have AR:=fw.new (o:=.tup [.str (tx kd),.ref x,.ref y]) hq;have RP:upd H9 q (.tup [.str (tx kd),.ref x,.ref y]) q=some (.tup [.str (tx kd),.ref x,.ref y]):=e_;generalize upd H9 q (.tup [.str (tx kd),.ref x,.ref y])=CO at AR RP;have zx:=n9.trans AR;have RI:=zx _ _ t8;have W8:∀b xs,CO b=some (.tup xs)->upd CO st (.lst (oU.map V.ref ++ [.ref q])) b=some (.tup xs):=λ b xs e=>(fo λ z=>by rw [z,RI] at e;cases e).trans e;have FC:∀b xs,H6 b=some (.tup xs)->upd CO st (.lst (oU.map V.ref ++ [.ref q])) b=some (.tup xs):=λ b xs e=>W8 b xs (zx _ _ (k8 b xs e));refine⟨_,RI,?_,hM v8 _ _ v11 sg (oU ++ [q]) (GK ++ [.two kd u v]) am ms _ ((s8.trans zx).gh nQ) ((fo cst).trans (zx _ _ (o8 _ _ cst c6))) ?_ (fR.snoc (.two (W8 _ _ RP) hk (hx.keep FC) (hy.keep FC)) (ş.imp λ a b r=>jC.keep FC r)) ((fo Vx.symm).trans (zx _ _ (o8 _ _ Vx.symm m6))) (Ar.imp λ a b r=>⟨FC _ _ r.1,r.2⟩) ?_ ?_ ME VG (Zc mi Zk) (by simp)⟩
      .rw [ae]
       have:oU.length<=63:=by
        rw [ao,ao] at ll;lia
       exact aF (show _<3000 from Zb this (Zd rfl)) (f_ (by decide))
      .rw [e_,ax];rfl
      .rw [<-lv,ý,pE];simp [AS,Sh.leaves]
      .rw [pB];rw [ë] at on;simp only [Ez,aB,bz,cj,dJ,Sh.ones] at on⊢;omega
     refine tk _ h5 (λ z=> ?_) λ z=> ?_
     .rw [z];exact fN p9 (v:=.str (tx j5)) rfl (z▸fin j5 (by decide))
     .rw [z];exact fN p9 (v:=.str (tx tU)) rfl (z▸fin tU (by decide))
    .clear XD hA hB A B;refine jY λ A B hA hB=> ?_;walk_at "rd";refine gy h5 (hB _ _ ?_);clear hA hB A B;walk_at "rd";refine fV (λ hs=> ?_) λ _=>hM v8 v9 v10 v11 sg as sl am ms H6 s6 c6 t6 al m6 Ar lv on ME VG (Zc mi Zk) s1;obtain⟨oU,x,rfl⟩:=rO Ŝ;obtain⟨GK,u,rfl⟩:=rO (l:=sl) (λ z=>by rw [z] at s1;simp at s1);have VJ:oU.length=GK.length:=by simpa using la
     have hx:jC H6 x u:=al.get (i:=oU.length) (by simp) (by rw [VJ];simp)
     have ş:fR (jC H6) oU GK:=by
      have h1:=al.take oU.length;rw [dZ,VJ,dZ] at h1;exact h1
     have d2:(((oU ++ [x]).map V.ref).dropLast)=oU.map V.ref:=by
      rw [ax,aB,bz,eh]
     have ý:AS (GK ++ [u])=AS GK++u.leaves:=by
      rw [pE];simp [AS]
     have ë:Ez (GK ++ [u])=Ez GK+u.ones:=by
      rw [pB];simp only [Ez,aB,bz,cj,dJ];exact rfl
     refine⟨gu (gg.of t6),st,_,.ref x,rfl,rfl,t6,by simp,?_⟩;rw [d2];have s8:fw H (upd H6 st (.lst (oU.map V.ref))):=s6.gh nQ;have t8:upd H6 st (.lst (oU.map V.ref)) st=some (.lst (oU.map V.ref)):=e_;have o8:∀b o,b≠st->H6 b=some o->upd H6 st (.lst (oU.map V.ref)) b=some o:=λ b o hb e=>(fo hb).trans e;generalize upd H6 st (.lst (oU.map V.ref))=H8 at s8 t8 o8;have k8:∀b xs,H6 b=some (.tup xs)->H8 b=some (.tup xs):=λ b xs e=>o8 b _ (λ z=>by rw [z,t6] at e;cases e) e;refine⟨gu (gg.of t8),by decide,λ p hp=> ?_⟩;have n9:=fw.new (o:=.lst [V.str (tx [109,97,110,121]),V.str (tx [115,111,109,101]),V.str (tx [109,97,121,98,101])]) hp;have p9:upd H8 p (.lst [V.str (tx [109,97,110,121]),V.str (tx [115,111,109,101]),V.str (tx [109,97,121,98,101])]) p=some (.lst [V.str (tx [109,97,110,121]),V.str (tx [115,111,109,101]),V.str (tx [109,97,121,98,101])]):=e_;generalize upd H8 p (.lst [V.str (tx [109,97,110,121]),V.str (tx [115,111,109,101]),V.str (tx [109,97,121,98,101])])=H9 at n9 p9
     have fin:∀kd∈ones,2<=dL/\∀p,H9 p=none->∃PB,upd H9 p (.tup [.str (tx kd),.ref x]) st=some (.lst PB)/\PB.length<dL/\N2 [some (.ref lc),some (.ref nm),some (.int b),some (.int (mo:Int)),some (.ref st),some (.ref ml),some (.int ((sg:Int)+1)),some (.int c),some (.int tm),v9,v10,some (.ref x),none,none] (upd (upd H9 p (.tup [.str (tx kd),.ref x])) st (.lst (PB ++ [V.ref p]))):=by
      intro kd hk;refine⟨by decide,λ q hq=> ?_⟩;have AR:=fw.new (o:=.tup [.str (tx kd),.ref x]) hq;have RP:upd H9 q (.tup [.str (tx kd),.ref x]) q=some (.tup [.str (tx kd),.ref x]):=e_;generalize upd H9 q (.tup [.str (tx kd),.ref x])=CO at AR RP;have zx:=n9.trans AR;have RI:=zx _ _ t8;have W8:∀b xs,CO b=some (.tup xs)->upd CO st (.lst (oU.map V.ref ++ [.ref q])) b=some (.tup xs):=λ b xs e=>(fo λ z=>by rw [z,RI] at e;cases e).trans e;have FC:∀b xs,H6 b=some (.tup xs)->upd CO st (.lst (oU.map V.ref ++ [.ref q])) b=some (.tup xs):=λ b xs e=>W8 b xs (zx _ _ (k8 b xs e));refine⟨_,RI,?_,hM v8 v9 v10 _ (sg+1) (oU ++ [q]) (GK ++ [.one kd u]) am ms _ ((s8.trans zx).gh nQ) ((fo cst).trans (zx _ _ (o8 _ _ cst c6))) ?_ (fR.snoc (.one (W8 _ _ RP) hk (hx.keep FC)) (ş.imp λ a b r=>jC.keep FC r)) ((fo Vx.symm).trans (zx _ _ (o8 _ _ Vx.symm m6))) (Ar.imp λ a b r=>⟨FC _ _ r.1,r.2⟩) ?_ ?_ (Yv hs) VG (Zc mi Zk) (by simp)⟩
      .rw [ae]
       have:oU.length<=63:=by
        rw [ao] at ll;exact Zc (Ze VJ) (Zc Zk (Zc ll (Zc VG (Zc aae (Zd rfl)))))
       exact aF (show _<3000 from Zb this (Zd rfl)) (f_ (by decide))
      .rw [e_,ax];rfl
      .rw [<-lv,ý,pE];simp [AS,Sh.leaves]
      .rw [pB];rw [ë] at on;simp only [Ez,aB,bz,cj,dJ,Sh.ones] at on⊢;lia
     have t3:tm=5\/tm=6\/tm=7:=by lia
     rcases t3 with z|z|z
     .rw [z];exact fN p9 (v:=.str (tx ju)) rfl (z▸fin ju (by decide))
     .rw [z];exact fN p9 (v:=.str (tx lZ)) rfl (z▸fin lZ (by decide))
     .rw [z];exact fN p9 (v:=.str (tx jy)) rfl (z▸fin jy (by decide))
  .rintro σ H6 ⟨v6,v7,v8,v9,v10,v11,sg,as,sl,am,ms,rfl,s6,c6,t6,al,m6,Ar,lv,on,ME,VG,mi,ne⟩;refine hN _ _ ?_;rw [ae] at mi ne;have ne:=ne (Za (Zd rfl) ă.1);have la:=al.len
   obtain⟨a0,ar,rfl⟩:∃a0 ar,as=a0::ar:=by
    cases as with
    | nil=>simp at la;lia
    | cons x y=>exact⟨x,y,rfl⟩
   obtain⟨h0,t9,rfl⟩:∃h0 t9,sl=h0::t9:=by
    cases sl with
    | nil=>simp at ne
    | cons x y=>exact⟨x,y,rfl⟩
   obtain⟨hh0,Vf⟩:jC H6 a0 h0/\fR (jC H6) ar t9:=by
    cases al with
    | cons r t=>exact⟨r,t⟩
   refine fk λ N hN=> ?_;walk_at "rd";refine fN t6 gW (hN _ _ ?_);refine fk λ N hN=> ?_;refine⟨_,rfl,_,rfl,st,_,rfl,gg.of t6,λ q hq=> ?_⟩;rw [aB,Cg];have n7:=fw.new (o:=.lst (ar.map V.ref)) hq;have q7:upd H6 q (.lst (ar.map V.ref)) q=some (.lst (ar.map V.ref)):=e_;generalize upd H6 q (.lst (ar.map V.ref))=H7 at n7 q7
   refine⟨q,rfl,⟨_,gg.of q7⟩,jb (K:=K) (a:=q) (xs:=ar.map V.ref) (λ j σ H8=>∃(x:ac) (sh:Sh) (SD:Option V),σ = [some (.ref lc),some (.ref nm),some (.int b),some (.int (mo:Int)),some (.ref st),some (.ref ml),some (.int (sg:Int)),v6,v7,v9,v10,v11,some (.ref x),SD]/\fw H7 H8/\jC H8 x sh/\sh.leaves=h0.leaves++AS (t9.take j)/\sh.ones=h0.ones+Ez (t9.take j))
    ⟨a0,h0,none,rfl,fw.refl _,hh0.same n7,by simp [AS],by simp [Ez]⟩ (λ j σ H8 _ hz=>by obtain⟨_,_,_,_,s8,_⟩:=hz;exact gg.of (s8 _ _ q7)) ?_ ?_⟩
   .rintro j y σ H8 hj ⟨x,sh,SD,rfl,s8,hx,e1,e2⟩;obtain⟨y,hy,rfl⟩:=iR hj
    have hj2:j<t9.length:=by
     rw [<-Vf.len];exact(ag.mp hy).1
    have hz:t9[j]? = some t9[j]:=by simp
    have hsy:=(Vf.get hy hz).same (n7.trans s8);walk_at "rg";walk_at "rd";refine⟨by decide,λ p hp=> ?_⟩;have n9:=fw.new (o:=.tup [.str (tx j5),.ref x,.ref y]) hp;refine⟨s8.trans n9,.two j5 sh t9[j],.two e_ (by decide) (hx.same n9) (hsy.same n9),?_,?_⟩
    .rw [iJ hz,pE];simp only [Sh.leaves,e1,bt,AS,dA,List.flatMap_nil,bI]
    .rw [iJ hz,pB];simp only [Sh.ones,e2,Ez,aB,bz,cj,dJ];exact Nat.add_assoc _ _ _
   .rintro σ H8 ⟨x,sh,SD,rfl,s8,hx,e1,e2⟩;refine hN _ _ ?_;rw [ae,Vf.len,br] at e1 e2;walk_at "rd";refine⟨by decide,λ p hp=> ?_⟩;have Y5:=n7.trans s8;have n9:=fw.new (o:=.tup [.ref x,.ref ml]) hp;refine k p x ml _ sh ms ((s6.trans Y5).free hp) ğ ((s6.trans Y5).trans n9) e_ (hx.same n9) ⟨am,n9 _ _ (Y5 _ _ m6),Ar.imp λ _ _ r=>⟨n9 _ _ (Y5 _ _ r.1),r.2.1⟩⟩ ?_ VG (Zc mi (Ze ă.2)) ?_ λ m hm=> ?_
    .rw [e1,<-lv];rfl
    .rw [e2];simp only [Ez,aB,cj] at on⊢;exact Zc on ME
    .obtain⟨i,hi⟩:=aL.mp hm;obtain⟨x,_,r⟩:=Ar.at hi;exact r.2.2
theorem BA:fI ["shape","marks"] ["shape","marks"] (fC za):=by walk_at "sc"
theorem G7 (T:Txt K mg t) (d:Nat):fX P w K mg base (ij P w) (1+d) t.Aw t.z_ ["shape","marks"] (rN d):=by
 induction d with
 | zero=>exact T.wj.fn.okN BA (len:=λ vs H Q E h=>(qz h).elim) (λ iw A outer s H vs Q E hr h=>(qz h).elim)
 | succ d ih=>
 have rD:=ih;refine T.wj.fn.okN BA (λ iw A outer s H vs Q E hr h=> ?_)
 .obtain⟨sa,ml,sh,ms,rfl,hs,hd,hm,lv,k⟩:=h
  refine⟨_,Bx.un (c_ (fS (fG iE (fc fB (fq 0) b_) fW (fO _))
   (fh (fF (fc fP (fq 1) (fc fB (fq 0) b_))))
   fH)
   (c_ (fS (fG iE (fJ fQ (by rfl) T.iG PySem.boot_len (a_ (fq 0) d_)) b_ (fO _))
   (fh (fF (gF (a_ (fc fB (fq 0) b_) (a_ (fK T.wj rD hr fM (a_ (fc fB (fq 0) b_) (a_ (fq 1) d_))) (a_ (fK T.wj rD hr fM (a_ (fc fB (fq 0) b_) (a_ (fq 1) d_))) d_))))))
   fH)
   (fh (fF (gF (a_ (fc fB (fq 0) b_) (a_ (fK T.wj rD hr fM (a_ (fc fB (fq 0) b_) (a_ (fq 1) d_))) d_))))))),?_⟩
  walk_at "rs";obtain⟨am,em,Ar⟩:=hm
  have nm:∀kd∈vx++ones,¬V.str (tx kd)=V.str (tx [109,97,114,107]):=by
   intro kd hk q;have q:kd=qR:=iA.mp (by injection q);subst q;revert hk
   decide
  walk_at "rd"
  cases hs with
  | @mark _ i e=>
   have il:i<ms.length:=lv i (by simp [Sh.leaves]);obtain⟨x,hx,ex,wx⟩:=Ar.at (show ms[i]? = some ms[i] by simp);refine fu e rfl ⟨rfl,jf rfl (fu e rfl (fN em (v:=.ref x) (gx Yt (by rw [ak,au,hx];rfl)) (k x H (fw.refl _) ?_)))⟩;show h_ H x (.mark ((ms[i]?).getD .none));rw [show ms[i]? = some ms[i] by simp];exact .mark ex wx.ok
  | @two _ l r kd x y e hk hl t9=>
   have dd:x.deep<=d/\y.deep<=d:=by
    simp only [Sh.deep] at hd;exact Qaa hd
   refine fu e gW ⟨rfl,gy (nm kd (aN _ hk)) ⟨_,.inr (oV.of e),jf rfl (fu e gW (fu e rfl ⟨l,ml,x,ms,rfl,hl,dd.1,⟨am,em,Ar⟩,λ i hi=>lv i (aN _ hi),λ p1 H1 s1 t1=> ?_⟩))⟩⟩;refine fu (s1 _ _ e) rfl ⟨r,ml,y,ms,rfl,t9.same s1,dd.2,nE.same ⟨am,em,Ar⟩ s1,λ i hi=>lv i (aD _ hi),λ p2 H2 s2 t2=>⟨by decide,λ p hp=> ?_⟩⟩;have n3:=fw.new (o:=.tup [.str (tx kd),.ref p1,.ref p2]) hp;exact k p _ ((s1.trans s2).trans n3) (.two e_ hk (t1.same (s2.trans n3)) (t2.same n3))
  | @one _ i kd x e hk hi=>
   have dd:x.deep<=d:=cO hd;refine fu e gW ⟨rfl,gy (nm kd (aD _ hk)) ⟨_,.inr (oV.of e),gy (by show ¬((2:Nat):Int)=3;decide) (fu e gW (fu e rfl ⟨i,ml,x,ms,rfl,hi,dd,⟨am,em,Ar⟩,lv,λ p1 H1 s1 t1=>⟨by decide,λ p hp=> ?_⟩⟩))⟩⟩;have n3:=fw.new (o:=.tup [.str (tx kd),.ref p1]) hp;exact k p _ (s1.trans n3) (.one e_ hk (t1.same n3))
theorem KS (T:Txt K mg t):fX P w K mg base (ij P w) (1+40) t.Aw t.z_ ["shape","marks"] (rN 40):=G7 T 40
theorem kg:fI ["inner","made","at","found","to"] ["inner"] (fC qG):=by walk_at "sc"
theorem Dv (T:Txt K mg t):fX P w K mg base (ij P w) 1 t.xD t.xo ["inner"] (uz):=by
 refine T.wo.fn.okN kg (λ iw A outer s H vs Q E hr h=> ?_)
 .obtain⟨q,rows,R,S,n,rfl,hq,sr,Gu,ŋ,SV,k⟩:=h
  refine⟨_,Bx.un (c_ (kz (i:=1) kg.nd rfl (by walk_at "o") rfl (N:= ["row"]) (fr:= []) (qp.of (by kernel_rfl)) (gq (fq 0)) (λ _ _ _ _ _=>gB)
    (λ _ _ _ _ _=>(gi d_)))
   (c_ (gX PassesOwn.never rfl (Im rfl T.iB (a_ (fE pq (fJ fQ (by rfl) T.iG PySem.boot_len (a_ (fq 0) d_)) b_) (a_ (uf tI b_) (a_ (uf tI b_) d_)))) (gn 2 kg.nd)
   (c_ (fD 3 kg.nd (gi (a_ (fq 2) d_)))
   (c_ (gX PassesOwn.never rfl (gq (fc fP (fq 0) (fq 2))) (gn 4 kg.nd)
   (fh (fS (fG Js (fq 4) (fq 2) (fO _))
   (fh (fT (ig aE dC dB wd (fq 3) (a_ (fc fP (fq 1) (fq 4)) d_))))
   fH)))
   (fh (sf (Co rfl (by rfl) T.rh (by rfl) T.J4 (a_ (fq 3) d_)) (su (fq 1) (fq 2) set_list))))))
   (fh (fF (fq 1))))),?_⟩
  walk_at "rs";obtain⟨as,eq,al⟩:=hq;have lr:=sr.len;have la:=al.len;refine fk λ N hN=> ?_;refine⟨_,rfl,q,rfl,⟨_,gg.of eq⟩,jE (cs:=as) (g:=V.ref) (gT (gg.of eq)) (λ H2 _ p=>H2 p=some (.lst ([]:List V))) (λ H2 c p e z=>by rw [e] at z;cases z) (λ c p H2 H3 s e=>s _ _ e) (f_ (by lia)) (λ c H2 Q2 hc s2 h=> ?_) (λ H2 c p D o n e=>(fo n).trans e) λ mk H1 bs FG s1 d1 Sn VF Ds=>hN _ _ ?_⟩
  .walk_at "rd";exact⟨aQ _,λ p hp=>h p _ hp (fw.new hp) e_⟩
  have lb:bs.length=n+1:=by rw [<-Sn.len];exact la.trans lr
  walk_at "rg";have sh0:∃b0:List ac,bs=b0:=⟨_,rfl⟩
  refine fk λ N hN=> ?_
  refine⟨_,rfl,q,_,rfl,.inl (gg.of (s1 _ _ eq)),_,_,rfl,rfl,_,rfl,_,rfl,_,_,rfl,⟨by rw [ae];lia,by rw [ae];lia,by decide,by decide⟩,Ol (n:=((((as.map V.ref).length:Nat):Int)-1 - -1).toNat) (lo:=((((as.map V.ref).length:Nat):Int)-1)) (λ i σ H2=>∃(v2 v3 v4:Option V) (bs:List ac) (gj:List (List Int)),σ = [some (.ref q),some (.ref mk),v2,v3,v4]/\fw H H2/\H2 mk=some (.lst (bs.map V.ref))/\fR (λ x (l:List Int)=>H2 x=some (.lst (l.map V.int))/\x≠mk) bs gj/\gj.length=n+1/\∀a:Nat,a<=n->n+1<=a+i->∃l,gj[a]? = some l/\l.Pairwise (· < ·)/\∀x:Int,x∈l↔∃b:Nat,x=(b:Int)/\S a b)
   ⟨none,none,none,bs,bs.map λ _=> [],rfl,s1,d1,?_,by rwa [ae],λ a ha hb=>absurd hb (by lia)⟩ ?_ ?_⟩
  .have go:∀(cs bs:List ac),fR (λ (_:ac) p=>H1 p=some (.lst ([]:List V))) cs bs->(∀a∈bs,a≠mk/\H a=none)->fR (λ x (l:List Int)=>H1 x=some (.lst (l.map V.int))/\x≠mk) bs (bs.map λ _=> []):=by
    intro cs bs h
    induction h with
    | nil=>exact λ _=>.nil
    | cons r t ih=>exact λ o=>.cons ⟨r,(o _ (by simp)).1⟩ (ih λ a ha=>o a (ay _ ha))
   exact go as bs Sn Ds
  .rintro i σ H2 hi ⟨v2,v3,v4,bs,gj,rfl,s2,m2,L8,RW,KY⟩;have Ο:=L8.len
   have Pr:i<n+1:=by
    rw [ae] at hi;lia
   obtain⟨a,ea⟩:∃a:Nat,a+i=n:=⟨n-i,by lia⟩
   have eat:(((as.map V.ref).length:Nat):Int)-1-(i:Int)=(a:Int):=by
    rw [ae];lia
   rw [eat];have ha:rows[a]? = some (rows[a]'(Zb Zk (Zb (Ze ea) (Zg lr)))):=by simp
   obtain⟨xa,Po,Lu⟩:=al.at ha;obtain⟨l1,l2⟩:=sr.row ha;have HG:=sr.mem a _ ha;generalize rows[a]'(Zb Zk (Zb (Ze ea) (Zg lr)))=l0 at ha Lu l1 l2 HG;have atq:vq (as.map V.ref) (a:Int)=some (.ref xa):=gx Yt (by rw [ak,au,Po];rfl);clear hN;walk_at "rg";refine fk λ N2 hN=> ?_;walk_at "rd";refine⟨by decide,λ f hf=>hN _ _ ?_⟩;have n3:=fw.new (o:=.lst [V.int (a:Int)]) hf;have f3:upd H2 f (.lst [V.int (a:Int)]) f=some (.lst ([(a:Int)].map V.int)):=e_;have Pt:=s2.free hf;generalize upd H2 f (.lst [V.int (a:Int)])=H3 at n3 f3;have xf:xa≠f:=fA Lu Pt;have mf:mk≠f:=fA m2 hf;have qf:q≠f:=fA eq Pt;refine fk λ N2 hN=> ?_
   refine⟨_,rfl,_,rfl,_,_,_,_,rfl,rfl,gg.of (n3 _ _ (s2 _ _ eq)),atq,xa,rfl,⟨_,gg.of (n3 _ _ (s2 _ _ Lu))⟩,jb (K:=K) (a:=xa) (xs:=l0.map V.int) (λ j σ H4=>∃(v4:Option V) (fs:List Int),σ = [some (.ref q),some (.ref mk),some (.int (a:Int)),some (.ref f),v4]/\(∀b o,b≠f->H2 b=some o->H4 b=some o)/\H4 f=some (.lst (fs.map V.int))/\(∀x:Int,x∈fs↔x=(a:Int)\/∃to∈l0.take j,(a:Int)<to/\x∈(gj[to.toNat]?).getD [])/\fs.length<=1+j*(n+1))
    ⟨v4,[(a:Int)],rfl,λ b o hb e=>n3 _ _ e,f3,λ x=>by simp,by simp⟩ (λ j σ H4 _ hz=>by obtain⟨_,_,_,o4,_⟩:=hz;exact gg.of (o4 _ _ xf (s2 _ _ Lu))) ?_ ?_⟩
   .rintro j y σ H4 hj ⟨v4,fs,rfl,o4,f4,A9,HH⟩;obtain⟨to,Uh,rfl⟩:=iR hj;have jl:j<l0.length:=(ag.mp Uh).1;obtain⟨t0,t1⟩:=l1 to (aq Uh);have tk:=iJ Uh;walk_at "rg";walk_at "rd";refine fV (λ h=> ?_) λ h=> ?_
    .obtain⟨lt,iT,ult,mlt⟩:=KY to.toNat (QaH t1) (by lia);obtain⟨b,hb,eb,nb⟩:=L8.at iT;have bf:b≠f:=fA eb hf
     have Κ:lt.length<=n+1:=SE ult λ x hx=>by
      obtain⟨c,rfl,hc⟩:=(mlt x).mp hx;have:=SV _ _ (QaH t1) hc;lia
     have mul:(j+1)*(n+1)=j*(n+1)+(n+1):=by rw [Nat.add_mul,Nat.one_mul]
     have ö:(j+1)*(n+1)<=63*63:=cL (QaI jl Gu l2) (Qae Gu);refine⟨gu (gg.of f4),fN (o4 _ _ mf m2) (v:=.ref b) (gx (by lia) (by rw [ak,hb];rfl)) ⟨f,b,_,_,rfl,rfl,f4,o4 _ _ bf eb,f_ (by rw [ae,ae];lia),?_⟩⟩;rw [<-ax];refine⟨λ c o hc e=>(fo hc).trans (o4 c o hc e),fs++lt,e_,λ x=> ?_,by rw [ao];lia⟩;rw [aA,A9,tk];have gt:(gj[to.toNat]?).getD []=lt:=by rw [iT];rfl
     constructor
     .rintro((z | ⟨t',h1,h2,h3⟩)|z)
      .exact .inl z
      .exact .inr ⟨t',aN _ h1,h2,h3⟩
      .exact .inr ⟨to,aD _ (by simp),h,by rwa [gt]⟩
     .rintro(z | ⟨t',h1,h2,h3⟩)
      .exact .inl (.inl z)
      .rcases aA.mp h1 with y|y
       .exact .inl (.inr ⟨t',y,h2,h3⟩)
       .rw [aj.mp y,gt] at h3;exact .inr h3
    .have mul:(j+1)*(n+1)=j*(n+1)+(n+1):=by rw [Nat.add_mul,Nat.one_mul]
     refine⟨o4,fs,f4,λ x=> ?_,Zc HH (Zw (Zc Zk (Zg mul)))⟩;rw [A9,tk];constructor
     .rintro(z | ⟨t',h1,h2,h3⟩)
      .exact .inl z
      .exact .inr ⟨t',aN _ h1,h2,h3⟩
     .rintro(z | ⟨t',h1,h2,h3⟩)
      .exact .inl z
      .rcases aA.mp h1 with y|y
       .exact .inr ⟨t',y,h2,h3⟩
       .rw [aj.mp y] at h2;exact absurd h2 h
   .rintro σ H4 ⟨v4,fs,rfl,o4,f4,A9,HH⟩;refine hN _ _ ?_;rw [ae,br] at A9;rw [ae] at HH;have ö:l0.length*(n+1)<=63*63:=cL (QaJ l2 Gu) (Qae Gu)
    have NL:∀x:Int,x∈fs↔∃b:Nat,x=(b:Int)/\S a b:=λ x=>by
     rw [A9];constructor
     .rintro(z | ⟨t',h1,h2,h3⟩)
      .exact⟨a,z,(ŋ a a).mpr (.inl rfl)⟩
      .obtain⟨c,rfl,hc⟩:=(HG t').mp h1;have rc:=sr.xS a c (Zc Zk (Ze ea)) hc;obtain⟨lt,iT,_,mlt⟩:=KY c rc.2 (by lia);rw [au,iT] at h3;obtain⟨b,e,hb⟩:=(mlt x).mp h3;exact⟨b,e,(ŋ a b).mpr (.inr ⟨c,Yv h2,hc,hb⟩)⟩
     .rintro⟨b,rfl,hb⟩;rcases (ŋ a b).mp hb with z | ⟨c,h1,h2,h3⟩
      .exact .inl (by rw [z])
      .have rc:=sr.xS a c (Zc Zk (Ze ea)) h2;obtain⟨lt,iT,_,mlt⟩:=KY c rc.2 (by lia);refine .inr ⟨(c:Int),(HG _).mpr ⟨c,rfl,h2⟩,Yp h1,?_⟩;rw [au,iT];exact(mlt _).mpr ⟨b,rfl,h3⟩
    have ML:fw H H4:=λ b o e=>o4 b o (fA e Pt) (s2 _ _ e);walk_at "rd";refine⟨fs,gg.of f4,by lia,yq Gu (λ x hx=> ?_),λ g out hg up mem=> ?_⟩
    .obtain⟨b,rfl,hb⟩:=(NL x).mp hx;have:=SV a b (Zc Zk (Ze ea)) hb;exact QaK this
    have n5:=fw.new (o:=.lst (out.map V.int)) hg;have g5:upd H4 g (.lst (out.map V.int)) g=some (.lst (out.map V.int)):=e_;generalize upd H4 g (.lst (out.map V.int))=H5 at n5 g5;have m5:=n5 _ _ (o4 _ _ mf m2)
    have gm:g≠mk:=λ z=>by
     rw [z,o4 _ _ mf m2] at hg
     cases hg
    refine⟨_,m5,a,rY Yt (by rw [ae];lia),?_⟩;refine⟨(ML.trans n5).gh FG,bs.set a g,?_,gj.set a out,?_,by rwa [bQ],λ c hc hci=> ?_⟩
    .rw [e_,di]
    .exact fR.Wf (R:=λ x (l:List Int)=>upd H5 mk (.lst ((bs.map V.ref).set a (V.ref g))) x=some (.lst (l.map V.int))/\x≠mk) ⟨(fo gm).trans g5,gm⟩ a (L8.imp λ x l r=>⟨(fo r.2).trans (n5 _ _ (o4 _ _ (fA r.1 hf) r.1)),r.2⟩)
    .by_cases ca:c=a
     .subst ca;exact⟨out,by rw [bO (Zb hc (Zg RW))],up,λ x=>by rw [mem x];exact NL x⟩
     .obtain⟨l,h1,h2,h3⟩:=KY c hc (by lia);exact⟨l,by rwa [cg (λ z=>ca z.symm)],h2,h3⟩
  .rintro σ H2 ⟨v2,v3,v4,bs,gj,rfl,s2,m2,L8,RW,KY⟩;refine hN _ _ ?_;walk_at "rd";rw [ae] at KY;refine k mk H2 gj FG s2 ⟨bs,m2,L8.imp λ x l r=>r.1⟩ ⟨RW,λ l hl=> ?_,λ a l hl x=> ?_,SV⟩
   .obtain⟨i,hi⟩:=aL.mp hl;have il:=(ag.mp hi).1;obtain⟨l',h1,h2,_⟩:=KY i (Zs (Za il (Ze RW))) (QaL la lr);rw [hi] at h1
    cases h1;exact h2
   .have il:=(ag.mp hl).1;obtain⟨l',h1,_,h3⟩:=KY a (Zs (Za il (Ze RW))) (QaL la lr);rw [hl] at h1
    cases h1;exact h3 x
theorem k_:fI ["left","right","made","row","found","at"] ["left","right"] (fC tQ):=by walk_at "sc"
theorem Fh (T:Txt K mg t):fX P w K mg base (ij P w) 1 t.Ay t.Ab ["left","right"] (wV):=by
 refine T.zF.fn.okN k_ (λ iw A outer s H vs Q E hr h=> ?_)
 .obtain⟨p,q,BC,pY,R,S,n,rfl,hp,sl,hq,sr,Gu,k⟩:=h
  refine⟨_,Bx.un (c_ (fD 2 k_.nd (gi d_))
   (c_ (gX PassesOwn.never rfl (gq (fq 0)) (gn 3 k_.nd)
   (c_ (fD 4 k_.nd (gi d_))
   (c_ (gX PassesOwn.never rfl (gq (fq 3)) (gn 5 k_.nd)
   (fh (fT (ig aE dC dB wd (fq 4) (a_ (fc fP (fq 1) (fq 5)) d_)))))
   (fh (fT (ig aE aT aS gE (fq 2) (a_ (Co rfl (by rfl) T.rh (by rfl) T.J4 (a_ (fq 4) d_)) d_)))))))
   (fh (fF (fq 2))))),?_⟩
  walk_at "rs";obtain⟨as,ep,al⟩:=hp;obtain⟨cs,eq,cl⟩:=hq;have lr:=sr.len;have ll:=sl.len;have la:=al.len;have lc:=cl.len;refine fk λ N hN=> ?_;walk_at "rd";refine⟨aQ _,λ mk FG=>hN _ _ ?_⟩;have s1:=fw.new (o:=.lst []) FG;have m1:upd H mk (.lst []) mk=some (.lst []):=e_;generalize upd H mk (.lst [])=H1 at s1 m1;refine fk λ N hN=> ?_
  refine⟨_,rfl,p,rfl,⟨_,gg.of (s1 _ _ ep)⟩,jb (K:=K) (a:=p) (xs:=as.map V.ref) (λ i σ H2=>∃(v3 v4 v5:Option V) (bs:List ac) (gj:List (List Int)),σ = [some (.ref p),some (.ref q),some (.ref mk),v3,v4,v5]/\fw H H2/\H2 mk=some (.lst (bs.map V.ref))/\fR (λ x (l:List Int)=>H2 x=some (.lst (l.map V.int))/\x≠mk) bs gj/\gj.length=i/\∀(a:Nat) (l:List Int),gj[a]? = some l->l.Pairwise (· < ·)/\∀x:Int,x∈l↔∃c:Nat,x=(c:Int)/\∃b,R a b/\S b c)
   ⟨none,none,none,[],[],rfl,s1,m1,.nil,rfl,λ a l h=>by simp at h⟩ (λ i σ H2 _ hz=>by obtain⟨_,_,_,_,_,_,s2,_⟩:=hz;exact gg.of (s2 _ _ ep)) ?_ ?_⟩
  .rintro i y σ H2 hi ⟨v3,v4,v5,bs,gj,rfl,s2,m2,L8,RW,KY⟩;obtain⟨xa,Po,rfl⟩:=iR hi;have il:i<as.length:=(ag.mp Po).1;have ha:BC[i]? = some (BC[i]'(Za il (Ze la))):=by simp
   have Lu:=al.get Po ha;obtain⟨l1,l2⟩:=sl.row ha;have HG:=sl.mem i _ ha;generalize BC[i]'(Za il (Ze la))=l0 at ha Lu l1 l2 HG;have Ο:=L8.len;clear hN;walk_at "rg";refine fk λ N2 hN=> ?_;walk_at "rd";refine⟨aQ _,λ f hf=>hN _ _ ?_⟩;have n3:=fw.new (o:=.lst []) hf;have f3:upd H2 f (.lst []) f=some (.lst (([]:List Int).map V.int)):=e_;have Pt:=s2.free hf;generalize upd H2 f (.lst [])=H3 at n3 f3;have xf:xa≠f:=fA Lu Pt;have mf:mk≠f:=fA m2 hf;have qf:q≠f:=fA eq Pt;refine fk λ N2 hN=> ?_
   refine⟨_,rfl,xa,rfl,⟨_,gg.of (n3 _ _ (s2 _ _ Lu))⟩,jb (K:=K) (a:=xa) (xs:=l0.map V.int) (λ j σ H4=>∃(v5:Option V) (fs:List Int),σ = [some (.ref p),some (.ref q),some (.ref mk),some (.ref xa),some (.ref f),v5]/\(∀b o,b≠f->H2 b=some o->H4 b=some o)/\H4 f=some (.lst (fs.map V.int))/\(∀x:Int,x∈fs↔∃to∈l0.take j,x∈(pY[to.toNat]?).getD [])/\fs.length<=j*(n+1))
    ⟨v5,[],rfl,λ b o hb e=>n3 _ _ e,f3,λ x=>by simp,by simp⟩ (λ j σ H4 _ hz=>by obtain⟨_,_,_,o4,_⟩:=hz;exact gg.of (o4 _ _ xf (s2 _ _ Lu))) ?_ ?_⟩
   .rintro j y σ H4 hj ⟨v5,fs,rfl,o4,f4,A9,HH⟩;obtain⟨to,Uh,rfl⟩:=iR hj;have jl:j<l0.length:=(ag.mp Uh).1;obtain⟨t0,t1⟩:=l1 to (aq Uh);have tk:=iJ Uh;have iT:pY[to.toNat]? = some (pY[to.toNat]'(Qac t1 lr)):=by simp
    obtain⟨b,hb,eb⟩:=cl.at iT;obtain⟨_,Κ⟩:=sr.row iT;generalize pY[to.toNat]'(Qac t1 lr)=lt at iT eb Κ;have bf:b≠f:=fA eb Pt;have mul:(j+1)*(n+1)=j*(n+1)+(n+1):=by rw [Nat.add_mul,Nat.one_mul]
    have ö:(j+1)*(n+1)<=63*63:=cL (QaI jl Gu l2) (Qae Gu);walk_at "rg";walk_at "rd";refine⟨gu (gg.of f4),fN (o4 _ _ qf (s2 _ _ eq)) (v:=.ref b) (gx (by lia) (by rw [ak,hb];rfl)) ⟨f,b,_,_,rfl,rfl,f4,o4 _ _ bf (s2 _ _ eb),f_ (by rw [ae,ae];lia),?_⟩⟩;rw [<-ax];refine⟨λ c o hc e=>(fo hc).trans (o4 c o hc e),fs++lt,e_,λ x=> ?_,by rw [ao];lia⟩;rw [aA,A9,tk];have gt:(pY[to.toNat]?).getD []=lt:=by rw [iT];rfl
    constructor
    .rintro(⟨t',h1,h3⟩|z)
     .exact⟨t',aN _ h1,h3⟩
     .exact⟨to,aD _ (by simp),by rwa [gt]⟩
    .rintro⟨t',h1,h3⟩;rcases aA.mp h1 with y|y
     .exact .inl ⟨t',y,h3⟩
     .rw [aj.mp y,gt] at h3;exact .inr h3
   .rintro σ H4 ⟨v5,fs,rfl,o4,f4,A9,HH⟩;refine hN _ _ ?_;rw [ae,br] at A9;rw [ae] at HH;have ö:l0.length*(n+1)<=63*63:=cL (QaJ l2 Gu) (Qae Gu)
    have NL:∀x:Int,x∈fs↔∃c:Nat,x=(c:Int)/\∃b,R i b/\S b c:=λ x=>by
     rw [A9];constructor
     .rintro⟨t',h1,h3⟩;obtain⟨b,rfl,hb⟩:=(HG t').mp h1;have rb:=sl.xS i b (Zs (Za il (Zc (Ze la) (Ze ll)))) hb;have iT:pY[b]? = some (pY[b]'(Zb rb.2 (Zg lr))):=by simp
      rw [au,iT] at h3;obtain⟨c,e,hc⟩:=(sr.mem b _ iT x).mp h3;exact⟨c,e,b,hb,hc⟩
     .rintro⟨c,rfl,b,hb,hc⟩;have rb:=sl.xS i b (Zs (Za il (Zc (Ze la) (Ze ll)))) hb;have iT:pY[b]? = some (pY[b]'(Zb rb.2 (Zg lr))):=by simp
      refine⟨(b:Int),(HG _).mpr ⟨b,rfl,hb⟩,?_⟩;rw [au,iT];exact(sr.mem b _ iT _).mpr ⟨c,rfl,hc⟩
    have ML:fw H H4:=λ b o e=>o4 b o (fA e Pt) (s2 _ _ e);walk_at "rd";refine⟨gu (gg.of (o4 _ _ mf m2)),fs,gg.of f4,by lia,yq Gu (λ x hx=> ?_),λ g out hg up mem=> ?_⟩
    .obtain⟨c,rfl,b,hb,hc⟩:=(NL x).mp hx;have rb:=sl.xS i b (Zs (Za il (Zc (Ze la) (Ze ll)))) hb;have rc:=sr.xS b c rb.2 hc;exact QaK rc
    have n5:=fw.new (o:=.lst (out.map V.int)) hg;have g5:upd H4 g (.lst (out.map V.int)) g=some (.lst (out.map V.int)):=e_;generalize upd H4 g (.lst (out.map V.int))=H5 at n5 g5;have m5:=n5 _ _ (o4 _ _ mf m2)
    have gm:g≠mk:=λ z=>by
     rw [z,o4 _ _ mf m2] at hg
     cases hg
    refine⟨_,m5,?_,(ML.trans n5).gh FG,bs ++ [g],?_,gj ++ [out],?_,by rw [ao,RW];rfl,λ a l hl=> ?_⟩
    .rw [ae,Ο,RW];exact aF (show i<3000 by lia) (f_ (by decide))
    .rw [e_,ax];rfl
    .exact fR.snoc ⟨(fo gm).trans g5,gm⟩ (L8.imp λ x l r=>⟨(fo r.2).trans (n5 _ _ (o4 _ _ (fA r.1 hf) r.1)),r.2⟩)
    .by_cases ca:a<gj.length
     .rw [aP ca] at hl;exact KY a l hl
     .have V0:=(ag.mp hl).1;rw [ao,bg] at V0;have e:a=gj.length:=by exact Zq (Zs V0) (Zi ca)
      rw [e,bp (az _),Nat.sub_self] at hl
      cases hl;rw [e,RW];exact⟨up,λ x=>by rw [mem x];exact NL x⟩
  .rintro σ H2 ⟨v3,v4,v5,bs,gj,rfl,s2,m2,L8,RW,KY⟩;refine hN _ _ ?_;walk_at "rd";rw [ae] at RW;refine k mk H2 gj FG s2 ⟨bs,m2,L8.imp λ x l r=>r.1⟩ ⟨Zq (Zc (Ze RW) (Zc (Ze la) (Ze ll))) (Zc (Zg ll) (Zc (Zg la) (Zg RW))),λ l hl=> ?_,λ a l hl x=>(KY a l hl).2 x,λ a c ha ⟨b,h1,h2⟩=> ?_⟩
   .obtain⟨i,hi⟩:=aL.mp hl;exact(KY i l hi).1
   .have rb:=sl.xS a b ha h1;have rc:=sr.xS b c rb.2 h2;lia
theorem oZ:fI ["shape","fitted","size","inner","other"] ["shape","fitted","size"] (fC vK):=by walk_at "sc"
theorem Fc (T:Txt K mg t) (d:Nat):fX P w K mg base (ij P w) (2+d) t.wI t.wB ["shape","fitted","size"] (oX d):=by
 induction d with
 | zero=>exact T.rW.fn.okN oZ (len:=λ vs H Q E h=>(pT h).elim) (λ iw A outer s H vs Q E hr h=>(pT h).elim)
 | succ d ih=>
 have oQ:=ih;have xM:=(Dv (P:=P) (w:=w) (base:=base) T).mono (show 1<=2+d from Zc (Zd rfl) Zk);have AL:=(Fh (P:=P) (w:=w) (base:=base) T).mono (show 1<=2+d from Zc (Zd rfl) Zk);refine T.rW.fn.okN oZ (λ iw A outer s H vs Q E hr h=> ?_)
 .obtain⟨sa,fl,n,sh,F,rfl,hs,hd,hF,lv,rg,jr,Gu,k⟩:=h
  refine⟨_,Bx.un (c_ (fS (fG iE (fc fB (fq 0) b_) fW (fO _))
   (fh (fF (iV rfl (N:= ["at","fitted","shape"]) (fr:= [1,0]) (qp.of (by kernel_rfl)) (gJ rfl T.iB (a_ (fE iN (fq 2) b_) d_)) (λ _ _ _ _ _=>gB)
    (λ _ _ _ _ _=>(jL (MC K) (gi (a_ (fE iN (fq 0) b_) d_)) lC (jU (Rr K aE PySem.F.slot_list_count PySem.F.type_list_count NG (fc (iS K) (fq 1) (fc (ni K) (fq 2) b_)) (a_ (fq 0) d_))))))))
   fH)
   (c_ (fD 3 oZ.nd (fK T.rW oQ hr fM (a_ (fc fB (fq 0) b_) (a_ (fq 1) (a_ (fq 2) d_)))))
   (c_ (fS (fG iE (fc fB (fq 0) b_) fW (fO _))
   (fh (fF (fK T.zF AL hr fM (a_ (fq 3) (a_ (fK T.rW oQ hr fM (a_ (fc fB (fq 0) b_) (a_ (fq 1) (a_ (fq 2) d_)))) d_)))))
   fH)
   (c_ (fS (fG iE (fc fB (fq 0) b_) fW (fO _))
   (c_ (fD 4 oZ.nd (fK T.rW oQ hr fM (a_ (fc fB (fq 0) b_) (a_ (fq 1) (a_ (fq 2) d_)))))
   (fh (fF (iV rfl (N:= ["at","inner","other"]) (fr:= [3,4]) (qp.of (by kernel_rfl)) (gJ rfl T.iB (a_ (fE iN (fq 2) b_) d_)) (λ _ _ _ _ _=>gB)
    (λ _ _ _ _ _=>(Ao K rfl (by rfl) T.rh (by rfl) T.J4 (a_ (fE mD (fc (iS K) (fq 1) (fq 0)) (fc (iS K) (fq 2) (fq 0))) d_)))))))
   fH)
   (c_ (fS (fG iE (fc fB (fq 0) b_) fW (fO _))
   (fh (fF (iV rfl (N:= ["at","inner"]) (fr:= [3]) (qp.of (by kernel_rfl)) (gJ rfl T.iB (a_ (fE iN (fq 2) b_) d_)) (λ _ _ _ _ _=>gB)
    (λ _ _ _ _ _=>(Ao K rfl (by rfl) T.rh (by rfl) T.J4 (a_ (fE mD (gi (a_ (fq 0) d_)) (fc (iS K) (fq 1) (fq 0))) d_))))))
   fH)
   (c_ (fS (fG iE (fc fB (fq 0) b_) fW (fO _))
   (fh (fF (fK T.zF AL hr fM (a_ (fq 3) (a_ (fK T.wo xM hr fM (a_ (fq 3) d_)) d_)))))
   fH)
   (fh (fF (fK T.wo xM hr fM (a_ (fq 3) d_)))))))))),?_⟩
  walk_at "rs";have Z7:=hF;obtain⟨af,eF,alF⟩:=hF;generalize Lk:(λ (i p:Nat)=>(p:Int)∈(F[i]?).getD [])=fit at k
  have Ń:∀i p,fit i p->p<n:=by
   rw [<-Lk];intro i p h
   cases q:F[i]? with
   | none=>
    have h:(p:Int)∈(F[i]?).getD []:=h;rw [q] at h
    cases h
   | some l=>
    have h:(p:Int)∈(F[i]?).getD []:=h;rw [q] at h;have:=rg l (aq q) _ h;exact Yv this.2
  have E4:∀(s:Sh) (a b:Nat),a<=n->kS fit s a b->a<=b/\b<=n:=λ s a b ha h=>⟨h.le,h.most Ń ha⟩
  have nm:∀kd∈vx++ones,¬V.str (tx kd)=V.str (tx [109,97,114,107]):=by
   intro kd hk q;have q:kd=qR:=iA.mp (by injection q);subst q;revert hk
   decide
  have cnt:((n:Int)+1).toNat=n+1:=by exact rfl
  cases hs with
  | @mark _ i e=>
   have il:i<F.length:=lv i (by simp [Sh.leaves]);have ĵ:F[i]? = some F[i]:=by simp
   obtain⟨fi,Sa,VW⟩:=alF.at ĵ
   have Ŋ:∀p:Nat,fit i p↔(p:Int)∈F[i]:=λ p=>by
    rw [<-Lk];show (p:Int)∈(F[i]?).getD []↔_;rw [ĵ];rfl
   generalize F[i]=l0 at ĵ VW Ŋ;refine fk λ N hN=> ?_;walk_at "rd";refine fu e rfl ⟨rfl,jf rfl ⟨_,rfl,_,_,rfl,rfl,_,rfl,by lia,by lia,jE (iQ (n:=((n:Int)+1).toNat)) (λ H2 (c:Nat) p=>∃l:List Int,H2 p=some (.lst (l.map V.int))/\(l.Pairwise (· < ·)/\∀z:Int,z∈l↔∃b:Nat,z=(b:Int)/\kS fit (.mark i) c b)) (λ H2 c p ⟨l,e,_⟩ z=>by rw [e] at z;cases z) (λ c p H2 H3 s ⟨l,e,r⟩=>⟨l,s _ _ e,r⟩) (f_ (by rw [aJ];exact Qak Gu)) (λ c H5 Q2 hc s5 h=> ?_) (λ H2 c p D o n ⟨l,e,r⟩=>⟨l,(fo n).trans e,r⟩) λ D H5 bs hD s5 d5 Bd _ _=> ?_⟩⟩
   .walk_at "rd";refine⟨by decide,λ p1 Pp=> ?_⟩;have n6:=fw.new (o:=.lst [V.int (0+(c:Int)+1)]) Pp;have p6:upd H5 p1 (.lst [V.int (0+(c:Int)+1)]) p1=some (.lst ([(0+(c:Int)+1)].map V.int)):=e_;generalize upd H5 p1 (.lst [V.int (0+(c:Int)+1)])=H6 at n6 p6;have SS:=s5.trans n6;refine fu (SS _ _ e) rfl (fN (SS _ _ eF) (v:=.ref fi) (gx Yt (by rw [ak,au,Sa];rfl)) ⟨gu (gg.of (SS _ _ VW)),fi,rfl,_,SS _ _ VW,rfl,BU l0,p1,_,rfl,gg.of p6,λ p2 QP=> ?_⟩);rw [Ij,D_ _ _ Yt,au];refine h p2 _ (n6.free QP) (n6.trans (fw.new QP)) ⟨_,e_,?_,λ z=> ?_⟩
    .exact(cH _ _).sublist (eJ _ _)
    .have cc:0+(c:Int)=(c:Int):=by exact Yw
     rw [cc];by_cases hm:(c:Int)∈l0
     .have:1<=l0.count (c:Int):=List.count_pos_iff.mpr hm;rw [dI (by simpa using this),aj];constructor
      .exact λ q=>⟨c+1,by rw [q];exact rfl,we.mpr ⟨(Ŋ c).mpr hm,rfl⟩⟩
      .rintro⟨b,rfl,hb⟩;have:=(we.mp hb).2;lia
     .rw [List.count_eq_zero.mpr hm,List.take_zero];constructor
      .exact λ q=>(nomatch q)
      .rintro⟨b,rfl,hb⟩;exact absurd ((Ŋ c).mp (we.mp hb).1) hm
   .rw [cnt] at Bd;obtain⟨rows,h1,h2⟩:=Dc d5 Bd (E4 _);exact k D H5 rows hD s5 h1 h2
  | @two _ l r kd x y e hk hl t9=>
   have dd:x.deep<=d/\y.deep<=d:=by
    simp only [Sh.deep] at hd;exact Qaa hd
   refine fk λ N hN=> ?_;refine jY λ A B hA hB=> ?_;walk_at "rd";refine fu e gW ⟨rfl,gy (nm kd (aN _ hk)) (hB _ _ (hN _ _ ?_))⟩;clear hA hB A B hN N;refine fk λ N hN=> ?_;walk_at "rd";refine fu e rfl ⟨l,fl,n,x,F,rfl,hl,dd.1,Z7,λ i hi=>lv i (aN _ hi),rg,jr,Gu,λ q1 H1 lh Uo s1 r1 Ks=>hN _ _ ?_⟩;rw [Lk] at Ks;have e1:=s1 _ _ e;simp only [vx,av,bb,or_false] at hk;rcases hk with rfl|rfl
   .refine fk λ N hN=> ?_;walk_at "rd";refine fu e1 rfl ⟨rfl,jf rfl (fu e1 rfl ⟨r,fl,n,y,F,rfl,t9.same s1,dd.2,Z7.same s1,λ i hi=>lv i (aD _ hi),rg,jr,Gu,λ q2 H2 ko Um s2 r2 MB=> ?_⟩)⟩;rw [Lk] at MB;exact⟨q1,q2,lh,ko,_,_,n,rfl,r1.same s2,Ks,r2,MB,Gu,λ q3 H3 ot R_ s3 r3 Û=>k q3 H3 ot ((s1.trans s2).free R_) ((s1.trans s2).trans s3) r3 (Û.iff λ a c=>MQ.symm)⟩
   .refine fk λ N hN=> ?_;walk_at "rd";refine fu e1 rfl ⟨rfl,gy (by decide) (hN _ _ ?_)⟩;refine fk λ N hN=> ?_;walk_at "rd";refine fu e1 rfl ⟨rfl,jf rfl (fu e1 rfl ⟨r,fl,n,y,F,rfl,t9.same s1,dd.2,Z7.same s1,λ i hi=>lv i (aD _ hi),rg,jr,Gu,λ q2 H2 ko Um s2 r2 MB=> ?_⟩)⟩;rw [Lk] at MB;obtain⟨a1,g1,w1⟩:=r1.same s2;obtain⟨a2,g2,w2⟩:=r2;have T1:=Ks.len;have ln2:=MB.len;refine⟨_,rfl,_,_,rfl,rfl,_,rfl,by lia,by lia,jE (iQ (n:=((n:Int)+1).toNat)) (λ H2 (c:Nat) p=>∃l:List Int,H2 p=some (.lst (l.map V.int))/\(l.Pairwise (· < ·)/\∀z:Int,z∈l↔∃b:Nat,z=(b:Int)/\kS fit (.two tU x y) c b)) (λ H2 c p ⟨l,e,_⟩ z=>by rw [e] at z;cases z) (λ c p H2 H3 s ⟨l,e,r⟩=>⟨l,s _ _ e,r⟩) (f_ (by rw [aJ];exact Qak Gu)) (λ c H5 Q2 hc s5 h=> ?_) (λ H2 c p D o n ⟨l,e,r⟩=>⟨l,(fo n).trans e,r⟩) λ D H5 bs hD s5 d5 Bd _ _=> ?_⟩
    .have cn:c<=n:=by
      have:=aV.mp hc;exact Zs (Za this (Ze cnt))
     have h1:lh[c]? = some (lh[c]'(Zb cn (Zg T1))):=by simp
     have h2:ko[c]? = some (ko[c]'(Zb cn (Zg ln2))):=by simp
     obtain⟨x1,rZ,Ra⟩:=w1.at h1;obtain⟨x2,sV,JQ⟩:=w2.at h2;obtain⟨b1,c1⟩:=Ks.row h1;obtain⟨b2,c2⟩:=MB.row h2;have m1:=Ks.mem c _ h1;have m2:=MB.mem c _ h2;generalize lh[c]'(Zb cn (Zg T1))=l1 at h1 Ra b1 c1 m1;generalize ko[c]'(Zb cn (Zg ln2))=l2 at h2 JQ b2 c2 m2;walk_at "rd";refine fN (s5 _ _ g1) (v:=.ref x1) (gx Qaf (by rw [ak,show (0+(c:Int)).toNat=c from Nat.add_comm _ _,rZ];rfl)) (fN (s5 _ _ g2) (v:=.ref x2) (gx Qaf (by rw [ak,show (0+(c:Int)).toNat=c from Nat.add_comm _ _,sV];rfl)) ⟨x1,rfl,x2,rfl,_,s5 _ _ Ra,_,s5 _ _ JQ,f_ (by rw [ae,ae];lia),λ p hp=> ?_⟩);rw [<-ax];have n6:=fw.new (o:=.lst ((l1++l2).map V.int)) hp;refine⟨_,gg.of e_,by rw [ao];lia,yq Gu (λ z hz=> ?_),λ g out hg up mem=>h g _ (n6.free hg) (n6.trans (fw.new hg)) ⟨out,e_,up,λ z=> ?_⟩⟩
     .rcases aA.mp hz with q|q
      .have:=b1 z q;exact Qal this
      .have:=b2 z q;exact Qal this
     .rw [mem z,aA,m1,m2];constructor
      .rintro(⟨b,e,q⟩ | ⟨b,e,q⟩)
       .exact⟨b,e,.left q⟩
       .exact⟨b,e,.right q⟩
      .rintro⟨b,e,q⟩;rcases QB.mp q with q|q
       .exact .inl ⟨b,e,q⟩
       .exact .inr ⟨b,e,q⟩
    .rw [cnt] at Bd;obtain⟨rows,h1,h2⟩:=Dc d5 Bd (E4 _);exact k D H5 rows ((s1.trans s2).free hD) ((s1.trans s2).trans s5) h1 h2
  | @one _ j kd x e hk hi=>
   have dd:x.deep<=d:=cO hd
   have nk:∀z∈[j5,tU],¬V.str (tx kd)=V.str (tx z):=by
    intro z hz q;have q:kd=z:=iA.mp (by injection q);subst q;revert hk hz;simp only [ones,av,bb,or_false];rintro(rfl|rfl|rfl)<;>decide
   refine fk λ N hN=> ?_;refine jY λ A B hA hB=> ?_;walk_at "rd";refine fu e gW ⟨rfl,gy (nm kd (aD _ hk)) (hB _ _ (hN _ _ ?_))⟩;clear hA hB A B hN N;refine fk λ N hN=> ?_;walk_at "rd";refine fu e rfl ⟨j,fl,n,x,F,rfl,hi,dd,Z7,lv,rg,jr,Gu,λ q1 H1 lh Uo s1 r1 Ks=>hN _ _ ?_⟩;rw [Lk] at Ks;have e1:=s1 _ _ e;refine fk λ N hN=> ?_;refine jY λ A B hA hB=> ?_;walk_at "rd";refine fu e1 gW ⟨rfl,gy (nk _ (by simp [j5])) (hB _ _ (hN _ _ ?_))⟩;clear hA hB A B hN N;refine fk λ N hN=> ?_;refine jY λ A B hA hB=> ?_;walk_at "rd";refine fu e1 gW ⟨rfl,gy (nk _ (by simp [tU])) (hB _ _ (hN _ _ ?_))⟩;clear hA hB A B hN N;simp only [ones,av,bb,or_false] at hk;have T1:=Ks.len;refine fk λ N hN=> ?_;walk_at "rd";by_cases ģ:kd=jy
   .subst ģ;refine fu e1 rfl ⟨rfl,jf rfl ?_⟩;obtain⟨a1,g1,w1⟩:=r1;refine⟨_,rfl,_,_,rfl,rfl,_,rfl,by lia,by lia,jE (iQ (n:=((n:Int)+1).toNat)) (λ H2 (c:Nat) p=>∃l:List Int,H2 p=some (.lst (l.map V.int))/\(l.Pairwise (· < ·)/\∀z:Int,z∈l↔∃b:Nat,z=(b:Int)/\kS fit (.one jy x) c b)) (λ H2 c p ⟨l,e,_⟩ z=>by rw [e] at z;cases z) (λ c p H2 H3 s ⟨l,e,r⟩=>⟨l,s _ _ e,r⟩) (f_ (by rw [aJ];exact Qak Gu)) (λ c H5 Q2 hc s5 h=> ?_) (λ H2 c p D o n ⟨l,e,r⟩=>⟨l,(fo n).trans e,r⟩) λ D H5 bs hD s5 d5 Bd _ _=> ?_⟩
    .have cn:c<=n:=by
      have:=aV.mp hc;exact Zs (Za this (Ze cnt))
     have h1:lh[c]? = some (lh[c]'(Zb cn (Zg T1))):=by simp
     obtain⟨x1,rZ,Ra⟩:=w1.at h1;obtain⟨b1,c1⟩:=Ks.row h1;have m1:=Ks.mem c _ h1;generalize lh[c]'(Zb cn (Zg T1))=l1 at h1 Ra b1 c1 m1;have cc:0+(c:Int)=(c:Int):=by exact Yw
     walk_at "rd";rw [cc];refine⟨by decide,λ p hp=> ?_⟩;have n6:=fw.new (o:=.lst [V.int (c:Int)]) hp;have p6:upd H5 p (.lst [V.int (c:Int)]) p=some (.lst ([(c:Int)].map V.int)):=e_;generalize upd H5 p (.lst [V.int (c:Int)])=H6 at n6 p6;have P8:=s5.trans n6;refine fN (P8 _ _ g1) (v:=.ref x1) (gx Yt (by rw [ak,au,rZ];rfl)) ⟨x1,rfl,_,p6,_,P8 _ _ Ra,f_ (by rw [ae,ae,bg];lia),λ p7 hp7=> ?_⟩;rw [<-ax];have n7:=fw.new (o:=.lst (([(c:Int)]++l1).map V.int)) hp7;refine⟨_,gg.of e_,by rw [ao,bg];lia,yq Gu (λ z hz=> ?_),λ g out hg up mem=>h g _ ((n6.trans n7).free hg) ((n6.trans n7).trans (fw.new hg)) ⟨out,e_,up,λ z=> ?_⟩⟩
     .rcases aA.mp hz with q|q
      .rw [aj.mp q];lia
      .have:=b1 z q;exact Qal this
     .rw [mem z,aA,m1,aj];constructor
      .rintro(q | ⟨b,e,q⟩)
       .exact⟨c,q,.no⟩
       .exact⟨b,e,.yes q⟩
      .rintro⟨b,e,q⟩;rcases Hz.mp q with q|q
       .exact .inl (by rw [e,q])
       .exact .inr ⟨b,e,q⟩
    .rw [cnt] at Bd;obtain⟨rows,h1,h2⟩:=Dc d5 Bd (E4 _);exact k D H5 rows (s1.free hD) (s1.trans s5) h1 h2
   .refine fu e1 gW ⟨rfl,gy (λ q=>ģ (iA.mp (by injection q))) (hN _ _ ?_)⟩;have star:∀a c,kS fit (.one ju x) a c↔c=a\/∃b,a<b/\kS fit x a b/\kS fit (.one ju x) b c:=λ a c=>K3;refine fk λ N hN=> ?_;walk_at "rd";by_cases χ:kd=lZ
    .subst χ;refine fu e1 rfl ⟨rfl,jf rfl ⟨q1,lh,_,_,n,rfl,r1,Ks,Gu,star,E4 _,λ q2 H2 ko Um s2 r2 MB=> ?_⟩⟩;exact⟨q1,q2,lh,ko,_,_,n,rfl,r1.same s2,Ks,r2,MB,Gu,λ q3 H3 ot R_ s3 r3 Û=>k q3 H3 ot ((s1.trans s2).free R_) ((s1.trans s2).trans s3) r3 (Û.iff λ a c=>Kt.symm)⟩
    .have hkn:kd=ju:=by
      rcases hk with z|z|z
      .exact z
      .exact absurd z χ
      .exact absurd z ģ
     subst hkn;refine fu e1 rfl ⟨rfl,gy (by decide) (hN _ _ ?_)⟩;walk_at "rd";exact⟨q1,lh,_,_,n,rfl,r1,Ks,Gu,star,E4 _,λ q2 H2 ko Um s2 r2 MB=>k q2 H2 ko (s1.free Um) (s1.trans s2) r2 MB⟩
theorem Ha (T:Txt K mg t):fX P w K mg base (ij P w) (2+40) t.wI t.wB ["shape","fitted","size"] (oX 40):=Fc T 40
theorem tK:fI ["far","made","a"] ["far"] (fC vJ):=by walk_at "sc"
theorem G' (T:Txt K mg t):fX P w K mg base (ij P w) 1 t.CC t.B2 ["far"] (yK):=by
 refine T.DI.fn.okN tK (λ iw A outer s H vs Q E hr h=> ?_)
 .obtain⟨q,n,W,rows,rfl,hr,WV,mX,k⟩:=h
  refine⟨_,Bx.un (c_ (kz (i:=1) tK.nd rfl (by walk_at "o") rfl (N:= ["row"]) (fr:= []) (qp.of (by kernel_rfl)) (gq (fq 0)) (λ _ _ _ _ _=>gB)
    (λ _ _ _ _ _=>(iK (nS K) (by rfl) T.mO bC (a_ (fq 0) d_))))
   (c_ (gX PassesOwn.never rfl (gJ rfl T.iB (a_ (fJ fQ (by rfl) T.iG PySem.boot_len (a_ (fq 1) d_)) d_)) (gn 2 tK.nd)
   (fh (sf b_ (su (fc fP (fq 1) (fq 2)) (fq 2) set_list))))
   (fh (fF (fq 1))))),?_⟩
  walk_at "rs";obtain⟨ar,er,al⟩:=hr;have la:=al.len;have sq:=mX.1;have ln:=sq.1;refine fk λ N hN=> ?_;refine⟨_,rfl,q,rfl,⟨_,gg.of er⟩,jE (cs:=ar.zip rows) (g:=λ c=>V.ref c.1) (gT (by rw [rL la];exact gg.of er)) (λ H2 c p=>H2 p=some (.lst (c.2.map V.int))) (λ H2 c p e z=>by rw [e] at z;cases z) (λ c p H2 H3 s e=>s _ _ e) (f_ (by rw [b9];exact QaM ln WV)) (λ c H2 Q2 hc s2 h=> ?_) (λ H2 c p D o n e=>(fo n).trans e) λ kp H1 ks Pq s1 d1 Sn VF Ds=>hN _ _ ?_⟩
  .have ec:=al.zip c hc;walk_at "rd";exact⟨_,.inl (gg.of (s2 _ _ ec)),λ l hl=>h l _ hl (fw.new hl) e_⟩
  walk_at "rg";have ow:=nV.of la d1 Sn VF Ds Pq;have lk:ks.length=n:=by rw [ow.all.len,ln]
  have VZ:∀{L:List ac} {j:Nat} {y:ac},L[j]? = some y->vq (L.map V.ref) (j:Int)=some (.ref y):=λ {L j y} h=>gx Yt (by rw [ak,au,h];rfl);have È:∀{L:List Int} {j:Nat} {y:Int},L[j]? = some y->vq (L.map V.int) (j:Int)=some (.int y):=λ {L j y} h=>gx Yt (by rw [ak,au,h];rfl);refine fk λ N hN=> ?_
  refine⟨_,rfl,kp,_,rfl,.inl (gg.of ow.at_),_,rfl,by lia,by rw [ae];lia,j7 (λ i σ H2=>∃(v:Option V) (gj:List (List Int)),σ = [some (.ref q),some (.ref kp),v]/\fw H H2/\nV H H2 kp ks gj/\Sq n gj/\∀a b,qv gj a b=if a=b/\a<i/\a<n then 0 else qv rows a b)
   ⟨none,rows,rfl,s1,ow,sq,λ a b=>by rw [if_neg (by lia)]⟩ ?_ ?_⟩
  .rintro i σ H2 hi ⟨v,gj,rfl,s2,o2,q2,c2⟩;rw [ae,au,lk] at hi;clear hN;obtain⟨l,hl,ll⟩:=q2.row hi;obtain⟨x,hx,ex⟩:=o2.get hl;walk_at "rg";walk_at "rd";rw [show (0:Int)+(i:Int)=(i:Int) from Yw];refine fN o2.at_ (VZ hx) ⟨x,rfl,_,ex,_,rY Yt (by rw [ae];exact Yp (Za hi (Zg ll))),?_⟩;rw [au];rw [show (l.map V.int).set i (V.int 0)=(l.set i 0).map V.int from di.symm];refine⟨s2.gh (o2.new x (aq hx)).2,gj.set i (l.set i 0),o2.put hx,q2.put hl,λ a b=> ?_⟩;rw [Ea q2 hl hi,c2];by_cases h1:a=i/\b=i
   .rw [if_pos h1,if_pos (by lia)]
   .rw [if_neg h1];by_cases h2:a=b/\a<i/\a<n
    .rw [if_pos h2,if_pos (by lia)]
    .rw [if_neg h2,if_neg (by lia)]
  .rintro σ H2 ⟨v,gj,rfl,s2,o2,q2,c2⟩;refine hN _ _ ?_;walk_at "rd";rw [ae,au,lk] at c2
   exact k kp H2 gj Pq s2 o2.rows (mX.Mx q2 λ a b ha hb=>by
    rw [c2];by_cases e:a=b
    .rw [if_pos ⟨e,ha,ha⟩,if_pos e]
    .rw [if_neg (λ z=>e z.1),if_neg e])
theorem me:fI ["far","made","m","a","b"] ["far"] (fC vQ):=by walk_at "sc"
theorem Hg (T:Txt K mg t):fX P w K mg base (ij P w) 1 t.CJ t.Cc ["far"] (yP):=by
 refine T.DK.fn.okN me (λ iw A outer s H vs Q E hr h=> ?_)
 .obtain⟨q,n,W,rows,rfl,hr,WV,mX,k⟩:=h
  refine⟨_,Bx.un (c_ (kz (i:=1) me.nd rfl (by walk_at "o") rfl (N:= ["row"]) (fr:= []) (qp.of (by kernel_rfl)) (gq (fq 0)) (λ _ _ _ _ _=>gB)
    (λ _ _ _ _ _=>(iK (nS K) (by rfl) T.mO bC (a_ (fq 0) d_))))
   (c_ (gX PassesOwn.never rfl (gJ rfl T.iB (a_ (fJ fQ (by rfl) T.iG PySem.boot_len (a_ (fq 1) d_)) d_)) (gn 2 me.nd)
   (fh (gX PassesOwn.never rfl (gJ rfl T.iB (a_ (fJ fQ (by rfl) T.iG PySem.boot_len (a_ (fq 1) d_)) d_)) (gn 3 me.nd)
   (fh (gX PassesOwn.never rfl (gJ rfl T.iB (a_ (fJ fQ (by rfl) T.iG PySem.boot_len (a_ (fq 1) d_)) d_)) (gn 4 me.nd)
   (fh (sf (fJ (wC rfl) (by rfl) T.J5 cR (a_ (fc fP (fc fP (fq 1) (fq 3)) (fq 4)) (a_ (fE iN (fc fP (fc fP (fq 1) (fq 3)) (fq 2)) (fc fP (fc fP (fq 1) (fq 2)) (fq 4))) d_))) (su (fc fP (fq 1) (fq 3)) (fq 4) set_list))))))))
   (fh (fF (fq 1))))),?_⟩
  walk_at "rs";obtain⟨ar,er,al⟩:=hr;have la:=al.len;have sq:=mX.1;have ln:=sq.1;refine fk λ N hN=> ?_;refine⟨_,rfl,q,rfl,⟨_,gg.of er⟩,jE (cs:=ar.zip rows) (g:=λ c=>V.ref c.1) (gT (by rw [rL la];exact gg.of er)) (λ H2 c p=>H2 p=some (.lst (c.2.map V.int))) (λ H2 c p e z=>by rw [e] at z;cases z) (λ c p H2 H3 s e=>s _ _ e) (f_ (by rw [b9];exact QaM ln WV)) (λ c H2 Q2 hc s2 h=> ?_) (λ H2 c p D o n e=>(fo n).trans e) λ kp H1 ks Pq s1 d1 Sn VF Ds=>hN _ _ ?_⟩
  .have ec:=al.zip c hc;walk_at "rd";exact⟨_,.inl (gg.of (s2 _ _ ec)),λ l hl=>h l _ hl (fw.new hl) e_⟩
  walk_at "rg";have ow:=nV.of la d1 Sn VF Ds Pq;have lk:ks.length=n:=by rw [ow.all.len,ln]
  have VZ:∀{L:List ac} {j:Nat} {y:ac},L[j]? = some y->vq (L.map V.ref) (j:Int)=some (.ref y):=λ {L j y} h=>gx Yt (by rw [ak,au,h];rfl);have È:∀{L:List Int} {j:Nat} {y:Int},L[j]? = some y->vq (L.map V.int) (j:Int)=some (.int y):=λ {L j y} h=>gx Yt (by rw [ak,au,h];rfl);have ņ:∀a b,a<n->b<n->sF W n 0 a b (qv rows a b):=λ a b ha hb=>(mX.2 a b ha hb).half;refine fk λ N hN=> ?_
  refine⟨_,rfl,kp,_,rfl,.inl (gg.of ow.at_),_,rfl,by lia,by rw [ae];lia,j7 (λ m σ H2=>∃(v2 v3 v4:Option V) (gj:List (List Int)),σ = [some (.ref q),some (.ref kp),v2,v3,v4]/\fw H H2/\nV H H2 kp ks gj/\Sq n gj/\∀a b,a<n->b<n->sF W n m a b (qv gj a b))
   ⟨none,none,none,rows,rfl,s1,ow,sq,ņ⟩ ?_ ?_⟩
  .rintro m σ H2 hm ⟨v2,v3,v4,ko,rfl,s2,o2,q2,c2⟩;rw [ae,au,lk] at hm;clear hN;walk_at "rg"
   refine⟨_,rfl,kp,_,rfl,.inl (gg.of o2.at_),_,rfl,by lia,by rw [ae];lia,j7 (λ a σ H3=>∃(v3 v4:Option V) (gj:List (List Int)),σ = [some (.ref q),some (.ref kp),some (.int (m:Int)),v3,v4]/\fw H H3/\nV H H3 kp ks gj/\Sq n gj/\∀a' b,a'<n->b<n->sF W n (if a'<a then m+1 else m) a' b (qv gj a' b))
    ⟨v3,v4,ko,by rw [show (0:Int)+(m:Int)=(m:Int) from Yw],s2,o2,q2,λ a' b ha hb=>by rw [if_neg (Zx (Nat.zero_le _))];exact c2 a' b ha hb⟩ ?_ ?_⟩
   .rintro a σ H3 ha ⟨v3,v4,ot,rfl,s3,o3,q3,c3⟩;rw [ae,au,lk] at ha;walk_at "rg"
    refine⟨_,rfl,kp,_,rfl,.inl (gg.of o3.at_),_,rfl,by lia,by rw [ae];lia,j7 (λ b σ H4=>∃(v4:Option V) (gj:List (List Int)),σ = [some (.ref q),some (.ref kp),some (.int (m:Int)),some (.int (a:Int)),v4]/\fw H H4/\nV H H4 kp ks gj/\Sq n gj/\∀a' b',a'<n->b'<n->sF W n (if a'<a\/a'=a/\b'<b then m+1 else m) a' b' (qv gj a' b'))
     ⟨v4,ot,by rw [show (0:Int)+(a:Int)=(a:Int) from Yw],s3,o3,q3,λ a' b' QW yp=> ?_⟩ ?_ ?_⟩
    .have:=c3 a' b' QW yp;by_cases h1:a'<a
     .rw [if_pos h1] at this
      rwa [if_pos (by lia)]
     .rw [if_neg h1] at this
      rwa [if_neg (by lia)]
    .rintro b σ H4 hb ⟨v4,uI,rfl,s4,o4,q4,c4⟩;rw [ae,au,lk] at hb;obtain⟨la,Li,lla⟩:=q4.row ha;obtain⟨xa,Po,Lu⟩:=o4.get Li;obtain⟨lm,QR,llm⟩:=q4.row hm;obtain⟨xm,hxm,exm⟩:=o4.get QR
     have low:∀{a' b':Nat},a'<n->b'<n->sF W n m a' b' (qv uI a' b'):=λ {a' b'} h1 h2=>by
      have:=c4 a' b' h1 h2;by_cases c:a'<a\/a'=a/\b'<b
      .rw [if_pos c] at this;exact this.low
      .rw [if_neg c] at this;exact this
     have new:=(low ha hb).put hm (low ha hm) (low hm hb);walk_at "rg";walk_at "rd";rw [show (0:Int)+(b:Int)=(b:Int) from Yw];refine fN o4.at_ (VZ Po) (fN Lu (È (q4.at Li hb)) (fN o4.at_ (VZ Po) (fN Lu (È (q4.at Li hm)) (fN o4.at_ (VZ hxm) (fN exm (È (q4.at QR hb)) ?_)))));refine⟨_,rfl,_,rfl,_,rfl,fN o4.at_ (VZ Po) ⟨xa,rfl,_,Lu,_,rY Yt (by rw [ae];exact Yp (Za hb (Zg lla))),?_⟩⟩;rw [au,NI];generalize hz:min (qv uI a b) (qv uI a m+qv uI m b)=z at new;rw [show (la.map V.int).set b (V.int z)=(la.set b z).map V.int from di.symm];refine⟨s4.gh (o4.new xa (aq Po)).2,uI.set a (la.set b z),o4.put Po,q4.put Li,λ a' b' QW yp=> ?_⟩;rw [Ea q4 Li hb];by_cases h1:a'=a/\b'=b
     .rwa [if_pos h1,if_pos (by lia),h1.1,h1.2]
     .rw [if_neg h1];have:=c4 a' b' QW yp;by_cases h2:a'<a\/a'=a/\b'<b
      .rw [if_pos h2] at this
       rwa [if_pos (by lia)]
      .rw [if_neg h2] at this
       rwa [if_neg (by lia)]
    .rintro σ H4 ⟨v4,uI,rfl,s4,o4,q4,c4⟩;rw [ae,au,lk] at c4;refine⟨_,_,uI,rfl,s4,o4,q4,λ a' b' QW yp=> ?_⟩;have:=c4 a' b' QW yp;by_cases h1:a'<a+1
     .rw [if_pos (by lia)] at this
      rwa [if_pos h1]
     .rw [if_neg (by lia)] at this
      rwa [if_neg h1]
   .rintro σ H3 ⟨v3,v4,ot,rfl,s3,o3,q3,c3⟩;rw [ae,au,lk] at c3;refine⟨_,_,_,ot,rfl,s3,o3,q3,λ a' b' QW yp=> ?_⟩;have:=c3 a' b' QW yp;rw [if_pos QW] at this;exact this
  .rintro σ H2 ⟨v2,v3,v4,ko,rfl,s2,o2,q2,c2⟩;refine hN _ _ ?_;walk_at "rd";rw [ae,au,lk] at c2;exact k kp H2 ko Pq s2 o2.rows ⟨q2,λ a b ha hb=>(c2 a b ha hb).all⟩
theorem GQ:fI ["row","right","b"] ["row","right","b"] (fC vN):=by walk_at "sc"
theorem Hd (T:Txt K mg t):fX P w K mg base (ij P w) 1 t.CG t.B' ["row","right","b"] (yN):=by
 refine T.JA.fn.okN GQ (λ iw A outer s H vs Q E hr h=> ?_)
 .obtain⟨x,q,b,n,row,rows,rfl,hx,hq,sq,lr,bn,WV,k⟩:=h
  refine⟨_,Bx.un (fh (fF (fJ (LA K rfl) (by rfl) T.J5 cR (a_ (fE mD (gi (a_ b_ d_)) (iV rfl (N:= ["m","row","b","right"]) (fr:= [0,2,1]) (qp.of (by kernel_rfl)) (gJ rfl T.iB (a_ (fJ fQ (by rfl) T.iG PySem.boot_len (a_ (fq 0) d_)) d_)) (λ _ _ _ _ _=>gB)
    (λ _ _ _ _ _=>(fE iN (fc (iS K) (fq 1) (fq 0)) (fc (iS K) (fc (iS K) (fq 3) (fq 0)) (fq 2)))))) d_)))),?_⟩
  walk_at "rs";obtain⟨ar,er,al⟩:=hq;have ln:=sq.1;have la:=al.len;walk_at "rd";refine⟨by decide,λ p1 Pp=> ?_⟩;have n1:=fw.new (o:=.lst [V.int 1000000]) Pp;have e1:upd H p1 (.lst [V.int 1000000]) p1=some (.lst ([(1000000:Int)].map V.int)):=e_;generalize upd H p1 (.lst [V.int 1000000])=H1 at n1 e1;refine⟨_,rfl,x,rfl,_,.inl (gg.of (n1 _ _ hx)),_,rfl,by lia,by rw [ae];lia,comp_map (cs:=List.range (((row.map V.int).length:Nat):Int).toNat) (g:=λ (c:Nat)=>V.int (0+(c:Int))) (iQ (n:=(((row.map V.int).length:Nat):Int).toNat)) (λ (m:Nat)=>V.int (row.getD m 0+qv rows m b)) (f_ (by rw [aJ,ae];lia)) (λ m H2 Q2 hm s2 h=> ?_) λ D H2 hD s2 d2=> ?_⟩
  .have hm:m<n:=by
    have:=aV.mp hm;rw [ae] at this;lia
   obtain⟨l,hl,ll⟩:=sq.row hm;obtain⟨y,hy,ey⟩:=al.at hl;have A3:=n1.trans s2
   have hrm:row[m]? = some (row.getD m 0):=by
    rw [bW];have:row[m]? = some (row[m]'(Za hm (Zg lr))):=by simp
    rw [this];rfl
   walk_at "rd";rw [show (0:Int)+(m:Int)=(m:Int) from Yw];refine fN (A3 _ _ hx) (v:=.int (row.getD m 0)) (gx Yt (by rw [ak,au,hrm];rfl)) (fN (A3 _ _ er) (v:=.ref y) (gx Yt (by rw [ak,au,hy];rfl)) (fN (A3 _ _ ey) (v:=.int (qv rows m b)) (gx Yt (by rw [ak,au,sq.at hl bn];rfl)) ⟨_,rfl,_,rfl,h _ (fw.refl _)⟩))
  refine⟨D,rfl,_,s2 _ _ e1,_,d2,f_ (by rw [ae,ae,aJ,ae];simp;lia),λ p2 QP=> ?_⟩;rw [ae,au,lr]
  have e2:List.map V.int [(1000000:Int)]++(List.range n).map (λ (m:Nat)=>V.int (row.getD m 0+qv rows m b))=((1000000:Int)::(List.range n).map (λ (m:Nat)=>row.getD m 0+qv rows m b)).map V.int:=by
   simp only [aB,aR,bz];rfl
  rw [e2];refine⟨_,gg.of e_,by simp,λ e he le=>k e _ ((n1.trans s2).trans (fw.new QP)) (le _ (by simp)) (λ m hm=>le _ (ay _ (aC.mpr ⟨m,aV.mpr hm,rfl⟩))) ?_⟩;rcases av.mp he with z|z
  .exact .inl z
  .obtain⟨m,hm,z⟩:=aC.mp z;exact .inr ⟨m,aV.mp hm,z.symm⟩
theorem kh:fI ["mark","things","ties","made","number","tie","turn"] ["mark","things","ties"] (fC qI):=by walk_at "sc"
theorem Dx (T:Txt K mg t):fX P w K mg base (ij P w) 2 t.xF t.xq ["mark","things","ties"] (uB):=by
 have Er:=Fg (P:=P) (w:=w) (base:=base) T;refine T.BK.fn.okN kh (λ iw A outer s H vs Q E hr h=> ?_)
 .obtain⟨mk,lt,pt,m,ts,rs,rfl,hm,wm,iT,nd,Pm,AU,Gs,Pn,AW,k⟩:=h
  refine⟨_,Bx.un (c_ (kz (i:=3) kh.nd rfl (by walk_at "o") rfl (N:= ["a","things"]) (fr:= [1]) (qp.of (by kernel_rfl)) (gq (fq 1)) (λ _ _ _ _ _=>gB)
    (λ _ _ _ _ _=>(iV rfl (N:= ["b"]) (fr:= []) (qp.of (by kernel_rfl)) (wG K (fq 1)) (λ _ _ _ _ _=>gB)
    (λ _ _ _ _ _=>b_))))
   (c_ (OV PassesOwn.never rfl (fq 2) (gn 4 kh.nd)
   (c_ (fD 5 kh.nd (j9 (jO hr) (fq 2) (fq 4)))
   (fh (fS (iu (fK T.l_fit Er hr fM (a_ (fq 0) (a_ (gF (a_ (fc fB (fq 5) b_) (a_ (fc fB (fq 5) b_) (a_ (fc fB (fq 0) b_) d_)))) d_))))
   (c_ (fD 6 kh.nd (iK wD (by rfl) T.J6 cS (a_ (fc fB (fq 0) b_) d_)))
   (fh (sf b_ (su (fc fP (fq 3) (ig aE cF cE uN (fq 1) (a_ (fc fP (gi (a_ (fc fB (fq 5) b_) (a_ (fc fB (fq 5) b_) d_))) (fq 6)) d_))) (ig aE cF cE uN (fq 1) (a_ (fc fP (gi (a_ (fc fB (fq 5) b_) (a_ (fc fB (fq 5) b_) d_))) (fq 6)) d_)) set_list))))
   fH))))
   (fh (fF (fq 3))))),?_⟩
  walk_at "rs"
  have ã:∀(l:List Nm),(l.map λ _=>V.int 1000000)=(l.map λ _=>(1000000:Int)).map V.int:=λ l=>by
   rw [aR];rfl
  refine fk λ N hN=> ?_;refine⟨_,rfl,lt,rfl,⟨_,gg.of iT⟩,jE (cs:=ts) (g:=λ (l:Nm)=>V.str (tx l)) (gT (gg.of iT)) (λ H2 (c:Nm) p=>H2 p=some (.lst ((ts.map λ _=>(1000000:Int)).map V.int))) (λ H2 c p e z=>by rw [e] at z;cases z) (λ c p H2 H3 s e=>s _ _ e) (f_ (Zc Pm (Zd rfl))) (λ c H2 Q2 hc s2 h=> ?_) (λ H2 c p D o n e=>(fo n).trans e) λ kp H1 ks Pq s1 d1 Sn VF Ds=>hN _ _ ?_⟩
  .refine⟨_,rfl,lt,rfl,⟨_,gg.of (s2 _ _ iT)⟩,comp_map (cs:=ts) (g:=λ (l:Nm)=>V.str (tx l)) (gT (gg.of (s2 _ _ iT))) (λ _=>V.int 1000000) (f_ (Zc Pm (Zd rfl))) (λ b H5 Q3 hb s5 h3=>h3 _ (fw.refl _)) λ D2 H5 FI s5 d5=>h D2 H5 FI s5 (by rw [d5,ã])⟩
  walk_at "rg"
  have ow:nV H H1 kp ks (ts.map λ _=>ts.map λ _=>(1000000:Int)):=by
   refine⟨d1,?_,VF,Ds,Pq⟩
   have go:∀{cs:List Nm} {bs:List ac},fR (λ (c:Nm) p=>H1 p=some (.lst ((ts.map λ _=>(1000000:Int)).map V.int))) cs bs->fR (λ y (l:List Int)=>H1 y=some (.lst (l.map V.int))) bs (cs.map λ _=>ts.map λ _=>(1000000:Int)):=by
    intro cs bs h
    induction h with
    | nil=>exact .nil
    | cons r _ ih=>exact .cons r ih
   exact go Sn
  have sq0:Sq ts.length (ts.map λ _=>ts.map λ _=>(1000000:Int)):=⟨by simp,λ l hl=>by
   obtain⟨_,_,rfl⟩:=aC.mp hl;simp⟩
  have c0:∀a b,a<ts.length->b<ts.length->qv (ts.map λ _=>ts.map λ _=>(1000000:Int)) a b=1000000:=λ a b ha hb=>Ik (l:=ts.map λ _=>(1000000:Int)) (by rw [ak,bq ha];rfl) (by rw [ak,bq hb];rfl);have p1:=s1 _ _ AU.at_;have kpt:kp≠pt:=λ z=>by rw [z,AU.at_] at Pq;cases Pq
  have WZ:∀x∈ks,x≠pt:=λ x hx z=>by
   have:=(Ds x hx).2;rw [z,AU.at_] at this
   cases this
  have WG:∀{H2:Hp} {o:HO} {rows:List (List Int)},nV H H2 kp ks rows->nV H (upd H2 pt o) kp ks rows:=λ {H2 o rows} w=>⟨(fo kpt).trans w.at_,w.all.Xa λ x l hx e=>(fo (WZ x hx)).trans e,w.nd,w.new,w.own⟩
  refine fk λ N hN=> ?_
  refine DU (d:=pt) (kvs:=fU rs) (λ R hR=>⟨_,rfl,hR⟩) p1
   (λ j σ H7=>∃(v4 v5 v6:Option V) (gj:List (List Int)),σ = [some (.ref mk),some (.ref lt),some (.ref pt),some (.ref kp),v4,v5,v6]/\(∀b o,b≠pt->H b=some o->H7 b=some o)/\nV H H7 kp ks gj/\Sq ts.length gj/\∀a b,a<ts.length->b<ts.length->nW (λ k a b=>k=1/\zo ts (rs.take j) m a b) a b (qv gj a b)) ?_ ?_ ?_
  .intro ob;refine⟨none,none,none,_,rfl,λ b o hb e=>(fo hb).trans (s1 _ _ e),WG ow,sq0,λ a b ha hb=> ?_⟩;rw [c0 a b ha hb];refine nW.none ?_;rintro k ⟨_,_,_,_,_,_,_,_,h,_⟩
   cases h
  .intro j key σ H7 N R B hk ⟨v4,v5,v6,Jf,e7,s7,o7,q7,f7⟩ rd7 fz7 hN;subst e7;unfold fU at hk;rw [aR,ak] at hk;obtain⟨⟨num,ta,fZ⟩,hx,rfl⟩:=Option.map_eq_some_iff.mp hk;have jt:=aq hx;have tk:=iJ hx;have hv:=yC Gs jt;obtain⟨ob,fz⟩:=fz7;have V9:∀b xs,H b=some (.tup xs)->H7 b=some (.tup xs):=λ b xs h=>s7 _ _ (gA h AU.at_ (λ z=>nomatch z)) h;have rt:=V9 _ _ (AU.iM _ jt);have rm:=V9 _ _ hm;have lt7:=s7 _ _ (λ z=>by rw [z,AU.at_] at iT;cases iT) iT;dsimp only [Function.comp] at hN⊢;walk_at "rg";refine fk λ N2 FH=> ?_;walk_at "rd";refine⟨_,.inl ⟨_,.inl num,rd7,rfl,hv.symm⟩,FH _ _ ?_⟩;clear FH N2;walk_at "rd";refine fu rt rfl (fu rt rfl (fu rm rfl ⟨by decide,λ b6 hb6=> ?_⟩));have n8:=fw.new (o:=.tup [.str (tx fZ.name),.int fZ.weight,.bl m.back]) hb6;have q8:upd H7 b6 (.tup [.str (tx fZ.name),.int fZ.weight,.bl m.back]) b6=some (.tup (Kr ⟨fZ.name,fZ.weight,m.back⟩)):=e_;generalize upd H7 b6 (.tup [.str (tx fZ.name),.int fZ.weight,.bl m.back])=H8 at n8 q8;refine⟨mk,b6,m,_,rfl,n8 _ _ rm,q8,wm,λ H9 s9=> ?_⟩;have SQ:=n8.trans s9;have o9:nV H H9 kp ks Jf:=⟨SQ _ _ o7.at_,o7.all.imp λ x l e=>SQ _ _ e,o7.nd,o7.new,o7.own⟩
   have k9:∀b o,b≠pt->H b=some o->H9 b=some o:=λ b o hb e=>SQ _ _ (s7 b o hb e);have fz9:=SQ _ _ fz;refine⟨_,rfl,fV (λ ft=> ?_) λ ft=> ?_⟩
   rotate_left
   .refine hN _ _ ⟨_,_,_,Jf,rfl,k9,o9,q7,λ a b ha hb=>(f7 a b ha hb).iff λ k=> ?_⟩ (by rwa [fz]);rw [tk];constructor
    .exact λ ⟨e,x,to,nu,h1,h2,ad,ti,h3,h4⟩=>⟨e,x,to,nu,h1,h2,ad,ti,aN _ h3,h4⟩
    .rintro⟨e,x,to,nu,h1,h2,ad,ti,h3,h4,h5⟩;rcases aA.mp h3 with z|z
     .exact⟨e,x,to,nu,h1,h2,ad,ti,z,h4,h5⟩
     .cases aj.mp z;exact absurd h4 ft
   have mF:kI fZ m.back∈ts:=by
    unfold kI
    split
    .exact(AW _ jt).2
    .exact(AW _ jt).1
   have mT:jv fZ m.back∈ts:=by
    unfold jv
    split
    .exact(AW _ jt).1
    .exact(AW _ jt).2
   obtain⟨ia,ĥ,va,ea,na⟩:=DD nd mF;obtain⟨ib,Ĥ,vb,eb,nb⟩:=DD nd mT;have ial:=(ag.mp ĥ).1;have ibl:=(ag.mp Ĥ).1;obtain⟨l0,Uy,ll0⟩:=q7.row ial;obtain⟨x0,Ue,UQ⟩:=o9.get Uy;have ZM:=SQ _ _ lt7;have Y_:=SQ _ _ rt
   have c1:vq [V.str (tx fZ.start),V.str (tx fZ.stop)] (if m.back=true then 1 else 0)=some (V.str (tx (kI fZ m.back))):=by
    unfold kI
    cases m.back<;>rfl
   have c2:vq [V.str (tx fZ.stop),V.str (tx fZ.start)] (if m.back=true then 1 else 0)=some (V.str (tx (jv fZ m.back))):=by
    unfold jv
    cases m.back<;>rfl
   refine fu (SQ _ _ rm) rfl (.inr ⟨m.back,rfl,gu (gg.of ZM),fu Y_ rfl (fu Y_ rfl ⟨by decide,λ l5 Ģ=> ?_⟩)⟩);have n5:=fw.new (o:=.lst [.str (tx fZ.start),.str (tx fZ.stop)]) Ģ;have q5:upd H9 l5 (.lst [.str (tx fZ.start),.str (tx fZ.stop)]) l5=some (.lst [.str (tx fZ.start),.str (tx fZ.stop)]):=e_;generalize upd H9 l5 (.lst [.str (tx fZ.start),.str (tx fZ.stop)])=CO at n5 q5;refine fN q5 c1 ⟨_,n5 _ _ ZM,rfl,t_ ts,ia,_,va,ea,na,fN (n5 _ _ o9.at_) (v:=.ref x0) (gx Yt (by rw [ak,au,Ue];rfl)) ⟨gu (gg.of (n5 _ _ ZM)),fu (n5 _ _ Y_) rfl (fu (n5 _ _ Y_) rfl ⟨by decide,λ l6 ġ=> ?_⟩)⟩⟩;have n6:=fw.new (o:=.lst [.str (tx fZ.stop),.str (tx fZ.start)]) ġ;have q6:upd CO l6 (.lst [.str (tx fZ.stop),.str (tx fZ.start)]) l6=some (.lst [.str (tx fZ.stop),.str (tx fZ.start)]):=e_;generalize upd CO l6 (.lst [.str (tx fZ.stop),.str (tx fZ.start)])=Gj at n6 q6;have Ky:=n5.trans n6;have o11:nV H Gj kp ks Jf:=⟨Ky _ _ o9.at_,o9.all.imp λ x l e=>Ky _ _ e,o9.nd,o9.new,o9.own⟩
   have Ŭ:=aq Ue;refine fN q6 c2 ⟨_,Ky _ _ ZM,rfl,t_ ts,ib,_,vb,eb,nb,x0,rfl,_,Ky _ _ UQ,_,rY Yt (by rw [ae];exact Yp (Za ibl (Zg ll0))),?_⟩;rw [au,show (l0.map V.int).set ib (V.int 1)=(l0.set ib 1).map V.int from di.symm];refine hN _ _ ⟨_,_,_,Jf.set ia (l0.set ib 1),rfl,λ b o hb e=> ?_,o11.put Ue,q7.put Uy,λ a b ha hb=> ?_⟩ ?_
   .rw [fo (λ z=>by rw [z,(Ds x0 Ŭ).2] at e;cases e)];exact Ky _ _ (k9 b o hb e)
   .rw [Ea q7 Uy ibl];by_cases h1:a=ia/\b=ib
    .rw [if_pos h1,h1.1,h1.2,tk];exact⟨by decide,by decide,λ k q=>by rw [q.1];decide,λ _=>⟨rfl,_,_,num,ĥ,Ĥ,ta,fZ,aD _ (by simp),ft,rfl,rfl⟩⟩
    .rw [if_neg h1,tk];refine(f7 a b ha hb).iff λ k=>⟨λ ⟨e,x,to,nu,h1,h2,ad,ti,h3,h4⟩=>⟨e,x,to,nu,h1,h2,ad,ti,aN _ h3,h4⟩,?_⟩
     rintro⟨e,x,to,nu,g1,g2,ad,ti,h3,h4,h5,h6⟩;rcases aA.mp h3 with z|z
     .exact⟨e,x,to,nu,g1,g2,ad,ti,z,h4,h5,h6⟩
     .cases aj.mp z;subst h5;subst h6;exact(h1 ⟨(cx ha nd).mp (g1.trans ĥ.symm),(cx hb nd).mp (g2.trans Ĥ.symm)⟩).elim
   .rw [fo (WZ x0 Ŭ).symm,fz];exact Ky _ _ fz9
  .rintro σ H2 ⟨v4,v5,v6,ko,rfl,s2,o2,q2,f2⟩ fz2;refine hN _ _ ?_;walk_at "rd";rw [show (fU rs).length=rs.length by unfold fU;rw [ae],br] at f2;refine k kp _ ko Pq (λ b o e=> ?_) (WG o2).rows ⟨q2,f2⟩;by_cases hb:b=pt
   .subst hb;rw [AU.at_] at e
    cases e;exact e_
   .exact(fo hb).trans (s2 b o hb e)
theorem oq:fI ["shape","marks","things","ties","inner","many","right"] ["shape","marks","things","ties"] (fC Dk):=by walk_at "sc"
theorem KQ (T:Txt K mg t) (d:Nat):fX P w K mg base (ij P w) (3+d) t.Ei t.DZ ["shape","marks","things","ties"] (uy d):=by
 induction d with
 | zero=>exact T.BJ.fn.okN oq (len:=λ vs H Q E h=>(sN h).elim) (λ iw A outer s H vs Q E hr h=>(sN h).elim)
 | succ d ih=>
 have vk:=ih;have CQ:=(G' (P:=P) (w:=w) (base:=base) T).mono (show 1<=3+d from Zc (Zd rfl) Zk);have Gn:=(Dx (P:=P) (w:=w) (base:=base) T).mono (show 2<=3+d from Zc (Zd rfl) Zk);have CT:=(Hg (P:=P) (w:=w) (base:=base) T).mono (show 1<=3+d from Zc (Zd rfl) Zk);have LQ:=(Hd (P:=P) (w:=w) (base:=base) T).mono (show 1<=3+d from Zc (Zd rfl) Zk);refine T.BJ.fn.okN oq (λ iw A outer s H vs Q E hr h=> ?_)
 .obtain⟨sa,ml,lt,pt,sh,ms,ts,rs,rfl,HQ,hd,FF,HE,iT,nd,Pm,AU,Gs,Pn,AW,k⟩:=h
  refine⟨_,Bx.un (c_ (fS (fG iE (fc fB (fq 0) b_) fW (fO _))
   (fh (fF (fK T.BK Gn hr fM (a_ (fc fP (fq 1) (fc fB (fq 0) b_)) (a_ (fq 2) (a_ (fq 3) d_))))))
   fH)
   (c_ (fD 4 oq.nd (fK T.BJ vk hr fM (a_ (fc fB (fq 0) b_) (a_ (fq 1) (a_ (fq 2) (a_ (fq 3) d_))))))
   (c_ (fD 5 oq.nd (LG rfl (by rfl) T.mO (by rfl) T.iB (a_ (fJ fQ (by rfl) T.iG PySem.boot_len (a_ (fq 2) d_)) d_)))
   (c_ (fS (fG iE (fc fB (fq 0) b_) fW (fO _))
   (c_ (fD 6 oq.nd (fK T.BJ vk hr fM (a_ (fc fB (fq 0) b_) (a_ (fq 1) (a_ (fq 2) (a_ (fq 3) d_))))))
   (fh (fF (Cs rfl (N:= ["a","right","many","inner"]) (fr:= [6,5,4]) (wN.of (by kernel_rfl)) (gq (fq 5)) (λ _ _ _ _ _=>gB)
    (λ _ _ _ _ _=>(iV rfl (N:= ["b","right","inner","a"]) (fr:= [1,3,0]) (qp.of (by kernel_rfl)) (wG K (fq 2)) (λ _ _ _ _ _=>gB)
    (λ _ _ _ _ _=>(fK T.JA LQ hr fM (a_ (fc (iS K) (fq 2) (fq 3)) (a_ (fq 1) (a_ (fq 0) d_)))))))))))
   fH)
   (c_ (fS (fG iE (fc fB (fq 0) b_) fW (fO _))
   (c_ (fD 6 oq.nd (fK T.BJ vk hr fM (a_ (fc fB (fq 0) b_) (a_ (fq 1) (a_ (fq 2) (a_ (fq 3) d_))))))
   (fh (fF (Cs rfl (N:= ["a","many","inner","right"]) (fr:= [5,4,6]) (wN.of (by kernel_rfl)) (gq (fq 5)) (λ _ _ _ _ _=>gB)
    (λ _ _ _ _ _=>(iV rfl (N:= ["b","inner","a","right"]) (fr:= [2,0,3]) (qp.of (by kernel_rfl)) (wG K (fq 1)) (λ _ _ _ _ _=>gB)
    (λ _ _ _ _ _=>(fJ (wC rfl) (by rfl) T.J5 cR (a_ (fc (iS K) (fc (iS K) (fq 1) (fq 2)) (fq 0)) (a_ (fc (iS K) (fc (iS K) (fq 3) (fq 2)) (fq 0)) d_))))))))))
   fH)
   (c_ (fS (fG iE (fc fB (fq 0) b_) fW (fO _))
   (fh (fF (fK T.DI CQ hr fM (a_ (fq 4) d_))))
   fH)
   (c_ (fS (fG iE (fc fB (fq 0) b_) fW (fO _))
   (fh (fF (fK T.DK CT hr fM (a_ (fq 4) d_))))
   fH)
   (fh (fF (fK T.DI CQ hr fM (a_ (fK T.DK CT hr fM (a_ (fq 4) d_)) d_))))))))))),?_⟩
  walk_at "rs"
  have nm:∀kd∈vx++ones,¬V.str (tx kd)=V.str (tx [109,97,114,107]):=by
   intro kd hk q;have q:kd=qR:=iA.mp (by injection q);subst q;revert hk
   decide
  generalize Lh:(λ (i a b:Nat)=>∃m,ms[i]? = some m/\zo ts rs m a b)=one at k
  have G6:∀i a c,one i a c->c<ts.length:=by
   rw [<-Lh];rintro i a c ⟨m,_,k,to,num,_,h,_⟩;exact(ag.mp h).1
  cases HQ with
  | @mark _ i e=>
   have il:i<ms.length:=HE i (by simp [Sh.leaves]);have ZX:ms[i]? = some ms[i]:=by simp
   obtain⟨am,em,Ar⟩:=FF;obtain⟨fi,Sa,VW,ŭ⟩:=Ar.at ZX;generalize ms[i]=m0 at ZX VW ŭ;refine fk λ N hN=> ?_;walk_at "rd";refine fu e rfl ⟨rfl,jf rfl (fu e rfl (fN em (v:=.ref fi) (gx Yt (by rw [ak,au,Sa];rfl)) ⟨fi,lt,pt,m0,ts,rs,rfl,VW,ŭ,iT,nd,Pm,AU,Gs,Pn,AW,λ q H1 rows hq s1 r1 f1=>k q H1 rows hq s1 r1 (f1.iff λ k a b ha=> ?_)⟩))⟩;rw [Ml,<-Lh];constructor
   .exact λ ⟨e,h⟩=>⟨e,m0,ZX,h⟩
   .rintro⟨e,m',VQ,h⟩;rw [ZX] at VQ
    cases VQ;exact⟨e,h⟩
  | @two _ l r kd x y e hk hl t9=>
   have dd:x.deep<=d/\y.deep<=d:=by
    simp only [Sh.deep] at hd;exact Qaa hd
   refine fk λ N hN=> ?_;refine jY λ A B hA hB=> ?_;walk_at "rd";refine fu e gW ⟨rfl,gy (nm kd (aN _ hk)) (hB _ _ (hN _ _ ?_))⟩;clear hA hB A B hN N;refine fk λ N hN=> ?_;walk_at "rd";refine fu e rfl ⟨l,ml,lt,pt,x,ms,ts,rs,rfl,hl,dd.1,FF,λ i hi=>HE i (aN _ hi),iT,nd,Pm,AU,Gs,Pn,AW,λ q1 H1 lh Uo s1 r1 f1=>hN _ _ ?_⟩;rw [Lh] at f1;have e1:=s1 _ _ e;refine fk λ N hN=> ?_;walk_at "rd";refine⟨_,rfl,lt,rfl,_,.inl (gg.of (s1 _ _ iT)),ts.length,by rw [ae],Zc Pm (Zd rfl),λ my Ğ=>hN _ _ ?_⟩;have n2:=fw.new (o:=.lst ((List.range ts.length).map λ (i:Nat)=>V.int (i:Int))) Ğ;have XU:upd H1 my (.lst ((List.range ts.length).map λ (i:Nat)=>V.int (i:Int))) my=some (.lst ((List.range ts.length).map λ (i:Nat)=>V.int (i:Int))):=e_;generalize upd H1 my (.lst ((List.range ts.length).map λ (i:Nat)=>V.int (i:Int)))=H2 at n2 XU;have s2:=s1.trans n2;have e2:=s2 _ _ e;have VB:=r1.same n2;simp only [vx,av,bb,or_false] at hk;rcases hk with rfl|rfl
   .refine fk λ N hN=> ?_;walk_at "rd";refine fu e2 rfl ⟨rfl,jf rfl (fu e2 rfl ⟨r,ml,lt,pt,y,ms,ts,rs,rfl,t9.same s2,dd.2,FF.same s2,λ i hi=>HE i (aD _ hi),s2 _ _ iT,nd,Pm,AU.same s2,Gs,Pn,AW,λ q2 H3 ko Um s3 r2 f2=> ?_⟩)⟩;rw [Lh] at f2;obtain⟨a1,g1,w1⟩:=VB.same s3;have T1:=f1.1.1;have la1:=w1.len;have DX:=s3 _ _ XU;refine⟨_,rfl,my,rfl,⟨_,gg.of DX⟩,jE (cs:=List.range ts.length) (g:=λ (c:Nat)=>V.int (c:Int)) (gT (gg.of DX)) (λ H4 (c:Nat) p=>H4 p=some (.lst (((List.range ts.length).map λ b=>jS (Bl ts.length (pS one x) (pS one y)) c b).map V.int))) (λ H4 c p e z=>by rw [e] at z;cases z) (λ c p H4 H5 s e=>s _ _ e) (f_ (by rw [aJ];exact Zc Pm (Zd rfl))) (λ c H4 Q2 hc s4 h=> ?_) (λ H4 c p D o n e=>(fo n).trans e) λ D H4 ks hD s4 d4 ŝ _ _=> ?_⟩
    .have cn:=aV.mp hc;obtain⟨l1,EA,Μ⟩:=f1.1.row cn;obtain⟨x1,rZ,Ra⟩:=w1.at EA;refine⟨_,rfl,my,rfl,⟨_,gg.of (s4 _ _ DX)⟩,comp_map (cs:=List.range ts.length) (g:=λ (b:Nat)=>V.int (b:Int)) (gT (gg.of (s4 _ _ DX))) (λ (b:Nat)=>V.int (jS (Bl ts.length (pS one x) (pS one y)) c b)) (f_ (by rw [aJ];exact Zc Pm (Zd rfl))) (λ b H5 Q3 hb s5 h3=> ?_) λ D2 H5 FI s5 d5=>h D2 H5 FI s5 (by rw [d5,aR];rfl)⟩;have bn:=aV.mp hb;have RM:=s4.trans s5;walk_at "rd"
     have fr:∀m,m<ts.length->nW (pS one x) c m (l1.getD m 0):=λ m hm=>by
      have:=f1.2 c m cn hm;unfold qv at this;rw [EA] at this;exact this
     refine fN (RM _ _ g1) (v:=.ref x1) (gx Yt (by rw [ak,au,rZ];rfl)) ⟨x1,q2,b,ts.length,l1,ko,rfl,RM _ _ Ra,r2.same RM,f2.1,Μ,bn,Zc Pm (Zd rfl),λ e H6 s6 e1 e2 e3=> ?_⟩;rw [<-lS (nW.then fr (λ m hm=>f2.2 m b hm bn) e1 e2 e3)];exact h3 H6 s6
    .exact k D H4 (tab (Bl ts.length (pS one x) (pS one y)) ts.length) ((s2.trans s3).free hD) ((s2.trans s3).trans s4) (EJ d4 ŝ) ((IL λ a b ha hb=>Kk (λ m hm=>⟨_,f1.2 a m ha hm⟩) (λ m hm=>⟨_,f2.2 m b hm hb⟩)).iff λ k a b ha=>(PH G6 ha).symm)
   .refine fk λ N hN=> ?_;walk_at "rd";refine fu e2 rfl ⟨rfl,gy (by decide) (hN _ _ ?_)⟩;refine fk λ N hN=> ?_;walk_at "rd";refine fu e2 rfl ⟨rfl,jf rfl (fu e2 rfl ⟨r,ml,lt,pt,y,ms,ts,rs,rfl,t9.same s2,dd.2,FF.same s2,λ i hi=>HE i (aD _ hi),s2 _ _ iT,nd,Pm,AU.same s2,Gs,Pn,AW,λ q2 H3 ko Um s3 r2 f2=> ?_⟩)⟩;rw [Lh] at f2;obtain⟨a2,g2,w2⟩:=r2;obtain⟨a1,g1,w1⟩:=VB.same s3;have T1:=f1.1.1;have la1:=w1.len;have DX:=s3 _ _ XU;refine⟨_,rfl,my,rfl,⟨_,gg.of DX⟩,jE (cs:=List.range ts.length) (g:=λ (c:Nat)=>V.int (c:Int)) (gT (gg.of DX)) (λ H4 (c:Nat) p=>H4 p=some (.lst (((List.range ts.length).map λ b=>jS (LW (pS one x) (pS one y)) c b).map V.int))) (λ H4 c p e z=>by rw [e] at z;cases z) (λ c p H4 H5 s e=>s _ _ e) (f_ (by rw [aJ];exact Zc Pm (Zd rfl))) (λ c H4 Q2 hc s4 h=> ?_) (λ H4 c p D o n e=>(fo n).trans e) λ D H4 ks hD s4 d4 ŝ _ _=> ?_⟩
    .have cn:=aV.mp hc;obtain⟨l1,EA,Μ⟩:=f1.1.row cn;obtain⟨x1,rZ,Ra⟩:=w1.at EA;refine⟨_,rfl,my,rfl,⟨_,gg.of (s4 _ _ DX)⟩,comp_map (cs:=List.range ts.length) (g:=λ (b:Nat)=>V.int (b:Int)) (gT (gg.of (s4 _ _ DX))) (λ (b:Nat)=>V.int (jS (LW (pS one x) (pS one y)) c b)) (f_ (by rw [aJ];exact Zc Pm (Zd rfl))) (λ b H5 Q3 hb s5 h3=> ?_) λ D2 H5 FI s5 d5=>h D2 H5 FI s5 (by rw [d5,aR];rfl)⟩;have bn:=aV.mp hb;have RM:=s4.trans s5;walk_at "rd";obtain⟨l2,BN,ll2⟩:=f2.1.row cn;obtain⟨x2,sV,JQ⟩:=w2.at BN;refine fN (RM _ _ g1) (v:=.ref x1) (gx Yt (by rw [ak,au,rZ];rfl)) (fN (RM _ _ Ra) (v:=.int (qv lh c b)) (gx Yt (by rw [ak,au,f1.1.at EA bn];rfl)) (fN (RM _ _ g2) (v:=.ref x2) (gx Yt (by rw [ak,au,sV];rfl)) (fN (RM _ _ JQ) (v:=.int (qv ko c b)) (gx Yt (by rw [ak,au,f2.1.at BN bn];rfl)) ⟨_,rfl,_,rfl,?_⟩)));rw [NI,<-lS ((f1.2 c b cn bn).or (f2.2 c b cn bn))];exact h3 H5 (fw.refl _)
    .exact k D H4 (tab (LW (pS one x) (pS one y)) ts.length) ((s2.trans s3).free hD) ((s2.trans s3).trans s4) (EJ d4 ŝ) ((IL λ a b ha hb=>⟨_,(f1.2 a b ha hb).or (f2.2 a b ha hb)⟩).iff λ k a b ha=>SA.symm)
  | @one _ j kd x e hk hi=>
   have dd:x.deep<=d:=cO hd
   have nk:∀z∈[j5,tU],¬V.str (tx kd)=V.str (tx z):=by
    intro z hz q;have q:kd=z:=iA.mp (by injection q);subst q;revert hk hz;simp only [ones,av,bb,or_false];rintro(rfl|rfl|rfl)<;>decide
   refine fk λ N hN=> ?_;refine jY λ A B hA hB=> ?_;walk_at "rd";refine fu e gW ⟨rfl,gy (nm kd (aD _ hk)) (hB _ _ (hN _ _ ?_))⟩;clear hA hB A B hN N;refine fk λ N hN=> ?_;walk_at "rd";refine fu e rfl ⟨j,ml,lt,pt,x,ms,ts,rs,rfl,hi,dd,FF,HE,iT,nd,Pm,AU,Gs,Pn,AW,λ q1 H1 lh Uo s1 r1 f1=>hN _ _ ?_⟩;rw [Lh] at f1;have e1:=s1 _ _ e;refine fk λ N hN=> ?_;walk_at "rd";refine⟨_,rfl,lt,rfl,_,.inl (gg.of (s1 _ _ iT)),ts.length,by rw [ae],Zc Pm (Zd rfl),λ my Ğ=>hN _ _ ?_⟩;have n2:=fw.new (o:=.lst ((List.range ts.length).map λ (i:Nat)=>V.int (i:Int))) Ğ;have XU:upd H1 my (.lst ((List.range ts.length).map λ (i:Nat)=>V.int (i:Int))) my=some (.lst ((List.range ts.length).map λ (i:Nat)=>V.int (i:Int))):=e_;generalize upd H1 my (.lst ((List.range ts.length).map λ (i:Nat)=>V.int (i:Int)))=H2 at n2 XU;have s2:=s1.trans n2;have e2:=s2 _ _ e;have VB:=r1.same n2;refine fk λ N hN=> ?_;refine jY λ A B hA hB=> ?_;walk_at "rd";refine fu e2 gW ⟨rfl,gy (nk j5 (by simp)) (hB _ _ (hN _ _ ?_))⟩;clear hA hB A B hN N;refine fk λ N hN=> ?_;refine jY λ A B hA hB=> ?_;walk_at "rd";refine fu e2 gW ⟨rfl,gy (nk tU (by simp)) (hB _ _ (hN _ _ ?_))⟩;clear hA hB A B hN N;simp only [ones,av,bb,or_false] at hk;rcases hk with rfl|rfl|rfl
   .refine fk λ N hN=> ?_;walk_at "rd";refine fu e2 rfl ⟨rfl,gy (by decide) (hN _ _ ?_)⟩;refine fk λ N hN=> ?_;refine jY λ A B hA hB=> ?_;walk_at "rd";refine fu e2 rfl ⟨rfl,gy (by decide) (hB _ _ (hN _ _ ?_))⟩;clear hA hB A B hN N;walk_at "rd";exact⟨q1,ts.length,_,lh,rfl,VB,Zc Pm (Zd rfl),f1,λ q3 H3 ot R_ s3 r3 f3=>⟨q3,ts.length,_,ot,rfl,r3,Zc Pm (Zd rfl),f3,λ q4 H4 uI hq4 s4 r4 f4=>k q4 H4 uI ((s2.trans s3).free hq4) ((s2.trans s3).trans s4) r4 (f4.iff λ k a b ha=>(Mm G6 ha).symm)⟩⟩
   .refine fk λ N hN=> ?_;walk_at "rd";refine fu e2 rfl ⟨rfl,gy (by decide) (hN _ _ ?_)⟩;refine fk λ N hN=> ?_;walk_at "rd";exact fu e2 rfl ⟨rfl,jf rfl ⟨q1,ts.length,_,lh,rfl,VB,Zc Pm (Zd rfl),f1,λ q3 H3 ot R_ s3 r3 f3=>k q3 H3 ot (s2.free R_) (s2.trans s3) r3 (f3.iff λ k a b ha=>(Mj G6 ha).symm)⟩⟩
   .refine fk λ N hN=> ?_;walk_at "rd";exact fu e2 rfl ⟨rfl,jf rfl ⟨q1,ts.length,_,lh,rfl,VB,Zc Pm (Zd rfl),f1,λ q3 H3 ot R_ s3 r3 f3=>k q3 H3 ot (s2.free R_) (s2.trans s3) r3 (f3.iff λ k a b ha=>Kc.symm)⟩⟩
theorem Nz (T:Txt K mg t):fX P w K mg base (ij P w) (3+40) t.Ei t.DZ ["shape","marks","things","ties"] (uy 40):=KQ T 40
theorem oY:fI ["web","tree","start","made","entries","places"] ["web","tree","start"] (fC vG):=by walk_at "sc"
theorem G8 (T:Txt K mg t):fX P w K mg base (ij P w) 85 t.Cz t.BZ ["web","tree","start"] (yH t):=by
 have LN:=G9 (P:=P) (w:=w) (base:=base) T;have Vo:=(QE (P:=P) (w:=w) (base:=base) T).mono (show 4<=84 by decide);have LU:=(Hi (P:=P) (w:=w) (base:=base) T).mono (show 1<=84 by decide);have O9:=(KR (P:=P) (w:=w) (base:=base) T).mono (show 1<=84 by decide);have Es:=(A5 (P:=P) (w:=w) (base:=base) T).mono (show 1<=84 by decide);refine T.Jg.fn.Hk oY (λ iw A outer s H vs Q E hr h=> ?_)
 .obtain⟨p,a,W,tr,st,rfl,w,jr,AW,ht,Œ,þ,Ô,Ĉ,T5⟩:=h
  refine⟨_,Bx.un (c_ (fD 3 oY.nd (fK T.machine LN hr kr (a_ (fq 1) d_)))
   (c_ (fD 4 oY.nd (fK T.book Vo hr kr (a_ (fq 0) (a_ (fq 3) (a_ (fq 2) d_)))))
   (c_ (fD 5 oY.nd (iK (x9 rfl) (by rfl) T.Va PyProof.Rows.boot_dict (a_ (fK T.JR LU hr kr (a_ (fq 3) (a_ (fq 4) d_))) d_)))
   (fh (fF (iV rfl (N:= ["thing","made","entries","places"]) (fr:= [3,4,5]) (qp.of (by kernel_rfl)) (gq (Ed (fq 0) T.ic T.AB Es hr kr)) (λ _ _ _ _ _=>(oN (r_ (Ee (jO hr) (fq 0) (fq 3)))))
    (λ _ _ _ _ _=>(gF (a_ (fq 0) (a_ (fK T.Mh O9 hr fM (a_ (fq 1) (a_ (fq 2) (a_ (j9 (jO hr) (fq 3) (fq 0)) d_)))) d_)))))))))),?_⟩
  walk_at "rs";refine fk λ N hN=> ?_;walk_at "rd";refine⟨a,tr,rfl,ht,Œ,þ,Ô,λ pm H1 M ς s1 own Pj md=>hN _ _ ?_⟩;refine fk λ N hN=> ?_;walk_at "rd";refine⟨p,pm,W,M,st,rfl,w.same s1,jr,AW,own.ü,Pj,λ h=>Ĉ h _ s1,λ nQ qe H2 es VP s2 ents bk UO ů ndE full=>hN _ _ ?_⟩;have k:=T5 nQ;have EP:=JS M es.length es rfl;have XX:=Oy (M:=M) ů;have aac:=w.jr;rw [ae] at XX;refine fk λ N hN=> ?_;walk_at "rd";refine⟨pm,qe,M,st,_,es,rfl,own.ü.same s2,Pj,ents,bk,UO,λ l H3 hl s3 pr=> ?_⟩;generalize hm:iU M.ends es 0 []=m at EP XX pr;obtain⟨ap,ep,alp⟩:=pr;have lap:=alp.len;refine⟨l,rfl,ap.zip (gH m),?_,?_,?_,λ d hd=>hN _ _ ?_⟩
  .rw [ep,rL (by unfold gH;rwa [ae])]
  .intro x hx;unfold gH at hx;rw [List.zip_map_right] at hx;obtain⟨c,hc,rfl⟩:=aC.mp hx;exact alp.zip c hc
  .rw [b9];lia
  rw [show (ap.zip (gH m)).map (λ x=>x.snd)=gH m from eR (by unfold gH;rw [ae];exact Zg lap),Ft (by unfold gH;rw [aR];exact nodup_keys EP.nd)];have n4:=fw.new (o:=.dK (gH m)) hd;have d4:upd H3 d (.dK (gH m)) d=some (.dK (gH m)):=e_;generalize upd H3 d (.dK (gH m))=H4 at n4 d4;have VA:=s3.trans n4;have LZ:=s2.trans VA;have ML:=s1.trans LZ;have w4:=w.same ML;have XR:=ents.same VA;have û:=own.ü.same LZ;refine⟨_,rfl,_,_,_,rfl,w4.obj,rfl,p,W,rfl,w4,λ la Li=>⟨la,rfl,⟨_,gg.of e_⟩,?_⟩⟩;have n5:=fw.new (o:=.lst ((W.vals.map (·.1)).map λ z=>V.str (tx z))) Li;have e5:upd H4 la (.lst ((W.vals.map (·.1)).map λ z=>V.str (tx z))) la=some (.lst ((W.vals.map (·.1)).map λ z=>V.str (tx z))):=e_;generalize upd H4 la (.lst ((W.vals.map (·.1)).map λ z=>V.str (tx z)))=H5 at n5 e5;have P9:=ML.trans n5;have d5:=n5 _ _ d4;refine Cj (cs:=W.vals.map (·.1)) (g:=λ z=>V.str (tx z)) (gT (gg.of e5)) (λ z=>decide (z∈m.map (·.1))) (λ H6 z x=>H6 x.1=some (.tup [.str (tx z),.ref x.2])/\hZ H6 x.2 (AV M es z)) (λ H6 c x ⟨_,_,h,_⟩ z=>by rw [h] at z;cases z) (λ c x H6 H7 s ⟨h1,h2⟩=>⟨s _ _ h1,h2.same s⟩) (f_ (by rw [ae];exact Zc aac (Zd rfl))) (λ c H6 Q2 hc s6 h=> ?_) (λ c H6 Q2 hc hp s6 h=> ?_) (λ H6 c x D ys zs hD h1 h2 ⟨g1,as,g2,g3⟩=>⟨(fo h1).trans g1,as,(fo h2).trans g2,g3.imp λ (y:ac) (v:Int×Bool) (e:H6 y=some (.tup [.int v.1,.bl v.2]))=>(fo (gA e hD (λ z=>nomatch z))).trans e⟩) λ D H6 ps hD s6 d6 al6 nd6 WB=> ?_
  .walk_at "rd";refine⟨_,lM.k (k:=.inr (tx c)) (s6 _ _ d5),?_⟩;rw [lj];exact h _ (fw.refl _)
  .have cm:=of_decide_eq_true hp;have pv:=KC EP.nd cm;obtain⟨j,e,ej,hj,_⟩:=EP.hit c _ (rS cm);have Ų:=n5.trans s6;walk_at "rd";refine⟨.int (nN m c),by rw [<-pv];exact lM.k (k:=.inr (tx c)) (s6 _ _ d5),?_⟩
   have ew:AV M es c=((jN es es.length j).map (sL M.jj es)).reverse:=by
    unfold AV;rw [hm,ej,au]
   rw [ej];refine⟨pm,qe,M,st,_,es,j,rfl,û.same Ų,Pj,XR.same Ų,bk,UO,(ag.mp hj).1,λ l H7 hl s7 ws=>⟨by decide,λ p1 Pp=>h (p1,l) _ (s7.free Pp) hl (s7.trans (fw.new Pp)) ⟨e_,?_⟩⟩⟩;rw [ew];exact ws.same (fw.new Pp)
  .refine k D H6 ps M es (P9.trans s6) Pj md bk UO ů ndE full ⟨d6,?_,nd6,λ x hx=>⟨(WB x hx).2.1,P9.free (WB x hx).2.2⟩,P9.free hD⟩;unfold zU;rw [hm]
   have go:∀{cs:List Nm} {ps:List (ac×ac)},fR (λ z (x:ac×ac)=>H6 x.1=some (.tup [.str (tx z),.ref x.2])/\hZ H6 x.2 (AV M es z)) cs ps->fR (λ (f:Nm×List (Int×Bool)) (x:ac×ac)=>H6 x.1=some (.tup [.str (tx f.1),.ref x.2])/\hZ H6 x.2 f.2) (cs.map λ z=>(z,AV M es z)) ps:=by
    intro cs ps h
    induction h with
    | nil=>exact .nil
    | cons r _ ih=>exact .cons r ih
   exact go al6
theorem i8:fI ["way","ties","start","end","steps","here","step","tie"] ["way","ties","start","end"] (fC nK):=by walk_at "sc"
theorem zr (T:Txt K mg t):fX P w K mg base (ij P w) 2 t.tf t.sX ["way","ties","start","end"] (qy):=by
 have LO:=G_ (P:=P) (w:=w) (base:=base) T;refine T.xc.fn.okN i8 (λ iw A outer s H vs Q E hr h=> ?_)
 .obtain⟨wl,pt,st,en,ws,rs,ss,rfl,hw,AU,Gs,wk,lw,k⟩:=h
  refine⟨_,Bx.un (c_ (fD 4 i8.nd (gi d_))
   (c_ (fD 5 i8.nd (fq 2))
   (c_ (gX PassesOwn.never rfl (gq (fq 0)) (gn 6 i8.nd)
   (c_ (fS (mM (jJ (iu (fJ jF (by rfl) T.jo bE (a_ (fq 6) (a_ (ug T.J3 PyProof.Rows.boot_tuple) d_))))) (mM (fG mC (fJ fQ (by rfl) T.iG PySem.boot_len (a_ (fq 6) d_)) b_ (fO _)) (mM (jJ (iu (fK T.Jy LO hr fM (a_ (fc fB (fq 6) b_) d_)))) (pL (jJ (iu (fJ jF (by rfl) T.jo bE (a_ (fc fB (fq 6) b_) (a_ (ug T.OZ PyProof.Rows.boot_bool) d_))))))))).L7
   (fh (fF kA))
   fH)
   (c_ (fS (r_ (pM (jO hr) (fc fB (fq 6) b_) (fq 1)))
   (fh (fF kA))
   fH)
   (c_ (fD 7 i8.nd (j9 (jO hr) (fq 1) (fc fB (fq 6) b_)))
   (c_ (fS (fG mC (fc fP (gi (a_ (fc fB (fq 7) b_) (a_ (fc fB (fq 7) b_) d_))) (iK wD (by rfl) T.J6 cS (a_ (fc fB (fq 6) b_) d_))) (fq 5) (fO _))
   (fh (fF kA))
   fH)
   (c_ (fD 5 i8.nd (fc fP (gi (a_ (fc fB (fq 7) b_) (a_ (fc fB (fq 7) b_) d_))) (iK wD (by rfl) T.J6 cS (a_ (fc fB (fq 6) b_) d_))))
   (fh (fT (ig aE aT aS gE (fq 4) (a_ (gF (a_ (fc fB (fq 7) b_) (a_ (fc fB (fq 7) b_) (a_ (fc fB (fq 6) b_) d_)))) d_))))))))))
   (c_ (fS (fG mC (fq 5) (fq 3) (fO _))
   (fh (fF kA))
   fH)
   (fh (fF (fq 4))))))),?_⟩
  walk_at "rs";obtain⟨aw,ew,Ê⟩:=hw;have ą:=Ê.len;refine fk λ N hN=> ?_;walk_at "rd";refine⟨aQ _,λ sl ZT=>hN _ _ ?_⟩;have s1:=fw.new (o:=.lst []) ZT;have e1:upd H sl (.lst []) sl=some (.lst (([]:List ac).map V.ref)):=e_;generalize upd H sl (.lst [])=H1 at s1 e1;refine fk λ N hN=> ?_;walk_at "rd";refine hN _ _ ?_;refine fk λ N hN=> ?_
  refine⟨_,rfl,wl,rfl,⟨_,gg.of (s1 _ _ ew)⟩,jb (K:=K) (xs:=aw.map V.ref) (λ i σ H2=>∃(h:Nm) (v6 v7:Option V) (sd sr:List GA),σ = [some (.ref wl),some (.ref pt),some (.str (tx st)),some (.str (tx en)),some (.ref sl),some (.str (tx h)),v6,v7]/\fw H H2/\O4 H2 sl sd/\sd.length=i/\ss=sd++sr/\AE rs h (ws.drop i) en sr)
   ⟨st,none,none,[],ss,rfl,s1,⟨[],e1,.nil⟩,rfl,rfl,wk⟩ (λ i σ H2 _ hz=>by obtain⟨_,_,_,_,_,_,s2,_⟩:=hz;exact gg.of (s2 _ _ ew)) ?_ ?_⟩
  .rintro i y σ H2 hi ⟨h,v6,v7,sd,sr,rfl,s2,ĕ,Λ,Á,Vv⟩;obtain⟨x,hx,rfl⟩:=iR hi
   have il:i<ws.length:=by
    rw [<-ą];exact(ag.mp hx).1
   have θ:ws[i]? = some ws[i]:=by simp
   have ex:=Ê.get hx θ;rw [List.drop_eq_getElem_cons il] at Vv;generalize ws[i]=wi at θ ex Vv;obtain⟨ad,fZ,sr',tm,ef,esr,wk3⟩:=Vv;clear hN;walk_at "rg";have JQ:=s2 _ _ ex;have t9:=AU.same s2;have hv:=yC Gs tm;have rt:=t9.iM _ tm;refine fk λ N2 FH=> ?_;walk_at "rd";refine⟨_,.tup JQ,_,NY K,gy (by decide) ⟨_,.inr (oV.of JQ),gy (by simp) (fu JQ rfl ⟨wi.1,rfl,_,rfl,gy (by decide) (fu JQ rfl ⟨_,.bl _,_,T8 K,gy (by decide) (FH _ _ ?_)⟩)⟩)⟩⟩;clear FH N2
   have dg:lM H2 pt (V.int wi.1) (some (.ref ad)):=by
    rw [<-hv];exact lM.k (k:=.inl wi.1) t9.at_
   refine fk λ N2 FH=> ?_;walk_at "rd";refine fu JQ rfl ⟨_,dg,gy (λ z=>by cases z) (FH _ _ ?_)⟩;clear FH N2;refine fk λ N2 FH=> ?_;walk_at "rd";refine fu JQ rfl ⟨_,dg,FH _ _ ?_⟩;clear FH N2
   have c1:vq [V.str (tx fZ.start),V.str (tx fZ.stop)] (if wi.2=true then 1 else 0)=some (V.str (tx (kI fZ wi.2))):=by
    unfold kI
    cases wi.2<;>rfl
   have c2:vq [V.str (tx fZ.stop),V.str (tx fZ.start)] (if wi.2=true then 1 else 0)=some (V.str (tx (jv fZ wi.2))):=by
    unfold jv
    cases wi.2<;>rfl
   refine fk λ N2 FH=> ?_;walk_at "rd";refine fu rt rfl (fu rt rfl ⟨by decide,λ l5 Ģ=> ?_⟩);have n5:=fw.new (o:=.lst [.str (tx fZ.start),.str (tx fZ.stop)]) Ģ;have q5:upd H2 l5 (.lst [.str (tx fZ.start),.str (tx fZ.stop)]) l5=some (.lst [.str (tx fZ.start),.str (tx fZ.stop)]):=e_;generalize upd H2 l5 (.lst [.str (tx fZ.start),.str (tx fZ.stop)])=H5 at n5 q5;refine fu (n5 _ _ JQ) rfl (.inr ⟨wi.2,rfl,fN q5 c1 ?_⟩);rw [ef];refine⟨rfl,gy (λ z=>z rfl) (FH _ _ ?_)⟩;clear FH N2;have s5:=s2.trans n5;have ŵ:=n5 _ _ rt;refine fk λ N2 FH=> ?_;walk_at "rd";refine fu ŵ rfl (fu ŵ rfl ⟨by decide,λ l6 ġ=> ?_⟩);have n6:=fw.new (o:=.lst [.str (tx fZ.stop),.str (tx fZ.start)]) ġ;have q6:upd H5 l6 (.lst [.str (tx fZ.stop),.str (tx fZ.start)]) l6=some (.lst [.str (tx fZ.stop),.str (tx fZ.start)]):=e_;generalize upd H5 l6 (.lst [.str (tx fZ.stop),.str (tx fZ.start)])=H6 at n6 q6;have P8:=n5.trans n6;refine fu (P8 _ _ JQ) rfl (.inr ⟨wi.2,rfl,fN q6 c2 (FH _ _ ?_)⟩);clear FH N2;have s6:=s2.trans P8;have Ŵ:=P8 _ _ rt;obtain⟨É,esd,ald⟩:=ĕ;have XQ:=P8 _ _ esd;have lad:=ald.len;walk_at "rd";refine⟨gu (gg.of XQ),fu Ŵ rfl (fu Ŵ rfl (fu (P8 _ _ JQ) rfl ⟨by decide,λ b7 hb7=> ?_⟩))⟩;have n7:=fw.new (o:=.tup [.str (tx fZ.name),.int fZ.weight,.bl wi.2]) hb7;have q7:upd H6 b7 (.tup [.str (tx fZ.name),.int fZ.weight,.bl wi.2]) b7=some (.tup (Kr ⟨fZ.name,fZ.weight,wi.2⟩)):=e_;generalize upd H6 b7 (.tup [.str (tx fZ.name),.int fZ.weight,.bl wi.2])=H7 at n7 q7;have XO:=n7 _ _ XQ;have s67:=P8.trans n7;have xZ:∀(y:ac) (s:GA),H7 y=some (.tup (Kr s))->upd H7 sl (.lst (É.map V.ref ++ [V.ref b7])) y=some (.tup (Kr s)):=λ y s e=>(fo (gA e XO (λ z=>nomatch z))).trans e;refine⟨_,XO,?_,(s6.trans n7).gh ZT,sd ++ [⟨fZ.name,fZ.weight,wi.2⟩],⟨É ++ [b7],?_,?_⟩,by rw [ao,bg,Λ],sr',by rw [Á,esr];simp,wk3⟩
   .rw [ae];exact aF (show É.length<3000 from Zb (Ze lad) (Zb (Ze Λ) (Za il (Zc lw (Zd rfl))))) (f_ (by decide))
   .rw [e_,ax];rfl
   .exact fR.snoc (R:=λ x s=>upd H7 sl (.lst (É.map V.ref ++ [V.ref b7])) x=some (.tup (Kr s))) (xZ _ _ q7) (ald.imp λ y s e=>xZ y s (s67 _ _ e))
  .rintro σ H2 ⟨h,v6,v7,sd,sr,rfl,s2,ĕ,Λ,Á,Vv⟩;refine hN _ _ ?_;rw [ae,ą,List.drop_length] at Vv;obtain⟨rfl,rfl⟩:=Vv;rw [bI] at Á;subst Á;refine fk λ N hN=> ?_;walk_at "rd";refine hN _ _ ?_;walk_at "rd";exact k sl H2 ZT s2 ĕ
theorem nJ:fI ["way","far","grown","ties","start","end","steps","fitted"] ["way","far","grown","ties","start","end"] (fC pb):=by walk_at "sc"
theorem A4 (T:Txt K mg t):fX P w K mg base (ij P w) 43 t.vf t.uZ ["way","far","grown","ties","start","end"] (sM):=by
 have Bf:=(zr (P:=P) (w:=w) (base:=base) T).mono (show 2<=42 by decide);have oQ:=Ha (P:=P) (w:=w) (base:=base) T;have Er:=(Fg (P:=P) (w:=w) (base:=base) T).mono (show 1<=42 by decide);refine T.zE.fn.okN nJ (λ iw A outer s H vs Q E hr h=> ?_)
 .obtain⟨wl,gr,sa,ml,pt,n,st,en,sh,ms,ws,rs,ss,rfl,eg,HQ,Ri,FF,HE,ZP,hw,lw,Gu,AU,Gs,wk,ZN,Ł,k⟩:=h
  refine⟨_,Bx.un (c_ (fS (mM (jJ (iu (fJ jF (by rfl) T.jo bE (a_ (fq 0) (a_ (ug T.mO bC) d_))))) (pL (fG mC (fJ fQ (by rfl) T.iG PySem.boot_len (a_ (fq 0) d_)) (fq 1) (fO _)))).L7
   (fh (fF jn))
   fH)
   (c_ (fD 6 nJ.nd (fK T.xc Bf hr fM (a_ (fq 0) (a_ (fq 3) (a_ (fq 4) (a_ (fq 5) d_))))))
   (c_ (fS (fG Nv (fq 6) kA (fO _))
   (fh (fF jn))
   fH)
   (c_ (LF (i:=7) nJ.nd rfl (by walk_at "o") rfl (N:= ["mark","far","steps"]) (fr:= [1,6]) (wN.of (by kernel_rfl)) (gq (fc fB (fq 2) b_)) (λ _ _ _ _ _=>gB)
    (λ _ _ _ _ _=>(iV rfl (N:= ["at","mark","steps"]) (fr:= [0,2]) (qp.of (by kernel_rfl)) (gJ rfl T.iB (a_ (fq 1) d_)) (λ _ _ _ _ _=>(oN (iu (fK T.l_fit Er hr fM (a_ (fq 1) (a_ (fc (iS K) (fq 2) (fq 0)) d_))))))
    (λ _ _ _ _ _=>(fq 0)))))
   (fh (fF (iW BE (fq 1) (fc fP (fK T.rW oQ hr fM (a_ (fc fB (fq 2) b_) (a_ (fq 7) (a_ (fq 1) d_)))) b_) (by with_unfolding_all rfl)))))))),?_⟩
  walk_at "rs";obtain⟨aw,ew,Ê⟩:=id hw;have ą:=Ê.len;refine fk λ N hN=> ?_;walk_at "rd";refine⟨_,.lst ew,_,NZ K,gy (by decide) ⟨_,.inl (gg.of ew),gy (λ z=>z (by rw [ae];exact Yq (Yo (Zc (Ze ą) (Ze lw))) (Yo (Zc (Zg lw) (Zg ą))))) (hN _ _ ?_)⟩⟩;refine fk λ N hN=> ?_;walk_at "rd";refine⟨wl,pt,st,en,ws,rs,ss,rfl,hw,AU,Gs,wk,Zc (Ze lw) (Zc Gu (Zd rfl)),λ sl H1 ZT s1 hss=>hN _ _ ?_⟩;refine fk λ N hN=> ?_;walk_at "rd";refine hN _ _ ?_;obtain⟨as,es,als⟩:=hss;obtain⟨am,em,Ar⟩:=FF.same s1;have lam:=Ar.len;have eg1:=s1 _ _ eg;refine fk λ N hN=> ?_;refine⟨_,rfl,_,_,_,_,rfl,rfl,oV.of eg1,rfl,ml,rfl,⟨_,gg.of em⟩,jE (cs:=am.zip ms) (g:=λ c=>V.ref c.1) (gT (by rw [rL lam];exact gg.of em)) (λ Gj c p=>Gj p=some (.lst ((vU ss c.2).map V.int))) (λ Gj c p e z=>by rw [e] at z;cases z) (λ c p Gj LL s e=>s _ _ e) (f_ (by rw [b9];lia)) (λ c Gj Q2 hc Wk h=> ?_) (λ Gj c p D o n e=>(fo n).trans e) λ fl Gj af hfl Wk ř Ş _ _=>hN _ _ ?_⟩
  .obtain⟨ec,wc⟩:=Ar.zip c hc;refine⟨_,rfl,_,rfl,by lia,by lia,yt (iQ (n:=((n:Nat):Int).toNat)) (λ j=>match ss[j]? with|some s=>oH c.2 s|none=>false) (λ (j:Nat)=>V.int (j:Int)) (f_ (by rw [aJ];lia)) (λ j LL Q3 hj A3 h2=> ?_) (λ j LL Q3 hj _ A3 h2=>⟨_,rfl,?_⟩) λ D LL hD A3 Ř=>h D LL hD A3 ?_⟩
   .have jl:j<ss.length:=by
     have:=aV.mp hj;lia
    have ξ:ss[j]? = some ss[j]:=by simp
    obtain⟨x,hx,ex⟩:=als.at ξ;have s:=Wk.trans A3;walk_at "rd";refine fN (s _ _ es) (v:=.ref x) (gx Qaf (by rw [ak,show (0+(j:Int)).toNat=j from Nat.add_comm _ _,hx];rfl)) ⟨c.1,x,c.2,ss[j],rfl,s _ _ ec,s _ _ ex,wc,λ Ò L0=>⟨_,rfl,?_⟩⟩;have:=h2 Ò L0;rw [ξ] at this;exact this
   .have:=h2 LL (fw.refl _)
    rwa [show (0:Int)+(j:Int)=(j:Int) from Yw]
   .rw [Ř,au,<-ZN];unfold vU;rw [aR];rfl
  have rF:jV Gj fl (ms.map (vU ss)):=by
   refine⟨af,ř,?_⟩
   have go:∀{as:List ac} {mm:List j_} {bs:List ac},as.length=mm.length->fR (λ (c:ac×j_) p=>Gj p=some (.lst ((vU ss c.2).map V.int))) (as.zip mm) bs->fR (λ x (l:List Int)=>Gj x=some (.lst (l.map V.int))) bs (mm.map (vU ss)):=by
    intro as
    induction as with
    | nil=>
     intro mm bs hl h
     cases mm with
     | nil=>cases h;exact .nil
     | cons _ _=>cases hl
    | cons a as ih=>
     intro mm bs hl h
     cases mm with
     | nil=>cases hl
     | cons m mm=>
      cases h with
      | cons r t=>exact .cons r (ih (by simpa using hl) t)
   exact go lam Ş
  walk_at "rg";walk_at "rd";refine fu (Wk _ _ eg1) rfl ⟨sa,fl,n,sh,_,rfl,(HQ.same s1).same Wk,Ri,rF,λ i hi=>by rw [ae];exact HE i hi,λ l hl x hx=> ?_,λ l hl=> ?_,Gu,λ q2 LL rows Um A3 rR sp=> ?_⟩
  .obtain⟨m,_,rfl⟩:=aC.mp hl;rw [<-ZN];exact MR x hx
  .obtain⟨m,_,rfl⟩:=aC.mp hl;have:=MS ss m;exact Zc this (Zc (Ze ZN) (Zc Gu (Zd rfl)))
  obtain⟨ar,er,Vf⟩:=rR;have lr:=sp.len;have h0:rows[0]? = some (rows[0]'(Qai lr)):=by simp
  obtain⟨x0,Ue,UQ⟩:=Vf.at h0;have m0:=sp.mem 0 _ h0;generalize rows[0]'(Qai lr)=â at h0 UQ m0
  have Æ:((n:Nat):Int)∈â:=by
   rw [m0];exact⟨n,rfl,Ł.imp λ i p q=>Oq.mpr q⟩
  refine fN er (v:=.ref x0) (gx (by decide) (by rw [ak];rw [show (0:Int).toNat=0 from rfl,Ue];rfl)) (MV (gg.of UQ) ?_);rw [if_neg (by decide),decide_eq_true Æ];exact k _ ((s1.trans Wk).trans A3)
theorem oo:fI ["found","grown","things","ties","start","fars","due","k","thing"] ["found","grown","things","ties","start"] (fC zb):=by walk_at "sc"
theorem KU (T:Txt K mg t):fX P w K mg base (ij P w) 44 t.Gb t.FR ["found","grown","things","ties","start"] (Bt):=by
 have vk:=Nz (P:=P) (w:=w) (base:=base) T;have Ep:=A4 (P:=P) (w:=w) (base:=base) T;refine T.NV.fn.okN oo (λ iw A outer s H vs Q E hr h=> ?_)
 .obtain⟨q,gr,sa,ml,lt,pt,B,ps,fs,ts,rs,sh,ms,a,st,rfl,hf,eg,HQ,Ri,FF,HE,ZP,iT,nd,Pm,AU,Gs,Pn,AW,ha,gf,k⟩:=h
  refine⟨_,Bx.un (c_ (fD 5 oo.nd (fc fP (fK T.BJ vk hr fM (a_ (fc fB (fq 1) b_) (a_ (fc fB (fq 1) b_) (a_ (fq 2) (a_ (fq 3) d_))))) (ig aE cF cE uN (fq 2) (a_ (fq 4) d_))))
   (c_ (kz (i:=6) oo.nd rfl (by walk_at "o") rfl (N:= ["k","fars"]) (fr:= [5]) (qp.of (by kernel_rfl)) (gJ rfl T.iB (a_ (fJ fQ (by rfl) T.iG PySem.boot_len (a_ (fq 2) d_)) d_)) (λ _ _ _ _ _=>(oN (fG oy (fc (iS K) (fq 1) (fq 0)) b_ (fO _))))
    (λ _ _ _ _ _=>(fq 0)))
   (c_ (fS (mM (jJ (iu (fJ jF (by rfl) T.jo bE (a_ (fq 0) (a_ (ug T.mO bC) d_))))) (pL (fG mC (fJ fQ (by rfl) T.iG PySem.boot_len (a_ (fq 0) d_)) (fJ fQ (by rfl) T.iG PySem.boot_len (a_ (fq 6) d_)) (fO _)))).L7
   (fh (fF jn))
   fH)
   (c_ (gX PassesOwn.never rfl (gJ rfl T.iB (a_ (fJ fQ (by rfl) T.iG PySem.boot_len (a_ (fq 6) d_)) d_)) (gn 7 oo.nd)
   (c_ (fD 8 oo.nd (fc fP (fq 2) (fc fP (fq 6) (fq 7))))
   (c_ (fS (mM (jJ (iu (fJ jF (by rfl) T.jo bE (a_ (fc fP (fq 0) (fq 7)) (a_ (ug T.J3 PyProof.Rows.boot_tuple) d_))))) (mM (fG mC (fJ fQ (by rfl) T.iG PySem.boot_len (a_ (fc fP (fq 0) (fq 7)) d_)) b_ (fO _)) (pL (fG mC (fc fB (fc fP (fq 0) (fq 7)) b_) (fq 8) (fO _))))).L7
   (fh (fF jn))
   fH)
   (fh (fS (jJ (iu (fK T.zE Ep hr fM (a_ (fc fB (fc fP (fq 0) (fq 7)) b_) (a_ (fc fP (fq 5) (fc fP (fq 6) (fq 7))) (a_ (fq 1) (a_ (fq 3) (a_ (fq 4) (a_ (fq 8) d_)))))))))
   (fh (fF jn))
   fH)))))
   (fh (fF jn)))))),?_⟩
  walk_at "rs";obtain⟨ja,VR,va,ea,na⟩:=DD nd (aq ha);have eja:ja=a:=(cx (ag.mp VR).1 nd).mp (VR.trans ha.symm);subst eja;have al:=(ag.mp ha).1;refine fk λ N hN=> ?_;walk_at "rd";refine fu eg rfl (fu eg rfl ⟨sa,ml,lt,pt,sh,ms,ts,rs,rfl,HQ,Ri,FF,HE,iT,nd,Pm,AU,Gs,Pn,AW,λ qf H1 rows hqf s1 r1 f1=> ?_⟩);obtain⟨ar,er,Vf⟩:=r1;obtain⟨l0,Uy,ll0⟩:=f1.1.row al;obtain⟨x0,Ue,UQ⟩:=Vf.at Uy;have Uw:=s1 _ _ iT;refine⟨gu (gg.of Uw),_,Uw,rfl,t_ ts,ja,_,va,ea,na,fN er (v:=.ref x0) (gx Yt (by rw [ak,au,Ue];rfl)) (hN _ _ ?_)⟩;generalize hW:(pS (λ i a b=>∃m,ms[i]? = some m/\zo ts rs m a b) sh)=W at f1
  have fv:∀b,b<ts.length->l0[b]? = some (jS W ja b):=λ b hb=>by
   rw [f1.1.at Uy hb,lS (f1.2 ja b al hb)]
  refine fk λ N hN=> ?_;refine⟨_,rfl,lt,_,rfl,.inl (gg.of Uw),_,rfl,by lia,by rw [ae];lia,yt (iQ (n:=(((ts.map λ l=>V.str (tx l)).length:Nat):Int).toNat)) (λ b=>decide (jS W ja b<1000000)) (λ (b:Nat)=>V.int (b:Int)) (f_ (by rw [aJ,ae];lia)) (λ b H2 Q2 hb s2 h=> ?_) (λ b H2 Q2 hb _ s2 h=>⟨_,rfl,?_⟩) λ du H2 hdu s2 d2=>hN _ _ ?_⟩
  .have bl:b<ts.length:=by
    have:=aV.mp hb;rw [ae] at this;lia
   walk_at "rd";refine fN (s2 _ _ UQ) (v:=.int (jS W ja b)) (gx Qaf (by rw [ak,show (0+(b:Int)).toNat=b from Nat.add_comm _ _,fv b bl];rfl)) ⟨_,rfl,h _ (fw.refl _)⟩
  .have:=h H2 (fw.refl _)
   rwa [show (0:Int)+(b:Int)=(b:Int) from Yw]
  rw [ae,au] at d2;have dm:∀b∈(List.range ts.length).filter (λ b=>decide (jS W ja b<1000000)),b<ts.length:=λ b hb=>aV.mp (bF.mp hb).1;have gd:=gf.Æ;rw [hW] at gd;have gw:=gf.way;rw [hW] at gw
  have ldl:((List.range ts.length).filter (λ b=>decide (jS W ja b<1000000))).length<=ts.length:=by
   have:=bG (λ b=>decide (jS W ja b<1000000)) (List.range ts.length);rw [aJ] at this;exact this
  generalize (List.range ts.length).filter (λ b=>decide (jS W ja b<1000000))=dl at d2 dm gd ldl;have Ξ:fs.length=dl.length:=by simpa using congrArg List.length gd
  have lps:=hf.rows.len;have A3:=s1.trans s2;have Ŏ:=A3 _ _ hf.at_;refine fk λ N hN=> ?_;walk_at "rd";refine⟨_,.lst Ŏ,_,NZ K,gy (by decide) ⟨_,.inl (gg.of Ŏ),_,.inl (gg.of d2),gy (λ z=>z (by rw [ae,ae];exact Yq (Yo (Zc (Zg lps) (Ze Ξ))) (Yo (Zc (Zg Ξ) (Ze lps))))) (hN _ _ ?_)⟩⟩;refine fk λ N hN=> ?_;refine⟨_,rfl,du,_,rfl,.inl (gg.of d2),_,rfl,by lia,by rw [ae];lia,j7 (λ i σ H3=>∃(v7 v8:Option V),σ = [some (.ref q),some (.ref gr),some (.ref lt),some (.ref pt),some (.str (tx st)),some (.ref x0),some (.ref du),v7,v8]/\fw H2 H3) ⟨none,none,rfl,fw.refl _⟩ ?_ ?_⟩
  .rintro i σ H3 hi ⟨v7,v8,rfl,s3⟩;rw [ae,au] at hi;clear hN;have L0:=A3.trans s3;have Z3:dl[i]? = some dl[i]:=by simp
   have bl:=dm _ (aq Z3);have Sa:fs[i]? = some (fs[i]'(Za hi (Zg Ξ))):=by simp
   have ė:ps[i]? = some (ps[i]'(Za hi (Zc (Zg Ξ) (Ze lps)))):=by simp
   have Uk:=hf.rows.get Sa ė
   have Oz:(fs[i]'(Za hi (Zg Ξ))).1=(ts[dl[i]]?).getD []:=by
    have:=congrArg (λ l=>l[i]?) gd;simp only [ak,Sa,Z3,Option.map_some] at this;exact Option.some.inj this
   generalize fs[i]'(Za hi (Zg Ξ))=f at Sa Uk Oz;generalize ps[i]'(Za hi (Zc (Zg Ξ) (Ze lps)))=pp at ė Uk;generalize dl[i]=b at Z3 bl Oz
   have ν:ts[b]? = some f.1:=by
    rw [Oz];simp [bl]
   obtain⟨b',ss,yp,fl,w62,wk,ZN,fit⟩:=gw f.1 f.2 (aq Sa);have eb:b'=b:=(cx (ag.mp yp).1 nd).mp (yp.trans ν.symm);subst eb;obtain⟨er1,hws⟩:=Uk;walk_at "rg";rw [show (0:Int)+(i:Int)=(i:Int) from Yw];have d3:=s3 _ _ d2;have Ã:=s3 _ _ Ŏ;have Z':=L0 _ _ er1;have eg3:=L0 _ _ eg;have atd:vq (dl.map λ (b:Nat)=>V.int (b:Int)) (i:Int)=some (V.int (b':Int)):=gx Yt (by rw [ak,au,Z3];rfl);have Ç:vq (ps.map λ x=>V.ref x.1) (i:Int)=some (V.ref pp.1):=gx Yt (by rw [ak,au,ė];rfl);refine fk λ N hN=> ?_;walk_at "rd";refine fN d3 atd (fN (L0 _ _ iT) (v:=.str (tx f.1)) (gx Yt (by rw [ak,au,ν];rfl)) (hN _ _ ?_));refine fk λ N hN=> ?_;walk_at "rd";refine fN Ã Ç ⟨_,.tup Z',_,NY K,gy (by decide) (fN Ã Ç ⟨_,rfl,_,.inr (oV.of Z'),gy (by simp) (fN Ã Ç (fu Z' rfl ⟨rfl,gy (λ z=>z rfl) (hN _ _ ?_)⟩))⟩)⟩;walk_at "rd";refine fN Ã Ç (fu Z' rfl (fN d3 atd (fN ((s2.trans s3) _ _ UQ) (v:=.int (jS W ja b')) (gx Yt (by rw [ak,au,fv b' bl];rfl)) ?_)));rw [fl];exact⟨pp.2,gr,sa,ml,pt,f.2.length,st,f.1,sh,ms,f.2,rs,ss,rfl,eg3,HQ.same L0,Ri,FF.same L0,HE,ZP,hws.same L0,rfl,w62,AU.same L0,Gs,wk,ZN,fit,λ H4 s4=>⟨_,rfl,gy (by decide) (s3.trans s4)⟩⟩
  .rintro σ H3 ⟨v7,v8,rfl,s3⟩;refine hN _ _ ?_;walk_at "rd";exact k H3 (A3.trans s3)
theorem o6:fI ["web","tree","start","found"] ["web","tree","start"] (fC vP):=by walk_at "sc"
theorem Hf (T:Txt K mg t):fX P w K mg base (ij P w) 86 t.CI t.Cb ["web","tree","start"] (tJ t):=by
 have LM:=G8 (P:=P) (w:=w) (base:=base) T;refine T.DJ.fn.okN o6 (λ iw A outer s H vs Q E hr h=> ?_)
 .obtain⟨p,a,W,tr,st,rfl,w,jr,AW,ht,Œ,þ,Ô,k1,k2⟩:=h
  refine⟨_,Bx.un (c_ (fD 3 o6.nd kA)
   (c_ (OU rfl rfl
   (OT (OS (i:=3) o6.nd rfl (by walk_at "o") (U9 T.Jg LM hr (λ _=>(a_ (fq 0) (a_ (fq 1) (a_ (fq 2) d_)))))))
   (RD.cons (b:=false) (λ _ _=>(Rt (T.xm.hit T.zM) T.BR (λ _=>(fh (fD 3 o6.nd kA))))) RD.nil))
   (fh (fF (fq 3))))),?_⟩
  walk_at "rs";refine fk λ N hN=> ?_;walk_at "rd";refine hN _ _ ?_;refine fk λ N hN=> ?_
  have hM:∀(v:V) (H':Hp),Q v H'->N [some (.ref p),some (.ref a),some (.str (tx st)),some v] H':=λ v H' h=>by
   refine hN _ _ ?_;walk_at "rd";exact h
  clear hN;walk_at "rd";refine⟨p,a,W,tr,st,rfl,w,jr,AW,ht,Œ,þ,Ô,λ nQ H' s=> ?_,λ nQ q H' ps M es s Pj md bk fe th WR full fd=>hM _ _ (k2 nQ q H' ps M es s Pj md bk fe th WR full fd)⟩;exact .inl ⟨rfl,λ z=>z.elim,hM _ _ (k1 nQ H' s)⟩
theorem vC:fI ["found","grown","things","ties","start"] ["found","grown","things","ties","start"] (fC lF):=by walk_at "sc"
theorem vZ (T:Txt K mg t):fX P w K mg base (ij P w) 45 t.qd t.p_ ["found","grown","things","ties","start"] (kO):=by
 have O_:=KU (P:=P) (w:=w) (base:=base) T;refine T.nO.fn.okN vC (λ iw A outer s H vs Q E hr h=> ?_)
 .obtain⟨v,gr,sa,ml,lt,pt,ts,rs,sh,ms,st,rfl,eg,HQ,Ri,FF,HE,ZP,iT,nd,Pm,AU,Gs,Pn,AW,h1,h2,k⟩:=h
  refine⟨_,Bx.un (c_ (fS (fG pA (fq 4) (fq 2) (by with_unfolding_all rfl))
   (fh (fF (iW Nv (fq 0) kA (fO _))))
   fH)
   (fh (fF (vd (iW Jr (fq 0) kA (fO _)) (nA (fK T.NV O_ hr fM (a_ (fq 0) (a_ (fq 1) (a_ (fq 2) (a_ (fq 3) (a_ (fq 4) d_))))))))))),?_⟩
  walk_at "rs";refine fk λ N hN=> ?_;walk_at "rd";refine Dm (gg.of iT) ?_;by_cases c:st∈ts
  .rw [if_pos rfl,decide_eq_true c];refine⟨_,rfl,gy (by decide) (hN _ _ ?_)⟩;obtain⟨q,B,ps,fs,a,rfl,fd,ha,gf⟩:=h2 c;walk_at "rd";exact⟨q,gr,sa,ml,lt,pt,B,ps,fs,ts,rs,sh,ms,a,st,rfl,fd,eg,HQ,Ri,FF,HE,ZP,iT,nd,Pm,AU,Gs,Pn,AW,ha,gf,k⟩
  .rw [if_pos rfl,decide_eq_false c];refine⟨_,rfl,jf rfl ?_⟩;rw [decide_eq_true (h1 c)];exact k _ (fw.refl _)
theorem lW:fI ["web","turn","cell","all_names","things","ties","names","base","thing","held_by","number","end","tie"] ["web","turn","cell","all_names","things","ties","names","base"] (fC zc):=by walk_at "sc"
theorem KW (T:Txt K mg t):fX P w K mg base (ij P w) 4 t.Gd t.FT ["web","turn","cell","all_names","things","ties","names","base"] (Bu t):=by
 have ye:=wa (P:=P) (w:=w) (base:=base) T;have wL:=uM (P:=P) (w:=w) (base:=base) T;have Bh:=(zu (P:=P) (w:=w) (base:=base) T).mono (show 2<=3 by decide);have uq:=(wY (P:=P) (w:=w) (base:=base) T).mono (show 2<=3 by decide);have Bi:=zv (P:=P) (w:=w) (base:=base) T;refine T.NW.fn.okN lW (λ iw A outer s H vs Q E hr h=> ?_)
 .obtain⟨pw,la,lt,pt,nm,tu,c,b,all,W,rs,ts,ns,rfl,nll,Li,l5,gd,tn,sub,jr,hn,nnl,hb,k⟩:=h
  refine⟨_,Bx.un (c_ (fD 8 lW.nd (fc fP (fq 3) (fE gz (fE gK (fq 1) b_) b_)))
   (c_ (LD (i:=9) lW.nd rfl (by walk_at "o") rfl (N:= ["number","thing","ties"]) (fr:= [8,5]) (qp.of (by kernel_rfl)) (fq 5) (λ _ _ _ _ _=>(oN (fG (zm K) (fq 1) (gi (a_ (fc (ni K) (j9 (jO hr) (fq 2) (fq 0)) b_) (a_ (fc (ni K) (j9 (jO hr) (fq 2) (fq 0)) b_) d_))) (by with_unfolding_all rfl))))
    (λ _ _ _ _ _=>(fq 0)))
   (fh (fS (fG pA (fq 8) (fq 4) (by with_unfolding_all rfl))
   (c_ (fT (ip (fq 0) T.ic T.tE ye hr fM (a_ (fq 8) d_)))
   (fh (fT (ig aE aT aS gE (fq 4) (a_ (fq 8) d_)))))
   (fh (fS (u_ (fG iE (fE gz (fq 1) b_) b_ (fO _)) (qZ (fG iE (fJ fQ (by rfl) T.iG PySem.boot_len (a_ (fq 9) d_)) b_ (fO _)))).L7
   (c_ (fT (ip (fq 0) T.ic T.rA wL hr fM (a_ (fq 8) d_)))
   (fh (fT (ig aE PySem.F.slot_list_remove PySem.F.type_list_remove K2 (fq 4) (a_ (fq 8) d_)))))
   (fh (fS (u_ (fG iE (fE gz (fq 1) b_) b_ (fO _)) (qZ (fG Js (fJ r9 (by rfl) T.iG PySem.boot_len (a_ (fq 5) d_)) b_ (fO _)))).L7
   (c_ (fD 10 lW.nd (fc fP (iK (mL rfl) (by rfl) T.mO bC (a_ (fq 5) d_)) (fE gz (fE gK (fq 1) b_) (fJ r9 (by rfl) T.iG PySem.boot_len (a_ (fq 5) d_)))))
   (c_ (fT (ip (fq 0) T.ic T.xJ Bh hr fM (a_ (fq 10) d_)))
   (fh (fT (wH (fq 5) (fq 10))))))
   (c_ (fD 11 lW.nd (fc fP (fq 4) (fE gz (fE gK (fq 1) b_) (fJ fQ (by rfl) T.iG PySem.boot_len (a_ (fq 4) d_)))))
   (c_ (fD 12 lW.nd (gF (a_ (fq 8) (a_ (fc fP (fq 6) (fE gz (fE gK (fq 1) b_) b_)) (a_ (fq 11) (a_ (fK T.zD uq hr fM (a_ (fq 2) (a_ (fE gK (fq 1) b_) (a_ (fq 7) d_)))) d_))))))
   (fh (q_ (jO hr) (fq 5) (Rp (fq 0) T.ic T.xK Bi hr fM (a_ (fc fB (fq 12) b_) (a_ (fc fB (fq 12) b_) (a_ (fc fB (fq 12) b_) (a_ (fc fB (fq 12) b_) d_))))) (fq 12))))))))))))),?_⟩
  walk_at "rs"
  have pick:∀(ts:List Nm) (j:Int),0<=j->j<ts.length->∃l∈ts,vq (ts.map λ l=>V.str (tx l)) j=some (.str (tx l)):=λ ts j j0 j1=>by
   obtain⟨u,e1,e2⟩:=pN (xs:=ts.map λ l=>V.str (tx l)) j0 (by rwa [ae]);obtain⟨l,hl,rfl⟩:=iR e2;exact⟨l,aq hl,e1⟩
  obtain⟨th,Xd,eth⟩:=pick all (tu/8%5) (Int.emod_nonneg _ (by decide)) (by lia);refine fk λ N hN=> ?_;walk_at "rd";refine fN Li eth (hN _ _ ?_);refine fk λ N hN=> ?_;have kl:(fU rs).length=rs.length:=by unfold fU;rw [ae]
  refine Cm (d:=pt) (kvs:=fU rs) (λ R hR=>⟨_,rfl,hR⟩) tn.rows.at_ (f_ (Zc (Ze kl) (Zc jr (Zd rfl)))) (λ k=>rs.any λ x=>decide (Sum.inl x.1=k)&&(decide (x.2.2.start=th)||decide (x.2.2.stop=th))) (λ k=>kV k) (λ k H2 Q2 hk off rd h=> ?_) (λ k H2 Q2 hk hp off rd h=> ?_) λ hl H2 hhl s2 d2=>hN _ _ ?_
  .unfold fU at hk;rw [aR] at hk;obtain⟨⟨num,ta,fZ⟩,jt,rfl⟩:=aC.mp hk;have hv:=yC tn.nd jt;have rt:H2 ta=some (.tup (xN fZ)):=off _ _ (gA (tn.rows.iM _ jt) tn.rows.at_ (λ z=>nomatch z)) (tn.rows.iM _ jt);dsimp only [Function.comp] at h⊢;walk_at "rd";have dg:lM H2 pt (kV (Sum.inl num)) (some (.ref ta)):=.inl ⟨_,.inl num,rd,rfl,hv.symm⟩;refine⟨_,dg,fu rt rfl ⟨_,dg,fu rt rfl ⟨by decide,λ p hp=> ?_⟩⟩⟩;refine Dm (ns:= [fZ.start,fZ.stop]) (gg.of e_) ⟨_,rfl,?_⟩
   have e:(rs.any λ x=>decide ((Sum.inl x.1:Key) = .inl num)&&(decide (x.2.2.start=th)||decide (x.2.2.stop=th)))=decide (th∈[fZ.start,fZ.stop]):=by
    rw [cw,bL,decide_eq_true_eq];constructor
    .rintro⟨x,hx,hb⟩;simp only [bc,dR,decide_eq_true_eq] at hb;have ex:=wb tn.nd hx jt (by have:=hb.1;injection this);rw [ex] at hb;rcases hb.2 with z|z
     .simp [<-z]
     .simp [<-z]
    .intro hm;refine⟨_,jt,?_⟩;simp only [av,bb,or_false] at hm;rcases hm with z|z
     .simp [z]
     .simp [z]
   rw [e] at h;exact h _ (fw.new hp)
  .walk_at "rd";exact h _ (fw.refl _)
  have kX:=tn.same s2
  have Ν:(((fU rs).map (·.1)).filter λ k=>rs.any λ x=>decide (Sum.inl x.1=k)&&(decide (x.2.2.start=th)||decide (x.2.2.stop=th))).length=0->∀x∈rs,x.2.2.start≠th/\x.2.2.stop≠th:=by
   intro h x hx;have e:=cq.mp h
   have:¬((rs.any λ y=>decide ((Sum.inl y.1:Key) = .inl x.1)&&(decide (y.2.2.start=th)||decide (y.2.2.stop=th)))=true):=by
    intro z
    have:(Sum.inl x.1:Key)∈((fU rs).map (·.1)).filter λ k=>rs.any λ x=>decide (Sum.inl x.1=k)&&(decide (x.2.2.start=th)||decide (x.2.2.stop=th)):=by
     refine bF.mpr ⟨?_,z⟩;unfold fU;rw [aR];exact aC.mpr ⟨x,hx,rfl⟩
    rw [e] at this
    cases this
   constructor
   .intro z;exact this (bL.mpr ⟨x,hx,by simp [z]⟩)
   .intro z;exact this (bL.mpr ⟨x,hx,by simp [z]⟩)
  generalize ((fU rs).map (·.1)).filter (λ k=>rs.any λ x=>decide (Sum.inl x.1=k)&&(decide (x.2.2.start=th)||decide (x.2.2.stop=th)))=ks at d2 Ν;have RH:=tn.RH
  have t5:ts.length<=5:=by
   have:=mE ts all RH sub;exact Zc this (Ze l5)
  have HJ:gS [lt] H H2:=fw.kH s2;have Ź:∀l∈all,NA l:=λ l hl x hx=>Eh ((gd l hl).2.2 x hx);have gth:=gd th Xd;have VH:lt≠pt:=gA kX.lst kX.rows.at_ (λ z=>nomatch z);walk_at "rd";refine Dm (gg.of kX.lst) ?_;by_cases ct:th∈ts
  case neg=>
   rw [if_pos rfl,decide_eq_false ct];refine⟨_,rfl,jf rfl ⟨_,_,kX.Ex.obj,rfl,pw,W,th,rfl,kX.Ex,f_ (by have:=gth.2.1;exact Zc this (Zd rfl)),?_⟩⟩;unfold WA.As
   rw [JI gth,if_neg (by decide),if_neg (by rwa [kX.A8]),if_neg (by
    have h1:=congrArg List.length kX.A8;unfold WA.names at h1;rw [ae] at h1;exact Zy (Zb (Ze h1) (Zb t5 (Zd rfl))))]
   intro H3 W3 w3 U2 s3;have l3:=s3.off _ _ kX.VC kX.lst;have p3:=s3.off _ _ kX.po kX.rows.at_;have WH:W3.next=W.next:=congrArg WA.next U2;refine⟨gu (gg.of l3),_,l3,aF (show _<3000 by rw [ae];exact Zb t5 (Zd rfl)) (f_ (by decide)),k _ W3 rs (ts ++ [th]) (kX.QX s3 w3 (λ b o _ h2 e=>(fo h2).trans e) ((fo VH.symm).trans p3) (by rw [e_,ax];rfl) (λ x hx=>s3.tup _ _ (kX.rows.iM x hx)) ?_ ?_ kX.P_ (λ x hx=>by rw [WH];exact kX.low x hx) (λ x hx=>let ⟨h1,h2,h3⟩:=kX.fZ x hx;⟨aN _ h1,aN _ h2,h3⟩) (by rw [WH];exact kX.next)) (λ l hl=> ?_) Zk ((HJ.trans (kX.Ex.kH s3)).trans (gS.put (by simp) l3))⟩
   .rw [U2];have h1:=kX.A8;unfold WA.names at h1⊢;rw [ax,h1];rfl
   .rw [U2];exact kX.eq
   .rcases aA.mp hl with z|z
    .exact sub l z
    .rwa [aj.mp z]
  rw [if_pos rfl,decide_eq_true ct];refine⟨_,rfl,gy (by decide) ?_⟩;refine J0 (λ hX=>fV (λ _=>⟨_,.inl (gg.of d2),fV (λ h0=> ?_) λ _=>hX⟩) λ _=>hX) ?_
  .have free:=Ν (by rw [ae] at h0;exact Int.ofNat.inj h0);refine⟨_,_,kX.Ex.obj,rfl,pw,W,th,rfl,kX.Ex,?_⟩
   have WK:∀f:jQ->Nm,(∀x∈rs,f x.2.2≠th)->W.abs.at_ f th = []:=λ f hf=>by
    unfold WA.at_;rw [<-kX.eq]
    have:((L2.plain rs).filter λ x=>decide (f x.2=th)) = []:=by
     rw [List.filter_eq_nil_iff];intro x hx;unfold L2.plain at hx;obtain⟨y,hy,rfl⟩:=aC.mp hx;simp [hf y hy]
    rw [this];rfl
   unfold WA.wA;rw [if_neg (λ z=>z (by rwa [kX.A8])),if_neg (λ z=>by rcases z with z|z;exact z (WK _ λ x hx=>(free x hx).1);exact z (WK _ λ x hx=>(free x hx).2))];intro H3 W3 w3 U2 s3;have l3:=s3.off _ _ kX.VC kX.lst;have p3:=s3.off _ _ kX.po kX.rows.at_;have WH:W3.next=W.next:=congrArg WA.next U2;refine⟨gu (gg.of l3),_,l3,ct,k _ W3 rs (ts.erase th) (kX.QX s3 w3 (λ b o _ h2 e=>(fo h2).trans e) ((fo VH.symm).trans p3) e_ (λ x hx=>s3.tup _ _ (kX.rows.iM x hx)) ?_ ?_ kX.P_ (λ x hx=>by rw [WH];exact kX.low x hx) (λ x hx=> ?_) (by rw [WH];exact kX.next)) (λ l hl=>sub l (List.mem_of_mem_erase hl)) Zk ((HJ.trans (kX.Ex.kH s3)).trans (gS.put (by simp) l3))⟩
   .rw [U2,RH.erase_eq_filter,<-kX.A8];unfold WA.names;rw [cv]
    congr 1
    refine eL λ x _=> ?_;simp only [bne,Function.comp];by_cases e:x.1=th
    .simp [e]
    .simp [e]
   .rw [U2];exact kX.eq
   .obtain⟨h1,h2,h3⟩:=kX.fZ x hx;exact⟨(c7 (free x hx).1).mpr h1,(c7 (free x hx).2).mpr h2,h3⟩
  have ÿ:∀x∈W.fL.map (·.1),x<W.next:=λ x hx=>by
   have e:L2.plain rs=W.abs.fL:=kX.eq
   have:x∈(L2.plain rs).map (·.1):=by
    rw [e];unfold WS.abs
    rwa [aR]
   rw [zi] at this;exact(kX.low x this).2
  have wtl:W.abs.fL.length=rs.length:=by
   rw [<-kX.eq];unfold L2.plain;rw [ae]
  have WN:∀l∈ts,l∈W.abs.names:=λ l hl=>by rwa [kX.A8]
  refine J0 (λ els=>fV (λ _=>⟨_,kX.rows.at_,fV (λ Uy=> ?_) λ _=>els⟩) λ _=>els) ?_
  .refine⟨_,.inl kX.rows.at_,λ l hl=> ?_⟩;rw [K_];have n5:=fw.new (o:=.lst ((rs.map (·.1)).map V.int)) hl;have m5:=kX.same n5;have l5:upd H2 l (.lst ((rs.map (·.1)).map V.int)) l=some (.lst ((rs.map (·.1)).map V.int)):=e_;generalize upd H2 l (.lst ((rs.map (·.1)).map V.int))=H5 at n5 m5 l5;have aad:0<rs.length:=by lia
   refine⟨_,m5.rows.at_,Uy,?_⟩;rw [kl];obtain⟨u,e1,e2⟩:=pN (xs:=(rs.map (·.1)).map V.int) (i:=tu/8%(rs.length:Int)) (dQ _ (Ym (YA aad))) (by rw [ae,ae];exact dr _ (YA aad));obtain⟨x,hx,rfl⟩:=iR e2;have xin:x∈rs.map (·.1):=aq hx;have xW:x∈W.abs.fL.map (·.1):=by rwa [<-m5.eq,zi]
   refine fN l5 e1 ⟨_,_,m5.Ex.obj,rfl,pw,W,x,rfl,m5.Ex,?_⟩;unfold WA.Ii;rw [if_neg (λ z=>z xW)];intro H6 W6 w6 U1 s6;have p6:H6 pt=some (.dK (fU rs)):=s6.off _ _ m5.po m5.rows.at_;have l6:=s6.off _ _ m5.VC m5.lst;have ks:(hV (fU rs) (.inl x)).isSome=true:=by rw [mZ,decide_eq_true xin]
   obtain⟨vv,hvv⟩:=Option.isSome_iff_exists.mp ks;refine⟨.inl ⟨_,.inl p6⟩,_,p6,.inl x,rfl,vv,hvv,?_⟩;rw [zX];have Ż:W6.next=W.next:=congrArg WA.next U1;have Kq:(rs.filter λ y=>decide (y.1≠x)).map (·.1) |>.Sublist (rs.map (·.1)):=de.map _;have aam:(rs.filter λ y=>decide (y.1≠x)).length<=rs.length:=bG _ _;refine k _ W6 (rs.filter λ y=>decide (y.1≠x)) ts (m5.QX s6 w6 (λ b o h1 _ e=>(fo h1).trans e) e_ ((fo VH).trans l6) (λ y hy=>s6.tup _ _ (m5.rows.iM y (bF.mp hy).1)) ?_ ?_ (m5.P_.sublist Kq) (λ y hy=> ?_) (λ y hy=>m5.fZ y (bF.mp hy).1) (by rw [Ż];exact m5.next)) sub (Zc aam Zk) (((HJ.trans (fw.kH n5)).trans (m5.Ex.kH s6)).trans (gS.dic p6))
   .rw [U1];exact m5.A8
   .rw [U1,MP,m5.eq]
   .have:=m5.low y (Kq.subset hy);lia
  .have Ĝ:kW H2 nm ns:=⟨s2 _ _ hn.1,hn.2⟩
   have Mq:0<ts.length:=List.length_pos_of_mem ct;obtain⟨l2,BN,UY⟩:=pick ts (tu/40%(ts.length:Int)) (dQ _ (Ym (YA Mq))) (dr _ (YA Mq));obtain⟨u,e1,e2⟩:=pN (xs:=ns.map λ l=>V.str (tx l)) (i:=tu/200%4) (Int.emod_nonneg _ (by decide)) (by rw [ae,Ĝ.2.1];exact Int.emod_lt_of_pos _ (by decide));obtain⟨n3,ĝ,rfl⟩:=iR e2;have Ļ:=Ĝ.2.2 n3 (aq ĝ);refine⟨_,.inl (gg.of kX.lst),by rw [ae];exact YA Mq,?_⟩;rw [ae];refine fN kX.lst UY (fN Ĝ.1 e1 ⟨_,_,_,rfl,hb,λ wt hwt=>⟨by decide,λ p hp=> ?_⟩⟩);have n5:=fw.new (o:=.tup [.str (tx th),.str (tx n3),.str (tx l2),.int wt]) hp;have m5:=kX.same n5;have p5:upd H2 p (.tup [.str (tx th),.str (tx n3),.str (tx l2),.int wt]) p=some (.tup (xN ⟨th,n3,l2,wt⟩)):=e_;generalize upd H2 p (.tup [.str (tx th),.str (tx n3),.str (tx l2),.int wt])=H5 at n5 m5 p5;refine⟨_,_,m5.Ex.obj,rfl,fu p5 rfl (fu p5 rfl (fu p5 rfl (fu p5 rfl ⟨pw,W,th,n3,l2,wt,rfl,m5.Ex,ÿ,f_ (by have:=Ļ.2.1;exact Zc this (Zd rfl)),?_⟩)))⟩
   have fresh:W.next∉rs.map (·.1):=λ z=>by
    have:=(m5.low _ z).2;exact Yf this (Int.le_refl _)
   have aao:=hwt.lt;unfold WA.Iw;rw [if_neg (λ z=>by rcases z with z|z;exact z (WN th ct);exact z (WN l2 BN)),JI Ļ,if_neg (by decide),if_neg (Zy aao),if_neg (by rw [wtl];exact Zy (Zb jr (Zd rfl)))];intro H6 W6 w6 U1 s6;have p6:H6 pt=some (.dK (fU rs)):=s6.off _ _ m5.po m5.rows.at_;have l6:=s6.off _ _ m5.VC m5.lst;have Ż:W6.next=W.next+1:=congrArg WA.next U1;have nx0:=m5.next;refine⟨_,AQ.k (k:=.inl W.next) p6 (by rw [kl];exact aF (show rs.length<3000 from Zb jr (Zd rfl)) (f_ (by decide))),?_⟩;rw [MO (x:=⟨th,n3,l2,wt⟩) fresh];refine k _ W6 (rs ++ [(W.next,p,⟨th,n3,l2,wt⟩)]) ts (m5.QX s6 w6 (λ b o h1 _ e=>(fo h1).trans e) e_ ((fo VH).trans l6) (λ y hy=> ?_) ?_ ?_ ?_ (λ y hy=> ?_) (λ y hy=> ?_) (by lia)) sub (by rw [ao];simp only [aG,aW];exact Nat.le_refl _) (((HJ.trans (fw.kH n5)).trans (m5.Ex.kH s6)).trans (gS.dic p6))
   .rcases aA.mp hy with z|z
    .exact s6.tup _ _ (m5.rows.iM y z)
    .rw [aj.mp z];exact s6.tup _ _ p5
   .rw [U1];exact m5.A8
   .rw [U1,<-m5.eq];unfold L2.plain;rw [ax];rfl
   .rw [ax,List.pairwise_append];refine⟨m5.P_,by simp,λ x hx y hy=> ?_⟩;rw [show y=W.next by simpa using hy];exact(m5.low x hx).2
   .rw [ax] at hy;rcases aA.mp hy with z|z
    .have:=m5.low y z;lia
    .rw [show y=W.next by simpa using z];exact ⟨nx0,(Yg Ż)⟩
   .rcases aA.mp hy with z|z
    .exact m5.fZ y z
    .rw [aj.mp z];exact⟨ct,BN,⟨Ź th Xd,λ x hx=>Eh (Ļ.2.2 x hx),Ź l2 (sub _ BN)⟩⟩
theorem jZ:fI ["script","names","base","all_names","grown","tree","web","things","ties","told","cell","turn","start","k"] ["script"] (fC MK):=by walk_at "sc"
def Ja (K:ai):Sp:=λ vs H Q _=>∃(a:ac) (ns:List Int),vs = [.ref a]/\gg K H a (ns.map V.int)/\ns.length<=63/\∀H',Q (.bl true) H'
theorem TB (F:Pb K "law" "law" MK f fd) (T:Txt K mg t):fX P w K mg base (ij P w) 88 f fd ["script"] (Ja K):=by
 have LP:=(Hc (P:=P) (w:=w) (base:=base) T).mono (show 1<=87 by decide);have AM:=(BF (P:=P) (w:=w) (base:=base) T).mono (show 1<=87 by decide);have IB:=(Ff (P:=P) (w:=w) (base:=base) T).mono (show 1<=87 by decide);have LR:=(He (P:=P) (w:=w) (base:=base) T).mono (show 4<=87 by decide);have rD:=(KS (P:=P) (w:=w) (base:=base) T).mono (show 41<=87 by decide);have IE:=(Fl (P:=P) (w:=w) (base:=base) T).mono (show 1<=86 by decide);have rE:=(Dw (P:=P) (w:=w) (base:=base) T).mono (show 1<=87 by decide);have oR:=(tW (P:=P) (w:=w) (base:=base) T).mono (show 1<=87 by decide);have Pa:=(KW (P:=P) (w:=w) (base:=base) T).mono (show 4<=87 by decide);have qm:=(vZ (P:=P) (w:=w) (base:=base) T).mono (show 45<=87 by decide);have CS:=(Hf (P:=P) (w:=w) (base:=base) T).mono (show 86<=87 by decide);refine F.okN jZ (len:=λ vs H Q E h=>by obtain⟨_,_,rfl,_⟩:=h;rfl) (λ iw A outer s H vs Q E hr h=> ?_)
 .obtain⟨a,ns,rfl,hS,hlen,k⟩:=h
  refine⟨_,Bx.un (c_ (fD 1 jZ.nd (fK T.Jz LP hr fM (a_ (fK T.rX rE hr fM (a_ (fq 0) (a_ b_ d_))) d_)))
   (c_ (fD 2 jZ.nd (fK T.HI AM hr fM (a_ (fK T.rX rE hr fM (a_ (fq 0) (a_ b_ d_))) d_)))
   (c_ (fD 3 jZ.nd (fK T.FA IB hr fM (a_ (fK T.rX rE hr fM (a_ (fq 0) (a_ b_ d_))) (a_ b_ d_))))
   (c_ (fD 4 jZ.nd (fK T.JB LR hr fM (a_ (jL m_ (fq 0) (jU b_) (jU b_)) (a_ (fq 1) (a_ (fq 2) (a_ b_ d_))))))
   (c_ (fD 5 jZ.nd (fK T.wj rD hr fM (a_ (fc fB (fq 4) b_) (a_ (fc fB (fq 4) b_) d_))))
   (c_ (fD 6 jZ.nd (Cp T.TU IE hr (by rfl) T.XH T.Gh.b .nil fM))
   (c_ (fD 7 jZ.nd (gi d_))
   (c_ (fD 8 jZ.nd j8)
   (c_ (fD 9 jZ.nd (gi d_))
   (c_ (gX PassesOwn.never rfl (gq (fE mD (jL m_ (jL m_ (fq 0) (jU b_) lC) lC (jU b_)) (gi (a_ b_ (a_ b_ (a_ b_ (a_ b_ (a_ b_ d_)))))))) (gn 10 jZ.nd)
   (c_ (fD 11 jZ.nd (fK T.ym oR hr fM (a_ (fq 10) d_)))
   (c_ (fT (fK T.NW Pa hr fM (a_ (fq 6) (a_ (fE gK (fq 11) b_) (a_ (fq 10) (a_ (fq 3) (a_ (fq 7) (a_ (fq 8) (a_ (fq 1) (a_ (fq 2) d_))))))))))
   (fh (fS (u_ (fG iE (fE gz (fE gK (fq 11) b_) b_) b_ (fO _)) (qZ (fG oy (fJ fQ (by rfl) T.iG PySem.boot_len (a_ (fq 9) d_)) b_ (fO _)))).L7
   (c_ (fD 12 jZ.nd (fc fP (fq 3) (fE gz (fE gK (fq 11) b_) b_)))
   (c_ (fT (ig aE aT aS gE (fq 9) (a_ (fK T.DJ CS hr fM (a_ (fq 6) (a_ (fq 5) (a_ (fq 12) d_)))) d_)))
   (c_ (fS (jJ (iu (fK T.nO qm hr fM (a_ (fc fP (fq 9) (uf tI b_)) (a_ (fq 4) (a_ (fq 7) (a_ (fq 8) (a_ (fq 12) d_))))))))
   (fh (fF jn))
   fH)
   (fh (fS (fG Jr (fc fP (fq 9) (uf tI b_)) kA (fO _))
   (fh (fT (ig aE aT aS gE (fq 9) (a_ (iV rfl (N:= ["row"]) (fr:= []) (qp.of (by kernel_rfl)) (gq (fc fP (fq 9) (uf tI b_))) (λ _ _ _ _ _=>gB)
    (λ _ _ _ _ _=>(gF (a_ (fc (ni K) (fq 0) b_) (a_ (iK (nS K) (by rfl) T.mO bC (a_ (fc (ni K) (fq 0) b_) d_)) d_))))) d_))))
   (fh (fT (ig aE aT aS gE (fq 9) (a_ kA d_)))))))))
   fH)))))
   (c_ (gX PassesOwn.never rfl (gq (fq 3)) (gn 12 jZ.nd)
   (fh (fS (jJ (iu (fK T.nO qm hr fM (a_ (fK T.DJ CS hr fM (a_ (fq 6) (a_ (fq 5) (a_ (fq 12) d_)))) (a_ (fq 4) (a_ (fq 7) (a_ (fq 8) (a_ (fq 12) d_))))))))
   (fh (fF jn))
   fH)))
   (c_ (gX PassesOwn.never rfl (gJ rfl T.iB (a_ (fE gK (fJ fQ (by rfl) T.iG PySem.boot_len (a_ (fq 9) d_)) b_) d_)) (gn 13 jZ.nd)
   (fh (fS (fG (Tx (ē hr)) (fc fP (fq 9) (fE tV b_ (fq 13))) (fc fP (fq 9) (fE iN (fE tV b_ (fq 13)) b_)) (fO _))
   (fh (fF jn))
   fH)))
   (fh (fF jn)))))))))))))),?_⟩
  walk_at "rs";refine fk λ N hN=> ?_;walk_at "rd";refine⟨_,_,_,rfl,hS,by decide,λ c1=>⟨_,rfl,λ nm H1 A8 hnm s1 hn=>hN _ _ ?_⟩⟩;refine fk λ N hN=> ?_;walk_at "rd";refine⟨_,_,_,rfl,s1.seq hS,by decide,λ c2=>⟨_,rfl,λ b hb=>hN _ _ ?_⟩⟩;refine fk λ N hN=> ?_;walk_at "rd";refine⟨_,_,_,rfl,s1.seq hS,by decide,λ c3=>⟨_,_,rfl,by decide,by decide,λ la H2 all Li s2 t2 l5 aap gd=>hN _ _ ?_⟩⟩;have l5:all.length=5:=l5;have ų:=s1.trans s2;have WO:kW H2 nm A8:=⟨s2 _ _ hn.1,hn.2⟩
  obtain⟨gs,egs,lgs⟩:=FV ns (some 3) (some 7);refine fk λ N hN=> ?_;walk_at "rd";refine⟨a,_,rfl,ų.seq hS,λ q hq=> ?_⟩;rw [egs];have n3:=fw.new (o:=.lst (gs.map V.int)) hq;have q3:upd H2 q (.lst (gs.map V.int)) q=some (.lst (gs.map V.int)):=e_;generalize upd H2 q (.lst (gs.map V.int))=H3 at n3 q3;refine⟨_,_,_,4,_,A8,rfl,q3,by lia,⟨n3 _ _ WO.1,WO.2⟩,hb,by decide,by decide,λ gr sa ml H5 sh ms hgr ğ s5 eg HQ FF lv jr _ on nbm=>hN _ _ ?_⟩;have Y7:=n3.trans s5;have P9:=ų.trans Y7;have ò:kW H5 nm A8:=⟨Y7 _ _ WO.1,WO.2⟩
  have t5:=Y7 _ _ t2;have kn:=HQ.kinds
  have Ri:sh.deep<=40:=by
   have:=sh.yr;rw [lv,aJ] at this;lia
  have jj:=Sh.E5 (ms:=ms) lv
  have wms:∀m∈ms,uk m:=by
   obtain⟨am,_,al⟩:=FF;intro m hm;obtain⟨i,hi⟩:=aL.mp hm;obtain⟨x,_,r⟩:=al.at hi;exact r.2
  have HE:∀i∈sh.leaves,i<ms.length:=λ i hi=>by
   rw [lv,aV] at hi;exact hi
  refine fk λ N hN=> ?_;walk_at "rd";refine fu eg rfl (fu eg rfl ⟨sa,ml,sh,ms,rfl,HQ,Ri,FF,HE,λ tr H6 s6 ht=>hN _ _ ?_⟩);have SS:=P9.trans s6;have t6:=s6 _ _ t5;have ZJ:kW H6 nm A8:=⟨s6 _ _ ò.1,ò.2⟩
  have eg6:=s6 _ _ eg;have Xh:=HQ.same s6;have Uv:=FF.same s6;clear HQ FF eg ò t5 s5 Y7 n3 q3 hq s6 WO t2;refine fk λ N hN=> ?_;walk_at "rd";intro pw dx hp Z1 ZW;refine⟨pw,dx,rfl,e_,λ H7 W0 w0 e1 e2 e3 off own=>⟨rfl,hN _ _ ?_⟩⟩;have ZL:YL H6 H7 (W0.own pw):=PD hp Z1 off own;clear off own hp Z1 ZW dx;refine fk λ N hN=> ?_;walk_at "rd";refine⟨aQ _,λ lt iT=>hN _ _ ?_⟩;have n8:=fw.new (o:=.lst []) iT;have l8:upd H7 lt (.lst []) lt=some (.lst (([]:List Nm).map λ l=>.str (tx l))):=e_;have w8:=w0.same n8;generalize upd H7 lt (.lst [])=H8 at n8 l8 w8;refine fk λ N hN=> ?_;walk_at "rd";refine λ pt Ė=>hN _ _ ?_;have n9:=fw.new (o:=.dK []) Ė;have p9:upd H8 pt (.dK []) pt=some (.dK (fU [])):=e_;have l9:=n9 _ _ l8;have w9:=w8.same n9
  have po:pt∉W0.own pw:=λ z=>by
   obtain⟨o,e,_⟩:=w8.Nu z;rw [Ė] at e
   cases e
  generalize upd H8 pt (.dK [])=H9 at n9 p9 l9 w9;refine fk λ N hN=> ?_;walk_at "rd";refine⟨aQ _,λ tl ZS=>hN _ _ ?_⟩;have AR:=fw.new (o:=.lst []) ZS;have Å:upd H9 tl (.lst []) tl=some (.lst []):=e_
  have YW:Turn t (upd H9 tl (.lst [])) pw lt pt W0 [] []:=by
   refine⟨w9.same AR,⟨AR _ _ p9,λ x hx=>(by cases hx)⟩,AR _ _ l9,po,?_,?_,List.Pairwise.nil,λ x hx=>(by cases hx),λ x hx=>(by cases hx),?_⟩
   .rw [oB,e1];rfl
   .unfold WS.abs;rw [e2];rfl
   .rw [e3];exact cI _
  generalize upd H9 tl (.lst [])=CO at AR Å YW;have à:=n8.trans n9;have RL:fw H6 CO:=(ZL.same.trans à).trans AR;have YX:tl≠lt:=(fA l9 ZS).symm
  have fr:∀{x:ac} {o:HO},H6 x=some o->x∉[lt,tl]:=λ {x o} h z=>by
   rcases av.mp z with z|z
   .rw [z] at h;have:=ZL.same _ _ h;rw [iT] at this
    cases this
   .rw [aj.mp z] at h;have:=à _ _ (ZL.same _ _ h);rw [ZS] at this
    cases this
  obtain⟨am,em,Ar⟩:=id Uv;have fla:=fr t6;have fnm:=fr ZJ.1;have fml:=fr em;have RI:=RL _ _ t6;have TR:kW CO nm A8:=⟨RL _ _ ZJ.1,ZJ.2⟩
  have XW:=RL _ _ eg6;have R9:=Xh.same RL;have R':=Uv.same RL;have Xf:=ht.same RL;have á:=SS.trans RL;clear fr Ar em à AR n9 n8 w9 w8 po p9 l9 l8 ZL w0 e1 e2 e3 Uv Xh eg6 ZJ t6 ht Ė iT ZS RL;obtain⟨OM,ec1,lc1⟩:∃OM:List Int,sE (ns.map V.int) (some 7) none=OM.map V.int/\OM.length<=56:=⟨ns.drop (7:Int).toNat,Lz _ _ (by decide),by rw [cV];show ns.length-7<=56;lia⟩
  obtain⟨cs,ec2,lcs⟩:=FV OM none (some 80);refine fk λ N hN=> ?_;refine⟨_,rfl,_,rfl,a,_,rfl,á.seq hS,λ p1 Pp=>⟨_,rfl,p1,_,rfl,gg.of e_,λ p2 QP=>⟨by decide,λ p3 Ę=> ?_⟩⟩⟩;rw [ec1,ec2] at *;have WU:=((fw.new (o:=.lst (OM.map V.int)) Pp).trans (fw.new (o:=.lst (cs.map V.int)) QP)).trans (fw.new (o:=.lst [V.int 0,V.int 0,V.int 0,V.int 0,V.int 0]) Ę);have ś:upd (upd (upd CO p1 (.lst (OM.map V.int))) p2 (.lst (cs.map V.int))) p3 (.lst [V.int 0,V.int 0,V.int 0,V.int 0,V.int 0]) p2=some (.lst (cs.map V.int)):=(fw.new Ę) _ _ e_;have V6:upd (upd (upd CO p1 (.lst (OM.map V.int))) p2 (.lst (cs.map V.int))) p3 (.lst [V.int 0,V.int 0,V.int 0,V.int 0,V.int 0]) p3=some (.lst (([0,0,0,0,0]:List Int).map V.int)):=e_;generalize upd (upd (upd CO p1 (.lst (OM.map V.int))) p2 (.lst (cs.map V.int))) p3 (.lst [V.int 0,V.int 0,V.int 0,V.int 0,V.int 0])=Gj at WU ś V6;refine⟨p2,p3,_,_,rfl,rfl,ś,V6,f_ (by rw [ae,ae];simp only [aG,aW];lia),λ cl Pw=> ?_⟩;rw [<-ax]
  have lds:(cs ++ [0,0,0,0,0]).length<=61:=by
   rw [ao];simp only [aG,aW];lia
  generalize cs ++ [0,0,0,0,0]=ds at lds;have Pl:=WU.trans (fw.new (o:=.lst (ds.map V.int)) Pw);have Ś:upd Gj cl (.lst (ds.map V.int)) cl=some (.lst (ds.map V.int)):=e_
  have fcl:cl∉[lt,tl]:=λ z=>by
   rcases av.mp z with z|z
   .rw [z,WU _ _ YW.lst] at Pw
    cases Pw
   .rw [aj.mp z,WU _ _ Å] at Pw
    cases Pw
  generalize upd Gj cl (.lst (ds.map V.int))=LL at Pl Ś;have Õ:=YW.same Pl;have e12:=Pl _ _ Å;have Ù:=Pl _ _ RI;have WQ:kW LL nm A8:=⟨Pl _ _ TR.1,TR.2⟩
  have ō:=Pl _ _ XW;have Xi:=R9.same Pl;have Xp:=R'.same Pl;have Ĕ:=Xf.same Pl;clear WU Pl ś V6 Pp QP Ę Pw ec1 ec2 lc1 Xf R' R9 XW TR RI Å YW
  have sm:∀{ts:List Nm},ts.length<=5->ts.length*ms.length<=62:=λ h=>by
   have:=cL h jr;lia
  have pick:∀(ts:List Nm) (j:Int),0<=j->j<ts.length->∃l∈ts,vq (ts.map λ l=>V.str (tx l)) j=some (.str (tx l)):=λ ts j j0 j1=>by
   obtain⟨u,e1,e2⟩:=pN (xs:=ts.map λ l=>V.str (tx l)) j0 (by rwa [ae]);obtain⟨l,hl,rfl⟩:=iR e2;exact⟨l,aq hl,e1⟩
  have ask:∀{Hx:Hp} {W:WS} {rs:List (Int×ac×jQ)} {ts:List Nm},Turn t Hx pw lt pt W rs ts->ts.length<=5->rs.length<=63->gS [lt,tl] LL Hx->∀(st:Nm) (Q2:VK),(∀v H',fw Hx H'->(st∉ts->v = .i6)->(st∈ts->∃(q:ac) (ps:List (ac×ac)) (fs:List (Nm×List (Int×Bool))) (ja:Nat),v = .ref q/\i7 Hx H' q ps fs/\ts[ja]? = some st/\CP ts rs ms sh ja st fs)->Q2 v H')->tJ t [.ref pw,.ref tr,.str (tx st)] Hx Q2 E0:=by
   intro Hx W rs ts tn h5 h63 kp st Q2 h;refine⟨pw,tr,W,sh.real ms,st,rfl,tn.Ex,by rwa [tn.ń],tn.ends,Ĕ.keep kp.tup,by rwa [Sh.rP],by rw [jj];lia,by rwa [jj],λ hn H' s=>h .i6 H' s (λ _=>rfl) (λ hm=>(hn (by rwa [tn.names])).elim),λ hy q H' ps M es s Pj md bk fe th WR full fd=> ?_⟩;rw [tn.names] at hy th fd;obtain⟨ja,VR⟩:=aL.mp hy;exact h (.ref q) H' s (λ z=>(z hy).elim) λ _=>⟨q,ps,_,ja,rfl,fd,VR,HU tn.eq Pj kn lv md bk fe th WR full tn.RH VR (sm h5)⟩
  have ans:∀{Hx:Hp} {W:WS} {rs:List (Int×ac×jQ)} {ts:List Nm},Turn t Hx pw lt pt W rs ts->ts.length<=5->rs.length<=63->gS [lt,tl] LL Hx->∀(v:V) (st:Nm) (Q2:VK),(st∉ts->v = .i6)->(st∈ts->∃(q:ac) (B:Hp) (ps:List (ac×ac)) (fs:List (Nm×List (Int×Bool))) (ja:Nat),v = .ref q/\i7 B Hx q ps fs/\ts[ja]? = some st/\CP ts rs ms sh ja st fs)->(∀H',fw Hx H'->Q2 (.bl true) H')->kO [v,.ref gr,.ref lt,.ref pt,.str (tx st)] Hx Q2 E0:=by
   intro Hx W rs ts tn h5 h63 kp v st Q2 h1 h2 h;exact⟨v,gr,sa,ml,lt,pt,ts,rs,sh,ms,st,rfl,kp.tup _ _ ō,Xi.keep kp.tup,Ri,Xp.kH kp fml,HE,by lia,tn.lst,tn.RH,by lia,tn.rows,tn.nd,by omega,λ x hx=>⟨(tn.fZ x hx).1,(tn.fZ x hx).2.1⟩,h1,h2,h⟩
  refine⟨cl,rfl,⟨_,gg.of Ś⟩,jb (K:=K) (a:=cl) (xs:=ds.map V.int) (λ i σ H'=>∃(v10 v11 II:Option V) (W:WS) (rs:List (Int×ac×jQ)) (ts:List Nm) (vs:List V) (n:Nat),σ = [some (.ref a),some (.ref nm),some (.int b),some (.ref la),some (.ref gr),some (.ref tr),some (.ref pw),some (.ref lt),some (.ref pt),some (.ref tl),v10,v11,II,none]/\Turn t H' pw lt pt W rs ts/\(∀l∈ts,l∈all)/\rs.length<=i/\gS [lt,tl] LL H'/\H' tl=some (.lst vs)/\AF [lt,tl] H' vs n/\n<=8)
   ⟨none,none,none,W0,[],[],[],0,rfl,Õ,(λ l hl=>nomatch hl),az _,gS.refl _ _,e12,AF.none,by decide⟩ (λ i σ H' _ hz=>by obtain⟨_,_,_,_,_,_,_,_,_,_,_,_,kp,_⟩:=hz;exact gg.of (kp.lst _ _ fcl Ś)) ?_ ?_⟩
  .rintro i y σ Ò hi ⟨v10,v11,II,W,rs,ts,vs,n,rfl,tn,sub,rl,kp,À,tk,n8⟩;obtain⟨c,hc,rfl⟩:=iR hi;have il:i<ds.length:=(ag.mp hc).1;clear hN;walk_at "rg";refine fk λ N2 hN=> ?_;walk_at "rd";refine⟨_,rfl,λ tu tu0 tu1=>hN _ _ ?_⟩;refine fk λ N2 hN=> ?_;walk_at "rd";have WN:∀{x:ac},x∉[lt,tl]->x≠lt:=λ h z=>h (by rw [z];simp);refine⟨pw,la,lt,pt,nm,_,c,b,all,W,rs,ts,A8,rfl,WN fla,kp.lst _ _ fla Ù,l5,gd,tn,sub,by lia,⟨kp.lst _ _ fnm WQ.1,WQ.2⟩,WN fnm,hb,λ L9 W2 Wl Mp kX Kq aaf HJ=>hN _ _ ?_⟩;have Ov:=HJ.lst _ _ (by simpa using YX) À;have HJ:=HJ.mono (no':= [lt,tl]) (by simp);have SI:=tk.keep HJ;have VM:=kp.trans HJ;clear tk tn sub HJ kp À
   have V_:Mp.length<=5:=by
    have:=mE Mp all kX.RH Kq;lia
   have AS:=SI.1;refine DB λ N2 hN=> ?_;have hM:∀(II:Option V) (YS:List V) (n':Nat) (H':Hp),Turn t H' pw lt pt W2 Wl Mp->gS [lt,tl] LL H'->H' tl=some (.lst YS)->AF [lt,tl] H' YS n'->n'<=8->N2 [some (.ref a),some (.ref nm),some (.int b),some (.ref la),some (.ref gr),some (.ref tr),some (.ref pw),some (.ref lt),some (.ref pt),some (.ref tl),some (.int c),some (.int tu),II,none] H':=λ II YS n' H' h1 h2 h3 h4 h5=>hN _ _ ⟨_,_,II,W2,Wl,Mp,YS,n',rfl,h1,Kq,by lia,h2,h3,h4,h5⟩;clear hN;have Ĵ:=hM II vs n L9 kX VM Ov SI n8;walk_at "rd";refine fV (λ _=>⟨_,.inl (gg.of Ov),fV (λ l15=> ?_) λ _=>Ĵ⟩) λ _=>Ĵ;clear Ĵ;obtain⟨st,nQ,ň⟩:=pick all (tu/12%5) (by lia) (by lia);have l15:vs.length<15:=by lia
   have small:∀(xs:List V),xs.length<=20->xs.length<dL:=λ xs h=>aF (show _<3000 by lia) (f_ (by decide));refine fN (VM.lst _ _ fla Ù) ň ⟨gu (gg.of Ov),ask kX V_ (by lia) VM st _ λ u V5 SR u1 u2=> ?_⟩;have UR:=SR _ _ Ov;refine⟨_,UR,small _ (by lia),fN e_ (Aq _ _) ?_⟩;have ZQ:gS [lt,tl] V5 (upd V5 tl (.lst (vs ++ [u]))):=gS.put (by simp) UR;have SH:Turn t (upd V5 tl (.lst (vs ++ [u]))) pw lt pt W2 Wl Mp:=(kX.same SR).put UR YX;have Ő:upd V5 tl (.lst (vs ++ [u])) tl=some (.lst (vs ++ [u])):=e_;generalize upd V5 tl (.lst (vs ++ [u]))=Ŧ at ZQ SH Ő
   have live:∀b∈[lt,tl],L9 b≠none:=λ b hb=>by
    rcases av.mp hb with z|z
    .rw [z,kX.lst];exact λ q=>nomatch q
    .rw [aj.mp z,Ov];exact λ q=>nomatch q
   have u3:st∈Mp->∃(q:ac) (ps:List (ac×ac)) (fs:List (Nm×List (Int×Bool))) (ja:Nat),u = .ref q/\i7 L9 Ŧ q ps fs/\Mp[ja]? = some st/\CP Mp Wl ms sh ja st fs:=λ h=>by
    obtain⟨q,ps,fs,ja,h1,h2,h3⟩:=u2 h;exact⟨q,ps,fs,ja,h1,h2.keep ZQ.tup λ b ys hb e=>ZQ.lst b ys (λ z=>live b z hb) e,h3⟩
   have Ω:gS [lt,tl] L9 Ŧ:=(fw.kH SR).trans ZQ;have ć:=VM.trans Ω;refine ans SH V_ (by lia) ć u st _ u1 (λ h=>let ⟨q,ps,fs,ja,h1,h2,h3⟩:=u3 h;⟨q,L9,ps,fs,ja,h1,h2,h3⟩) λ ť Wj=>⟨_,rfl,gy (by decide) (fN (Wj _ _ Ő) (Aq _ _) ?_)⟩
   have Rc:=Wj _ _ Ő;have SG:=SH.same Wj;have ċ:gS [lt,tl] L9 ť:=Ω.trans (fw.kH Wj);by_cases cst:st∈Mp
   .obtain⟨q,ps,fs,ja,rfl,Ņ,VR,gf⟩:=u3 cst;have Ou:=Ņ.same Wj
    have okf:∀f∈fs,NA f.1:=λ f hf x hx=>by
     obtain⟨b',_,yp,_⟩:=gf.way f.1 f.2 hf;exact Eh ((gd _ (Kq _ (aq yp))).2.2 x hx)
    have Ξ:fs.length=ps.length:=Ou.rows.len
    have psl:ps.length<=12:=by
     have h2:=congrArg List.length gf.Æ;rw [ae,ae] at h2;have h3:=bG (λ b=>decide (jS (pS (λ i a b=>∃m,ms[i]? = some m/\zo Mp Wl m a b) sh) ja b<1000000)) (List.range Mp.length);rw [aJ] at h3;lia
    refine jf (λ z=>nomatch z) ⟨gu (gg.of Rc),?_⟩;refine⟨_,rfl,1,rfl,fN Rc (Aq _ _) ⟨q,rfl,⟨_,gg.of Ou.at_⟩,?_⟩⟩
    have zp:(fs.zip ps).map (λ c=>V.ref c.2.1)=ps.map λ x=>V.ref x.1:=by
     rw [show (λ c:(Nm×List (Int×Bool))×(ac×ac)=>V.ref c.2.1)=(λ x:ac×ac=>V.ref x.1)∘Prod.snd from rfl,<-aR,eR (by lia)]
    refine Cj (cs:=fs.zip ps) (g:=λ c=>V.ref c.2.1) (gT (by rw [zp];exact gg.of Ou.at_)) (λ _=>true) (λ H6 c x=>H6 x.1=some (.tup [.str (tx c.1.1),.ref x.2])/\hZ H6 x.2 c.1.2) (λ H6 c x ⟨_,_,h,_⟩ z=>by rw [h] at z;cases z) (λ c x H6 H7 s ⟨h1,h2⟩=>⟨s _ _ h1,h2.same s⟩) (f_ (by rw [b9];lia)) (λ c H6 Q2 hc s6 h=>h _ (fw.refl _)) (λ c H6 Q2 hc hp s6 h=> ?_) (λ H6 c x D ys zs hD h1 h2 ⟨g1,as,g2,g3⟩=>⟨(fo h1).trans g1,as,(fo h2).trans g2,g3.imp λ (y:ac) (v:Int×Bool) (e:H6 y=some (.tup [.int v.1,.bl v.2]))=>(fo (gA e hD (λ z=>nomatch z))).trans e⟩) λ kq Sw VL hkq Y8 ŗ X' ó WC=> ?_
    .obtain⟨r1,as,r2,r3⟩:=Ou.rows.zip c hc;walk_at "rd";refine fu (s6 _ _ r1) rfl (fu (s6 _ _ r1) rfl ⟨_,rfl,_,.inl (gg.of (s6 _ _ r2)),λ l hl=>⟨by decide,λ p hp=>h (p,l) _ ((fw.new hl).free hp) hl ((fw.new hl).trans (fw.new hp)) ⟨e_,as,(fw.new hp) _ _ e_,r3.imp λ y v e=>(fw.new hp) _ _ ((fw.new hl) _ _ (s6 _ _ e))⟩⟩⟩)
    have kf:i7 ť Sw kq VL fs:=by
     refine⟨ŗ,?_,ó,λ x hx=>(WC x hx).2,hkq⟩;rw [List.filter_eq_self.mpr λ _ _=>rfl] at X'
     have go:∀{fs:List (Nm×List (Int×Bool))} {ps VL:List (ac×ac)},fs.length=ps.length->fR (λ (c:(Nm×List (Int×Bool))×(ac×ac)) (x:ac×ac)=>Sw x.1=some (.tup [.str (tx c.1.1),.ref x.2])/\hZ Sw x.2 c.1.2) (fs.zip ps) VL->fR (λ (f:Nm×List (Int×Bool)) (x:ac×ac)=>Sw x.1=some (.tup [.str (tx f.1),.ref x.2])/\hZ Sw x.2 f.2) fs VL:=by
      intro fs
      induction fs with
      | nil=>
       intro ps VL hl h
       cases ps with
       | nil=>cases h;exact .nil
       | cons _ _=>cases hl
      | cons a fs ih=>
       intro ps VL hl h
       cases ps with
       | nil=>cases hl
       | cons m ps=>
        cases h with
        | cons r t=>exact .cons r (ih (by simpa using hl) t)
     exact go Ξ X'
    have Ä:=Y8 _ _ Rc
    have T2:∀b∈[lt,tl],ť b≠none:=λ b hb=>by
     rcases av.mp hb with z|z
     .rw [z,SG.lst];exact λ q=>nomatch q
     .rw [aj.mp z,Rc];exact λ q=>nomatch q
    have Ψ:gS [lt,tl] L9 (upd Sw tl (.lst (vs ++ [.ref q] ++ [.ref kq]))):=(ċ.trans (fw.kH Y8)).trans (gS.put (by simp) Ä);have kk:gS [lt,tl] Sw (upd Sw tl (.lst (vs ++ [.ref q] ++ [.ref kq]))):=gS.put (by simp) Ä;refine⟨_,Ä,small _ (by rw [ao,bg];lia),?_⟩;exact hM _ (vs ++ [.ref q] ++ [.ref kq]) (n+1) _ ((SG.same Y8).put Ä YX) (VM.trans Ψ) e_ ((SI.keep Ψ).add (.inr ⟨q,kq,fs,rfl,rfl,okf,((Ou.same Y8).toK live).keep kk,(kf.toK T2).keep kk⟩)) (by lia)
   .have eu:=u1 cst;subst eu;refine gy (λ z=>z rfl) ⟨gu (gg.of Rc),_,Rc,small _ (by rw [ao,bg];lia),?_⟩;refine hM _ (vs ++ [.i6] ++ [.i6]) (n+1) _ (SG.put Rc YX) ((VM.trans ċ).trans (gS.put (by simp) Rc)) e_ ((SI.keep (ċ.trans (gS.put (by simp) Rc))).add (.inl ⟨rfl,rfl⟩)) (by lia)
  .rintro σ Ò ⟨v10,v11,II,W,rs,ts,vs,n,rfl,tn,sub,rl,kp,À,tk,n8⟩;refine hN _ _ ?_;rw [ae] at rl
   have V_:ts.length<=5:=by
    have:=mE ts all tn.RH sub;lia
   have Ű:=kp.lst _ _ fla Ù;refine fk λ N hN=> ?_;refine⟨_,rfl,la,rfl,⟨_,gg.of Ű⟩,jb (K:=K) (a:=la) (xs:=all.map λ l=>V.str (tx l)) (λ i σ H'=>∃(II:Option V),σ = [some (.ref a),some (.ref nm),some (.int b),some (.ref la),some (.ref gr),some (.ref tr),some (.ref pw),some (.ref lt),some (.ref pt),some (.ref tl),v10,v11,II,none]/\fw Ò H') ⟨II,rfl,fw.refl _⟩ (λ i σ H' _ hz=>by obtain⟨_,_,s⟩:=hz;exact gg.of (s _ _ Ű)) ?_ ?_⟩
   .rintro i y σ L9 hi ⟨II,rfl,LZ⟩;obtain⟨st,nQ,rfl⟩:=iR hi;clear hN;walk_at "rg";walk_at "rd";have V':=tn.same LZ;have W4:gS [lt,tl] LL L9:=kp.trans (fw.kH LZ);refine ask V' V_ (by lia) W4 st _ λ u V5 SR u1 u2=> ?_;refine ans (V'.same SR) V_ (by lia) (W4.trans (fw.kH SR)) u st _ u1 (λ h=>let ⟨q,ps,fs,ja,h1,h2,h3⟩:=u2 h;⟨q,L9,ps,fs,ja,h1,h2,h3⟩) λ Ŧ s16=>⟨_,rfl,gy (by decide) ((LZ.trans SR).trans s16)⟩
   .rintro σ L9 ⟨II,rfl,LZ⟩;refine hN _ _ ?_;have Ö:=tk.keep (fw.kH LZ);have Ow:=LZ _ _ À;have AS:=tk.1;refine fk λ N hN=> ?_;refine⟨_,rfl,tl,_,rfl,.inl (gg.of Ow),_,_,rfl,rfl,⟨by decide,by decide⟩,_,rfl,by lia,by lia,j7 (lo:=0) (λ i σ H'=>∃SD:Option V,σ = [some (.ref a),some (.ref nm),some (.int b),some (.ref la),some (.ref gr),some (.ref tr),some (.ref pw),some (.ref lt),some (.ref pt),some (.ref tl),v10,v11,II,SD]/\H'=L9) ⟨none,rfl,rfl⟩ ?_ ?_⟩
    .rintro i σ H' hi ⟨SD,rfl,rfl⟩;clear hN;obtain⟨u,v,hu,hv,pk⟩:=Ö.2 i (by lia);obtain⟨d,d1,d2,d3⟩:=pk.dat (K:=K);walk_at "rg";walk_at "rd";rw [show (0:Int)+(i:Int)=(i:Int) by lia];exact⟨.inl (by decide),fN Ow (gx (by lia) (by rwa [show (2*(i:Int)).toNat=2*i by lia])) ⟨.inl (by decide),fN Ow (gx (by lia) (by rwa [show (2*(i:Int)+1).toNat=2*i+1 by lia])) ⟨d,d1,d2,d3.shaped (by decide),rfl⟩⟩⟩
    .rintro σ H' ⟨SD,rfl,rfl⟩;refine hN _ _ ?_;walk_at "rd";exact k _
end
theorem all_mk {l:eW} {w:io} {K:ai} {h:Heap} {mg:Str->Option bv} {fa:ac} (X:K.In h) (G:h.Ns ii mg) (hfa:mg "law" = some (.ref fa))
  {rJ:ac} (DT:aU K ii "SeekError" = some (some (.ref rJ)))
  {jH:ac} (Ln:aU K ii "NoName" = some (some (.ref jH)))
  {iL:ac} (FJ:aU K ii "NoNumber" = some (some (.ref iL)))
  {jd:ac} (HW:aU K ii "NoThing" = some (some (.ref jd)))
  {kD:ac} (Oh:aU K ii "NoTie" = some (some (.ref kD)))
  {kC:ac} (Og:aU K ii "Twice" = some (some (.ref kC)))
  {ir:ac} (DS:aU K ii "StillTied" = some (some (.ref ir)))
  {mV:ac} (QY:aU K ii "Full" = some (some (.ref mV)))
  {hU:ac} (HX:aU K ii "Builder" = some (some (.ref hU)))
  {jB:ac} (UI:aU K ii "Web" = some (some (.ref jB)))
  {f0:ac} {d0:ce} (D0:gN K "good_name" qJ f0 d0)
  {f1:ac} {d1:ce} (D1:gN K "few_figures" nL f1 d1)
  {f2:ac} {d2:ce} (D2:gN K "marks_of" tN f2 d2)
  {f3:ac} {d3:ce} (D3:gN K "machine" vH f3 d3)
  {f4:ac} {d4:ce} (D4:gN K "weight_meets" mh f4 d4)
  {f5:ac} {d5:ce} (D5:gN K "fits" GU f5 d5)
  {f6:ac} {d6:ce} (D6:gN K "gone_step" qK f6 d6)
  {f7:ac} {d7:ce} (D7:gN K "gone_from" qL f7 d7)
  {f8:ac} {d8:ce} (D8:gN K "gone_to" vR f8 d8)
  {f9:ac} {d9:ce} (D9:gN K "moves_by" tM f9 d9)
  {f10:ac} {d10:ce} (D10:gN K "book" GV f10 d10)
  {f11:ac} {ř:ce} (D11:gN K "way_in" y_ f11 ř)
  {f12:ac} {Ř:ce} (D12:gN K "ends_in" vS f12 Ř)
  {f13:ac} {d13:ce} (D13:gN K "reached" vG f13 d13)
  {f14:ac} {d14:ce} (D14:gN K "check_name" pd f14 d14)
  {f15:ac} {d15:ce} (D15:gN K "check_number" mj f15 d15)
  {f16:ac} {d16:ce} (D16:gN K "_law_cell_at" qH f16 d16)
  {f17:ac} {d17:ce} (D17:gN K "_law_mixed" vM f17 d17)
  {f18:ac} {ŗ:ce} (D18:gN K "_law_names" vL f18 ŗ)
  {f19:ac} {d19:ce} (D19:gN K "_law_whole" vI f19 d19)
  {f20:ac} {d20:ce} (D20:gN K "_law_base" zd f20 d20)
  {f21:ac} {d21:ce} (D21:gN K "_law_number" tP f21 d21)
  {f22:ac} {d22:ce} (D22:gN K "_law_mark_by" qF f22 d22)
  {f23:ac} {d23:ce} (D23:gN K "_law_fit" Dj f23 d23)
  {f24:ac} {d24:ce} (D24:gN K "_law_grown" vO f24 d24)
  {f25:ac} {d25:ce} (D25:gN K "_law_real" za f25 d25)
  {f26:ac} {d26:ce} (D26:gN K "_law_closure" qG f26 d26)
  {f27:ac} {d27:ce} (D27:gN K "_law_behind" tQ f27 d27)
  {f28:ac} {d28:ce} (D28:gN K "_law_spans" vK f28 d28)
  {f29:ac} {d29:ce} (D29:gN K "_law_things" tO f29 d29)
  {f30:ac} {d30:ce} (D30:gN K "_law_least" vN f30 d30)
  {f31:ac} {d31:ce} (D31:gN K "_law_again" vQ f31 d31)
  {f32:ac} {d32:ce} (D32:gN K "_law_still" vJ f32 d32)
  {f33:ac} {d33:ce} (D33:gN K "_law_by_mark" qI f33 d33)
  {f34:ac} {d34:ce} (D34:gN K "_law_far" Dk f34 d34)
  {f35:ac} {d35:ce} (D35:gN K "_law_way_steps" nK f35 d35)
  {f36:ac} {d36:ce} (D36:gN K "_law_good_way" pb f36 d36)
  {f37:ac} {d37:ce} (D37:gN K "_law_good" zb f37 d37)
  {f38:ac} {d38:ce} (D38:gN K "_law_deed" zc f38 d38)
  {f39:ac} {d39:ce} (D39:gN K "_law_asked" vP f39 d39)
  {f40:ac} {d40:ce} (D40:gN K "_law_answer_good" lF f40 d40)
  {f41:ac} {d41:ce} (ũ:gN K "law" MK f41 d41)
  {f42:ac} {d42:ce} (Ũ:i4 K hU "__init__" "Builder.__init__" mw f42 d42)
  {f43:ac} {d43:ce} (D43:i4 K hU "link" "Builder.link" mr f43 d43)
  {f44:ac} {d44:ce} (D44:i4 K hU "part" "Builder.part" mn f44 d44)
  {f45:ac} {d45:ce} (D45:i4 K hU "mark_part" "Builder.mark_part" jP f45 d45)
  {f46:ac} {d46:ce} (D46:i4 K hU "or_part" "Builder.or_part" km f46 d46)
  {f47:ac} {d47:ce} (D47:i4 K hU "row_part" "Builder.row_part" j3 f47 d47)
  {f48:ac} {d48:ce} (D48:i4 K hU "repeat_part" "Builder.repeat_part" jx f48 d48)
  {f49:ac} {d49:ce} (ŧ:i4 K jB "__init__" "Web.__init__" tT f49 d49)
  {f50:ac} {d50:ce} (D50:i4 K jB "check_thing" "Web.check_thing" kj f50 d50)
  {f51:ac} {d51:ce} (D51:i4 K jB "check_tie" "Web.check_tie" lH f51 d51)
  {f52:ac} {d52:ce} (D52:i4 K jB "add_thing" "Web.add_thing" lI f52 d52)
  {f53:ac} {d53:ce} (D53:i4 K jB "drop_thing" "Web.drop_thing" kP f53 d53)
  {VV:ac} {í Ve:Option ac} {Ü:Array (Option bv)} {î Ub U3 S_ Rm U5:bv}
  (a54:bw K (.ref jB) "add_tie" = some (some (.ref VV))) (n54:dG K (.ref VV)=true)
  {Rh:ac}
  (l54:K.lookup VV=some ⟨î,í,.func (cb "add_tie" "Web.add_tie" (nr gC) (ky gC) (fC gC) (.ref Rh) Ub U3 S_ Ve Rm U5),Ü⟩) (c54:dY K Rm "Web.add_tie" = true) (Χ:bU K (.ref VV)=true)
  {ŕ:Option ac} {Ŕ:Nat} {œ:Array (Option bv)} {OG:Tok}
  (XZ:K.lookup Rh=some ⟨.type "tuple",ŕ,.seq #[.int 0 OG] Ŕ,œ⟩)
  {f55:ac} {d55:ce} (D55:i4 K jB "cut_tie" "Web.cut_tie" nM f55 d55)
  {f56:ac} {d56:ce} (D56:i4 K jB "has_thing" "Web.has_thing" lG f56 d56)
  {f57:ac} {d57:ce} (D57:i4 K jB "things" "Web.things" pf f57 d57)
  {f58:ac} {d58:ce} (D58:i4 K jB "ties" "Web.ties" tR f58 d58)
  {f59:ac} {d59:ce} (D59:i4 K jB "tie" "Web.tie" vT f59 d59)
  {f60:ac} {d60:ce} (D60:i4 K jB "out_of" "Web.out_of" ph f60 d60)
  {f61:ac} {d61:ce} (D61:i4 K jB "into" "Web.into" tS f61 d61)
  {tk0:Tok} (g0:aU K ii "LETTERS" = some (some (Value.str (vw) tk0)))
  {tk1:Tok} (g1:aU K ii "MOST_LETTERS" = some (some (Value.int (12) tk1)))
  {SI:Tok} (g2:aU K ii "ANY_NAME" = some (some (Value.str (tG) SI)))
  {tk3:Tok} (g3:aU K ii "MARKS" = some (some (Value.int (0) tk3)))
  {tk4:Tok} (g4:aU K ii "FOLLOWS" = some (some (Value.int (1) tk4)))
  {tk5:Tok} (g5:aU K ii "ENDS" = some (some (Value.int (2) tk5)))
  {tk6:Tok} (g6:aU K ii "MOST_THINGS" = some (some (Value.int (100) tk6)))
  {tk7:Tok} (g7:aU K ii "MOST_TIES" = some (some (Value.int (400) tk7)))
  (z0:aU K ii "len" = some none)
  (z1:aU K ii "isinstance" = some none)
  (z2:aU K ii "bool" = some none)
  (z3:aU K ii "int" = some none)
  (z4:aU K ii "range" = some none)
  (z5:aU K ii "list" = some none)
  (z6:aU K ii "min" = some none)
  (z7:aU K ii "tuple" = some none)
  (z8:aU K ii "sorted" = some none)
  (z9:aU K ii "set" = some none)
  (z10:aU K ii "reversed" = some none)
  (V6:aU K ii "str" = some none)
  (z12:aU K ii "ValueError" = some none)
  (z13:aU K ii "abs" = some none)
  (z14:aU K ii "enumerate" = some none)
  (z15:aU K ii "dict" = some none)
  (z16:aU K ii "all" = some none)
  (Hs:cz K hU Str.empty=true) (Hr:cK K hU=true) (Hq:dy K hU=true) (Ho:bw K (.ref hU) "__setattr__" = some (some (.builtin "object.__setattr__"))) (Hn:dN K hU=true) (Hm:bU K (.ref hU)=true)
  (ji:bw K (.ref hU) "followers" = some none)
  (TM:cz K jB Str.empty=true) (TK:cK K jB=true) (TJ:dy K jB=true) (TH:bw K (.ref jB) "__setattr__" = some (some (.builtin "object.__setattr__"))) (TF:dN K jB=true) (TC:bU K (.ref jB)=true)
  (gP:bw K (.ref jB) "kept_values" = some none)
  (g8:bw K (.ref jB) "kept_ties" = some none)
  (i_:bw K (.ref jB) "coming_number" = some none)
  (xs:([jH,iL,jd,kD,kC,ir,mV]:List ac).map (Sz K rJ [jH,iL,jd,kD,kC,ir,mV])=([jH,iL,jd,kD,kC,ir,mV]:List ac).map (Mb [jH,iL,jd,kD,kC,ir,mV]))
  (ū:decide (@List.Nodup Nat [jH,iL,jd,kD,kC,ir,mV])=true)
  (xm:([jH,iL,jd,kD,kC,ir,mV]:List ac).map (λ C=>([jH,iL,jd,kD,kC,ir,mV]:List ac).map λ D=>PySem.W.exmOne K (.ref C) (.ref D))=([jH,iL,jd,kD,kC,ir,mV]:List ac).map λ C=>([jH,iL,jd,kD,kC,ir,mV]:List ac).map λ D=>some (decide ((C:Nat)=D)))
  : ∃fd:ce,(∀(s:ci) (v:bv),Jaq s fd ⟨[v],[]⟩ [("script",v)])/\∀base:Heap,K.In base->base.Ns ii mg->fX l.prog w K mg base (ij l.prog w) 88 fa fd ["script"] (Ja K):=by
 have e:=hfa.symm.trans (bu X G ũ.at_)
 cases e;have FL:=ũ.fn;obtain⟨_,_,_,_,_,_,_,_,_,rfl,_⟩:=ũ.fn.ex;have F54:RE K _ _ gC VV _:=⟨⟨_,_,_,_,_,_,_,_,_,_,rfl,l54,c54⟩,Χ⟩
 have b54:Binds K (cb "add_tie" "Web.add_tie" (nr gC) (ky gC) (fC gC) (.ref Rh) Ub U3 S_ Ve Rm U5) ["self","start","name","end","weight"] []:=λ s us hK hl=>(by obtain⟨_,_,_,_,_,rfl⟩:=L2.ZO (P:=λ us=>∃a b c d e,us = [a,b,c,d,e]) (λ a b c d e=>⟨a,b,c,d,e,rfl⟩) us (by simpa using hl);first|exact .of_eq rfl|exact PySem.W.binds_K hK rfl XZ rfl rfl rfl);have e54:Binds K (cb "add_tie" "Web.add_tie" (nr gC) (ky gC) (fC gC) (.ref Rh) Ub U3 S_ Ve Rm U5) ["self","start","name","end","weight"] [.int 0 OG]:=λ s us hK hl=>(by obtain⟨_,_,_,_,rfl⟩:=L2.RY (P:=λ us=>∃a b c d,us = [a,b,c,d]) (λ a b c d=>⟨a,b,c,d,rfl⟩) us (show us.length=4 by simp only [ao,aG,aW] at hl;lia);exact PySem.W.binds_K hK rfl XZ rfl rfl rfl);have T:Txt K mg ⟨f0,_,f1,_,f2,_,f3,_,f4,_,f5,_,f6,_,f7,_,f8,_,f9,_,f10,_,f11,_,f12,_,f13,_,f14,_,f15,_,f16,_,f17,_,f18,_,f19,_,f20,_,f21,_,f22,_,f23,_,f24,_,f25,_,f26,_,f27,_,f28,_,f29,_,f30,_,f31,_,f32,_,f33,_,f34,_,f35,_,f36,_,f37,_,f38,_,f39,_,f40,_,f42,_,f43,_,f44,_,f45,_,f46,_,f47,_,f48,_,f49,_,f50,_,f51,_,f52,_,f53,_,VV,_,f55,_,f56,_,f57,_,f58,_,f59,_,f60,_,f61,_,rJ,jH,iL,jd,kD,kC,ir,mV,hU,jB⟩:=⟨D0.ok X G,D1.ok X G,D2.ok X G,D3.ok X G,D4.ok X G,D5.ok X G,D6.ok X G,D7.ok X G,D8.ok X G,D9.ok X G,D10.ok X G,D11.ok X G,D12.ok X G,D13.ok X G,D14.ok X G,D15.ok X G,D16.ok X G,D17.ok X G,D18.ok X G,D19.ok X G,D20.ok X G,D21.ok X G,D22.ok X G,D23.ok X G,D24.ok X G,D25.ok X G,D26.ok X G,D27.ok X G,D28.ok X G,D29.ok X G,D30.ok X G,D31.ok X G,D32.ok X G,D33.ok X G,D34.ok X G,D35.ok X G,D36.ok X G,D37.ok X G,D38.ok X G λ _ _ _ _ _ _=>ln8 λ _ _ _ _ _ _ _ _=>rfl,D39.ok X G,D40.ok X G,Ũ.ok,D43.ok,D44.ok,D45.ok,D46.ok,D47.ok,D48.ok,ŧ.ok,D50.ok,D51.ok,D52.ok,D53.ok,⟨⟨a54,n54,Χ⟩,F54,b54,⟨_,(.cons ⟨_,rfl⟩ .nil),e54⟩⟩,D55.ok,D56.ok,D57.ok,D58.ok,D59.ok,D60.ok,D61.ok,⟨_,bu X G g0,⟨_,rfl⟩⟩,⟨_,bu X G g1,⟨_,rfl⟩⟩,⟨_,bu X G g2,⟨_,rfl⟩⟩,⟨_,bu X G g3,⟨_,rfl⟩⟩,⟨_,bu X G g4,⟨_,rfl⟩⟩,⟨_,bu X G g5,⟨_,rfl⟩⟩,⟨_,bu X G g6,⟨_,rfl⟩⟩,⟨_,bu X G g7,⟨_,rfl⟩⟩,ba X G z0,ba X G z1,ba X G z2,ba X G z3,ba X G z4,ba X G z5,ba X G z6,ba X G z7,ba X G z8,ba X G z9,ba X G z10,ba X G V6,ba X G z12,ba X G z13,ba X G z14,ba X G z15,ba X G z16,bu X G DT,bu X G Ln,bu X G FJ,bu X G HW,bu X G Oh,bu X G Og,bu X G DS,bu X G QY,bu X G HX,bu X G UI,⟨xs,ū⟩,⟨xm,ū⟩,⟨Hs,Hr,Hq,Ho⟩,⟨Hn,Ũ.at_,Ũ.n,Hm⟩,ji,⟨TM,TK,TJ,TH⟩,⟨TF,ŧ.at_,ŧ.n,TC⟩,gP,g8,i_⟩
 exact⟨_,λ s v=>.of_eq rfl,λ base _ _=>TB FL T⟩
theorem walk {l:eW} {q:im} {loose:List Str} {XP:(Str->Option bv)->Heap->Prop} {YP:io->Heap->Prop} {d:DefRec} {K:Params->ai} (hn:l.most=some 63) (Xy:d.params.defaults = [])
  (hY:∀(w:io) (h:Heap),YP w h->(K w.params).In h)
  (F:∀(w:io) (mg:Str->Option bv) (fa:ac) (h:Heap),(K w.params).In h->h.Ns ii mg->mg d.name=some (.ref fa)->
   ∃fd:ce,(∀(s:ci) (u:bv),Jaq s fd ⟨[u],[]⟩ [("script",u)])/\∀base:Heap,(K w.params).In base->base.Ns ii mg->fX l.prog w (K w.params) mg base (ij l.prog w) 88 fa fd ["script"] (Ja (K w.params))) :
  PySem.W.WalkO q loose XP YP l.row.toRowW d [] (λ f vs=>PySem.call f vs):=
 L2.PF (n:=63) (k:=88) (x:="script") (CX:=λ w=>ij l.prog w) (sp:=λ w=>Ja (K w.params)) hn (by decide) Xy ⟨rfl,by decide,by decide⟩ hY F (λ _ _ a ns hl _ hS=>⟨a,ns,rfl,hS,hl,λ _=>rfl⟩) λ _ _ _ _ _ ⟨_,_,_,_,_,_,_,z⟩=>z
end Ţ
open PySem PySem.W PyProof.Rows
local macro_rules
 | `(tactic| o_head $H)=> `(tactic|
  refine holds_open (q:=kc) (loose:= []) (Xt:=uG)
   (XP:=XL kc []) (Yf:=Hook.obs $H) (Ya:=Hook.val $H)
   (YP:=Hook.says $H) (N:=8742) (two_looks Ia UG) (Hook.of $H) (Hook.keeps $H)
   (λ s e=>xl_of s (c9.mp e).1) XL.keeps
   (by rfl) (by rfl) (by rfl)
   (λ s e=>recFacts_of (c9.mp e).2)
   (by rfl) (by first|assumption|decide +kernel)
   (by decide +kernel) ⟨rfl,rfl,rfl,rfl,rfl,by decide +kernel⟩ ?hw ?hc)
theorem PySem.Challenge.cw_tieseek_k32_whole_reached_as_the_web_tur_holds : PySem.Challenge.rw_tieseek_k32_whole_reached_as_the_web_tur.Holds := by
 w_on;refine holds_law wSaid9 fun said=> ?_;o_head (kHook DR.heap_1 Rw Vb);(case hw=>w_witness2)
 k_fill
 refine Ţ.walk (l:=PySem.Challenge.rw_tieseek_k32_whole_reached_as_the_web_tur) rfl rfl (λ w h Y=>PySem.W.kIn_of Y) ?F
 case F=>
  intro w mg fa h KX G Xs;refine' Ţ.all_mk KX G Xs ?_ ?_ ?_ ?_ ?_ ?_ ?_ ?_ ?_ ?_ ?_ ?_ ?_ ?_ ?_ ?_ ?_ ?_ ?_ ?_ ?_ ?_ ?_ ?_ ?_ ?_ ?_ ?_ ?_ ?_ ?_ ?_ ?_ ?_ ?_ ?_ ?_ ?_ ?_ ?_ ?_ ?_ ?_ ?_ ?_ ?_ ?_ ?_ ?_ ?_ ?_ ?_ ?_ ?_ ?_ ?_ ?_ ?_ ?_ ?_ ?_ ?_ ?_ ?_ ?_ ?_ ?_ ?_ ?_ ?_ ?_ ?_ ?_ ?_ ?_ ?_ ?_ ?_ ?_ ?_ ?_ ?_ ?_ ?_ ?_ ?_ ?_ ?_ ?_ ?_ ?_ ?_ ?_ ?_ ?_ ?_ ?_ ?_ ?_ ?_ ?_ ?_ ?_ ?_ ?_ ?_ ?_ ?_ ?_ ?_ ?_ ?_ ?_ ?_ ?_ ?_ ?_ ?_ ?_ ?_ ?_
  any_goals first|exact⟨by k_is,L2.UK (by k_is) (by k_is) (by k_is)⟩|exact⟨by k_is,by k_is,L2.UK (by k_is) (by k_is) (by k_is)⟩|k_is|kernel_rfl
