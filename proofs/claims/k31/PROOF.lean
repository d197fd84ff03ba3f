import PyProof.Rows.All
import Wide.All
import KE.KItem
import KE.KItemsList
import KE.KDictOf
import KE.LcSums
import KE.KTryMore
import Wide.FinOn
import Lean
import PyProof.EqAt
import PyProof.EqKinds
import PyProof.TupleCall
import PySem.Challenge.RW_tieseek_k31_whole_reached_by_least_ways
set_option Elab.async false
set_option linter.all false
set_option maxRecDepth 100000
set_option maxHeartbeats 0
theorem YA{a:Nat}(h:0<a):(0:Int)<(a:Int):=Int.ofNat_lt.2 h
theorem Ya{a b c:Int}(h:a<b)(g:b≤c):a<c:=Int.lt_of_lt_of_le h g
theorem Yb{a b c:Int}(h:a≤b)(g:b<c):a<c:=Int.lt_of_le_of_lt h g
theorem Yc{a b c:Int}(h:a≤b)(g:b≤c):a≤c:=Int.le_trans h g
theorem Ye{a b:Int}(h:a=b):a≤b:=Int.le_of_eq h
theorem Yf{a b:Int}(h:a<b)(g:b≤a):False:=Int.not_lt.2 g h
theorem Yg{a b:Int}(h:a=b):b≤a:=Int.le_of_eq h.symm
theorem Yi{a b:Int}(h:¬a<b):b≤a:=Int.not_lt.1 h
theorem Yj{a b:Int}(h:¬a≤b):b<a:=Int.not_le.1 h
theorem Yl{a b:Int}(h:a<b):a≤b:=Int.le_of_lt h
theorem Ym{a b:Int}(h:b<a):a≠b:=Int.ne_of_gt h
theorem Yn{a b:Int}(h:a<b):a≠b:=Int.ne_of_lt h
theorem Yo{a b:Nat}(h:a≤b):(a:Int)≤(b:Int):=Int.ofNat_le.2 h
theorem Yp{a b:Nat}(h:a<b):(a:Int)<(b:Int):=Int.ofNat_lt.2 h
theorem Yq{a b:Int}(h:a≤b)(g:b≤a):a=b:=Int.le_antisymm h g
theorem Yr{a b:Nat}(h:a<b):(a:Int)<@OfNat.ofNat Int b instOfNat:=Int.ofNat_lt.2 h
theorem Yt{a:Nat}:(0:Int)≤(a:Int):=Int.natCast_nonneg a
theorem Yv{a b:Nat}(h:(a:Int)<(b:Int)):a<b:=Int.ofNat_lt.1 h
theorem Yw{a:Int}:0 + a=a:=Int.zero_add a
theorem Yx{a b:Int}(h:b≤a):¬a<b:=Int.not_lt.2 h
theorem Yy{a b:Int}(h:b<a):¬a≤b:=Int.not_le.2 h
theorem Za{a b c:Nat}(h:a<b)(g:b≤c):a<c:=Nat.lt_of_lt_of_le h g
theorem Zb{a b c:Nat}(h:a≤b)(g:b<c):a<c:=Nat.lt_of_le_of_lt h g
theorem Zc{a b c:Nat}(h:a≤b)(g:b≤c):a≤c:=Nat.le_trans h g
theorem Zd{a b:Nat}(h:Nat.ble a b=true):a≤b:=Nat.le_of_ble_eq_true h
theorem Ze{a b:Nat}(h:a=b):a≤b:=Nat.le_of_eq h
theorem Zf{a b:Nat}(h:a<b)(g:b≤a):False:=Nat.not_le_of_lt h g
theorem Zg{a b:Nat}(h:a=b):b≤a:=Nat.le_of_eq h.symm
theorem Zi{a b:Nat}(h:¬a<b):b≤a:=Nat.le_of_not_lt h
theorem Zj{a b:Nat}(h:¬a≤b):b<a:=Nat.lt_of_not_le h
theorem Zk{a b:Nat}:a≤a + b:=Nat.le_add_right a b
theorem Zl{a b:Nat}(h:a<b):a≤b:=Nat.le_of_lt h
theorem Zo{a b:Nat}:a≤b + a:=Nat.le_add_left a b
theorem Zp{a b:Nat}(h:a≤b):a + 1≤b + 1:=Nat.succ_le_succ h
theorem Zq{a b:Nat}(h:a≤b)(g:b≤a):a=b:=Nat.le_antisymm h g
theorem Zs{a b:Nat}(h:a<b + 1):a≤b:=Nat.le_of_lt_succ h
theorem Zt{a b:Nat}(h:a≤b):a<b + 1:=Nat.lt_succ_of_le h
theorem Zu{a b:Nat}:a - b≤a:=Nat.sub_le a b
theorem Zv{a b c:Nat}(h:a≤b):a + c≤b + c:=Nat.add_le_add_right h c
theorem Zw{a b c:Nat}(h:a≤b):c + a≤c + b:=Nat.add_le_add_left h c
theorem Zx{a b:Nat}(h:b≤a):¬a<b:=Nat.not_lt.2 h
theorem Zy{a b:Nat}(h:b<a):¬a≤b:=Nat.not_le.2 h
theorem Zz{a b:Nat}(h:a<b):0<b:=Nat.zero_lt_of_lt h
theorem T6{a b:Nat}(h0:b < a):a - (b + 1) < a - b:=by lia
theorem Qaa{a b c:Nat}(h0:max a c + 1 ≤ b + 1):a ≤ b ∧ c ≤ b:=by lia
theorem Qab{a b c:Nat}(h0:a ≤ c)(h1:c + 1 < b + 1):a < b:=by lia
theorem Qac{a:Int}{b c:Nat}(h0:a ≤ (↑c : Int))(h1:b = c + 1):a.toNat < b:=by lia
theorem Qad{a b c d e f:Nat}(h0:a ≤ e)(h1:b ≤ f)(h2:c + d ≤ 200)(h3:d = e + f):a + b ≤ 100000:=by lia
theorem Qae{a:Nat}(h0:a ≤ 62):a + 1 ≤ 63:=by lia
theorem Qaf{a:Nat}:0 ≤ 0 + (↑a : Int):=by lia
theorem Qag{a c d:Nat}{b:Int}(h0:(↑a : Int) ≤ b ∧ b < (↑a : Int) + (↑c : Int)):(↑a : Int) ≤ b ∧ b < (↑a : Int) + (↑(c + d) : Int):=by lia
theorem Qah{a c d:Nat}{b:Int}(h0:(↑(a + c) : Int) ≤ b ∧ b < (↑(a + c) : Int) + (↑d : Int)):(↑a : Int) ≤ b ∧ b < (↑a : Int) + (↑(c + d) : Int):=by lia
theorem Qai{a b:Nat}(h0:a = b + 1):0 < a:=by lia
theorem Qaj{a:Int}{b c d:Nat}(h0:(↑c : Int) ≤ a ∧ a < (↑c : Int) + (↑d : Int))(h1:b = c + d):0 ≤ a ∧ a < (↑b : Int):=by lia
theorem Qak{a:Nat}(h0:a ≤ 62):((↑a : Int) + 1).toNat ≤ 100000:=by lia
theorem Qal{a:Int}{b c:Nat}(h0:(↑c : Int) ≤ a ∧ a ≤ (↑b : Int)):0 ≤ a ∧ a ≤ (↑b : Int):=by lia
theorem Qam{a b:Nat}(h0:a ≤ b):(↑a : Int) - (↑b : Int) ≤ 0:=by lia
theorem Qan{a b:Nat}(h0:a + 3 * (b + 1) + 5 < recursionLimit):a + 1 + 3 * b + 5 < recursionLimit:=by lia
theorem Qao{a b c:Nat}:min (a - b) (c - b) ≤ c:=by lia
theorem Qap{a:Int}{b:Nat}(h0:a < 0):max 0 (min (a + (↑b : Int)) (↑b : Int)) = (↑(a + (↑b : Int)).toNat : Int):=by lia
theorem Qaq{a:Int}{b:Nat}:max 0 (min a (↑b : Int)) = (↑(min a.toNat b) : Int):=by lia
theorem Qar{a b c d:Nat}(h0:c + d ≤ sizeLine)(h1:c = a)(h2:d = b):a + b ≤ sizeLine:=by lia
theorem Qas{a:Int}{b:Nat}(h0:b = 12):min a.toNat b ≤ 12:=by lia
theorem Qat{a b c:Nat}(h0:b ≤ sizeLine)(h1:c < b)(h2:min c b = a):a < sizeLine:=by lia
theorem Qau{a:Nat}{b:Int}(h0:b = (↑a : Int)):(↑a : Int) ≤ b ∧ b < (↑a : Int) + (↑(0 + 1) : Int):=by lia
theorem Qav{a:Int}{b:Nat}(h0:(↑1 : Int) ≤ a ∧ a < (↑1 : Int) + (↑b : Int)):1 ≤ a ∧ a ≤ (↑b : Int):=by lia
theorem Qaw{a:Nat}:0 ≤ (↑a : Int) + 1:=by lia
theorem Qax{a:Int}{b:Nat}(h0:0 ≤ a ∧ a ≤ (↑b : Int)):a.toNat < b + 1:=by lia
theorem Qay{a b:Nat}(h0:(↑1 : Int) ≤ (↑a : Int) + 1 ∧ (↑a : Int) + 1 < (↑1 : Int) + (↑b : Int)):1 ≤ (↑a : Int) + 1 ∧ (↑a : Int) + 1 ≤ (↑b : Int):=by lia
theorem Qaz{a b c d:Nat}(h0:b + c ≤ d):a + b + c ≤ a + d:=by lia
theorem QaA{a:Int}{b:Nat}(h0:1 ≤ a ∧ a ≤ (↑b : Int)):(↑(a - 1).toNat : Int) + 1 = a:=by lia
theorem QaB{a d:Int}{b c:Nat}(h0:a = d + 1)(h1:c ≤ b)(h2:d ≤ (↑c : Int)):a ≤ (↑(b + 1) : Int):=by lia
theorem QaC{a:Nat}:((↑a : Int) + 1 - 1).toNat = a:=by lia
theorem QaD{a:Int}{b:Nat}(h0:1 ≤ a)(h1:a ≤ (↑b : Int)):(a - 1).toNat < b:=by lia
theorem QaE{a b:Int}(h0:a < b):a < (↑b.toNat : Int):=by lia
theorem QaF{a b c d:Nat}(h0:a + c ≤ 200)(h1:c = b + d):a + b ≤ 200:=by lia
theorem QaG{a b c d e:Nat}(h0:a = c + e)(h1:c + d ≤ 200)(h2:d = e + b):a + b ≤ 200:=by lia
theorem QaH{a:Int}{b:Nat}(h0:a ≤ (↑b : Int)):a.toNat ≤ b:=by lia
theorem QaI{a b c:Nat}(h0:a < c)(h1:b ≤ 62)(h2:c ≤ b + 1):a + 1 ≤ 63:=by lia
theorem QaJ{a b:Nat}(h0:a ≤ b + 1)(h1:b ≤ 62):a ≤ 63:=by lia
theorem QaK{a b c:Nat}(h0:c ≤ a ∧ a ≤ b):0 ≤ (↑a : Int) ∧ (↑a : Int) ≤ (↑b : Int):=by lia
theorem QaL{a b c d:Nat}(h0:c = d)(h1:d = a + 1):a + 1 ≤ b + ((↑c : Int) - 1 - -1).toNat:=by lia
theorem QaM{a b c:Nat}(h0:b = c)(h1:c ≤ 100):min a b ≤ 100000:=by lia
open List renaming length_map->ae,getElem?_eq_some_iff->ag,mem_of_getElem?->ai,getElem?_map->ak,mem_singleton->ao,length_append->aq,map_append->av,mem_append->ax,mem_cons_of_mem->az,mem_cons->aA,mem_append_right->aB,map_cons->aD,mem_map->aE,length_cons->aF,length_range->aI,mem_iff_getElem?->aL,size_toArray->aM,mem_append_left->aN,map_map->aQ,getElem?_append_left->aR,length_take->aT,mem_range->aU,length_nil->aV,nodup_cons->aY,mem_cons_self->aZ,not_mem_nil->bb,take_length->bh,getElem?_append_right->bt,map_nil->bu,length_singleton->bx,getElem?_eq_getElem->bA,length_filter_le->bB,getElem?_eq_none->bC,mem_filterMap->bE,mem_filter->bG,append_assoc->bH,find?_cons->bJ,append_nil->bK,nodup_append->bL,getLast?_cons_cons->bO,getElem?_set_self->bQ,length_set->bS,getD_eq_getElem?_getD->bW,mem_or_eq_of_mem_set->bZ,length_zip->b9,getElem?_set_ne->cg,sum_cons->cj,nodup_nil->cq,lookup_cons->cu,any_eq_true->cv,getElem?_inj->cw,getElem?_range->cz,pairwise_singleton->cF,length_eq_zero_iff->cG,reverse_cons->cK,getElem?_toArray->cP,cons_append->cR,all_eq_true->cS,any_cons->cU,all_cons->cV,length_pos_iff->cZ,filterMap_cons->c9,map_set->de,set_cons_zero->dh,set_cons_succ->di,pairwise_iff_getElem->dj,flatMap_cons->dq,getElem_mem->dA,getElem?_cons_succ->dB,filter_cons->dC,sum_nil->dG,pairwise_lt_range->dH,of_mem_zip->dJ,take_left->dS,pairwise_append->dU,dropLast_concat->dW,filter_sublist->dY,pairwise_cons->eh,take_sublist->eC,map_snd_zip->eI,length_drop->eJ,countP_cons->eK,range_succ->eR,nil_append->eS,filter_map->eT
open PySem.Heap renaming get?_push_of_some->ah,lt_size->aG,get?_push_size->aK,get?_update_other->bT,size_push->bX,get?_update_self->bY
open PySem.W renaming Frag->aj,nsIn->aS,mg_none_of->ba,findIn->bp,mg_of->br,kia_one->bM,emptyDict->bP,instObj->b8,fnOf->cb,keepIn->ck,kitOne->cx,plainGet->cy,hasDictIn->cH,hideAll_get->cY,plainOver->dn,isFn->dE,makesIn->dI,lookIn->dQ,codeIn->dR,plainGet_of->dX,methodObj->ez,takerIn->eM,hideAll->eO,OpenLaw->eP
open Int renaming toNat_natCast->au,emod_lt_of_pos->bI,emod_nonneg->bN,le_refl->cW,eq_ofNat_of_zero_le->dD,min_eq_right->eL,min_eq_left->eU
open Nat renaming le_refl->ay,lt_of_lt_of_le->aC,ne_of_lt->aO,zero_le->aP,le_trans->bj,lt_irrefl->bU,lt_of_le_of_lt->bV,le_succ->cf,mul_le_mul->cp,lt_succ_of_lt->cI,le_of_succ_le_succ->cJ,lt_succ_self->cQ,add_assoc->cT,ne_of_gt->dc,add_right_comm->df,succ_le_succ->dy,le_of_lt->dF,zero_add->eA,le_of_eq->eB,succ_ne_zero->eE,le_of_not_lt->eG
open PySem.F renaming plainAttrs_list->aH,type_list_append->aW,slot_list_append->aX,called_set->bR,type_list_index->cC,slot_list_index->cD,plainAttrs_dict->cE,type_list_extend->dr,slot_list_extend->dw,type_list_pop->dM,slot_list_pop->dN,slot_dict_get->dP,slot_dict_setdefault->eQ
open Bool renaming false_ne_true->aJ,and_eq_true->bg,eq_iff_iff->cA,false_eq_true->cB,and_eq_true_iff->cX,not_true->dZ,or_eq_true->eV
open Array renaming getElem?_toList->bc,length_toList->bD,append_assoc->eu
open PyProof.Rows renaming callWith_type1->bq,boot_list->bz,boot_isinstance->bF,slot_tuple_getitem->cL,boot_min->cM,boot_int->cO,callWith_builtin1->eD
section
open PySem PySem.W PyProof.Rows
abbrev rowAt:RowW:=PySem.Challenge.rw_tieseek_k31_whole_reached_by_least_ways.row.toRowW
def jS:Program:=
 {rowAt.prog with main:= {rowAt.prog.main with
   body:=((((((((rowAt.prog.main.body.eraseIdx 41).eraseIdx 35).eraseIdx 29).eraseIdx 25).eraseIdx 17).eraseIdx 15).eraseIdx 9).eraseIdx 1)}}
abbrev tX:Shared->Bool:=λ s=>xlAt jS [] s&&recOk rowAt.records s
theorem two_looks {W α β γ:Type} {x:W->Option α} {f:α->β} {g:α->γ} {b:β} {c:W->γ}
  (h:∀w,(x w).map f=some b) (k:∀w,(x w).map g=some (c w)) (w:W) :
  (x w).map (λ s=>(f s,g s))=some (b,c w):=by
 have h:=h w;have k:=k w;revert h k
 cases x w with
 | none=>intro h;cases h
 | some a=>intro h k;cases h;rw [<-Option.some.inj k];rfl
def JW {α β:Type} (x:α×β):α:=x.casesOn λ a _=>a
def mQ {α β:Type} (x:α×β):β:=x.casesOn λ _ b=>b
local macro_rules | `(tactic| walk_at "lk")=> `(tactic| (intro w;unfold openEnds fencedOpening topFrom;rw [Fast.te14082659384304107361,Fast.te14364793385576792824,Fast.te10274390034422433532,Fast.te14289696077712309145,Fast.te1435165496053646825,Fast.te4187177175401517315,Fast.te5923862056798008813];kernel_rfl))
theorem RH:∀w:World,(openEnds treeTable rowAt.prog w 8310).map
  (λ s=>(JW (openSeen jS [] (importedModules rowAt.prog.main.body) tX true s)))=some (openGood jS []).1:=by walk_at "lk"
theorem OH:∀w:World,(openEnds treeTable rowAt.prog w 8310).map
  (λ s=>(JW (mQ (openSeen jS [] (importedModules rowAt.prog.main.body) tX true s))))=some (openGood jS []).2.1:=by walk_at "lk"
theorem L9:∀w:World,(openEnds treeTable rowAt.prog w 8310).map
  (λ s=>(JW (mQ (mQ (openSeen jS [] (importedModules rowAt.prog.main.body) tX true s)))))=some (openGood jS []).2.2.1:=by walk_at "lk"
theorem Jz:∀w:World,(openEnds treeTable rowAt.prog w 8310).map
  (λ s=>(JW (mQ (mQ (mQ (openSeen jS [] (importedModules rowAt.prog.main.body) tX true s))))))=some (openGood jS []).2.2.2.1:=by walk_at "lk"
theorem Gi:∀w:World,(openEnds treeTable rowAt.prog w 8310).map
  (λ s=>(JW (mQ (mQ (mQ (mQ (openSeen jS [] (importedModules rowAt.prog.main.body) tX true s)))))))=some (openGood jS []).2.2.2.2.1:=by walk_at "lk"
theorem Ec:∀w:World,(openEnds treeTable rowAt.prog w 8310).map
  (λ s=>(JW (mQ (mQ (mQ (mQ (mQ (openSeen jS [] (importedModules rowAt.prog.main.body) tX true s))))))))=some (openGood jS []).2.2.2.2.2.1:=by walk_at "lk"
theorem Eb:∀w:World,(openEnds treeTable rowAt.prog w 8310).map
  (λ s=>(mQ (mQ (mQ (mQ (mQ (mQ (openSeen jS [] (importedModules rowAt.prog.main.body) tX true s))))))))=some (openGood jS []).2.2.2.2.2.2:=by walk_at "lk"
theorem GG:∀w:World,(openEnds treeTable rowAt.prog w 8310).map
  (λ s=>openSeen jS [] (importedModules rowAt.prog.main.body) tX true s)=some (openGood jS []):=λ w=>(two_looks RH (two_looks OH (two_looks L9 (two_looks Jz (two_looks Gi (two_looks Ec Eb)))))) w
theorem JG {P:Prop} (_:Hook) (h:P):P:=h
local macro_rules
 | `(tactic| o_head $H)=> `(tactic| (refine JG $H ?_;assumption))
theorem Cz (hyp:PySem.Challenge.rw_tieseek_k31_whole_reached_by_least_ways.row.Holds):PySem.Challenge.rw_tieseek_k31_whole_reached_by_least_ways.row.Holds:=by
 k_head
def Pl:List Addr:= [2,3,15,17,18,20,21,22,29,30,31,32,35,42,43,44,47,54,55,56,59,66,67,68,71,78,79,80,83,90,91,92,95,102,103,104,107,110,111,112,114,115,117,118,119,121,122,124,125,133,135,136,138,139,140,142,143,145,146,147,149,150,152,153,154,156,157,159,160,161,163,164,166,167,168,170,171,173,174,175,177,178,180,181,182,183,184,185,186,189,192,193,194,196,197,199,200,201,203,204,206,207,208,210,211,213,214,215,217,218,220,221,222,224,225,227,228,229,231,232,234,235,236,239,240,241,243,244,246,247,248,250,251,253,254,255,258,259,260,262,263,265,266,267,269,270,272,273,281,283,284,286,287,288,290,291,293,294,295,297,298,300,301,302,304,305,307,308,309,311,312,314,315,316,318,319,321,322,323,325,326,328,329,330,331,333,334,336,337,338,340,341,343,344,345,347,348,350,351,352,354,355,357,358,359,361,362,364,365,366,368,369,371,372,373,375,376,378,379,380,382,383,385,386,387,389,390,392,393,394,396,397,399,400,401,403,404,406,407,408,410,411,413,414,415,416,417,418,419,422,424,425,427,428,429,431,432,434,435,436,439,440,441,443,444,446,447,448,450,451,453,454,455,457,458,460,461,462,464,465,467,468,469,471,472,474,475,476,478,479,481,482,483,485,486,488,489,490,493,494,495,497,498,500,501,502,505,506,507,510,511,512,514,515,517,518,519,521,522,524,525,526,529,530,531,534,535,536,539,540,541,544,545,546,549,550,551,553,554,556,557,558,561,562,563,566,567,568,571,572]
theorem S2:∀P:Params,Pl=(Cz.heap_1 P).map (·.1):=λ _=>by kernel_rfl
theorem Sr:∀w:World,(openEnds treeTable rowAt.prog w 8310).map
  (Hook.obs (kHook Cz.heap_1 Pl S2))=some (Hook.val (kHook Cz.heap_1 Pl S2) w):=by
 intro w;unfold openEnds fencedOpening topFrom;rw [Fast.te14082659384304107361,Fast.te14364793385576792824,Fast.te10274390034422433532,Fast.te14289696077712309145,Fast.te1435165496053646825,Fast.te5923862056798008813]
 kernel_rfl
theorem wSaid9:PySem.W.OpenLaw.wellSaid PySem.Challenge.rw_tieseek_k31_whole_reached_by_least_ways=true:=by kernel_rfl
end
namespace L2
open PySem PySem.Spec PyProof.Rows
abbrev Key:=Sum Int Str
def yL:Key->Value->Bool
 | .inl k,v=>Value.isInt k v
 | .inr x,v=>Value.isStrOf x v
def X1 (w:World):Key->Int
 | .inl k=>hashInt k
 | .inr x=>hashStr w x
theorem iq:∀{k:Key} {v:Value},yL k v=true->(∃i t,k=Sum.inl i/\v=Value.int i t)\/(∃x t,k=Sum.inr x/\v=Value.str x t)
 | .inl i,v,h=>by
  obtain⟨t,e⟩:=Value.isInt_shape (k:=i) (v:=v) h;exact .inl ⟨i,t,rfl,e⟩
 | .inr x,v,h=>by
  obtain⟨t,e⟩:=Value.isStrOf_shape (x:=x) (v:=v) h;exact .inr ⟨x,t,rfl,e⟩
theorem JE (i:Int) (t:Tok):yL (.inl i) (.int i t)=true:=by simp [yL,Value.isInt]
theorem JD (x:Str) (t:Tok):yL (.inr x) (.str x t)=true:=by simp [yL,Value.isStrOf]
theorem RU (a b:Int):decide ((Sum.inl a:Key)=Sum.inl b)=(a==b):=by
 by_cases e:a=b
 .subst e;simp
 .have h:¬(Sum.inl a:Key)=Sum.inl b:=λ q=>e (Sum.inl.inj q);rw [decide_eq_false h];exact(beq_eq_false_iff_ne.mpr e).symm
theorem RQ (a b:Str):decide ((Sum.inr a:Key)=Sum.inr b)=decide (a=b):=by
 by_cases e:a=b
 .subst e;simp
 .have h:¬(Sum.inr a:Key)=Sum.inr b:=λ q=>e (Sum.inr.inj q);rw [decide_eq_false h,decide_eq_false e]
theorem RT (a:Int) (b:Str):decide ((Sum.inl a:Key)=Sum.inr b)=false:=decide_eq_false (λ q=>nomatch q)
theorem RS (a:Str) (b:Int):decide ((Sum.inr a:Key)=Sum.inl b)=false:=decide_eq_false (λ q=>nomatch q)
def gA (prog:Program) (w:World):PySem.KeyKind prog w Key where
 is:=yL
 hash:=X1 w
 inj:=λ v a b ha hb=>by
  rcases iq ha with ⟨i,t,rfl,rfl⟩ | ⟨x,t,rfl,rfl⟩
  .rcases iq hb with ⟨j,u,rfl,e⟩ | ⟨y,u,rfl,e⟩
   .injection e with e1 _;rw [e1]
   .exact nomatch e
  .rcases iq hb with ⟨j,u,rfl,e⟩ | ⟨y,u,rfl,e⟩
   .exact nomatch e
   .injection e with e1 _;rw [e1]
 byValue:=λ k v h=>by
  rcases iq h with ⟨i,t,rfl,rfl⟩ | ⟨x,t,rfl,rfl⟩<;>rfl
 pyHash:=λ hv h=>by
  rcases iq hv with ⟨i,t,rfl,rfl⟩ | ⟨x,t,rfl,rfl⟩
  .exact wpAny_pyHash_int h
  .exact wpAny_pyHash_str h
 eqBool:=λ hu hv h=>by
  rcases iq hu with ⟨i,t,rfl,rfl⟩ | ⟨x,t,rfl,rfl⟩
  .rcases iq hv with ⟨j,u,rfl,rfl⟩ | ⟨y,u,rfl,rfl⟩
   .rw [RU] at h;exact wpAny_eqBool_int h
   .rw [RT] at h;exact SeqAt.EqAt.int_str i t y u _ _ _ _ h
  .rcases iq hv with ⟨j,u,rfl,rfl⟩ | ⟨y,u,rfl,rfl⟩
   .rw [RS] at h;exact SeqAt.EqAt.str_int x t j u _ _ _ _ h
   .rw [RQ] at h;exact wpAny_eqBool_str h
 «strs» := λ k x t v h=>by
  rcases iq h with ⟨i,u,rfl,e⟩ | ⟨y,u,rfl,e⟩
  .exact nomatch e
  .injection e with e1 _
   subst e1
   cases v<;>rfl
theorem DZ (prog:Program) (w:World) (i:Int) (t:Tok):(gA prog w).is (.inl i) (.int i t)=true:=JE i t
theorem DY (prog:Program) (w:World) (x:Str) (t:Tok):(gA prog w).is (.inr x) (.str x t)=true:=JD x t
inductive V where
 | jv|bl (b:Bool)|int (i:Int)|str (x:Str)|Il (b:Array UInt8)|Sy (b:UInt64)|ref (a:Addr)|ty (n:String)
 deriving DecidableEq
def RelV:V->Value->Prop
 | .jv,u=>u=Value.none
 | .bl b,u=>u=Value.bool b
 | .int i,u=>∃t,u=Value.int i t
 | .str x,u=>∃t,u=Value.str x t
 | .Il b,u=>∃t,u=Value.bytes b t
 | .Sy b,u=>∃t,u=Value.float b t
 | .ref a,u=>u=Value.ref a
 | .ty n,u=>u=Value.type n
abbrev Vals:List V->List Value->Prop:=Paired RelV
theorem Vals.length (r:Vals xs us):xs.length=us.length:=Paired.length r
theorem Vals.get:∀{xs:List V} {us:List Value} {i:Nat} {x:V},Vals xs us->xs[i]? = some x->∃u,us[i]? = some u/\RelV x u
 | _,_,_,_,.nil,e=>by simp at e
 | _,_,0,_,.cons r _,e=>by simp at e;subst e;exact⟨_,rfl,r⟩
 | _,_,i+1,x,.cons _ t,e=>by
  obtain⟨u,h1,h2⟩:=Vals.get (i:=i) (x:=x) t (by simpa using e);exact⟨u,by simpa using h1,h2⟩
theorem Vals.set (r:RelV x u):∀{xs:List V} {us:List Value} (i:Nat),Vals xs us->Vals (xs.set i x) (us.set i u)
 | _,_,_,.nil=>.nil
 | _,_,0,.cons _ t=>.cons r t
 | _,_,i+1,.cons q t=>.cons q (Vals.set r i t)
theorem Vals.append:∀{xs ys:List V} {us ws:List Value},Vals xs us->Vals ys ws->Vals (xs++ys) (us++ws)
 | _,_,_,_,.nil,s=>s
 | _,_,_,_,.cons r t,s=>.cons r (Vals.append t s)
theorem Vals.take:∀{xs:List V} {us:List Value} (n:Nat),Vals xs us->Vals (xs.take n) (us.take n)
 | _,_,0,_=>.nil
 | _,_,_+1,.nil=>.nil
 | _,_,n+1,.cons r t=>.cons r (Vals.take n t)
theorem Vals.drop:∀{xs:List V} {us:List Value} (n:Nat),Vals xs us->Vals (xs.drop n) (us.drop n)
 | _,_,0,r=>r
 | _,_,_+1,.nil=>.nil
 | _,_,n+1,.cons _ t=>Vals.drop n t
def oT:Option V->Option Value->Prop
 | some v,some u=>RelV v u
 | none,none=>True
 | _,_=>False
def KV {κ:Type}:List (κ×V)->List (κ×Value)->Prop:=Paired λ (p:κ×V) (q:κ×Value)=>p.1=q.1/\RelV p.2 q.2
def kV:Key->V
 | .inl i=>.int i
 | .inr x=>.str x
inductive HO where
  | lst (xs:List V)
  | tup (xs:List V)
  | dK (kvs:List (Key×V))|dT (kvs:List (List Key×V))
  | set (S:Int->Bool) (n:Nat)
  | ins (C dx:Addr) (fs:List (Str×V))
  | own (x:Addr)
  | xd (fs:List (Str×V))
  | met (f x:Addr)
  | wQ (lo hi:Int)
  | tH (o:Obj) (u:HO)
  | KQ (ps:Array Value)
  | ext (φ:Heap->Prop)
abbrev Hp:=Addr->Option HO
def upd (H:Hp) (a:Addr) (o:HO):Hp:=λ b=>if b=a then some o else H b
theorem eX:upd H a o a=some o:=by unfold upd;rw [if_pos rfl]
theorem e_ (h:b≠a):upd H a o b=H b:=by unfold upd;rw [if_neg h]
theorem gN {H:Hp} {a b:Addr} {o u:HO} (h:H a=some o) (h':H b=some u) (d:o≠u):a≠b:=by
 intro e;subst e;rw [h] at h';exact d (Option.some.inj h')
theorem fq {H:Hp} {a b:Addr} {o:HO} (h:H a=some o) (h':H b=none):a≠b:=by
 intro e;subst e;rw [h] at h';cases h'
section
variable (P:Program) (w:World)
def ig (H:Hp) (h:Heap) (a:Addr):HO->Prop
 | .lst xs=>xs.length<=sizeLine/\∃(its:List Value) (n:Nat),Vals xs its/\h.get? a=some {cls:=.type "list",data:=.seq its.toArray n}
 | .tup xs=>xs.length<=sizeLine/\∃its:List Value,Vals xs its/\IsTup h a its.toArray
 | .dK kvs=>kvs.length<=sizeLine/\(a==sysModules)=false/\∃vs,KV kvs vs/\h.DictOf (gA P w) a vs
 | .dT kvs=>kvs.length<=sizeLine/\(a==sysModules)=false/\∃xs:List (List Key×Addr×Value),
   Paired (λ (p:List Key×V) (q:List Key×Addr×Value)=>p.1=q.1/\H q.2.1=some (.tup (p.1.map kV))/\RelV p.2 q.2.2) kvs xs/\
   ∃o es ep,h.get? a=some o/\o.ExactDict/\o.data = .dict es ep/\es.toList=xs.map (entryOfKey (tupleKind (gA P w)))/\(xs.map (·.1)).Nodup
 | .set S n=>h.SetOf (intKind P w) a S n
 | .ins C dx fs=>H dx=some (.own a)/\fs.length<=1000/\dx≠a/\h.get? a=some (b8 C dx)/\
   ∃mA,h.Ns1 dx mA/\(∀f,oT (fs.lookup f) (mA f))/\PySem.Within mA (fs.map (·.1))
 | .own _=>∃o,h.get? a=some o
 | .xd fs=>∃mA,h.Ns1 a mA/\∀f,oT (fs.lookup f) (mA f)
 | .wQ lo hi=>∃t u v,h.get? a=some {cls:=.type "range",data:=.fields #[.int lo t,.int hi u,.int 1 v]}
 | .tH o u=>h.get? a=some o/\ig H h a u
 | .KQ ps=>h.get? a=some {cls:=.none,data:=.fields ps}
 | .met f x=>h.get? a=some (ez (.ref f) (.ref x))
 | .ext φ=>φ h/\(∃o,h.get? a=some o)/\∀h1 h2:Heap,φ h1->(∀o,h1.get? a=some o->h2.get? a=some o)->φ h2
def rA (H:Hp) (h:Heap):Prop:=∀a o,H a=some o->ig P w H h a o
end
section
variable {P:Program} {w:World} {H H':Hp} {h h':Heap} {a:Addr} {o:HO}
theorem ig.lt (x:ig P w H h a o):a<h.objs.size:=by
 cases o with
 | lst xs=>obtain⟨_,_,_,_,e⟩:=x;exact aG e
 | tup xs=>obtain⟨_,_,_,p⟩:=x;exact p.lt
 | dK kvs=>obtain⟨_,_,_,_,o,_,_,e,_⟩:=x;exact aG e
 | dT kvs=>obtain⟨_,_,_,_,o,_,_,e,_⟩:=x;exact aG e
 | set S n=>obtain⟨o,_,_,_,e,_⟩:=x;exact aG e
 | ins C dx fs=>obtain⟨_,_,_,e,_⟩:=x;exact aG e
 | own y=>obtain⟨_,e⟩:=x;exact aG e
 | xd fs=>obtain⟨_,⟨_,_,_,e,_⟩,_⟩:=x;exact aG e
 | wQ lo hi=>obtain⟨_,_,_,e⟩:=x;exact aG e
 | tH ob u=>obtain⟨e,_⟩:=x;exact aG e
 | KQ ps=>exact aG (show h.get? a=some _ from x)
 | met f y=>exact aG (show h.get? a=some _ from x)
 | ext φ=>obtain⟨_,⟨_,e⟩,_⟩:=x;exact aG e
theorem Paired.RE {α β:Type} {F G:α->β->Prop}:∀{õ:List α} {ô:List β},Paired F õ ô->(∀a b,F a b->G a b)->Paired G õ ô
 | _,_,.nil,_=>.nil
 | _,_,.cons r t,f=>.cons (f _ _ r) (Paired.RE t f)
theorem ig.tM (x:ig P w H h a o) (k:∀b u,(b=a\/H b=some (.own a))->h.get? b=some u->h'.get? b=some u)
  (ho:∀b,H b=some (.own a)->H' b=some (.own a)) (ht:∀b xs,H b=some (.tup xs)->H' b=some (.tup xs)):ig P w H' h' a o:=by
 induction o with
 | lst xs=>obtain⟨z,its,n,r,e⟩:=x;exact⟨z,its,n,r,k _ _ (.inl rfl) e⟩
 | tup xs=>obtain⟨z,its,r,ob,e,c⟩:=x;exact⟨z,its,r,ob,k _ _ (.inl rfl) e,c⟩
 | dK kvs=>obtain⟨z,y,vs,r,ob,es,ep,e,c⟩:=x;exact⟨z,y,vs,r,ob,es,ep,k _ _ (.inl rfl) e,c⟩
 | dT kvs=>
  obtain⟨z,y,xs,r,ob,es,ep,e,c⟩:=x;exact⟨z,y,xs,Paired.RE r λ p q z=>⟨z.1,ht _ _ z.2.1,z.2.2⟩,ob,es,ep,k _ _ (.inl rfl) e,c⟩
 | set S n=>obtain⟨ob,es,ep,t,e,c⟩:=x;exact⟨ob,es,ep,t,k _ _ (.inl rfl) e,c⟩
 | ins C dx fs=>
  obtain⟨d,z,ne,e,mA,⟨od,es,ep,e2,c⟩,r⟩:=x;exact⟨ho _ d,z,ne,k _ _ (.inl rfl) e,mA,⟨od,es,ep,k _ _ (.inr d) e2,c⟩,r⟩
 | own y=>obtain⟨ob,e⟩:=x;exact⟨ob,k _ _ (.inl rfl) e⟩
 | xd fs=>obtain⟨mA,⟨od,es,ep,e,c⟩,r⟩:=x;exact⟨mA,⟨od,es,ep,k _ _ (.inl rfl) e,c⟩,r⟩
 | wQ lo hi=>obtain⟨t,u,v,e⟩:=x;exact⟨t,u,v,k _ _ (.inl rfl) e⟩
 | tH ob u ih=>obtain⟨e,q⟩:=x;exact⟨k _ _ (.inl rfl) e,ih q⟩
 | KQ ps=>
  have e:h.get? a=some {cls:=.none,data:=.fields ps}:=x;show h'.get? a=some {cls:=.none,data:=.fields ps};exact k a _ (.inl rfl) e
 | met f y=>
  have e:h.get? a=some (ez (.ref f) (.ref y)):=x;show h'.get? a=some (ez (.ref f) (.ref y));exact k a _ (.inl rfl) e
 | ext φ=>obtain⟨p,⟨o,e⟩,st⟩:=x;exact⟨st _ _ p λ o q=>k _ _ (.inl rfl) q,⟨o,k _ _ (.inl rfl) e⟩,st⟩
theorem rA.lt (x:rA P w H h) (e:H a=some o):a<h.objs.size:=(x a o e).lt
theorem rA.fresh (x:rA P w H h) (e:h.objs.size<=a):H a=none:=by
 cases q:H a with
 | none=>rfl
 | some u=>exact absurd (aC (x.lt q) e) (bU _)
theorem rA.kept (x:rA P w H h) (k:∀b u,h.get? b=some u->h'.get? b=some u):rA P w H h':=λ a o e=>
 (x a o e).tM (λ b u _ q=>k b u q) (λ _ q=>q) λ _ _ q=>q
theorem rA.laid (x:rA P w H h) (k:∀b u,h.get? b=some u->h'.get? b=some u) (hp:h.objs.size<=a) (new:ig P w (upd H a o) h' a o):rA P w (upd H a o) h':=λ b u e=>by
 have hn:=x.fresh hp;by_cases hb:b=a
 .subst hb;rw [eX] at e;cases e;exact new
 .rw [e_ hb] at e;exact(x b u e).tM (λ c v _ q=>k c v q) (λ c q=>by rwa [e_ (fq q hn)]) λ c xs q=>by rwa [e_ (fq q hn)]
end
def Rd (H:Hp) (a:Addr) (u:HO):Prop:=H a=some u\/∃o,H a=some (.tH o u)
theorem Rd.ok (r:Rd H a u) (x:rA P w H h):ig P w H h a u:=by
 rcases r with r | ⟨o,r⟩
 .exact x a u r
 .obtain⟨_,q⟩:=x a _ r;exact q
def VO:Option HO->Prop
 | some (.lst _)=>True
 | some (.dK _)=>True
 | some (.dT _)=>True
 | some (.set _ _)=>True
 | some (.ins _ _ _)=>True
 | some (.ext _)=>True
 | _=>False
section
variable {P:Program} {w:World} {H:Hp} {h h':Heap} {x e:Addr} {o':HO}
theorem rA.write (ok:rA P w H h) (mu:VO (H x)) (he:e=x\/H e=some (.own x)) (k:∀b u,b≠e->h.get? b=some u->h'.get? b=some u) (TR:∃u,h'.get? e=some u)
  (new:ig P w (upd H x o') h' x o'):rA P w (upd H x o') h':=λ b u q=>by
 have UG:∀c y,H c=some (.own y)->c≠x:=λ c y r z=>by subst z;rw [r] at mu;exact mu
 have sO:∀c xs,H c=some (.tup xs)->c≠x:=λ c xs r z=>by subst z;rw [r] at mu;exact mu
 by_cases hb:b=x
 .subst hb;rw [eX] at q;cases q;exact new
 .rw [e_ hb] at q;by_cases JR:b=e
  .have q':H b=some (.own x):=by
    rcases he with z|z
    .exact absurd (JR.trans z) hb
    .rwa [JR]
   rw [q] at q';cases q';obtain⟨v,hv⟩:=TR;exact⟨v,by rwa [JR]⟩
  .refine(ok b u q).tM (λ c v hc r=>k c v ?_ r) (λ c r=>by rwa [e_ (UG c b r)]) λ c xs r=>by rwa [e_ (sO c xs r)]
   rcases hc with rfl|hc
   .exact JR
   .rintro rfl;rcases he with z|z
    .exact UG c b hc z
    .rw [hc] at z;cases z;exact hb rfl
end
structure Un (fs ex:List Addr) (H H':Hp) (h h':Heap):Prop where
 keep:∀b o,h.get? b=some o->H b=none->b∉fs->b∉ex->h'.get? b=some o
 slot:∀b o,h.get? b=some o->H b=none->b∈fs->b∉ex->∃sl,h'.get? b=some {o with slots:=sl}
 free:∀b o,h.get? b=some o->H b=none->b∉ex->H' b=none
 there:∀b o,h.get? b=some o->b∉ex->∃o',h'.get? b=some o'
 i5:∀b xs,H b=some (.tup xs)->H' b=some (.tup xs)
 pJ:∀b o u,H b=some (.tH o u)->H' b=some (.tH o u)
 q_:∀b ps,H b=some (.KQ ps)->∃more,H' b=some (.KQ (ps++more))
section
variable {fs fs' ex ex':List Addr} {H H1 H2:Hp} {h h1 h2 h':Heap} {a x e:Addr} {o:HO}
theorem Un.any (u:Un fs ex H H1 h h1) (q:h.get? b=some ob) (n:H b=none) (hx:b∉ex):∃sl,h1.get? b=some {ob with slots:=sl}:=by
 by_cases hb:b∈fs
 .exact u.slot b ob q n hb hx
 .exact⟨ob.slots,u.keep b ob q n hb hx⟩
theorem Un.trans (a:Un fs ex H H1 h h1) (b:Un fs ex H1 H2 h1 h2):Un fs ex H H2 h h2 where
 keep:=λ c ob q n hc hx=>b.keep c ob (a.keep c ob q n hc hx) (a.free c ob q n hx) hc hx
 slot:=λ c ob q n hc hx=>by
  obtain⟨sl,e1⟩:=a.slot c ob q n hc hx;obtain⟨Ud,e2⟩:=b.slot c _ e1 (a.free c ob q n hx) hc hx;exact⟨Ud,e2⟩
 free:=λ c ob q n hx=>by
  obtain⟨o',e1⟩:=a.there c ob q hx;exact b.free c o' e1 (a.free c ob q n hx) hx
 there:=λ c ob q hx=>by
  obtain⟨o',e1⟩:=a.there c ob q hx;exact b.there c o' e1 hx
 i5:=λ c xs q=>b.i5 c xs (a.i5 c xs q)
 pJ:=λ c ob xs q=>b.pJ c ob xs (a.pJ c ob xs q)
 q_:=λ c ps q=>by
  obtain⟨m1,e1⟩:=a.q_ c ps q;obtain⟨m2,e2⟩:=b.q_ c _ e1;exact⟨m1++m2,by rw [e2,eu]⟩
theorem Un.kept (k:∀b u,h.get? b=some u->h'.get? b=some u):Un fs ex H H h h':=
 ⟨λ b ob q _ _ _=>k b ob q,λ b ob q _ _ _=>⟨ob.slots,k b ob q⟩,λ _ _ _ n _=>n,λ b ob q _=>⟨ob,k b ob q⟩,λ _ _ q=>q,λ _ _ _ q=>q,λ _ ps q=>⟨#[],by rw [q];simp⟩⟩
theorem Un.refl:Un fs ex H H h h:=Un.kept λ _ _ q=>q
theorem Un.laid (k:∀b u,h.get? b=some u->h'.get? b=some u) (hp:h.objs.size<=a) (hn:H a=none):Un fs ex H (upd H a o) h h' where
 keep:=λ b u q _ _ _=>k b u q
 slot:=λ b u q _ _ _=>⟨u.slots,k b u q⟩
 free:=λ b u q n _=>by rwa [e_ (aO (aC (aG q) hp))]
 there:=λ b u q _=>⟨u,k b u q⟩
 i5:=λ b xs q=>by rwa [e_ (fq q hn)]
 pJ:=λ b u xs q=>by rwa [e_ (fq q hn)]
 q_:=λ b ps q=>⟨#[],by rw [e_ (fq q hn),q];simp⟩
theorem Un.write (mu:VO (H x)) (he:e=x\/H e=some (.own x)) (k:∀b u,b≠e->h.get? b=some u->h'.get? b=some u) (TR:∃u,h'.get? e=some u):Un fs ex H (upd H x o) h h':=by
 have hx:∀b,H b=none->b≠x:=λ b n z=>by subst z;rw [n] at mu;exact mu
 have hb:∀b,H b=none->b≠e:=λ b n z=>by
  subst z;rcases he with r|r
  .exact hx b n r
  .rw [n] at r;cases r
 have hm:∀b u,H b=some u->¬VO (some u)->b≠x:=λ b u q nm z=>by subst z;rw [q] at mu;exact nm mu
 refine⟨λ b u q n _ _=>k b u (hb b n) q,λ b u q n _ _=>⟨u.slots,k b u (hb b n) q⟩,λ b u q n _=>by rwa [e_ (hx b n)],λ b u q _=> ?_,
  λ b xs q=>by rwa [e_ (hm b _ q λ z=>z)],λ b u xs q=>by rwa [e_ (hm b _ q λ z=>z)],λ b ps q=>⟨#[],by rw [e_ (hm b _ q λ z=>z),q];simp⟩⟩
 by_cases JR:b=e
 .subst JR;exact TR
 .exact⟨u,k b u JR q⟩
end
def VW (h:Heap) (H:Hp):List Addr:=(List.range h.objs.size).filter λ a=>(H a).isSome
def Cy (h:Heap) (H:Hp):Heap:=eO h (VW h H)
theorem JO (h:Heap) (H:Hp):(Cy h H).objs.size=h.objs.size:=PySem.W.hideAll_size _ _
theorem Mp (e:h.get? b=some o) (n:H b=none):(Cy h H).get? b=some o:=
 cY _ e λ hm=>by
  have q:(H b).isSome=true:=(bG.mp hm).2;rw [n] at q;simp at q
theorem OB (e:(Cy h H).get? b=some o):h.get? b=some o/\H b=none:=by
 have e':h.get? b=some o:=PySem.W.of_hideAll (VW h H) e;refine⟨e',?_⟩
 cases q:H b with
 | none=>rfl
 | some x=>
  have hm:b∈VW h H:=bG.mpr ⟨aU.mpr (aG e'),by simp [q]⟩;have z:(Cy h H).get? b=none:=PySem.W.hideAll_none (VW h H) hm;rw [z] at e;cases e
def Pm (g h:Heap) (L:Addr):List (Addr×Obj):=(List.range h.objs.size).filterMap λ a=>if a=L\/(g.get? a).isSome=true then none else (h.get? a).map λ o=>(a,o)
def rest (g h:Heap) (L d:Addr):List (Addr×Obj):=(Pm g h L).filter λ p=>decide (p.1≠d)
structure Mod (K:aj) (mg:Str->Option Value) (base:Heap):Prop where
 RP:K.In base
 glob:base.Ns mainGlobals mg
 blt:∃mb,base.Ns builtinsNs mb/\∀x:Str,x≠"__name__"->mb x=bootBuiltins x
 nolimit:base.NoLimit
structure Cx where
 prog:Program
 w:World
 K:aj
 mg:Str->Option Value
 base:Heap
 A:Around
 N:List Str
 jj:Shared
 kZ:Hp
 env:Env
 outer:List Env
 stack:List Env
 ex:List Addr
 fn:Str->Bool
 calm:Bool
 pn:List (Addr×Obj)
 xe:Value->Shared->Prop
def uP (l:List Env):List Addr:=l.filterMap (·.frame)
abbrev Cx.fs (X:Cx):List Addr:=uP X.outer
def WQ (sc:Scope) (x:Str):Prop:=sc.names.lookup x=some .local\/sc.names.lookup x=some .cell\/sc.names.lookup x=some .free
def Loc (sc:Scope) (x:Str):Prop:=sc.names.lookup x=some .local\/sc.names.lookup x=some .cell
def Look (env:Env) (h:Heap) (m:Str->Option Value) (x:Str) (u:Value):Prop:=
 (env.kindOf x=some .local/\m x=some u)\/((env.kindOf x=some .cell\/env.kindOf x=some .free)/\∃c,env.cells.lookup x=some c/\h.IsCell c (some u))
structure Cx.Ok (X:Cx):Prop where
 mod:Mod X.K X.mg X.base
 kind:X.env.scope.kind = .function
 glob:X.env.globals=mainGlobals
 blt:X.env.builtins=builtinsNs
 above:X.jj.heap.objs.size<=X.env.locals
 inj:∀x y c,X.env.cells.lookup x=some c->X.env.cells.lookup y=some c->x=y
 has:∀x,(X.env.kindOf x=some .cell\/X.env.kindOf x=some .free)->∃c,X.env.cells.lookup x=some c
 VD:∀x c,X.fn x=true->X.env.cells.lookup x=some c->X.jj.heap.objs.size<=c
 hd:X.calm=true->X.A.handled=none
 frames:X.A.frames=some X.stack
 V2:X.stack=X.outer\/(X.stack=X.env::X.outer/\X.env.frame=some X.env.locals)
 TZ:∀b∈X.ex,b≠X.env.locals/\∀x c,X.env.cells.lookup x=some c->c≠b
 bs:∀b o,X.base.get? b=some o->X.jj.heap.get? b=some o/\X.kZ b=none
 MV:X.base.objs.size<=X.jj.heap.objs.size
 t_:∀b o,X.base.get? b=some o->b∉X.ex
 J0:∀b∈X.ex,b∉X.fs
 w_:X.jj.heap.FunFrames X.base X.outer
 Sx:∀b∈X.fs,X.kZ b=none
structure Inv (X:Cx) (pins:List (Addr×Obj)) (σ:List (Option V)) (H:Hp) (s:Shared):Prop where
 ok:X.Ok
 os:s.os=X.jj.os
 bare:AllBare s.gens
 base:Un X.fs X.ex X.kZ H X.jj.heap s.heap
 loc:∃m,s.heap.Ns X.env.locals m/\∀(i:Nat) (x:Str) (v:V),X.N[i]? = some x->σ[i]? = some (some v)->WQ X.env.scope x->∃u,RelV v u/\Look X.env s.heap m x u
 cell:∀x c,X.env.cells.lookup x=some c->∃v,s.heap.IsCell c v
 free:H X.env.locals=none
 mC:∀x c,X.env.cells.lookup x=some c->H c=none
 pin:∀p∈X.pn++pins,s.heap.get? p.1=some p.2/\H p.1=none/\p.1≠X.env.locals/\p.1∉X.fs/\∀v,p.2.data≠.cell v
 gJ:rA X.prog X.w H s.heap
 len:σ.length=X.N.length
section
variable {X:Cx} {pins:List (Addr×Obj)} {σ:List (Option V)} {H H':Hp} {s:Shared} {h':Heap}
theorem Cx.Ok.Xz (ok:X.Ok) (e:X.base.get? b=some o):b∉X.fs:=λ hb=>by
 have:=(ok.w_.mem hb).1;rw [e] at this;cases this
theorem Inv.bs (I:Inv X pins σ H s):∀b o,X.base.get? b=some o->s.heap.get? b=some o/\H b=none:=λ b o e=>
 ⟨I.base.keep b o (I.ok.bs b o e).1 (I.ok.bs b o e).2 (I.ok.Xz e) (I.ok.t_ b o e),I.base.free b o (I.ok.bs b o e).1 (I.ok.bs b o e).2 (I.ok.t_ b o e)⟩
theorem Inv.bk (I:Inv X pins σ H s):∀b o,X.base.get? b=some o->s.heap.get? b=some o:=λ b o e=>(I.bs b o e).1
theorem Inv.mod (I:Inv X pins σ H s):Mod X.K X.mg X.base:=I.ok.mod
theorem Inv.wZ (I:Inv X pins σ H s):X.K.In s.heap:=I.ok.mod.RP.keeps I.bk
theorem Inv.lt (I:Inv X pins σ H s):X.env.locals<s.heap.objs.size:=let ⟨_,hn,_⟩:=I.loc;hn.lt
theorem Inv.sz (I:Inv X pins σ H s):X.jj.heap.objs.size<=s.heap.objs.size:=bj I.ok.above (dF I.lt)
theorem Inv.Xy (I:Inv X pins σ H s) (h:s.heap.objs.size<=a):a∉X.fs:=λ hb=>by
 obtain⟨_,o,ho,_⟩:=I.ok.w_.mem hb;exact absurd (aC (aG ho) (bj I.sz h)) (bU _)
theorem Inv.SW (I:Inv X pins σ H s):∀x c,X.env.cells.lookup x=some c->c≠X.env.locals:=λ x c e z=>by
 obtain⟨v,o,ho,hd⟩:=I.cell x c e;obtain⟨m,⟨o',es,ep,Sa,TU,_⟩,_⟩:=I.loc;rw [z,Sa] at ho;cases ho;rw [TU] at hd;cases hd
theorem Inv.w_ (I:Inv X pins σ H s):s.heap.FunFrames X.base X.outer:=by
 have all:∀(l:List Env),(∀b∈uP l,b∈X.fs)->X.jj.heap.FunFrames X.base l->s.heap.FunFrames X.base l:=by
  intro l
  induction l with
  | nil=>intro _ _;trivial
  | cons env r ih=>
   intro hs hl;obtain⟨hk,⟨L,o,hf,hn,ho,hd⟩,hr⟩:=hl;have hL:L∈X.fs:=hs L (by unfold uP;rw [c9,hf];exact aZ);obtain⟨sl,e⟩:=I.base.slot L o ho (I.ok.Sx L hL) hL λ z=>I.ok.J0 L z hL;exact⟨hk,⟨L,_,hf,hn,e,hd⟩,ih (λ b hb=>hs b (by unfold uP;rw [c9,hf];exact az _ hb)) hr⟩
 exact all X.outer (λ _ hb=>hb) I.ok.w_
theorem Inv.stack (I:Inv X pins σ H s):s.heap.FunFrames X.base X.stack:=by
 rcases I.ok.V2 with e | ⟨e,hf⟩
 .rw [e];exact I.w_
 .rw [e];obtain⟨m,hn,_⟩:=I.loc;refine .cons (by rw [I.ok.kind];decide) hf hn ?_ I.w_;exact Heap.get?_none_of_le (bj I.ok.MV I.ok.above)
theorem Inv.BR (I:Inv X pins σ H s):∀b∈uP X.stack,b∈X.env.locals::X.fs:=λ b hb=>by
 rcases I.ok.V2 with e | ⟨e,hf⟩
 .rw [e] at hb;exact az _ hb
 .rw [e] at hb;unfold uP at hb;rw [c9,hf] at hb;exact hb
theorem Inv.xw (I:Inv X pins σ H s):∀b∈uP X.stack,H b=none:=λ b hb=>by
 rcases aA.mp (I.BR b hb) with e|hb
 .rw [e];exact I.free
 .obtain⟨_,o,ho,_⟩:=I.ok.w_.mem hb;exact I.base.free b o ho (I.ok.Sx b hb) λ z=>I.ok.J0 b z hb
theorem Inv.step {g':Array GenState} {t':Nat} {d':Drawn} {ch:List Addr} (I:Inv X pins σ H s)
  (Nv:∀b∈ch,(b∈X.ex\/X.jj.heap.objs.size<=b)/\b≠X.env.locals/\(∀x c,X.env.cells.lookup x=some c->c≠b)/\∀p∈X.pn++pins,p.1≠b)
  (keep:∀b o,b≠X.env.locals->b∉X.fs->b∉ch->s.heap.get? b=some o->H b=none->h'.get? b=some o)
  (slot:∀b o,b≠X.env.locals->b∈X.fs->b∉ch->s.heap.get? b=some o->H b=none->∃sl,h'.get? b=some {o with slots:=sl}) (free:∀b o,b∉ch->s.heap.get? b=some o->H b=none->H' b=none)
  (there:∀b o,b∉ch->s.heap.get? b=some o->∃o',h'.get? b=some o')
  (i5:∀b xs,H b=some (.tup xs)->H' b=some (.tup xs)) (pJ:∀b o u,H b=some (.tH o u)->H' b=some (.tH o u)) (q_:∀b ps,H b=some (.KQ ps)->∃more,H' b=some (.KQ (ps++more)))
  (ns:∀m,s.heap.Ns X.env.locals m->h'.Ns X.env.locals m) (gJ:rA X.prog X.w H' h') (hg:AllBare g') :
  Inv X pins σ H' {s with heap:=h',gens:=g',drawn:=d',toks:=t'}:=by
 have é:∀b o,X.jj.heap.get? b=some o->b≠X.env.locals:=λ b o e=>aO (aC (aG e) I.ok.above)
 have Wb:∀b o,X.jj.heap.get? b=some o->b∉X.ex->b∉ch:=λ b o e hx hb=>by
  rcases (Nv b hb).1 with z|z
  .exact hx z
  .exact absurd (aC (aG e) z) (bU _)
 have cellK:∀x c,X.env.cells.lookup x=some c->∀v,s.heap.IsCell c v->h'.IsCell c v:=λ x c e v ⟨o,ho,hd⟩=>by
  have UN:c∉ch:=λ z=>(Nv c z).2.2.1 x c e rfl;by_cases hc:c∈X.fs
  .obtain⟨sl,q⟩:=slot c o (I.SW x c e) hc UN ho (I.mC x c e);exact⟨_,q,hd⟩
  .exact⟨o,keep c o (I.SW x c e) hc UN ho (I.mC x c e),hd⟩
 refine⟨I.ok,I.os,hg,⟨λ b o e n hb hx=> ?_,λ b o e n hb hx=> ?_,λ b o e n hx=> ?_,λ b o e hx=> ?_,λ b xs e=>i5 b xs (I.base.i5 b xs e),λ b o xs e=>pJ b o xs (I.base.pJ b o xs e),λ b ps e=> ?_⟩,?_,λ x c e=> ?_,?_,λ x c e=> ?_,λ p hp=> ?_,gJ,I.len⟩
 .exact keep b o (é b o e) hb (Wb b o e hx) (I.base.keep b o e n hb hx) (I.base.free b o e n hx)
 .obtain⟨sl,e1⟩:=I.base.slot b o e n hb hx;obtain⟨Ud,e2⟩:=slot b _ (é b o e) hb (Wb b o e hx) e1 (I.base.free b o e n hx);exact⟨Ud,e2⟩
 .obtain⟨o',e1⟩:=I.base.there b o e hx;exact free b o' (Wb b o e hx) e1 (I.base.free b o e n hx)
 .obtain⟨o',e1⟩:=I.base.there b o e hx;exact there b o' (Wb b o e hx) e1
 .obtain⟨m1,e1⟩:=I.base.q_ b ps e;obtain⟨m2,e2⟩:=q_ b _ e1;exact⟨m1++m2,by rw [e2,eu]⟩
 .obtain⟨m,hn,hl⟩:=I.loc;refine⟨m,ns m hn,λ i x v e1 e2 e3=> ?_⟩;obtain⟨u,r,l⟩:=hl i x v e1 e2 e3;refine⟨u,r,?_⟩;rcases l with l | ⟨k,c,e,z⟩
  .exact .inl l
  .exact .inr ⟨k,c,e,cellK x c e _ z⟩
 .obtain⟨v,z⟩:=I.cell x c e;exact⟨v,cellK x c e v z⟩
 .obtain⟨m,⟨o,_,_,ho,_⟩,_⟩:=I.loc;exact free _ o (λ z=>(Nv _ z).2.1 rfl) ho I.free
 .obtain⟨v,o,ho,hd⟩:=I.cell x c e;exact free c o (λ z=>(Nv c z).2.2.1 x c e rfl) ho (I.mC x c e)
 .obtain⟨e,n,ne,nf,d⟩:=I.pin p hp;have UN:p.1∉ch:=λ z=>(Nv p.1 z).2.2.2 p hp rfl;exact⟨keep p.1 p.2 ne nf UN e n,free p.1 p.2 UN e n,ne,nf,d⟩
theorem Inv.un {t':Nat} (I:Inv X pins σ H s) (u:Un X.fs [] H H' s.heap h') (gJ:rA X.prog X.w H' h'):Inv X pins σ H' {s with heap:=h',toks:=t'}:=by
 obtain⟨m,⟨o,es,ep,ho,r⟩,_⟩:=id I.loc;obtain⟨sl,hL⟩:=u.any ho I.free (by simp)
 exact I.step (g':=s.gens) (d':=s.drawn) (ch:= []) (λ _ z=>nomatch z) (λ b o _ hb _ e n=>u.keep b o e n hb (by simp)) (λ b o _ hb _ e n=>u.slot b o e n hb (by simp)) (λ b o _ e n=>u.free b o e n (by simp)) (λ b o _ e=>u.there b o e (by simp)) u.i5 u.pJ u.q_ (λ m' hm=>by
  obtain⟨o',EZ,ZS,Sa,r'⟩:=hm;rw [ho] at Sa;cases Sa;exact⟨_,EZ,ZS,hL,r'⟩) gJ I.bare
theorem Inv.call {g':Array GenState} {t':Nat} {d':Drawn} {ch:List Addr} (I:Inv X pins σ H s) (u:Un (uP X.stack) ch H H' s.heap h') (gJ:rA X.prog X.w H' h') (hg:AllBare g')
  (Nv:∀b∈ch,(b∈X.ex\/X.jj.heap.objs.size<=b)/\b≠X.env.locals/\(∀x c,X.env.cells.lookup x=some c->c≠b)/\∀p∈X.pn++pins,p.1≠b) :
  Inv X pins σ H' {s with heap:=h',gens:=g',drawn:=d',toks:=t'}:=by
 obtain⟨m,⟨o,es,ep,ho,r⟩,_⟩:=id I.loc;obtain⟨sl,hL⟩:=u.any ho I.free λ z=>(Nv _ z).2.1 rfl
 exact I.step (ch:=ch) Nv (λ b o hL hb hc e n=>u.keep b o e n (λ z=>(aA.mp (I.BR b z)).elim hL hb) hc) (λ b o _ _ hc e n=>u.any e n hc) (λ b o hc e n=>u.free b o e n hc) (λ b o hc e=>u.there b o e hc) u.i5 u.pJ u.q_ (λ m' hm=>by
  obtain⟨o',EZ,ZS,Sa,r'⟩:=hm;rw [ho] at Sa;cases Sa;exact⟨_,EZ,ZS,hL,r'⟩) gJ hg
theorem Inv.turned {t':Nat} {it:Addr} (I:Inv X pins σ H s) (k:∀b o,b≠it->s.heap.get? b=some o->h'.get? b=some o) (hn:H it=none) (hL:it≠X.env.locals)
  (h1:it∈X.ex\/X.jj.heap.objs.size<=it) (h2:∀x c,X.env.cells.lookup x=some c->c≠it) (h3:∀p∈X.pn++pins,p.1≠it):Inv X pins σ H {s with heap:=h',toks:=t'}:=by
 have ç:∀b u,H b=some u->b≠it:=λ b u e z=>by rw [z,hn] at e;cases e
 refine I.step (g':=s.gens) (d':=s.drawn) (ch:= [it]) (λ b hb=> ?_) (λ b o _ _ hc e _=>k b o (λ z=>hc (by simp [z])) e) (λ b o _ _ hc e _=>⟨o.slots,k b o (λ z=>hc (by simp [z])) e⟩) (λ _ _ _ _ n=>n)
  (λ b o hc e=>⟨o,k b o (λ z=>hc (by simp [z])) e⟩) (λ _ _ e=>e) (λ _ _ _ e=>e) (λ b ps e=>⟨#[],by rw [e];simp⟩) (λ m hm=> ?_) (λ b u e=> ?_) I.bare
 .have e:b=it:=by simpa using hb
  subst e;exact⟨h1,hL,h2,h3⟩
 .obtain⟨o,es,ep,ho,r⟩:=hm;exact⟨o,es,ep,k _ o (Ne.symm hL) ho,r⟩
 .refine(I.gJ b u e).tM (λ c v hc q=>k c v ?_ q) (λ _ q=>q) λ _ _ q=>q;rcases hc with z|z
  .rw [z];exact ç b u e
  .exact ç c _ z
theorem Inv.tok (I:Inv X pins σ H s) (t:Nat):Inv X pins σ H {s with toks:=t}:=I.un (h':=s.heap) (t':=t) Un.refl I.gJ
theorem Inv.kept (I:Inv X pins σ H s) (k:∀b u,s.heap.get? b=some u->h'.get? b=some u):Inv X pins σ H {s with heap:=h',toks:=t'}:=I.un (Un.kept k) (I.gJ.kept k)
theorem Inv.laid (I:Inv X pins σ H s) (k:∀b u,s.heap.get? b=some u->h'.get? b=some u) (hp:s.heap.objs.size<=a) (new:ig X.prog X.w (upd H a o) h' a o) :
  Inv X pins σ (upd H a o) {s with heap:=h',toks:=t'}:=I.un (Un.laid k hp (I.gJ.fresh hp)) (I.gJ.laid k hp new)
theorem Inv.write (I:Inv X pins σ H s) (mu:VO (H x)) (he:e=x\/H e=some (.own x)) (k:∀b u,b≠e->s.heap.get? b=some u->h'.get? b=some u) (TR:∃u,h'.get? e=some u)
  (new:ig X.prog X.w (upd H x o) h' x o):Inv X pins σ (upd H x o) {s with heap:=h',toks:=t'}:=I.un (Un.write mu he k TR) (I.gJ.write mu he k TR new)
theorem Inv.weak (I:Inv X pins σ H s) (hl:fT.length=σ.length) (w:∀(i:Nat) v,fT[i]? = some (some v)->σ[i]? = some (some v)):Inv X pins fT H s:=
 ⟨I.ok,I.os,I.bare,I.base,let ⟨m,hn,hl'⟩:=I.loc;⟨m,hn,λ i x v e1 e2 e3=>hl' i x v e1 (w i v e2) e3⟩,I.cell,I.free,I.mC,I.pin,I.gJ,hl.trans I.len⟩
theorem Inv.Hv (I:Inv X pins σ H s) (h:∀p∈Ur,s.heap.get? p.1=some p.2/\H p.1=none/\p.1≠X.env.locals/\p.1∉X.fs/\∀v,p.2.data≠.cell v):Inv X Ur σ H s:=
 ⟨I.ok,I.os,I.bare,I.base,I.loc,I.cell,I.free,I.mC,λ p hp=>(ax.mp hp).elim (λ z=>I.pin p (aN _ z)) (h p),I.gJ,I.len⟩
theorem DV {N:List Str} (hN:N.Nodup) {i j:Nat} {x:Str} (a:N[i]? = some x) (b:N[j]? = some x):i=j:=by
 obtain⟨h1,e1⟩:=ag.mp a;obtain⟨h2,e2⟩:=ag.mp b;exact(List.getElem_inj hN).mp (e1.trans e2.symm)
theorem uT {M:Model} {A:Around} {E:Value->Shared->Prop} {i:Nat} {x:Str} {v:V} {u:Value} {Q:Unit->Shared->Prop} (I:Inv X pins σ H s) (hN:X.N.Nodup) (hi:X.N[i]? = some x) (hx:Loc X.env.scope x) (r:RelV v u)
  (h:∀s',Inv X pins (σ.set i (some v)) H s'->(∃a,Heap.SameBut a s.heap s'.heap/\(a=X.env.locals\/X.env.cells.lookup x=some a))->Q () s') (hf:X.fn x=true\/X.env.scope.names.lookup x=some .local:=by first|exact .inl rfl|exact .inr rfl|assumption):wpAny M A (storeName X.env x u) Q E s:=by
 obtain⟨m,hn,hl⟩:=id I.loc;have Y0:(X.env.scope.kind == .class||(X.env.scope.kind == .module&&X.env.locals != X.env.globals))=false:=by rw [I.ok.kind];rfl
 have hiσ:i<σ.length:=by rw [I.len];exact(ag.mp hi).1
 have SW:=I.SW
 have tracked:∀{a:Addr} {h':Heap},(∃o,s.heap.get? a=some o/\H a=none)->Heap.SameBut a s.heap h'->rA X.prog X.w H h':=λ {a h'} ha hs b ob e=>by
  obtain⟨_,_,vX⟩:=ha;refine(I.gJ b ob e).tM (λ c w' hc q=>(hs.2 c ?_).trans q) (λ _ q=>q) λ _ _ q=>q;rintro rfl;rcases hc with rfl|hc
  .rw [vX] at e;cases e
  .rw [vX] at hc;cases hc
 rcases hx with hk|hk
 .refine wpAny_storeName_local hk hn (λ h' Sd hs=> ?_) Y0;obtain⟨oL,_,_,R',_⟩:=id hn;refine h _ ⟨I.ok,I.os,I.bare,⟨λ b o e n hb hx=> ?_,λ b o e n hb hx=> ?_,I.base.free,λ b o e hx=> ?_,I.base.i5,I.base.pJ,I.base.q_⟩,⟨_,Sd,λ j y v' e1 e2 e3=> ?_⟩,λ y c e=> ?_,I.free,I.mC,λ p hp=> ?_,tracked ⟨oL,R',I.free⟩ hs,by simpa using I.len⟩ ⟨_,hs,.inl rfl⟩
  .exact(hs.2 b (aO (aC (aG e) I.ok.above))).trans (I.base.keep b o e n hb hx)
  .obtain⟨sl,e1⟩:=I.base.slot b o e n hb hx;exact⟨sl,(hs.2 b (aO (aC (aG e) I.ok.above))).trans e1⟩
  .obtain⟨o',e1⟩:=I.base.there b o e hx;exact⟨o',(hs.2 b (aO (aC (aG e) I.ok.above))).trans e1⟩
  .by_cases hj:j=i
   .subst hj;rw [hi] at e1;cases e1;rw [bQ hiσ] at e2
    cases e2;exact⟨u,r,.inl ⟨hk,by simp⟩⟩
   .rw [cg (Ne.symm hj)] at e2;obtain⟨u',r',q⟩:=hl j y v' e1 e2 e3;refine⟨u',r',?_⟩;rcases q with ⟨k,e⟩ | ⟨k,c,e,z⟩
    .refine .inl ⟨k,?_⟩;have:y≠x:=λ e=>hj (DV hN e1 (e▸hi));simp [this,e]
    .exact .inr ⟨k,c,e,z.sameBut hs (SW y c e)⟩
  .obtain⟨w',z⟩:=I.cell y c e;exact⟨w',z.sameBut hs (SW y c e)⟩
  .obtain⟨e,n,ne,nf,d⟩:=I.pin p hp;exact⟨(hs.2 p.1 ne).trans e,n,ne,nf,d⟩
 .have YW:X.fn x=true:=by
   rcases hf with z|z
   .exact z
   .rw [z] at hk;cases hk
  obtain⟨c,hc⟩:=I.ok.has x (.inl hk);obtain⟨w',z⟩:=I.cell x c hc;refine wpAny_storeName_cell I.ok.kind hk hc z (λ h' Ė hs=> ?_);obtain⟨oc,Wl,aad⟩:=id z;refine h {s with heap:=h'} ⟨I.ok,I.os,I.bare,⟨λ b o e n hb hx=> ?_,λ b o e n hb hx=> ?_,I.base.free,λ b o e hx=> ?_,I.base.i5,I.base.pJ,I.base.q_⟩,⟨m,hn.sameBut hs (Ne.symm (SW x c hc)),λ j y v' e1 e2 e3=> ?_⟩,λ y c' e=> ?_,I.free,I.mC,λ p hp=> ?_,tracked ⟨oc,Wl,I.mC x c hc⟩ hs,by simpa using I.len⟩ ⟨c,hs,.inr hc⟩
  .exact(hs.2 b (aO (aC (aG e) (I.ok.VD x c YW hc)))).trans (I.base.keep b o e n hb hx)
  .obtain⟨sl,e1⟩:=I.base.slot b o e n hb hx;exact⟨sl,(hs.2 b (aO (aC (aG e) (I.ok.VD x c YW hc)))).trans e1⟩
  .obtain⟨o',e1⟩:=I.base.there b o e hx;exact⟨o',(hs.2 b (aO (aC (aG e) (I.ok.VD x c YW hc)))).trans e1⟩
  .by_cases hj:j=i
   .subst hj;rw [hi] at e1;cases e1;rw [bQ hiσ] at e2
    cases e2;exact⟨u,r,.inr ⟨.inl hk,c,hc,Ė⟩⟩
   .rw [cg (Ne.symm hj)] at e2;obtain⟨u',r',q⟩:=hl j y v' e1 e2 e3;refine⟨u',r',?_⟩;rcases q with q | ⟨k,c',e,z'⟩
    .exact .inl q
    .refine .inr ⟨k,c',e,z'.sameBut hs ?_⟩;rintro rfl;exact hj (DV hN e1 (I.ok.inj _ _ _ e hc▸hi))
  .by_cases TV:c'=c
   .subst TV;exact⟨_,Ė⟩
   .obtain⟨w2,z2⟩:=I.cell y c' e;exact⟨w2,z2.sameBut hs TV⟩
  .obtain⟨e,n,ne,nf,d⟩:=I.pin p hp;refine⟨(hs.2 p.1 ?_).trans e,n,ne,nf,d⟩;intro q;rw [q,Wl] at e;have q':oc=p.2:=Option.some.inj e;exact d w' (by rwa [<-q'])
theorem tL (I:Inv X pins σ H s) (hN:X.N.Nodup) (hi:X.N[i]? = some x) (hx:Loc X.env.scope x) (r:RelV v u)
  (h:∀s',Inv X pins (σ.set i (some v)) H s'->Q () s') (hf:X.fn x=true\/X.env.scope.names.lookup x=some .local:=by first|exact .inl rfl|exact .inr rfl|assumption):wpAny M A (storeName X.env x u) Q E s:=
 uT I hN hi hx r (λ s' I' _=>h s' I') hf
theorem Inv.Ql (I:Inv X pins σ H s) (ho:s'.os=s.os) (u:Un (uP X.stack) ch H H' s.heap s'.heap) (gJ:rA X.prog X.w H' s'.heap) (hg:AllBare s'.gens)
  (Nv:∀b∈ch,(b∈X.ex\/X.jj.heap.objs.size<=b)/\b≠X.env.locals/\(∀x c,X.env.cells.lookup x=some c->c≠b)/\∀p∈X.pn++pins,p.1≠b):Inv X pins σ H' s':=by
 obtain⟨h',g',d',t',o'⟩:=s';have e:o'=s.os:=ho;subst e;exact I.call (g':=g') (t':=t') (d':=d') u gJ hg Nv
end
abbrev XK:=Value->Option Addr->Hp->Prop
abbrev St:=List (Option V)
abbrev VK:=V->Hp->Prop
abbrev TE:=St->Hp->VK->Prop
abbrev TT:=St->Hp->(Bool->Hp->Prop)->Prop
abbrev TA:=St->Hp->(List V->Hp->Prop)->Prop
structure Ends where
 nx:St->Hp->Prop
 rt:VK
 bk:St->Hp->Prop:=λ _ _=>False
 ct:St->Hp->Prop:=λ _ _=>False
abbrev TS:=Ends->St->Hp->Prop
def EP (X:Cx) (pins:List (Addr×Obj)) (σ:St) (Q:VK) (u:Value) (s':Shared):Prop:=∃v H',Inv X pins σ H' s'/\RelV v u/\Q v H'
def TP (X:Cx) (pins:List (Addr×Obj)) (σ:St) (Q:Bool->Hp->Prop) (b:Bool) (s':Shared):Prop:=∃H',Inv X pins σ H' s'/\Q b H'
def AP (X:Cx) (pins:List (Addr×Obj)) (σ:St) (Q:List V->Hp->Prop) (us:List Value) (s':Shared):Prop:=∃vs H',Inv X pins σ H' s'/\Vals vs us/\Q vs H'
def SP (X:Cx) (pins:List (Addr×Obj)) (D:Ends) (f:Flow) (s':Shared):Prop:=
 match f with
 | .next=>∃fT H',Inv X pins fT H' s'/\D.nx fT H'
 | .brk=>∃fT H',Inv X pins fT H' s'/\D.bk fT H'
 | .cont=>∃fT H',Inv X pins fT H' s'/\D.ct fT H'
 | .ret u=>∃v fT H',Inv X pins fT H' s'/\RelV v u/\D.rt v H'
def PE (X:Cx) (e:Expr) (t:TE):Prop:=
 ∀(pins:List (Addr×Obj)) (s:Shared) (σ:St) (H:Hp) (Q:VK),Inv X pins σ H s->t σ H Q->wpAny (model X.prog X.w) X.A (eval e X.env) (EP X pins σ Q) X.xe s
def PT (X:Cx) (e:Expr) (t:TT):Prop:=
 ∀(pins:List (Addr×Obj)) (s:Shared) (σ:St) (H:Hp) (Q:Bool->Hp->Prop),Inv X pins σ H s->t σ H Q->wpAny (model X.prog X.w) X.A (isTrue e X.env (eval e X.env)) (TP X pins σ Q) X.xe s
def PW (X:Cx) (e:Expr) (t:TT):Prop:=
 ∀(whole:Sem Value) (pins:List (Addr×Obj)) (s:Shared) (σ:St) (H:Hp) (Q:Bool->Hp->Prop),Inv X pins σ H s->t σ H Q->wpAny (model X.prog X.w) X.A (isTrue e X.env whole) (TP X pins σ Q) X.xe s
theorem PW.pt (h:PW X e t):PT X e t:=h _
def PA (X:Cx) (es:List Expr) (t:TA):Prop:=
 ∀(pos:Pos) (pins:List (Addr×Obj)) (s:Shared) (σ:St) (H:Hp) (Q:List V->Hp->Prop),Inv X pins σ H s->t σ H Q->wpAny (model X.prog X.w) X.A (spliced (backTo pos (starEach es X.env))) (AP X pins σ Q) X.xe s
def PS (X:Cx) (st:Stmt) (t:TS):Prop:=
 ∀(pins:List (Addr×Obj)) (s:Shared) (σ:St) (H:Hp) (D:Ends),Inv X pins σ H s->t D σ H->wpAny (model X.prog X.w) X.A (exec st X.env) (SP X pins D) X.xe s
def xl (X:Cx) (st:List Stmt) (t:TS):Prop:=
 ∀(pins:List (Addr×Obj)) (s:Shared) (σ:St) (H:Hp) (D:Ends),Inv X pins σ H s->t D σ H->wpAny (model X.prog X.w) X.A (execs st X.env) (SP X pins D) X.xe s
theorem gU {α:Type} {t:Sem α} {Q Q':α->Shared->Prop} (h:wpAny M A t Q E s) (hQ:∀a s,Q a s->Q' a s):wpAny M A t Q' E s:=wpAny_mono h hQ λ _ _ x=>x
section
variable {X:Cx}
def IU (i:Nat):TE:=λ σ H Q=>∃v,σ[i]? = some (some v)/\Q v H
def tC (v:V):TE:=λ _ H Q=>Q v H
theorem Q5 (hN:X.N[i]? = some x) (hv:WQ X.env.scope x) (hd:(x==("__debug__" : Str))=false:=by decide) (Gx:(x==("__classdict__" : Str))=false:=by decide):PE X (.Name x pos) (IU i):=by
 intro pins s σ H Q I h;obtain⟨v,e,h⟩:=h;obtain⟨m,hn,hl⟩:=I.loc;obtain⟨u,r,l⟩:=hl i x v hN e hv;have fin:EP X pins σ Q u s:=⟨v,H,I,r,h⟩
 rcases l with ⟨hk,hm⟩ | ⟨hk,c,hc,Qb⟩
 .exact wpAny_Name (wpAny_loadName_local I.ok.kind hk hn hm fin) hd
 .rcases hk with hk|hk
  .exact wpAny_Name (wpAny_loadName_cell I.ok.kind hk hc Qb fin) hd
  .exact wpAny_Name (wpAny_loadName_free I.ok.kind hk hc Qb fin Gx) hd
theorem Rh {i j pos}:PE X (.Constant (.int i) j pos) (tC (.int i)):=λ _ _ _ H _ I h=>wpAny_Constant_int ⟨.int i,H,I.tok _,⟨_,rfl⟩,h⟩
theorem Uy {b j pos}:PE X (.Constant (.bool b) j pos) (tC (.bl b)):=λ _ _ _ H _ I h=>Constant_bool ⟨.bl b,H,I,rfl,h⟩
theorem Ra {j pos}:PE X (.Constant .none j pos) (tC .jv):=λ _ _ _ H _ I h=>Constant_none ⟨.jv,H,I,rfl,h⟩
theorem Lw {x j pos}:PE X (.Constant (.str x) j pos) (tC (.str x)):=λ _ _ _ H _ I h=>Calls.Constant_str ⟨.str x,H,I.tok _,⟨_,rfl⟩,h⟩
def Gl (X:Cx) (x:Str):Prop:=X.env.kindOf x=some .globalImplicit
theorem xC (I:Inv X pins σ H s) (hg:Gl X x) (hm:X.mg x=some u) (h:Q u s)
  (hd:(x==("__debug__" : Str))=false:=by decide):wpAny (model X.prog X.w) X.A (eval (.Name x pos) X.env) Q E s:=
 Calls.Name_function_global I.ok.kind hg (Calls.loadGlobal_global (by rw [I.ok.glob];exact I.mod.glob.keeps I.bk) hm h) hd
theorem kT (I:Inv X pins σ H s) (hg:Gl X x) (hm:X.mg x=none) (hv:bootBuiltins x=some u) (h:Q u s)
  (hn:x≠"__name__" := by decide) (hd:(x==("__debug__" : Str))=false:=by decide):wpAny (model X.prog X.w) X.A (eval (.Name x pos) X.env) Q E s:=by
 obtain⟨mb,h1,h2⟩:=I.mod.blt;exact Calls.Name_function_global I.ok.kind hg (Calls.loadGlobal_builtin (by rw [I.ok.glob];exact I.mod.glob.keeps I.bk) hm (by rw [I.ok.blt];exact h1.keeps I.bk) ((h2 x hn).trans hv) h) hd
theorem Ol (hg:Gl X x) (hm:X.mg x=some u) (r:RelV v u) (hd:(x==("__debug__" : Str))=false:=by decide):PE X (.Name x pos) (tC v):=
 λ _ _ _ H _ I h=>xC I hg hm ⟨v,H,I,r,h⟩ hd
theorem Ov (hg:Gl X x) (hm:X.mg x=none) (hv:bootBuiltins x=some u) (r:RelV v u) (hn:x≠"__name__" := by decide) (hd:(x==("__debug__" : Str))=false:=by decide):PE X (.Name x pos) (tC v):=
 λ _ _ _ H _ I h=>kT I hg hm hv ⟨v,H,I,r,h⟩ hn hd
variable {a b:Expr} {ta tb:TE} {pos:Pos}
def PC (X:Cx) (op:CmpOp) (a b:Expr) (t:TE):Prop:=
 ∀(pins:List (Addr×Obj)) (s:Shared) (σ:St) (H:Hp) (Q:VK),Inv X pins σ H s->t σ H Q->
  wpAny (model X.prog X.w) X.A (eval a X.env) (λ v jL=>wpAny (model X.prog X.w) X.A (eval b X.env) (λ u ji=>wpAny (model X.prog X.w) X.A (compareOp op v u) (EP X pins σ Q) X.xe ji) X.xe jL) X.xe s
def tB (t:TE):TT:=λ σ H Q=>t σ H λ x H1=>∃c,x = .bl c/\Q c H1
theorem Rk (h:PC X op a b t) (h1:behindInMarks op b=false:=by first|exact yy _ (by decide) (by decide)|rfl):PE X (.Compare a [op] [b] pos) t:=λ pins s σ H Q I hw=>wpAny_Compare1 (h pins s σ H Q I hw) h1
theorem QS (h:PC X op a b t) (h1:behindInMarks op b=false:=by first|exact yy _ (by decide) (by decide)|rfl):PT X (.Compare a [op] [b] pos) (tB t):=by
 intro pins s σ H Q I hw;refine wpAny_isTrue_Compare1 (gU (h pins s σ H _ I hw) λ v s1 h1=>gU h1 λ u s2 h2=>gU h2 λ c s3 zq=> ?_) h1;obtain⟨x,H1,I1,r1,q1⟩:=zq;obtain⟨d,rfl,q⟩:=q1
 cases r1;exact wpAny_truthy_bool ⟨H1,I1,q⟩
theorem QQ (h:PE X e t) (he:∀whole,isTrue e X.env whole=(do let v <-whole;standAt e.pos;holding [v] (truthy v)):=by intro _;rfl):PT X e (tB t):=by
 intro pins s σ H Q I hw;refine isTrue_plain (gU (h pins s σ H _ I hw) λ v s1 zq=> ?_) (he _);obtain⟨x,H1,I1,r1,q1⟩:=zq;obtain⟨d,rfl,q⟩:=q1
 cases r1;exact wpAny_truthy_bool ⟨H1,I1,q⟩
variable {tA Nb:TT} {rest:List Expr}
def NQ (t u:TT):TT:=λ σ H Q=>t σ H λ c H1=>if c=true then u σ H1 Q else Q false H1
def VZ (t u:TT):TT:=λ σ H Q=>t σ H λ c H1=>if c=true then Q true H1 else u σ H1 Q
def NM (t:TT):TT:=λ σ H Q=>t σ H λ c H1=>Q (!c) H1
theorem pw_and1 (ha:PT X a tA):PW X (.BoolOp .And [a] pos) tA:=by
 intro wh pins s σ H Q I h;refine isTrue_and (gU (ha pins s σ H Q I h) λ c s1 e=> ?_)
 cases c with
 | true=>exact isTrue_and_nil e
 | false=>exact e
theorem pw_or1 (ha:PT X a tA):PW X (.BoolOp .Or [a] pos) tA:=by
 intro wh pins s σ H Q I h;refine isTrue_or (gU (ha pins s σ H Q I h) λ c s1 e=> ?_)
 cases c with
 | false=>exact isTrue_or_nil e
 | true=>exact e
theorem pw_and (ha:PT X a tA) (hb:PW X (.BoolOp .And (b::rest) pos) Nb):PW X (.BoolOp .And (a::b::rest) pos) (NQ tA Nb):=by
 intro wh pins s σ H Q I h;refine isTrue_and (gU (ha pins s σ H _ I h) λ c s1 zq=> ?_);obtain⟨H1,I1,q1⟩:=zq
 cases c with
 | true=>exact hb wh pins s1 σ H1 Q I1 q1
 | false=>exact⟨H1,I1,q1⟩
theorem pw_or (ha:PT X a tA) (hb:PW X (.BoolOp .Or (b::rest) pos) Nb):PW X (.BoolOp .Or (a::b::rest) pos) (VZ tA Nb):=by
 intro wh pins s σ H Q I h;refine isTrue_or (gU (ha pins s σ H _ I h) λ c s1 zq=> ?_);obtain⟨H1,I1,q1⟩:=zq
 cases c with
 | true=>exact⟨H1,I1,q1⟩
 | false=>exact hb wh pins s1 σ H1 Q I1 q1
theorem QR (ha:PT X a tA):PT X (.UnaryOp .Not a pos) (NM tA):=by
 intro pins s σ H Q I h;exact isTrue_not (ha pins s σ H (λ c H1=>Q (!c) H1) I h)
def Hi (ta tb:TE):TE:=λ σ H Q=>ta σ H λ x H1=>∃c,x = .bl c/\if c=true then tb σ H1 Q else Q (.bl false) H1
def NL (ta tb:TE):TE:=λ σ H Q=>ta σ H λ x H1=>∃c,x = .bl c/\if c=true then Q (.bl true) H1 else tb σ H1 Q
def Hc (ta:TE):TE:=λ σ H Q=>ta σ H λ x H1=>∃c,x = .bl c/\Q (.bl (!c)) H1
theorem Q9 {op} (h:PE X a t):PE X (.BoolOp op [a] pos) t:=λ pins s σ H Q I hw=>BoolOp_one (h pins s σ H Q I hw)
theorem Rm (ha:PE X a ta) (hb:PE X (.BoolOp .And (b::rest) pos) tb):PE X (.BoolOp .And (a::b::rest) pos) (Hi ta tb):=by
 intro pins s σ H Q I h;refine BoolOp_and (gU (ha pins s σ H _ I h) λ v s1 zq=> ?_);obtain⟨x,H1,I1,r1,q1⟩:=zq;obtain⟨c,rfl,q1⟩:=q1
 cases r1;refine wpAny_truthy_bool ?_
 cases c with
 | true=>exact hb pins s1 σ H1 Q I1 q1
 | false=>exact⟨.bl false,H1,I1,rfl,q1⟩
theorem Uu (ha:PE X a ta) (hb:PE X (.BoolOp .Or (b::rest) pos) tb):PE X (.BoolOp .Or (a::b::rest) pos) (NL ta tb):=by
 intro pins s σ H Q I h;refine BoolOp_or (gU (ha pins s σ H _ I h) λ v s1 zq=> ?_);obtain⟨x,H1,I1,r1,q1⟩:=zq;obtain⟨c,rfl,q1⟩:=q1
 cases r1;refine wpAny_truthy_bool ?_
 cases c with
 | false=>exact hb pins s1 σ H1 Q I1 q1
 | true=>exact⟨.bl true,H1,I1,rfl,q1⟩
theorem Q_ (ha:PE X a ta):PE X (.UnaryOp .Not a pos) (Hc ta):=by
 intro pins s σ H Q I h;refine UnaryOp_ (gU (ha pins s σ H _ I h) λ v s1 zq=> ?_);obtain⟨x,H1,I1,r1,q1⟩:=zq;obtain⟨c,rfl,q1⟩:=q1
 cases r1;exact not_of (wpAny_truthy_bool ⟨.bl (!c),H1,I1,rfl,q1⟩)
def V0 (t:TT) (ta tb:TE):TE:=λ σ H Q=>t σ H λ c H1=>if c=true then ta σ H1 Q else tb σ H1 Q
theorem LD (hc:PT X c tA) (ha:PE X a ta) (hb:PE X b tb):PE X (.IfExp c a b pos) (V0 tA ta tb):=by
 intro pins s σ H Q I h;refine wpAny_IfExp (gU (hc pins s σ H _ I h) λ d s1 zq=> ?_);obtain⟨H1,I1,q1⟩:=zq
 cases d with
 | true=>exact ha pins s1 σ H1 Q I1 q1
 | false=>exact hb pins s1 σ H1 Q I1 q1
end
def fZ (K:aj) (H:Hp) (a:Addr) (xs:List V):Prop:=
 Rd H a (.lst xs)\/
  ∃(o:Obj) (its:Array Value) (n:Nat),K.lookup a=some o/\o.cls = .type "list"/\o.dict=none/\o.data = .seq its n/\its.size<=sizeLine/\Vals xs its.toList
def oh (K:aj) (H:Hp) (a:Addr) (xs:List V):Prop:=
 Rd H a (.tup xs)\/
  ∃(o:Obj) (its:Array Value) (n:Nat),K.lookup a=some o/\o.cls = .type "tuple"/\o.data = .seq its n/\its.size<=sizeLine/\Vals xs its.toList
def Z_:Value->Option V
 | .none=>some .jv
 | .bool b=>some (.bl b)
 | .int i _=>some (.int i)
 | .str x _=>some (.str x)
 | .bytes b _=>some (.Il b)
 | .float b _=>some (.Sy b)
 | .ref a=>some (.ref a)
 | .type n=>some (.ty n)
 | _=>none
theorem RelV.abs (r:RelV x u):Z_ u=some x:=by
 cases x with
 | jv=>cases r;rfl
 | bl _=>cases r;rfl
 | int _=>obtain⟨t,rfl⟩:=r;rfl
 | str _=>obtain⟨t,rfl⟩:=r;rfl
 | Il _=>obtain⟨t,rfl⟩:=r;rfl
 | Sy _=>obtain⟨t,rfl⟩:=r;rfl
 | ref _=>cases r;rfl
 | ty _=>cases r;rfl
theorem RelV.inj (r:RelV x u) (q:RelV y u):x=y:=Option.some.inj (r.abs.symm.trans q.abs)
theorem Vals.inj:∀{xs ys:List V} {us:List Value},Vals xs us->Vals ys us->xs=ys
 | _,_,_,.nil,.nil=>rfl
 | _,_,_,.cons r t,.cons r' t'=>by rw [r.inj r',Vals.inj t t']
section
variable {X:Cx} {pins:List (Addr×Obj)} {σ:St} {H:Hp} {s:Shared} {a:Addr} {xs ys:List V}
theorem fZ.of {K:aj} (h:H a=some (.lst xs)):fZ K H a xs:=.inl (.inl h)
theorem oh.of {K:aj} (h:H a=some (.tup xs)):oh K H a xs:=.inl (.inl h)
theorem Inv.list (I:Inv X pins σ H s) (h:fZ X.K H a xs):∃its:List Value,Vals xs its/\PlainL s.heap a its.toArray/\xs.length<=sizeLine:=by
 rcases h with h | ⟨o,its,n,hk,hc,hd,hs,hz,r⟩
 .obtain⟨z,its,n,r,e⟩:=h.ok I.gJ;exact⟨its,r,⟨_,n,e,rfl,rfl,rfl⟩,z⟩
 .refine⟨its.toList,r,⟨o,n,I.wZ a o hk,hc,hd,by simpa using hs⟩,?_⟩;have e:=r.length;simp only [bD] at e;exact Zc (Ze e) hz
theorem Inv.tuple (I:Inv X pins σ H s) (h:oh X.K H a xs):∃its:List Value,Vals xs its/\IsTup s.heap a its.toArray/\xs.length<=sizeLine:=by
 rcases h with h | ⟨o,its,n,hk,hc,hs,hz,r⟩
 .obtain⟨z,its,r,p⟩:=h.ok I.gJ;exact⟨its,r,p,z⟩
 .refine⟨its.toList,r,⟨o,I.wZ a o hk,hc,n,by simpa using hs⟩,?_⟩;have e:=r.length;simp only [bD] at e;exact Zc (Ze e) hz
theorem Inv.L_ (I:Inv X pins σ H s) (h:fZ X.K H a xs) (h':fZ X.K H a ys):xs=ys:=by
 obtain⟨its,r,⟨o,n,e,_,_,d⟩,_⟩:=I.list h;obtain⟨its',r',⟨o',n',e',_,_,d'⟩,_⟩:=I.list h';rw [e] at e';cases e';rw [d] at d';injection d' with d1 _
 have:its=its':=by simpa using congrArg Array.toList d1
 subst this;exact r.inj r'
theorem Inv.IL (I:Inv X pins σ H s) (h:oh X.K H a xs) (h':oh X.K H a ys):xs=ys:=by
 obtain⟨its,r,⟨o,e,_,n,d⟩,_⟩:=I.tuple h;obtain⟨its',r',⟨o',e',_,n',d'⟩,_⟩:=I.tuple h';rw [e] at e';cases e';rw [d] at d';injection d' with d1 _
 have:its=its':=by simpa using congrArg Array.toList d1
 subst this;exact r.inj r'
end
abbrev Cx.zP (X:Cx) (E:Value->Shared->Prop):Cx:= {X with xe:=E}
abbrev Cx.Wa (X:Cx):Cx:=X.zP λ _ _=>False
theorem Cx.Ok.zP {X:Cx} (ok:X.Ok) (E:Value->Shared->Prop):(X.zP E).Ok:=
 ⟨ok.mod,ok.kind,ok.glob,ok.blt,ok.above,ok.inj,ok.has,ok.VD,ok.hd,ok.frames,ok.V2,ok.TZ,ok.bs,ok.MV,ok.t_,ok.J0,ok.w_,ok.Sx⟩
theorem Cx.Ok.pP {X:Cx} {E:Value->Shared->Prop} (ok:(X.zP E).Ok):X.Ok:=
 ⟨ok.mod,ok.kind,ok.glob,ok.blt,ok.above,ok.inj,ok.has,ok.VD,ok.hd,ok.frames,ok.V2,ok.TZ,ok.bs,ok.MV,ok.t_,ok.J0,ok.w_,ok.Sx⟩
section
variable {X:Cx} {pins:List (Addr×Obj)} {σ:St} {H:Hp} {s:Shared} {E:Value->Shared->Prop}
theorem Inv.zP (I:Inv X pins σ H s) (E:Value->Shared->Prop):Inv (X.zP E) pins σ H s:=⟨I.ok.zP E,I.os,I.bare,I.base,I.loc,I.cell,I.free,I.mC,I.pin,I.gJ,I.len⟩
theorem Inv.pP (I:Inv (X.zP E) pins σ H s):Inv X pins σ H s:=⟨I.ok.pP,I.os,I.bare,I.base,I.loc,I.cell,I.free,I.mC,I.pin,I.gJ,I.len⟩
theorem SP.pP (h:SP (X.zP E) pins D f s'):SP X pins D f s':=by
 cases f with
 | next=>obtain⟨fT,H',I,q⟩:=h;exact⟨fT,H',I.pP,q⟩
 | brk=>obtain⟨fT,H',I,q⟩:=h;exact⟨fT,H',I.pP,q⟩
 | cont=>obtain⟨fT,H',I,q⟩:=h;exact⟨fT,H',I.pP,q⟩
 | ret u=>obtain⟨v,fT,H',I,r,q⟩:=h;exact⟨v,fT,H',I.pP,r,q⟩
theorem xl.Wa {st:List Stmt} {t:TS} (h:xl X.Wa st t):xl X st t:=λ pins s σ H D I hw=>
 wpAny_mono (h pins s σ H D (I.zP _) hw) (λ _ _ q=>q.pP) λ _ _ z=>False.elim z
end
section
variable {X:Cx} {st:Stmt} {rest:List Stmt} {t u:TS} {e:Expr} {te:TE} {pos:Pos}
def Hd:TS:=λ D σ H=>D.nx σ H
def KR (t u:TS):TS:=λ D σ H=>t {D with nx:=u D} σ H
theorem N_:xl X [] Hd:=λ _ _ σ H _ I h=>wpAny_execs_nil ⟨σ,H,I,h⟩
theorem Ln (h1:PS X st t) (h2:xl X rest u):xl X (st::rest) (KR t u):=by
 intro pins s σ H D I h;refine wpAny_execs_cons (gU (h1 pins s σ H {D with nx:=u D} I h) λ f s1 q=> ?_)
 cases f with
 | next=>
  obtain⟨fT,H',I',q⟩:=q;exact h2 pins s1 fT H' D I' q
 | ret v=>exact q
 | brk=>exact q
 | cont=>exact q
theorem N8 (h1:PS X st t):xl X [st] t:=by
 intro pins s σ H D I h;refine wpAny_execs_cons (gU (h1 pins s σ H D I h) λ f s1 q=> ?_)
 cases f with
 | next=>exact wpAny_execs_nil q
 | ret v=>exact q
 | brk=>exact q
 | cont=>exact q
theorem Inv.quiet (I:Inv X pins σ H s):interactive X.env=false:=by simp [interactive,I.ok.kind]
def Hg (te:TE):TS:=λ D σ H=>te σ H λ _ H1=>D.nx σ H1
theorem Ob (he:PE X e te) (hs:swapsWith e none pos.line X.env=pure false:=by rfl):PS X (.Expr e pos) (Hg te):=by
 intro pins s σ H D I h;exact wpAny_Expr_any (gU (he pins s σ H _ I h) λ v s1 ⟨x,H1,I1,r1,q1⟩=>⟨σ,H1,I1,q1⟩) I.quiet hs
def NK (te:TE):TS:=λ D σ H=>te σ H D.rt
theorem QU (he:PE X e te):PS X (.Return (some e) pos) (NK te):=by
 intro pins s σ H D I h;exact wpAny_Return_some (gU (he pins s σ H _ I h) λ v s1 ⟨x,H1,I1,r1,q1⟩=>⟨x,σ,H1,I1,r1,q1⟩)
def IV (c:TT) (t u:TS):TS:=λ D σ H=>c σ H λ b H1=>if b=true then t D σ H1 else u D σ H1
theorem Uq (hc:PT X c tc) (ha:xl X a t) (hb:xl X b u):PS X (.If c a b pos) (IV tc t u):=by
 intro pins s σ H D I h;refine wpAny_If (gU (hc pins s σ H _ I h) λ d s1 zq=> ?_);obtain⟨H1,I1,q1⟩:=zq
 cases d with
 | true=>exact ha pins s1 σ H1 D I1 q1
 | false=>exact hb pins s1 σ H1 D I1 q1
def BK:TS:=λ _ _ _=>False
theorem Lr:PS X st BK:=λ _ _ _ _ _ _ h=>h.elim
end
abbrev TG:=V->St->Hp->(St->Hp->Prop)->Prop
abbrev VM:=List V->St->Hp->(St->Hp->Prop)->Prop
def PG (X:Cx) (target:Expr) (t:TG):Prop:=
 ∀(pins:List (Addr×Obj)) (s:Shared) (σ:St) (H:Hp) (v:V) (u:Value) (Q:St->Hp->Prop),Inv X pins σ H s->RelV v u->t v σ H Q->
  wpAny (model X.prog X.w) X.A (assign target X.env u) (λ _ s'=>∃fT H',Inv X pins fT H' s'/\Q fT H') X.xe s
def Qo (X:Cx) (ts:List Expr) (t:VM):Prop:=
 ∀(pins:List (Addr×Obj)) (s:Shared) (σ:St) (H:Hp) (vs:List V) (us:List Value) (Q:St->Hp->Prop),Inv X pins σ H s->Vals vs us->t vs σ H Q->
  wpAny (model X.prog X.w) X.A (assignInOrder ((assignEach ts X.env).map (·.2)) us) (λ _ s'=>∃fT H',Inv X pins fT H' s'/\Q fT H') X.xe s
abbrev VL:=V->V->V->Hp->(Hp->Prop)->Prop
def S9 (X:Cx) (t:VL):Prop:=
 ∀(pins:List (Addr×Obj)) (s:Shared) (σ:St) (H:Hp) (o i v:V) (ov iv u:Value) (Q:Hp->Prop),Inv X pins σ H s->RelV o ov->RelV i iv->RelV v u->t o i v H Q->
  wpAny (model X.prog X.w) X.A (setItem ov iv u) (λ _ s'=>∃H',Inv X pins σ H' s'/\Q H') X.xe s
section
variable {X:Cx} {pos:Pos}
def pj (i:Nat):TG:=λ v σ H Q=>Q (σ.set i (some v)) H
theorem Oi (hN:X.N.Nodup) (hi:X.N[i]? = some x) (hx:Loc X.env.scope x) (hf:X.fn x=true\/X.env.scope.names.lookup x=some .local:=by first|exact .inl rfl|exact .inr rfl|assumption):PG X (.Name x pos) (pj i):=by
 intro pins s σ H v u Q I r h;exact wpAny_assign_Name (tL I hN hi hx r (λ s' I'=>⟨_,H,I',h⟩) hf)
def O1:VM:=λ vs σ H Q=>vs = []/\Q σ H
def HW (t:TG) (u:VM):VM:=λ vs σ H Q=>∃v r,vs=v::r/\t v σ H λ fT H'=>u r fT H' Q
theorem Oh:Qo X [] O1:=by
 intro pins s σ H vs us Q I r h;obtain⟨e,h⟩:=h;subst e
 cases r;exact assignInOrder_nil ⟨σ,H,I,h⟩
theorem Lv (h1:PG X e t) (h2:Qo X es u)
  (hs:(assignEach (e::es) X.env).map (·.2)=assign e X.env::(assignEach es X.env).map (·.2):=by rfl):Qo X (e::es) (HW t u):=by
 intro pins s σ H vs us Q I r h;obtain⟨v,vr,e1,h⟩:=h;subst e1
 cases r with
 | cons r rr=>
  rw [hs];refine assignInOrder_cons (gU (h1 pins s σ H _ _ _ I r h) λ _ s1 zq=> ?_);obtain⟨Ja,H1,I1,q1⟩:=zq;exact h2 pins s1 Ja H1 _ _ Q I1 rr q1
def OZ (K:aj) (n:Nat) (t:VM):TG:=λ v σ H Q=>∃a xs,v = .ref a/\oh K H a xs/\xs.length=n/\t xs σ H Q
theorem Q0 (hc:X.calm=true) (h:Qo X es t)
  (hn:(assignEach es X.env).length=n:=by rfl) (pM:(assignEach es X.env).findIdx? (·.1)=none:=by rfl):PG X (.Tuple es k pos) (OZ X.K n t):=by
 intro pins s σ H v u Q I r hw;obtain⟨a,xs,e1,hq,hl,hw⟩:=hw;subst e1
 cases r;obtain⟨its,rv,ht,hz⟩:=I.tuple hq;refine assign_Tuple_tuple (I.ok.hd hc) ht (by simp [hn,<-hl,rv.length]) pM λ h' hx=> ?_;have I1:Inv X pins σ H {s with heap:=h'}:=I.kept (t':=s.toks) λ b o e=>hx b o (aO (aG e)) e;exact h pins _ σ H xs _ Q I1 (by simpa using rv) hw
def O0 (to ti:TE) (t:VL):TG:=λ v σ H Q=>to σ H λ o H1=>ti σ H1 λ i H2=>t o i v H2 λ H3=>Q σ H3
theorem Q4 (ho:PE X o to) (hi:PE X i ti) (hs:S9 X t)
  (ha:∀v,assign (.Subscript o i pos) X.env v=(do
   let ov <-holding [v] (eval o X.env)
   let iv <-holding [v,ov] (eval i X.env)
   standAt pos
   holding [v,ov,iv] (setItem ov iv v)
   release [v,ov,iv] []):=by intro _;rfl):PG X (.Subscript o i pos) (O0 to ti t):=by
 intro pins s σ H v u Q I r h;rw [ha];refine wpAny_bind (wpAny_holding (gU (ho pins s σ H _ I h) λ ov s1 zq=> ?_));obtain⟨x,H1,I1,r1,q1⟩:=zq;refine wpAny_bind (wpAny_holding (gU (hi pins s1 σ H1 _ I1 q1) λ iv s2 zq=> ?_));obtain⟨y,H2,I2,r2,q2⟩:=zq;refine wpAny_bind (wpAny_standAt (wpAny_bind (wpAny_holding (gU (hs pins s2 σ H2 x y v ov iv u _ I2 r1 r2 r q2) λ _ s3 zq=> ?_))));obtain⟨H3,I3,q3⟩:=zq;exact wpAny_release ⟨σ,H3,I3,q3⟩
def zS (te:TE) (g:TG):TS:=λ D σ H=>te σ H λ x H1=>g x σ H1 D.nx
theorem QW (he:PE X e te) (hg:PG X tg g) (hs:swapsWithSole [tg] e pos.line X.env=pure false:=by rfl) (hw:swappedStores [tg] e X.env=pure none:=by rfl)
  (h1:(assignEach [tg] X.env).map (·.2) = [assign tg X.env]:=by rfl):PS X (.Assign [tg] e pos) (zS te g):=by
 intro pins s σ H D I h;refine wpAny_Assign_stores (gU (he pins s σ H _ I h) λ v s1 zq=> ?_) hs hw;obtain⟨x,H1,I1,r1,q1⟩:=zq;rw [h1];exact gU (hg pins s1 σ H1 x v _ I1 r1 q1) λ _ s2 q=>q
theorem QT (hN:X.N.Nodup) (hi:X.N[i]? = some x) (hx:Loc X.env.scope x) (he:PE X e te) (hs:swapsWith e (some (.Name x pos')) pos.line X.env=pure false:=by rfl) (hf:X.fn x=true\/X.env.scope.names.lookup x=some .local:=by first|exact .inl rfl|exact .inr rfl|assumption) :
  PS X (.Assign [.Name x pos'] e pos) (zS te (pj i)):=by
 intro pins s σ H D I h;refine wpAny_Assign_Name (gU (he pins s σ H _ I h) λ v s1 zq=> ?_) hs;obtain⟨y,H1,I1,r1,q1⟩:=zq;exact tL I1 hN hi hx r1 (λ s2 I2=>⟨_,H1,I2,q1⟩) hf
end
section
variable {X:Cx} {pos:Pos}
def BI (c:TT) (tb:TS):TS:=λ D σ H=>∃W:Nat->St->Hp->Prop,(∃m,W m σ H)/\∀m σ H,W m σ H->
 c σ H λ b H1=>if b=true then ∃N:St->Hp->Prop,(∀fT H',N fT H'->∃m',m'<m/\W m' fT H')/\tb {D with nx:=N,ct:=N,bk:=D.nx} σ H1 else D.nx σ H1
theorem Lo (hp:PassesOwn (model X.prog X.w) X.A X.env X.xe) (hc:PT X c tc) (hb:xl X body tb):PS X (.While c body [] pos) (BI tc tb):=by
 intro pins s σ H D I h;obtain⟨W,⟨m0,w0⟩,turn⟩:=h;refine wpAny_While (codeAny_whileLoop (λ n s'=>∃fT H',Inv X pins fT H' s'/\W n fT H') ?_ m0 ⟨σ,H,I,w0⟩);rintro n s1 ⟨Ja,H1,I1,w1⟩;refine wpAny_passesOwn hp (gU (hc pins s1 Ja H1 _ I1 (turn n Ja H1 w1)) λ b s2 zq=> ?_);obtain⟨H2,I2,q2⟩:=zq
 cases b with
 | true=>
  obtain⟨N,hN,q2⟩:=q2;rw [if_pos rfl];refine wpAny_passesOwn hp (gU (hb pins s2 Ja H2 _ I2 q2) λ f s3 q3=> ?_)
  cases f with
  | next=>
   obtain⟨yg,H3,I3,n3⟩:=q3;obtain⟨m',hm,w3⟩:=hN yg H3 n3;exact⟨m',hm,yg,H3,I3,w3⟩
  | cont=>
   obtain⟨yg,H3,I3,n3⟩:=q3;obtain⟨m',hm,w3⟩:=hN yg H3 n3;exact⟨m',hm,yg,H3,I3,w3⟩
  | brk=>exact q3
  | ret v=>exact q3
 | false=>
  rw [if_neg aJ];exact wpAny_execs_nil ⟨Ja,H2,I2,q2⟩
end
structure It where
 go:Nat->Hp->Prop
 BE:Nat->Hp->V->Hp->Prop
 stop:Nat->Hp->Prop
def rC (X:Cx) (pins:List (Addr×Obj)) (H:Hp) (b:Addr):Prop:=
 H b=none/\b≠X.env.locals/\b∉X.fs/\(b∈X.ex\/X.jj.heap.objs.size<=b)/\(∀x c,X.env.cells.lookup x=some c->c≠b)/\∀p∈X.pn++pins,p.1≠b
theorem Inv.Ae (I:Inv X pins σ H s) (hb:s.heap.objs.size<=b) (hn:H' b=none):rC X pins H' b:=by
 refine⟨hn,dc (aC I.lt hb),I.Xy hb,.inr (bj I.sz hb),λ x c e z=> ?_,λ p hp z=> ?_⟩
 .obtain⟨v,q⟩:=I.cell x c e;exact absurd (aC q.lt (by rwa [z])) (bU _)
 .exact absurd (aC (aG (I.pin p hp).1) (by rwa [z])) (bU _)
structure Turn (P:Program) (w:World) (K:aj) (tg:Expr) (J:It) (fp:List Addr) (it:Addr) (tn:Nat->Heap->Prop):Prop where
 mem:it∈fp
 obj:∀i h,tn i h->∀b∈fp,∃o,h.get? b=some o/\∀v,o.data≠.cell v
 keep:∀i h h',tn i h->(∀b∈fp,∀o,h.get? b=some o->h'.get? b=some o)->tn i h'
 item:∀(X:Cx),X.prog=P->X.w=w->X.K=K->X.calm=true->∀(i:Nat) (pins:List (Addr×Obj)) (s:Shared) (σ:St) (H:Hp) (E:Value->Shared->Prop),Inv X pins σ H s->(∀b∈fp,rC X pins H b)->tn i s.heap->J.go i H->
  wpAny (model P w) X.A (pyNext (.ref it)) (λ r s1=>∃u,r=some u/\
   wpAny (model P w) X.A (letOwnedTupleGo tg (.ref it) u) (λ _ s2=>∃x H',Inv X pins σ H' s2/\RelV x u/\J.BE i H x H'/\tn (i+1) s2.heap/\∀b∈fp,H' b=none) E s1) E s
 done:∀(X:Cx),X.prog=P->X.w=w->X.K=K->X.calm=true->∀(i:Nat) (pins:List (Addr×Obj)) (s:Shared) (σ:St) (H:Hp) (E:Value->Shared->Prop),Inv X pins σ H s->(∀b∈fp,rC X pins H b)->tn i s.heap->J.stop i H->
  wpAny (model P w) X.A (pyNext (.ref it)) (λ r s1=>r=none/\Inv X pins σ H s1) E s
 self:∀(A:Around) (i:Nat) (s:Shared) (Q:Value->Shared->Prop) (E:Value->Shared->Prop),tn i s.heap->Q (.ref it) s->wpAny (model P w) A (pyIter (.ref it)) Q E s
abbrev TI:=St->Hp->(It->Hp->Prop)->Prop
def WT (X:Cx) (pins:List (Addr×Obj)) (σ:St) (tg:Expr) (R:It->Hp->Prop) (TK:Value) (s2:Shared):Prop:=
 ∃(it:Addr) (fp:List Addr) (tn:Nat->Heap->Prop) (J:It) (H':Hp),TK = .ref it/\Inv X pins σ H' s2/\Turn X.prog X.w X.K tg J fp it tn/\tn 0 s2.heap/\(∀b∈fp,rC X pins H' b)/\R J H'
def PI (X:Cx) (tg iter:Expr) (wi:TI):Prop:=
 ∀(pins:List (Addr×Obj)) (s:Shared) (σ:St) (H:Hp) (R:It->Hp->Prop),Inv X pins σ H s->wi σ H R->
  wpAny (model X.prog X.w) X.A (eval iter X.env) (λ v s1=>wpAny (model X.prog X.w) X.A (pyIter v) (WT X pins σ tg R) X.xe s1) X.xe s
theorem HV (ho:s.heap.get? it=some o) (hc:o.cls = .type n) (hd:o.data = .fields vs)
  (hn : ["enumerate","zip","dict_itemiterator","dict_reverseitemiterator","odict_iterator","itertools.zip_longest","itertools.pairwise"].contains n=false) (hQ:Q () s):wpAny M A (letOwnedTupleGo tg (.ref it) u) Q E s:=by
 unfold letOwnedTupleGo
 cases tg<;>first
  | exact wpAny_pure hQ
  | (cases u<;>first
    | exact wpAny_pure hQ
    | (refine wpAny_bind (wpAny_load ho ?_)
       rw [hc,hd];show wpAny M A (if (["enumerate","zip","dict_itemiterator","dict_reverseitemiterator","odict_iterator","itertools.zip_longest","itertools.pairwise"].contains n&&vs[0]? == some (rawInt _))=true then _ else _) Q E s;rw [if_neg (by intro h;rw [hn,Bool.false_and] at h;cases h)];exact wpAny_pure hQ))
def Qr (K:aj) (a:Addr):It:=
 ⟨λ i H=>∃xs x,fZ K H a xs/\xs[i]? = some x,λ i H x H'=>H'=H/\∀xs,fZ K H a xs->xs[i]? = some x,λ i H=>∃xs,fZ K H a xs/\xs.length<=i⟩
def VP (K:aj) (a:Addr):It:=
 ⟨λ i H=>∃xs x,oh K H a xs/\xs[i]? = some x,λ i H x H'=>H'=H/\∀xs,oh K H a xs->xs[i]? = some x,λ i H=>∃xs,oh K H a xs/\xs.length<=i⟩
def Qq (lo:Int) (n:Nat):It:=⟨λ i _=>i<n,λ i H x H'=>H'=H/\x = .int (lo+i),λ i _=>n<=i⟩
theorem IH {P:Program} {w:World} {K:aj} {tg:Expr} (a it:Addr):Turn P w K tg (Qr K a) [it] it (λ i h=>h.IsListIter it a i) where
 mem:=by simp
 obj:=λ i h st b hb=>by
  have e:b=it:=by simpa using hb
  subst e;obtain⟨o,e,c,d⟩:=st;exact⟨o,e,λ v z=>by rw [d] at z;cases z⟩
 keep:=λ i h h' st k=>st.at λ o e=>k it (by simp) o e
 item:=by
  intro X hP hw hK hc i pins s σ H E I hf st hg;subst hP hw hK;obtain⟨xs,x,hq,hx⟩:=hg;obtain⟨its,rv,p,hz⟩:=I.list hq;obtain⟨u,hu,ru⟩:=rv.get hx;obtain⟨f0,f1,f2,f3,f4,f5⟩:=hf it (by simp);refine wpAny_pyNext_list_item st p.isList (x:=u) (by simpa using hu) λ h' C9 sb=> ?_;have I1:Inv X pins σ H {s with heap:=h'}:=I.turned (t':=s.toks) (λ b o hb e=>(sb.2 b hb).trans e) f0 f1 f3 f4 f5;obtain⟨o,e,c,d⟩:=id C9;exact⟨u,rfl,HV (s:= {s with heap:=h'}) e c d (by decide) ⟨x,H,I1,ru,⟨rfl,λ ys hy=>by rwa [I.L_ hy hq]⟩,C9,λ b hb=>(hf b hb).1⟩⟩
 done:=by
  intro X hP hw hK hc i pins s σ H E I hf st hg;subst hP hw hK;obtain⟨xs,hq,hx⟩:=hg;obtain⟨its,rv,p,hz⟩:=I.list hq;obtain⟨f0,f1,f2,f3,f4,f5⟩:=hf it (by simp);have hl:=rv.length;exact wpAny_pyNext_list_end (I.ok.hd hc) st p.isList (by simp;exact Zc (Zg hl) hx) λ h' eb=>⟨rfl,I.turned (t':=s.toks) (λ b o hb e=>eb b o hb e) f0 f1 f3 f4 f5⟩
 self:=λ _ _ _ _ _ st h=>wpAny_pyIter_listiter st h
theorem Fb {P:Program} {w:World} {K:aj} {tg:Expr} (a it:Addr):Turn P w K tg (VP K a) [it] it (λ i h=>h.IsTupleIter it a i) where
 mem:=by simp
 obj:=λ i h st b hb=>by
  have e:b=it:=by simpa using hb
  subst e;obtain⟨o,e,c,d⟩:=st;exact⟨o,e,λ v z=>by rw [d] at z;cases z⟩
 keep:=λ i h h' st k=>st.at λ o e=>k it (by simp) o e
 item:=by
  intro X hP hw hK hc i pins s σ H E I hf st hg;subst hP hw hK;obtain⟨xs,x,hq,hx⟩:=hg;obtain⟨its,rv,p,hz⟩:=I.tuple hq;obtain⟨u,hu,ru⟩:=rv.get hx;obtain⟨f0,f1,f2,f3,f4,f5⟩:=hf it (by simp);refine wpAny_pyNext_tuple_item st (show s.heap.IsTuple a its.toArray from p) (x:=u) (by simpa using hu) λ h' C9 sb=> ?_;have I1:Inv X pins σ H {s with heap:=h'}:=I.turned (t':=s.toks) (λ b o hb e=>(sb.2 b hb).trans e) f0 f1 f3 f4 f5;obtain⟨o,e,c,d⟩:=id C9;exact⟨u,rfl,HV (s:= {s with heap:=h'}) e c d (by decide) ⟨x,H,I1,ru,⟨rfl,λ ys hy=>by rwa [I.IL hy hq]⟩,C9,λ b hb=>(hf b hb).1⟩⟩
 done:=by
  intro X hP hw hK hc i pins s σ H E I hf st hg;subst hP hw hK;obtain⟨xs,hq,hx⟩:=hg;obtain⟨its,rv,p,hz⟩:=I.tuple hq;obtain⟨f0,f1,f2,f3,f4,f5⟩:=hf it (by simp);have hl:=rv.length;exact wpAny_pyNext_tuple_end (I.ok.hd hc) st (show s.heap.IsTuple a its.toArray from p) (by simp;exact Zc (Zg hl) hx) λ h' eb=>⟨rfl,I.turned (t':=s.toks) (λ b o hb e=>eb b o hb e) f0 f1 f3 f4 f5⟩
 self:=λ _ _ _ _ _ st h=>wpAny_pyIter_tupleiter st h
theorem Fc {P:Program} {w:World} {K:aj} {tg:Expr} (it:Addr) (lo:Int) (n:Nat):Turn P w K tg (Qq lo n) [it] it (λ i h=>IsRangeIter h it (lo+(i:Nat)*1) ((n:Int)-(i:Nat)) 1) where
 mem:=by simp
 obj:=λ i h st b hb=>by
  have e:b=it:=by simpa using hb
  subst e
  exact⟨_,st,λ v z=>by
   have z':Data.fields _=Data.cell v:=z
   cases z'⟩
 keep:=λ i h h' st k=>k it (by simp) _ st
 item:=by
  intro X hP hw hK hc i pins s σ H E I hf st hg;subst hP hw hK;obtain⟨f0,f1,f2,f3,f4,f5⟩:=hf it (by simp);have W:=Walks.range (prog:=X.prog) (w:=X.w) (I.ok.hd hc) it lo 1 n;refine W.item i s _ _ hg st λ v h' tk hv C9 kk=> ?_;obtain⟨t,rfl⟩:=hv;have I1:Inv X pins σ H {s with heap:=h',toks:=tk}:=I.turned (λ b o hb e=>kk b o (by simpa using hb) e) f0 f1 f3 f4 f5;refine⟨_,rfl,HV (s:= {s with heap:=h',toks:=tk}) (n:="range_iterator") C9 rfl rfl (by decide) ⟨.int (lo+i),H,I1,⟨t,?_⟩,⟨rfl,rfl⟩,C9,λ b hb=>(hf b hb).1⟩⟩;rw [Int.mul_one]
 done:=by
  intro X hP hw hK hc i pins s σ H E I hf st hg;subst hP hw hK;obtain⟨f0,f1,f2,f3,f4,f5⟩:=hf it (by simp);exact wpAny_pyNext_range_end (I.ok.hd hc) st (by have:n<=i:=hg;exact Qam this) λ h' eb=>⟨rfl,I.turned (t':=s.toks) (λ b o hb e=>eb b o hb e) f0 f1 f3 f4 f5⟩
 self:=λ _ _ _ _ _ st h=>wpAny_pyIter_rangeiter st h
section
variable {X:Cx} {tg:Expr}
def Mj (K:aj) (tl:TE):TI:=λ σ H R=>tl σ H λ x H1=>∃a,x = .ref a/\(∃xs,fZ K H1 a xs)/\R (Qr K a) H1
def UX (K:aj) (tl:TE):TI:=λ σ H R=>tl σ H λ x H1=>∃a,x = .ref a/\(∃xs,oh K H1 a xs)/\R (VP K a) H1
theorem Hw {l:Expr} {tl:TE} (hl:PE X l tl):PI X tg l (Mj X.K tl):=by
 intro pins s σ H R I h;refine gU (hl pins s σ H _ I h) λ v s1 zq=> ?_;obtain⟨x,H1,I1,r1,q1⟩:=zq;obtain⟨a,e,⟨xs,hq⟩,q⟩:=q1;subst e
 cases r1;obtain⟨its,rv,p,hz⟩:=I1.list hq;refine wpAny_pyIter_list p.isList ?_;refine⟨s1.heap.objs.size,[s1.heap.objs.size],_,_,H1,rfl,I1.kept (t':=s1.toks) λ b o e=>ah _ e,IH a _,⟨_,aK _ rfl,rfl,rfl⟩,λ b hb=> ?_,q⟩;have e:b=s1.heap.objs.size:=by simpa using hb
 subst e;exact I1.Ae (ay _) (I1.gJ.fresh (ay _))
theorem QY {l:Expr} {tl:TE} (hl:PE X l tl):PI X tg l (UX X.K tl):=by
 intro pins s σ H R I h;refine gU (hl pins s σ H _ I h) λ v s1 zq=> ?_;obtain⟨x,H1,I1,r1,q1⟩:=zq;obtain⟨a,e,⟨xs,hq⟩,q⟩:=q1;subst e
 cases r1;obtain⟨its,rv,p,hz⟩:=I1.tuple hq;refine wpAny_pyIter_tuple (show s1.heap.IsTuple a its.toArray from p) ?_;refine⟨s1.heap.objs.size,[s1.heap.objs.size],_,_,H1,rfl,I1.kept (t':=s1.toks) λ b o e=>ah _ e,Fb a _,⟨_,aK _ rfl,rfl,rfl⟩,λ b hb=> ?_,q⟩;have e:b=s1.heap.objs.size:=by simpa using hb
 subst e;exact I1.Ae (ay _) (I1.gJ.fresh (ay _))
theorem DH {lo hi:Int} {tk:Nat} (I:Inv X pins σ H s) (h1 : -(2 ^ 62)<=lo) (h2:lo<2 ^ 62) (h3 : -(2 ^ 62)<=hi) (h4:hi<2 ^ 62)
  (q:R (Qq lo (hi-lo).toNat) H):wpAny (model X.prog X.w) X.A (pyIter (.ref s.heap.objs.size)) (WT X pins σ tg R) E {s with heap:=s.heap.push {cls:=.type "range",data:=.fields #[.int lo t,.int hi u,.int 1 v]},toks:=tk}:=by
 refine wpAny_pyIter_range (IsRange.new ..) (small_one h1 h2 h3 h4) ?_;have I1:Inv X pins σ H {s with heap:=s.heap.push {cls:=.type "range",data:=.fields #[.int lo t,.int hi u,.int 1 v]},toks:=tk}:=I.kept λ b o e=>ah _ e
 refine⟨(s.heap.push {cls:=.type "range",data:=.fields #[.int lo t,.int hi u,.int 1 v]}).objs.size,[(s.heap.push {cls:=.type "range",data:=.fields #[.int lo t,.int hi u,.int 1 v]}).objs.size],_,_,H,rfl,
  I1.kept (t':=tk) λ b o e=>ah _ e,Fc _ lo (hi-lo).toNat,?_,λ b hb=> ?_,q⟩
 .have e1:lo+((0:Nat):Int)*1=lo:=by simp
  have e2:(((hi-lo).toNat:Nat):Int)-((0:Nat):Int)=Builtin.Range.rangeSize lo hi 1:=by rw [rangeSize_one];split<;>lia
  show IsRangeIter _ _ (lo+((0:Nat):Int)*1) ((((hi-lo).toNat:Nat):Int)-((0:Nat):Int)) 1;rw [e1,e2];exact aK _ rfl
 .have e:b=(s.heap.push {cls:=.type "range",data:=.fields #[.int lo t,.int hi u,.int 1 v]}).objs.size:=by simpa using hb
  subst e;exact I1.Ae (ay _) (I1.gJ.fresh (ay _))
def P6 (ta:TA):TI:=λ σ H R=>ta σ H λ vs H1=>∃j:Int,vs = [.int j]/\-(2 ^ 62)<=j/\j<2 ^ 62/\R (Qq 0 j.toNat) H1
def P5 (ta:TA):TI:=λ σ H R=>ta σ H λ vs H1=>∃i j:Int,vs = [.int i,.int j]/\(-(2 ^ 62)<=i/\i<2 ^ 62/\-(2 ^ 62)<=j/\j<2 ^ 62)/\R (Qq i (j-i).toNat) H1
theorem Jl (hg:Gl X "range") (hm:X.mg "range" = none) (ha:PA X [a] ta) (hs:starEach [a] X.env = [(false,eval a X.env)]:=by rfl):PI X tg (.Call (.Name "range" p) [a] [] pos) (P6 ta):=by
 intro pins s σ H R I h;refine Call_ (kT I hg hm boot_range (bq (gU (ha pos pins s σ H _ I h) λ us s1 zq=> ?_) hs rfl));obtain⟨vs,H1,I1,r1,q1⟩:=zq;obtain⟨j,e,q1,q2,q⟩:=q1;subst e
 cases r1 with
 | cons r rr=>
  cases rr;obtain⟨t,rfl⟩:=r;exact call_range_1 (DH I1 (by lia) (by lia) q1 q2 (by simpa using q))
theorem Jk (hg:Gl X "range") (hm:X.mg "range" = none) (ha:PA X [a,b] ta) (hs:starEach [a,b] X.env = [(false,eval a X.env),(false,eval b X.env)]:=by rfl) (HS:starEach [b] X.env = [(false,eval b X.env)]:=by rfl) :
  PI X tg (.Call (.Name "range" p) [a,b] [] pos) (P5 ta):=by
 intro pins s σ H R I h;refine Call_ (kT I hg hm boot_range (bq (gU (ha pos pins s σ H _ I h) λ us s1 zq=> ?_) (by rw [hs,HS]) (by rw [HS];rfl)));obtain⟨vs,H1,I1,r1,q1⟩:=zq;obtain⟨i,j,e,⟨q1,q2,q3,q4⟩,q⟩:=q1;subst e
 cases r1 with
 | cons r rr=>
  cases rr with
  | cons r' rr=>
   cases rr;obtain⟨t,rfl⟩:=r;obtain⟨t',rfl⟩:=r';exact call_range_2 (DH I1 q1 q2 q3 q4 q)
def Qx (wi:TI) (g:TG) (tb:TS):TS:=λ D σ H=>wi σ H λ J H1=>∃W:Nat->Nat->St->Hp->Prop,(∃m,W 0 m σ H1)/\∀i m σ H,W i m σ H->
 (J.stop i H/\D.nx σ H)\/(J.go i H/\∃N:St->Hp->Prop,(∀fT H',N fT H'->∃m',m'<m/\W (i+1) m' fT H')/\∀x H',J.BE i H x H'->g x σ H' λ lM H2=>tb {D with nx:=N,ct:=N,bk:=D.nx} lM H2)
def qh (fp:List Addr) (h:Heap):List (Addr×Obj):=fp.filterMap λ b=>(h.get? b).map λ o=>(b,o)
theorem ki (hb:b∈fp) (e:h.get? b=some o):(b,o)∈qh fp h:=bE.mpr ⟨b,hb,by rw [e];rfl⟩
theorem Jv (hp:p∈qh fp h):p.1∈fp/\h.get? p.1=some p.2:=by
 obtain⟨b,hb,e⟩:=bE.mp hp
 cases q:h.get? b with
 | none=>rw [q] at e;cases e
 | some o=>
  rw [q] at e;have e':(b,o)=p:=Option.some.inj e;subst e';exact⟨hb,q⟩
theorem Inv.pinned (I:Inv X pins σ H s) (hf:∀b∈fp,rC X pins H b) (ho:∀b∈fp,∃o,s.heap.get? b=some o/\∀v,o.data≠.cell v):Inv X (pins++qh fp s.heap) σ H s:=
 I.Hv λ p hp=>(ax.mp hp).elim (λ z=>I.pin p (aB _ z)) λ z=>by
  obtain⟨hb,e⟩:=Jv z;obtain⟨f0,f1,f2,_⟩:=hf p.1 hb;obtain⟨o,e',d⟩:=ho p.1 hb;rw [e] at e';cases e';exact⟨e,f0,f1,f2,d⟩
theorem Inv.pQ (I:Inv X (pins++pl) σ H s):Inv X pins σ H s:=I.Hv λ p hp=>I.pin p (aB _ (aN _ hp))
theorem Ls (hp:PassesOwn (model X.prog X.w) X.A X.env X.xe) (hc:X.calm=true) (hi:PI X tg iter wi) (hg:PG X tg g) (hb:xl X body tb)
  (hs:∀x,foldedSetIterable iter X.env x=pure x:=by intro _;rfl):PS X (.For tg iter body [] pos) (Qx wi g tb):=by
 intro pins s σ H D I h;refine wpAny_For (gU (hi pins s σ H _ I h) λ v s1 h1=>gU h1 λ TK s2 h2=> ?_) hs;obtain⟨it,fp,tn,J,H2,e,I2,T,Kp,f2,W,⟨m0,w0⟩,turn⟩:=h2;subst e;have stat:∀{H':Hp},(∀b∈fp,H' b=none)->∀b∈fp,rC X pins H' b:=λ hn b hb=>⟨hn b hb,(f2 b hb).2⟩
 refine codeAny_forLoop_any (λ n s'=>∃i fT H',Inv X pins fT H' s'/\tn i s'.heap/\(∀b∈fp,H' b=none)/\W i n fT H') ?_ m0 ⟨0,σ,H2,I2,Kp,λ b hb=>(f2 b hb).1,w0⟩;rintro n s3 ⟨i,yg,H3,I3,Ko,Qd,w3⟩;rcases turn i n yg H3 w3 with ⟨stop,qn⟩ | ⟨go,N,hN,step⟩
 .refine wpAny_passesOwn hp (gU (T.done X rfl rfl rfl hc i pins s3 yg H3 X.xe I3 (stat Qd) Ko stop) λ r s4 zq=> ?_);obtain⟨hr,I4⟩:=zq;subst hr;exact wpAny_execs_nil ⟨yg,H3,I4,qn⟩
 .refine wpAny_passesOwn hp (gU (T.item X rfl rfl rfl hc i pins s3 yg H3 X.xe I3 (stat Qd) Ko go) λ r s4 zq=> ?_);obtain⟨u,hr,h4⟩:=zq;subst hr;refine wpAny_passesOwn hp (gU h4 λ _ s5 zq=> ?_);obtain⟨x,H5,I5,r5,y5,K3,Vk⟩:=zq;have VR:=I5.pinned (stat Vk) (T.obj _ _ K3);refine wpAny_passesOwn hp (gU (hg _ s5 yg H5 x u _ VR r5 (step x H5 y5)) λ _ s6 zq=> ?_);obtain⟨Xb,H6,I6,q6⟩:=zq;refine wpAny_passesOwn hp (gU (hb _ s6 Xb H6 _ I6 q6) λ f s7 q7=> ?_)
  have again:∀{yf:St} {H7:Hp},Inv X (pins++qh fp s5.heap) yf H7 s7->N yf H7->∃m,m<n/\∃i fT H',Inv X pins fT H' s7/\tn i s7.heap/\(∀b∈fp,H' b=none)/\W i m fT H':=λ {yf H7} I7 n7=>by
   obtain⟨m',hm,w7⟩:=hN yf H7 n7;refine⟨m',hm,i+1,yf,H7,I7.pQ,T.keep _ _ _ K3 λ b hb o e=>(I7.pin (b,o) (aB _ (aB _ (ki hb e)))).1,λ b hb=> ?_,w7⟩;obtain⟨o,e,d⟩:=T.obj _ _ K3 b hb;exact(I7.pin (b,o) (aB _ (aB _ (ki hb e)))).2.1
  cases f with
  | next=>obtain⟨yf,H7,I7,n7⟩:=q7;exact again I7 n7
  | cont=>obtain⟨yf,H7,I7,n7⟩:=q7;exact again I7 n7
  | brk=>obtain⟨yf,H7,I7,q7⟩:=q7;exact⟨yf,H7,I7.pQ,q7⟩
  | ret v=>obtain⟨x7,yf,H7,I7,r7,q7⟩:=q7;exact⟨x7,yf,H7,I7.pQ,r7,q7⟩
end
theorem iG {K:aj} {a:Addr} {xs:List V} {g:TG} {tb:TS} {D:Ends} {σ:St} {H:Hp} (Pv:Nat->St->Hp->Prop) (h0:Pv 0 σ H) (hl:∀i σ H,i<=xs.length->Pv i σ H->fZ K H a xs)
  (hs:∀i x σ H,xs[i]? = some x->Pv i σ H->g x σ H λ lM H2=>tb {D with nx:=Pv (i+1),ct:=Pv (i+1),bk:=D.nx} lM H2) (hd:∀σ H,Pv xs.length σ H->D.nx σ H) :
  ∃W:Nat->Nat->St->Hp->Prop,(∃m,W 0 m σ H)/\∀i m σ H,W i m σ H->
   ((Qr K a).stop i H/\D.nx σ H)\/((Qr K a).go i H/\∃N:St->Hp->Prop,(∀fT H',N fT H'->∃m',m'<m/\W (i+1) m' fT H')/\∀x H',(Qr K a).BE i H x H'->g x σ H' λ lM H2=>tb {D with nx:=N,ct:=N,bk:=D.nx} lM H2):=by
 refine⟨λ i m σ H=>m=xs.length-i/\i<=xs.length/\Pv i σ H,⟨xs.length,by simp,aP _,h0⟩,?_⟩;rintro i m σ H ⟨rfl,hi,p⟩;have q:=hl i σ H hi p;by_cases iJ:i<xs.length
 .refine .inr ⟨⟨xs,xs[i],q,by simp [iJ]⟩,Pv (i+1),λ fT H' p'=>⟨xs.length-(i+1),T6 iJ,rfl,iJ,p'⟩,λ x H' y=> ?_⟩;obtain⟨e,y⟩:=y;subst e;exact hs i x σ _ (y xs q) p
 .have e:i=xs.length:=by exact Zq hi (Zi iJ)
  subst e;exact .inl ⟨⟨xs,q,ay _⟩,hd σ H p⟩
theorem O2 {K:aj} {a:Addr} {xs:List V} {g:TG} {tb:TS} {D:Ends} {σ:St} {H:Hp} (Pv:Nat->St->Hp->Prop) (h0:Pv 0 σ H) (hl:∀i σ H,i<=xs.length->Pv i σ H->oh K H a xs)
  (hs:∀i x σ H,xs[i]? = some x->Pv i σ H->g x σ H λ lM H2=>tb {D with nx:=Pv (i+1),ct:=Pv (i+1),bk:=D.nx} lM H2) (hd:∀σ H,Pv xs.length σ H->D.nx σ H) :
  ∃W:Nat->Nat->St->Hp->Prop,(∃m,W 0 m σ H)/\∀i m σ H,W i m σ H->
   ((VP K a).stop i H/\D.nx σ H)\/((VP K a).go i H/\∃N:St->Hp->Prop,(∀fT H',N fT H'->∃m',m'<m/\W (i+1) m' fT H')/\∀x H',(VP K a).BE i H x H'->g x σ H' λ lM H2=>tb {D with nx:=N,ct:=N,bk:=D.nx} lM H2):=by
 refine⟨λ i m σ H=>m=xs.length-i/\i<=xs.length/\Pv i σ H,⟨xs.length,by simp,aP _,h0⟩,?_⟩;rintro i m σ H ⟨rfl,hi,p⟩;have q:=hl i σ H hi p;by_cases iJ:i<xs.length
 .refine .inr ⟨⟨xs,xs[i],q,by simp [iJ]⟩,Pv (i+1),λ fT H' p'=>⟨xs.length-(i+1),T6 iJ,rfl,iJ,p'⟩,λ x H' y=> ?_⟩;obtain⟨e,y⟩:=y;subst e;exact hs i x σ _ (y xs q) p
 .have e:i=xs.length:=by exact Zq hi (Zi iJ)
  subst e;exact .inl ⟨⟨xs,q,ay _⟩,hd σ H p⟩
theorem km {lo:Int} {n:Nat} {g:TG} {tb:TS} {D:Ends} {σ:St} {H:Hp} (Pv:Nat->St->Hp->Prop) (h0:Pv 0 σ H)
  (hs:∀i σ H,i<n->Pv i σ H->g (.int (lo+i)) σ H λ lM H2=>tb {D with nx:=Pv (i+1),ct:=Pv (i+1),bk:=D.nx} lM H2) (hd:∀σ H,Pv n σ H->D.nx σ H) :
  ∃W:Nat->Nat->St->Hp->Prop,(∃m,W 0 m σ H)/\∀i m σ H,W i m σ H->
   ((Qq lo n).stop i H/\D.nx σ H)\/((Qq lo n).go i H/\∃N:St->Hp->Prop,(∀fT H',N fT H'->∃m',m'<m/\W (i+1) m' fT H')/\∀x H',(Qq lo n).BE i H x H'->g x σ H' λ lM H2=>tb {D with nx:=N,ct:=N,bk:=D.nx} lM H2):=by
 refine⟨λ i m σ H=>m=n-i/\i<=n/\Pv i σ H,⟨n,by simp,aP _,h0⟩,?_⟩;rintro i m σ H ⟨rfl,hi,p⟩;by_cases iJ:i<n
 .refine .inr ⟨iJ,Pv (i+1),λ fT H' p'=>⟨n-(i+1),T6 iJ,rfl,iJ,p'⟩,λ x H' y=> ?_⟩;obtain⟨e,y⟩:=y;subst e y;exact hs i σ _ iJ p
 .have e:i=n:=by exact Zq hi (Zi iJ)
  subst e;exact .inl ⟨ay _,hd σ H p⟩
theorem Ky (Pv:St->Hp->Prop) (μ:St->Hp->Nat) (h0:Pv σ H)
  (hs:∀σ H,Pv σ H->c σ H λ b H1=>if b=true then tb {D with nx:=λ fT H'=>Pv fT H'/\μ fT H'<μ σ H,ct:=λ fT H'=>Pv fT H'/\μ fT H'<μ σ H,bk:=D.nx} σ H1 else D.nx σ H1)
  (mono:∀σ H Q Q',(∀b H1,Q b H1->Q' b H1)->c σ H Q->c σ H Q'):BI c tb D σ H:=by
 refine⟨λ m σ H=>m=μ σ H/\Pv σ H,⟨_,rfl,h0⟩,?_⟩;rintro m σ H ⟨rfl,p⟩;refine mono σ H _ _ (λ b H1 q=> ?_) (hs σ H p)
 cases b with
 | true=>exact⟨_,λ fT H' ⟨p',l⟩=>⟨_,l,rfl,p'⟩,q⟩
 | false=>exact q
abbrev R2:=V->V->Hp->VK->Prop
def tI (X:Cx) (f:Value->Value->Sem Value) (r:R2):Prop:=
 ∀(pins:List (Addr×Obj)) (s:Shared) (σ:St) (H:Hp) (x y:V) (v u:Value) (Q:VK),Inv X pins σ H s->RelV x v->RelV y u->r x y H Q->
  wpAny (model X.prog X.w) X.A (f v u) (EP X pins σ Q) X.xe s
def WR (X:Cx) (f:Value->Sem Value) (r:V->Hp->VK->Prop):Prop:=
 ∀(pins:List (Addr×Obj)) (s:Shared) (σ:St) (H:Hp) (x:V) (v:Value) (Q:VK),Inv X pins σ H s->RelV x v->r x H Q->
  wpAny (model X.prog X.w) X.A (f v) (EP X pins σ Q) X.xe s
def kg (X:Cx) (f:Value) (r:List V->Hp->VK->Prop):Prop:=
 ∀(pins:List (Addr×Obj)) (s:Shared) (σ:St) (H:Hp) (xs:List V) (us:List Value) (Q:VK),Inv X pins σ H s->Vals xs us->r xs H Q->
  wpAny (model X.prog X.w) X.A (call f us) (EP X pins σ Q) X.xe s
def Z' (X:Cx) (r:V->Hp->(Bool->Hp->Prop)->Prop):Prop:=
 ∀(pins:List (Addr×Obj)) (s:Shared) (σ:St) (H:Hp) (x:V) (v:Value) (Q:Bool->Hp->Prop),Inv X pins σ H s->RelV x v->r x H Q->
  wpAny (model X.prog X.w) X.A (truthy v) (TP X pins σ Q) X.xe s
def KS (r:R2) (ta tb:TE):TE:=λ σ H Q=>ta σ H λ x H1=>tb σ H1 λ y H2=>r x y H2 Q
def VX (r:V->Hp->VK->Prop) (ta:TE):TE:=λ σ H Q=>ta σ H λ x H1=>r x H1 Q
def rI (C:Int->Int->Prop) (g:Int->Int->V):R2:=λ x y H Q=>∃i j,x = .int i/\y = .int j/\C i j/\Q (g i j) H
def Nh (g:Int->Int->V):R2:=λ x y H Q=>∃i j,x = .int i/\y = .int j/\Q (g i j) H
def rU (g:Int->V):V->Hp->VK->Prop:=λ x H Q=>∃i,x = .int i/\Q (g i) H
section
variable {X:Cx} {a b c:Expr} {ta tb tc:TE} {pos:Pos}
theorem SY (ha:PE X a ta) (hb:PE X b tb) {pins:List (Addr×Obj)} {s:Shared} {σ:St} {H:Hp} {R:V->V->Hp->Prop} (I:Inv X pins σ H s)
  (h:ta σ H λ x H1=>tb σ H1 λ y H2=>R x y H2) {Q:Value->Shared->Prop} {f:Value->Value->Sem Value}
  (hf:∀v u s2 x y H2,Inv X pins σ H2 s2->RelV x v->RelV y u->R x y H2->wpAny (model X.prog X.w) X.A (f v u) Q X.xe s2) :
  wpAny (model X.prog X.w) X.A (eval a X.env) (λ v jL=>wpAny (model X.prog X.w) X.A (eval b X.env) (λ u ji=>wpAny (model X.prog X.w) X.A (f v u) Q X.xe ji) X.xe jL) X.xe s:=by
 refine gU (ha pins s σ H _ I h) λ v s1 zq=> ?_;obtain⟨x,H1,I1,r1,q1⟩:=zq;refine gU (hb pins s1 σ H1 _ I1 q1) λ u s2 zq=> ?_;obtain⟨y,H2,I2,r2,q2⟩:=zq;exact hf v u s2 x y H2 I2 r1 r2 q2
theorem Uv {op:Operator} {r:R2} (ho:tI X (binaryOp op) r) (ha:PE X a ta) (hb:PE X b tb):PE X (.BinOp a op b pos) (KS r ta tb):=by
 intro pins s σ H Q I h;exact wpAny_BinOp (SY ha hb I h λ v u s2 x y H2 I2 rx ry q=>ho pins s2 σ H2 x y v u Q I2 rx ry q)
theorem Us (ho:WR X (unaryOp op) r) (ha:PE X a ta):PE X (.UnaryOp op a pos) (VX r ta):=by
 intro pins s σ H Q I h;exact UnaryOp_ (gU (ha pins s σ H _ I h) λ v s1 ⟨x,H1,I1,r1,q1⟩=>ho pins s1 σ H1 x v Q I1 r1 q1)
theorem V9 {f:Value->Value->Sem Value} {C:Int->Int->Prop} {g:Int->Int->Int}
  (rule:∀(i j:Int) (t u:Tok) (s:Shared) (Q:Value->Shared->Prop) (E:Value->Shared->Prop),C i j->Q (.int (g i j) s.toks) {s with toks:=s.toks+1}->wpAny (model X.prog X.w) X.A (f (.int i t) (.int j u)) Q E s) :
  tI X f (rI C λ i j=>.int (g i j)):=by
 intro pins s σ H x y v u Q I rx ry h;obtain⟨i,j,rfl,rfl,hc,q⟩:=h;obtain⟨t,rfl⟩:=rx;obtain⟨t',rfl⟩:=ry;exact rule i j t t' s _ _ hc ⟨.int (g i j),H,I.tok _,⟨_,rfl⟩,q⟩
theorem UB {f:Value->Value->Sem Value} {g:Int->Int->Int}
  (rule:∀(i j:Int) (t u:Tok) (s:Shared) (Q:Value->Shared->Prop) (E:Value->Shared->Prop),Q (.int (g i j) s.toks) {s with toks:=s.toks+1}->wpAny (model X.prog X.w) X.A (f (.int i t) (.int j u)) Q E s) :
  tI X f (Nh λ i j=>.int (g i j)):=by
 intro pins s σ H x y v u Q I rx ry h;obtain⟨i,j,rfl,rfl,q⟩:=h;obtain⟨t,rfl⟩:=rx;obtain⟨t',rfl⟩:=ry;exact rule i j t t' s _ _ ⟨.int (g i j),H,I.tok _,⟨_,rfl⟩,q⟩
theorem Oy {f:Value->Value->Sem Value} {g:Int->Int->Bool}
  (rule:∀(i j:Int) (t u:Tok) (s:Shared) (Q:Value->Shared->Prop) (E:Value->Shared->Prop),Q (.bool (g i j)) s->wpAny (model X.prog X.w) X.A (f (.int i t) (.int j u)) Q E s) :
  tI X f (Nh λ i j=>.bl (g i j)):=by
 intro pins s σ H x y v u Q I rx ry h;obtain⟨i,j,rfl,rfl,q⟩:=h;obtain⟨t,rfl⟩:=rx;obtain⟨t',rfl⟩:=ry;exact rule i j t t' s _ _ ⟨.bl (g i j),H,I,rfl,q⟩
def Ti (i j:Int):Prop:=0<j/\j<1073741824
def Tg (i j:Int):Prop:=0<=j/\j<=1000000/\i.natAbs<2 ^ 64
def Th (i j:Int):Prop:=(-(2 ^ 64)<i/\i<2 ^ 64)\/(-(2 ^ 64)<j/\j<2 ^ 64)
theorem Th.ok (h:Th i j):IntMulOk i j:=by
 rcases h with ⟨h1,h2⟩ | ⟨h1,h2⟩
 .exact .of_left (intBits_le_64 h1 h2)
 .exact .of_right (intBits_le_64 h1 h2)
theorem gY:tI X (binaryOp .Add) (Nh λ i j=>.int (i+j)):=UB λ _ _ _ _ _ _ _ q=>add_int q
theorem mY:tI X (binaryOp .Sub) (Nh λ i j=>.int (i-j)):=UB λ _ _ _ _ _ _ _ q=>sub_int q
theorem qi:tI X (binaryOp .Mult) (rI Th λ i j=>.int (i*j)):=V9 λ _ _ _ _ _ _ _ hc q=>mul_int q hc.ok
theorem fY:tI X (binaryOp .FloorDiv) (rI Ti λ i j=>.int (i/j)):=V9 λ i j _ _ _ _ _ hc q=>by
 have h1:(0:Int)<j:=hc.1;have h2:j<1073741824:=hc.2;exact floordiv_int (Ym h1) (by rwa [Int.fdiv_eq_ediv_of_nonneg i (Yl h1)]) (.inl (PyProof.noPylong_small (by omega)))
theorem fU:tI X (binaryOp .Mod) (rI (λ _ j=>0<j) λ i j=>.int (i%j)):=V9 λ i j _ _ _ _ _ hc q=>by
 have h1:(0:Int)<j:=hc;exact mod_int' (Ym hc) (by rwa [Int.fmod_eq_emod_of_nonneg i (Yl hc)])
theorem sM:tI X (binaryOp .Pow) (rI Tg λ i j=>.int (i ^ j.toNat)):=V9 λ _ _ _ _ _ _ _ hc q=>pow_int_small hc.1 hc.2.1 hc.2.2 q
theorem Ź {f:Value->Sem Value} {g:Int->Int}
  (rule:∀(i:Int) (t:Tok) (s:Shared) (Q:Value->Shared->Prop) (E:Value->Shared->Prop),Q (.int (g i) s.toks) {s with toks:=s.toks+1}->wpAny (model X.prog X.w) X.A (f (.int i t)) Q E s) :
  WR X f (rU λ i=>.int (g i)):=by
 intro pins s σ H x v Q I rx h;obtain⟨i,rfl,q⟩:=h;obtain⟨t,rfl⟩:=rx;exact rule i t s _ _ ⟨.int (g i),H,I.tok _,⟨_,rfl⟩,q⟩
theorem BF:WR X (unaryOp .USub) (rU λ i=>.int (-i)):=Ź λ _ _ _ _ _ q=>neg_int q
end
def NV:V->V->Bool
 | .jv,.jv=>true | .jv,.int _=>true | .int _,.jv=>true | .jv,.bl _=>true | .bl _,.jv=>true | .jv,.str _=>true | .str _,.jv=>true
 | .int _,.int _=>true | .bl _,.bl _=>true | .str _,.str _=>true | .Il _,.Il _=>true
 | .int _,.str _=>true | .str _,.int _=>true | .bl _,.str _=>true | .str _,.bl _=>true
 | _,_=>false
def Xo:R2:=λ x y H Q=>NV x y=true/\Q (.bl (decide (x=y))) H
def Xn:R2:=λ x y H Q=>NV x y=true/\Q (.bl (!decide (x=y))) H
theorem Ig:decide (V.int i=V.int j)=(i==j):=by
 rw [cA];simp
theorem MM:decide (V.bl i=V.bl j)=(i==j):=by
 rw [cA];simp
theorem Ie:decide (V.str i=V.str j)=(i==j):=by
 rw [cA];simp
theorem Ih:decide (V.Il i=V.Il j)=(i.toList==j.toList):=by
 rw [cA]
 cases i
 cases j;simp
section
variable {X:Cx} {a b c:Expr} {ta tb tc:TE} {pos:Pos}
theorem gC (I:Inv X pins σ H s) (q:Q (.bl k) H) (e:k=k'):EP X pins σ Q (.bool k') s:=by
 subst e;exact⟨.bl k,H,I,rfl,q⟩
theorem g8:tI X (compareOp .Eq) Xo:=by
 intro pins s σ H x y v u Q I rx ry h;obtain⟨hs,q⟩:=h
 cases x with
 | jv=>
  cases rx
  cases y with
  | jv=>cases ry;exact PySem.EqNone.eq_none_none (gC I q (by simp))
  | bl j=>cases ry;exact PySem.EqNone.eq_none_bool (gC I q (by simp))
  | int j=>obtain⟨t',rfl⟩:=ry;exact PySem.EqNone.eq_none_int (gC I q (by simp))
  | str j=>obtain⟨t',rfl⟩:=ry;exact PySem.EqNone.eq_none_str (gC I q (by simp))
  | _=>exact absurd (show false=true from hs) aJ
 | bl i=>
  cases rx
  cases y with
  | jv=>cases ry;exact PySem.EqNone.eq_bool_none (gC I q (by simp))
  | bl j=>cases ry;exact eq_bool (gC I q MM)
  | str j=>obtain⟨t',rfl⟩:=ry;exact PySem.EqMixed.eq_bool_str (gC I q (by simp))
  | _=>exact absurd (show false=true from hs) aJ
 | int i=>
  obtain⟨t,rfl⟩:=rx
  cases y with
  | jv=>cases ry;exact PySem.EqNone.eq_int_none (gC I q (by simp))
  | int j=>obtain⟨t',rfl⟩:=ry;exact eq_int (gC I q Ig)
  | str j=>obtain⟨t',rfl⟩:=ry;exact PySem.EqMixed.eq_int_str (gC I q (by simp))
  | _=>exact absurd (show false=true from hs) aJ
 | str i=>
  obtain⟨t,rfl⟩:=rx
  cases y with
  | jv=>cases ry;exact PySem.EqNone.eq_str_none (gC I q (by simp))
  | bl j=>cases ry;exact PySem.EqMixed.eq_str_bool (gC I q (by simp))
  | int j=>obtain⟨t',rfl⟩:=ry;exact PySem.EqMixed.eq_str_int (gC I q (by simp))
  | str j=>obtain⟨t',rfl⟩:=ry;exact eq_str (gC I q Ie)
  | _=>exact absurd (show false=true from hs) aJ
 | Il i=>
  obtain⟨t,rfl⟩:=rx
  cases y with
  | Il j=>obtain⟨t',rfl⟩:=ry;exact PySem.W.eq_bytes (gC I q Ih)
  | _=>exact absurd (show false=true from hs) aJ
 | _=>cases y<;>exact absurd (show false=true from hs) aJ
theorem lX:tI X (compareOp .NotEq) Xn:=by
 intro pins s σ H x y v u Q I rx ry h;obtain⟨hs,q⟩:=h
 cases x with
 | jv=>
  cases rx
  cases y with
  | jv=>cases ry;exact PySem.EqNone.ne_none_none (gC I q (by simp))
  | bl j=>cases ry;exact PySem.EqNone.ne_none_bool (gC I q (by simp))
  | int j=>obtain⟨t',rfl⟩:=ry;exact PySem.EqNone.ne_none_int (gC I q (by simp))
  | str j=>obtain⟨t',rfl⟩:=ry;exact PySem.EqNone.ne_none_str (gC I q (by simp))
  | _=>exact absurd (show false=true from hs) aJ
 | bl i=>
  cases rx
  cases y with
  | jv=>cases ry;exact PySem.EqNone.ne_bool_none (gC I q (by simp))
  | bl j=>cases ry;exact ne_bool (gC I q (congrArg not MM))
  | str j=>obtain⟨t',rfl⟩:=ry;exact PySem.EqMixed.ne_bool_str (gC I q (by simp))
  | _=>exact absurd (show false=true from hs) aJ
 | int i=>
  obtain⟨t,rfl⟩:=rx
  cases y with
  | jv=>cases ry;exact PySem.EqNone.ne_int_none (gC I q (by simp))
  | int j=>obtain⟨t',rfl⟩:=ry;exact ne_int (gC I q (congrArg not Ig))
  | str j=>obtain⟨t',rfl⟩:=ry;exact PySem.EqMixed.ne_int_str (gC I q (by simp))
  | _=>exact absurd (show false=true from hs) aJ
 | str i=>
  obtain⟨t,rfl⟩:=rx
  cases y with
  | jv=>cases ry;exact PySem.EqNone.ne_str_none (gC I q (by simp))
  | bl j=>cases ry;exact PySem.EqMixed.ne_str_bool (gC I q (by simp))
  | int j=>obtain⟨t',rfl⟩:=ry;exact PySem.EqMixed.ne_str_int (gC I q (by simp))
  | str j=>obtain⟨t',rfl⟩:=ry;exact ne_str (gC I q (congrArg not Ie))
  | _=>exact absurd (show false=true from hs) aJ
 | Il i=>
  obtain⟨t,rfl⟩:=rx
  cases y with
  | Il j=>obtain⟨t',rfl⟩:=ry;exact PySem.W.ne_bytes (gC I q (congrArg not Ih))
  | _=>exact absurd (show false=true from hs) aJ
 | _=>cases y<;>exact absurd (show false=true from hs) aJ
theorem ph:tI X (compareOp .Lt) (Nh λ i j=>.bl (decide (i<j))):=Oy λ _ _ _ _ _ _ _ q=>lt_int q
theorem PM:tI X (compareOp .LtE) (Nh λ i j=>.bl (decide (i<=j))):=Oy λ _ _ _ _ _ _ _ q=>le_int q
theorem AE:tI X (compareOp .Gt) (Nh λ i j=>.bl (decide (j<i))):=Oy λ _ _ _ _ _ _ _ q=>gt_int q
theorem LP:tI X (compareOp .GtE) (Nh λ i j=>.bl (decide (j<=i))):=Oy λ _ _ _ _ _ _ _ q=>ge_int q
theorem Jo:tI X (compareOp .In) (λ x y H Q=>∃i j,x = .str i/\y = .str j/\Q (.bl (!(Builtin.Str.occurrences j i 0 j.length 1).isEmpty)) H):=by
 intro pins s σ H x y v u Q I rx ry h;obtain⟨i,j,rfl,rfl,q⟩:=h;obtain⟨t,rfl⟩:=rx;obtain⟨t',rfl⟩:=ry;exact in_str (gC I q rfl)
theorem Rp:tI X (compareOp .Is) (λ x y H Q=>y = .jv/\Q (.bl (decide (x = .jv))) H):=by
 intro pins s σ H x y v u Q I rx ry h;obtain⟨rfl,q⟩:=h
 cases ry;refine is_none_gen (gC I q ?_)
 cases x<;>first
  | (cases rx;rfl)
  | (obtain⟨t,rfl⟩:=rx;rfl)
theorem fI (b:Expr) (h:op≠.In:=by decide) (h2:op≠.NotIn:=by decide):behindInMarks op b=false:=by
 have e1:(op==CmpOp.In)=false:=by cases op<;>first|rfl|exact absurd rfl h
 have e2:(op==CmpOp.NotIn)=false:=by cases op<;>first|rfl|exact absurd rfl h2
 cases b<;>simp [behindInMarks,e1,e2]
theorem Ot {op:CmpOp} {r:R2} (ho:tI X (compareOp op) r) (ha:PE X a ta) (hb:PE X b tb) (hm:behindInMarks op b=false):PE X (.Compare a [op] [b] pos) (KS r ta tb):=by
 intro pins s σ H Q I h;exact wpAny_Compare1 (SY ha hb I h λ v u s2 x y H2 I2 rx ry q=>ho pins s2 σ H2 x y v u Q I2 rx ry q) hm
def G' (t:TE):TT:=λ σ H Q=>t σ H λ x H'=>∃k,x = .bl k/\Q k H'
theorem N7 (ho:tI X (compareOp op) r) (ha:PE X a ta) (hb:PE X b tb) (hm:behindInMarks op b=false):PT X (.Compare a [op] [b] pos) (G' (KS r ta tb)):=by
 intro pins s σ H Q I h
 refine wpAny_isTrue_Compare1 (gU (ha pins s σ H _ I h) λ v s1 ⟨x,H1,I1,r1,q1⟩=>gU (hb pins s1 σ H1 _ I1 q1) λ u s2 ⟨y,H2,I2,r2,q2⟩=>
  gU (ho pins s2 σ H2 x y v u _ I2 r1 r2 q2) λ c s3 ⟨z,H3,I3,r3,k,e,q3⟩=> ?_) hm
 subst e
 cases r3;exact wpAny_truthy_bool ⟨H3,I3,q3⟩
def S7 (K:aj) (x:V) (H:Hp) (k:Bool):Prop:=
 match x with
 | .jv=>k=false
 | .bl b=>k=b
 | .int i=>k=(i != 0)
 | .str y=>y.length<=sizeLine/\k=((y.length:Int)!=0)
 | .Il y=>y.size<=sizeLine/\k=((y.size:Int)!=0)
 | .ref p=>(∃xs,fZ K H p xs/\k = !xs.isEmpty)\/(∃xs,oh K H p xs/\k = !xs.isEmpty)\/∃kvs,H p=some (.dK kvs)/\k = !kvs.isEmpty
 | _=>False
theorem Gu {κ:Type} {kvs:List (κ×V)} {vs:List (κ×Value)} (r:KV kvs vs):(!vs.isEmpty) = !kvs.isEmpty:=by
 cases r<;>rfl
theorem yM (r:Vals xs its):(!its.toArray.isEmpty) = !xs.isEmpty:=by
 cases r<;>simp
theorem sP:(sizeLine:Nat)<2 ^ 63:=by rw [sizeLine_eq];decide
theorem Qv:Z' X (λ x H Q=>∃k,S7 X.K x H k/\Q k H):=by
 intro pins s σ H x v Q I rx h;obtain⟨k,e,q⟩:=h;have hl:=sP;have hs:sizeLine=16777216:=sizeLine_eq
 cases x with
 | jv=>
  cases rx;have e':k=false:=e;subst e';exact truthy_none ⟨H,I,q⟩
 | bl b=>
  cases rx;have e':k=b:=e;subst e';exact wpAny_truthy_bool ⟨H,I,q⟩
 | int i=>
  obtain⟨t,rfl⟩:=rx;have e':k=(i != 0):=e;subst e';exact PySem.P.truthy_int ⟨H,I,q⟩
 | str y=>
  obtain⟨t,rfl⟩:=rx;obtain⟨hy,e'⟩:y.length<=sizeLine/\k=((y.length:Int)!=0):=e;subst e';exact PySem.P.truthy_str (by lia) ⟨H,I.tok _,q⟩
 | Il y=>
  obtain⟨t,rfl⟩:=rx;obtain⟨hy,e'⟩:y.size<=sizeLine/\k=((y.size:Int)!=0):=e;subst e';exact PySem.W.truthy_bytes (Zc hy (Zc (Ze hs) (Zd rfl))) ⟨H,I.tok _,q⟩
 | ref p=>
  cases rx;have e':(∃xs,fZ X.K H p xs/\k = !xs.isEmpty)\/(∃xs,oh X.K H p xs/\k = !xs.isEmpty)\/∃kvs,H p=some (.dK kvs)/\k = !kvs.isEmpty:=e;rcases e' with ⟨xs,hx,e'⟩ | ⟨xs,hx,e'⟩ | ⟨kvs,hx,e'⟩
  .subst e';obtain⟨its,r,pl,hz⟩:=I.list hx;have hlen:=r.length;exact wpAny_truthy_list pl.isList (by simp only [aM];lia) ⟨H,I.tok _,by rwa [yM r]⟩
  .subst e';obtain⟨its,r,pl,hz⟩:=I.tuple hx;have hlen:=r.length;exact truthy_tuple pl (by simp only [aM];lia) ⟨H,I.tok _,by rwa [yM r]⟩
  .subst e';obtain⟨hz,hS,vs,r,m⟩:kvs.length<=sizeLine/\(p==sysModules)=false/\∃vs,KV kvs vs/\s.heap.DictOf (gA X.prog X.w) p vs:=I.gJ p _ hx;have hlen:kvs.length=vs.length:=Paired.length r;exact wpAny_truthy_dict hS m (by lia) ⟨H,I.tok _,by rwa [Gu r]⟩
 | _=>exact(show False from e).elim
theorem Lm (ha:PE X a ta) (he:∀whole,isTrue a X.env whole=(do let v <-whole;standAt a.pos;holding [v] (truthy v))) :
  PT X a (λ σ H Q=>ta σ H λ x H'=>∃k,S7 X.K x H' k/\Q k H'):=by
 intro pins s σ H Q I h;exact isTrue_plain (gU (ha pins s σ H _ I h) λ v s1 ⟨x,H1,I1,r1,q1⟩=>Qv pins s1 σ H1 x v Q I1 r1 q1) (he _)
theorem FC:tI X (binaryOp .Add) (λ x y H Q=>∃i j,x = .str i/\y = .str j/\i.length+j.length<=sizeLine/\Q (.str (i++j)) H):=by
 intro pins s σ H x y v u Q I rx ry h;obtain⟨i,j,rfl,rfl,hz,q⟩:=h;obtain⟨t,rfl⟩:=rx;obtain⟨t',rfl⟩:=ry;exact add_str (λ t' tk=>⟨.str (i++j),H,I.tok _,⟨_,rfl⟩,q⟩) hz
theorem vals1 (r:Vals [x] us):∃u,us = [u]/\RelV x u:=by
 cases r with
 | cons r1 r2=>cases r2;exact⟨_,rfl,r1⟩
theorem vals2 (r:Vals [x,y] us):∃u w',us = [u,w']/\RelV x u/\RelV y w':=by
 cases r with
 | cons r1 r2=>
  cases r2 with
  | cons r3 r4=>cases r4;exact⟨_,_,rfl,r1,r3⟩
theorem MU:kg X (.builtin "abs") (λ xs H Q=>∃i,xs = [.int i]/\Q (.int (if i<0 then -i else i)) H):=by
 intro pins s σ H xs us Q I r h;obtain⟨i,rfl,q⟩:=h;obtain⟨u,rfl,t,rfl⟩:=vals1 r;exact call_abs_int λ u tk=>⟨.int (if i<0 then -i else i),H,I.tok _,⟨_,rfl⟩,q⟩
theorem vB (hc:X.calm=true):kg X (.builtin "min") (λ xs H Q=>∃i j,xs = [.int i,.int j]/\Q (.int (if j<i then j else i)) H):=by
 intro pins s σ H xs us Q I r h;obtain⟨i,j,rfl,q⟩:=h;obtain⟨u,w',rfl,⟨t,rfl⟩,⟨t',rfl⟩⟩:=vals2 r;refine min_two_ints (I.ok.hd hc) λ h' tk k=>⟨_,H,I.kept k,?_,q⟩
 by_cases hj:j<i
 .rw [if_pos hj,if_pos hj];exact⟨_,rfl⟩
 .rw [if_neg hj,if_neg hj];exact⟨_,rfl⟩
theorem vC:kg X (.type "int") (λ xs H Q=>(∃i,xs = [.int i]/\Q (.int i) H)\/∃k,xs = [.bl k]/\Q (.int (if k then 1 else 0)) H):=by
 intro pins s σ H xs us Q I r h;rcases h with ⟨i,rfl,q⟩ | ⟨k,rfl,q⟩
 .obtain⟨u,rfl,t,rfl⟩:=vals1 r;exact call_int_int ⟨.int i,H,I,⟨_,rfl⟩,q⟩
 .obtain⟨u,rfl,r1⟩:=vals1 r
  cases r1;exact call_int_bool ⟨.int (if k then 1 else 0),H,I.tok _,⟨_,rfl⟩,q⟩
end
structure GY (h:Heap) (x dx C:Addr) (mA:Str->Option Value):Prop where
 obj:h.get? x=some (b8 C dx)
 ns:h.Ns1 dx mA
 ne:dx≠x
theorem JA {h:Heap} {dx:Addr} {mA:Str->Option Value} (n:h.Ns1 dx mA):∃od,h.get? dx=some od/\∀name,dQ name od=some (mA name):=by
 obtain⟨o,es,ep,ho,hd,hk,_,hm⟩:=n;refine⟨o,ho,λ name=> ?_⟩;have e:=hm name;unfold nsFind findBy at e;rw [<-Array.find?_toList] at e;unfold dQ;rw [hd];dsimp only
 split
 .rename_i y q
  rw [q] at e;exact congrArg some e
 .rename_i q
  rw [q] at e
  have a:es.toList.any (·.refKey)=false:=by
   rw [List.any_eq_false];intro y hy;obtain⟨z,t,Sj⟩:=hk y (Array.mem_toList_iff.mp hy);simp [DictEntry.refKey,Sj]
  have a':¬es.toList.any (·.refKey)=true:=by rw [a];exact aJ
  rw [if_neg a'];exact congrArg some e
theorem GY.look (I:GY h x dx C mA):∃od,PySem.W.InstAt h x (b8 C dx) C (some od)/\∀name,dQ name od=some (mA name):=
 let ⟨od,ho,hl⟩:=JA I.ns
 ⟨od,⟨I.obj,rfl,rfl,ho⟩,hl⟩
section
variable {prog:Program} {w:World} {A:Around} {E:Value->Shared->Prop} {s:Shared} {K:aj} {x dx C f:Addr} {mA:Str->Option Value} {name:Str} {v:Value}
theorem get_map (X:K.In s.heap) (I:GY s.heap x dx C mA) (hg:cy K C name=true) (hh:cH K C=true)
  (ha:bp K (.ref C) name=some none) (hv:mA name=some v) (hv':PySem.W.handedIn v=true) (h:Q v {s with toks:=s.toks+1}) :
  wpAny (model prog w) A (getAttr (.ref x) name expr) Q E s:=by
 obtain⟨od,J,hl⟩:=I.look;exact PySem.W.get_value X J (dX hg).1 (PySem.W.findObj_own hh ha rfl (by rw [hl,hv])) hv' h
theorem Mt (X:K.In s.heap) (I:GY s.heap x dx C mA) (hg:cy K C name=true)
  (hf:bp K (.ref C) name=some (some (.ref f))) (ht:dE K (.ref f)=true) (hv:mA name=none) (h:Q (.ref f,[.ref x]) s) :
  wpAny (model prog w) A (getMethod (.ref x) name pl) Q E s:=by
 obtain⟨od,J,hl⟩:=I.look;exact PySem.W.method_fn X J (dX hg).1 (dX hg).2 hf (beq_iff_eq.mp ht) (by show (dQ name od).map (·.isSome)=some false;rw [hl,hv];rfl) h
theorem NT (X:K.In s.heap) (I:GY s.heap x dx C mA)
  (hs:bp K (.ref C) "__setattr__" = some (some (.builtin "object.__setattr__"))) (hp:dn K C=true) (ht:eM K C name=some none) (hh:cH K C=true)
  (hw:PySem.Within mA ns) (hsz:ns.length<=sizeLine)
  (h:∀h',GY h' x dx C (λ y=>if y=name then some v else mA y)->Heap.SameBut dx s.heap h'->Q () {s with heap:=h',toks:=s.toks+2}) :
  wpAny (model prog w) A (setAttr (.ref x) name v) Q E s:=by
 obtain⟨od,J,hl⟩:=I.look;refine PySem.W.set_plain X J hs (PySem.W.osa_open (s:= {s with toks:=s.toks+1}) (r:=none) X J hp ht λ b=> ?_);obtain⟨cd,hc,TU⟩:=PySem.W.any_some hh;have hx:s.heap.get? x=some ⟨.ref C,some dx,.plain,#[]⟩:=I.obj;refine wpAny_bind (wpAny_pure (wpAny_bind (wpAny_bind (wpAny_loadPart hx (wpAny_bind (PySem.W.Looks.here (s:= {s with toks:=s.toks+1}) (PySem.W.looks_clsIn X hc) ?_))))));rw [TU];refine wpAny_pure (a:=some dx) (wpAny_bind (wpAny_pure (wpAny_bind ?_)));refine wpAny_nsSet1 (s:= {s with toks:=s.toks+1}) I.ns λ h' OO HS=> ?_;obtain⟨oD,esD,epD,hoD,hdD,hcD⟩:=OO.count (PySem.Within.cons name v hw);refine wpAny_bind (wpAny_lookBehind hoD (by rw [hdD];exact pastItsLine_dict (bj hcD (by rw [aF];exact Zp hsz))) ?_);exact wpAny_pure (h _ ⟨(HS.2 _ (Ne.symm I.ne)).trans I.obj,OO,I.ne⟩ HS)
theorem L7 (X:K.In s.heap) (hm:dI K C=true)
  (hi:bp K (.ref C) "__init__" = some (some (.ref f))) (hf:PySem.W.typeIn K (.ref f)=some (.type "function"))
  (h:codeAny (model prog w) (A.under (.builtin "type.__call__" ⟨.ref C::vs,kw⟩)) (.call (.ref f) ⟨.ref (s.heap.objs.size+1)::vs,kw⟩) (PySem.W.InitBack (s.heap.objs.size+1) R)
   {s with heap:=(s.heap.push bP).push (b8 C s.heap.objs.size)}) :
  codeAny (model prog w) A (.call (.ref C) ⟨vs,kw⟩) R s:=by
 obtain⟨hh,g,d,t,os⟩:=s;exact PySem.W.make_core (PySem.W.makes_of X hm) (PySem.W.looks_findIn X hi) (λ self=>PySem.W.bind_fn X self hf) (.inl rfl) h
end
def nM (f:Str) (v:V):List (Str×V)->List (Str×V)
 | []=> [(f,v)]
 | (g,x)::r=>if g=f then (g,v)::r else (g,x)::nM f v r
theorem vU (f g:Str) (v:V):∀fs:List (Str×V),(nM f v fs).lookup g=if g=f then some v else fs.lookup g
 | []=>by
  show List.lookup g [(f,v)]=_;by_cases h:g=f
  .have hb:(g==f)=true:=beq_iff_eq.mpr h;simp only [List.lookup,hb,if_pos h]
  .have hb:(g==f)=false:=beq_eq_false_iff_ne.mpr h;simp only [List.lookup,hb,if_neg h]
 | (k,x)::r=>by
  have ih:=vU f g v r;rw [show nM f v ((k,x)::r)=(if k=f then (k,v)::r else (k,x)::nM f v r) from rfl];by_cases hk:k=f
  .rw [if_pos hk];by_cases h:g=k
   .have hb:(g==k)=true:=beq_iff_eq.mpr h;simp only [List.lookup,hb,if_pos (h.trans hk)]
   .have hb:(g==k)=false:=beq_eq_false_iff_ne.mpr h;simp only [List.lookup,hb,if_neg (λ e:g=f=>h (e.trans hk.symm))]
  .rw [if_neg hk];by_cases h:g=k
   .have hb:(g==k)=true:=beq_iff_eq.mpr h;simp only [List.lookup,hb,if_neg (λ e:g=f=>hk (h.symm.trans e))]
   .have hb:(g==k)=false:=beq_eq_false_iff_ne.mpr h;simp only [List.lookup,hb];exact ih
theorem vx (f:Str) (v:V):∀fs:List (Str×V),f∈(nM f v fs).map (·.1)/\∀g,g∈fs.map (·.1)->g∈(nM f v fs).map (·.1)
 | []=>⟨by simp [nM],λ g h=>by simp at h⟩
 | (k,x)::r=>by
  obtain⟨i1,i2⟩:=vx f v r;rw [show nM f v ((k,x)::r)=(if k=f then (k,v)::r else (k,x)::nM f v r) from rfl];by_cases hk:k=f
  .rw [if_pos hk];subst hk;exact⟨by simp,λ g h=>by simpa using h⟩
  .rw [if_neg hk];refine⟨?_,λ g h=> ?_⟩
   .rw [aD];exact az _ i1
   .rw [aD] at h⊢;rcases aA.mp h with e|e
    .exact aA.mpr (.inl e)
    .exact az _ (i2 g e)
theorem kL (f:Str) (v:V):∀fs:List (Str×V),(nM f v fs).length<=fs.length+1
 | []=>by simp [nM]
 | (k,x)::r=>by
  have ih:=kL f v r;rw [show nM f v ((k,x)::r)=(if k=f then (k,v)::r else (k,x)::nM f v r) from rfl];by_cases hk:k=f
  .rw [if_pos hk,aF,aF];exact Zk
  .rw [if_neg hk,aF,aF];exact Zp ih
theorem oT.some_of (r:oT (some v) o):∃u,o=some u/\RelV v u:=by
 cases o with
 | none=>exact(show False from r).elim
 | some u=>exact⟨u,rfl,r⟩
theorem oT.none_of (r:oT none o):o=none:=by
 cases o with
 | none=>rfl
 | some u=>exact(show False from r).elim
theorem JS (r:RelV v u):PySem.W.handedIn u=true:=by
 cases v with
 | jv=>cases (show u=Value.none from r);rfl
 | bl b=>cases (show u=Value.bool b from r);rfl
 | int i=>obtain⟨t,e⟩:=(show ∃t,u=Value.int i t from r);cases e;rfl
 | str x=>obtain⟨t,e⟩:=(show ∃t,u=Value.str x t from r);cases e;rfl
 | Il b=>obtain⟨t,e⟩:=(show ∃t,u=Value.bytes b t from r);cases e;rfl
 | Sy b=>obtain⟨t,e⟩:=(show ∃t,u=Value.float b t from r);cases e;rfl
 | ref a=>cases (show u=Value.ref a from r);rfl
 | ty n=>cases (show u=Value.type n from r);rfl
section
variable {P:Program} {w:World} {H H':Hp} {h h':Heap} {a C dx:Addr} {fs fs':List (Str×V)}
theorem xF (gJ:rA P w H h) (e:H a=some (.ins C dx fs)):∃mA,GY h a dx C mA/\(∀f,oT (fs.lookup f) (mA f))/\PySem.Within mA (fs.map (·.1))/\fs.length<=1000/\H dx=some (.own a):=by
 obtain⟨d,z,ne,ob,mA,n,r,q⟩:=(show ig P w H h a (.ins C dx fs) from gJ a _ e)
 exact⟨mA,⟨ob,n,ne⟩,r,q,z,d⟩
end
structure Df (K:aj) (C:Addr):Prop where
 pg:cy K C Str.empty=true
 hd:cH K C=true
 po:dn K C=true
 sa:bp K (.ref C) "__setattr__" = some (some (.builtin "object.__setattr__"))
theorem Df.get {K:aj} {C:Addr} (c:Df K C) (f:Str):cy K C f=true:=c.pg
def nr (K:aj) (C:Addr) (f:Str):Prop:=bp K (.ref C) f=some none
theorem nr.Ua {K:aj} {C:Addr} {f:Str} (n:nr K C f):eM K C f=some none:=by
 unfold eM;rw [show bp K (.ref C) f=some none from n];rfl
structure Meth (K:aj) (C:Addr) (m:Str) (f:Addr):Prop where
 at_:bp K (.ref C) m=some (some (.ref f))
 fn:dE K (.ref f)=true
 kp:ck K (.ref f)=true
section
variable {X:Cx} {pins:List (Addr×Obj)} {σ:St} {H:Hp} {s:Shared} {a C dx:Addr} {fs:List (Str×V)} {f:Str} {v:V} {A:Around} {E:Value->Shared->Prop}
theorem Gz (I:Inv X pins σ H s) (e:H a=some (.ins C dx fs)) (c:Df X.K C) (n:nr X.K C f) (l:fs.lookup f=some v)
  (h:∀u s',Inv X pins σ H s'->RelV v u->Q u s'):wpAny (model X.prog X.w) A (getAttr (.ref a) f b) Q E s:=by
 obtain⟨mA,O,r,_,_,_⟩:=xF I.gJ e;obtain⟨u,hu,ru⟩:=oT.some_of (v:=v) (o:=mA f) (by rw [<-l];exact r f);exact get_map I.wZ O (c.get f) c.hd n hu (JS ru) (h u _ (I.tok _) ru)
theorem yU (I:Inv X pins σ H s) (e:H a=some (.ins C dx fs)) (c:Df X.K C) (k:Meth X.K C m g) (l:fs.lookup m=none)
  (h:Q (.ref g,[.ref a]) s):wpAny (model X.prog X.w) A (getMethod (.ref a) m pl) Q E s:=by
 obtain⟨mA,O,r,_,_,_⟩:=xF I.gJ e;have hn:mA m=none:=oT.none_of (by rw [<-l];exact r m);exact Mt I.wZ O (c.get m) k.at_ k.fn hn h
theorem Fh (I:Inv X pins σ H s) (e:H a=some (.ins C dx fs)) (c:Df X.K C) (n:nr X.K C f) (hl:fs.length<1000) (ry:RelV y u)
  (h:∀s',Inv X pins σ (upd H a (.ins C dx (nM f y fs))) s'->Q () s'):wpAny (model X.prog X.w) A (setAttr (.ref a) f u) Q E s:=by
 obtain⟨mA,O,r,wi,_,ho⟩:=xF I.gJ e;have hz:(fs.map (·.1)).length<=sizeLine:=by rw [ae,sizeLine_eq];exact Zl (Za hl (Zd rfl))
 refine NT I.wZ O c.sa c.po n.Ua c.hd wi hz λ h' O' sb=>h _ ?_;have hd:∃o,h'.get? dx=some o:=let ⟨o,_,_,e',_⟩:=O'.ns;⟨o,e'⟩;refine I.write (x:=a) (e:=dx) (by rw [e];exact True.intro) (.inr ho) (λ b q hb z=>(sb.2 b hb).trans z) hd ?_;refine⟨by rwa [e_ O.ne],?_,O.ne,O'.obj,_,O'.ns,λ g=> ?_,λ g hg=> ?_⟩
 .have:=kL f y fs;exact Zc this hl
 .show oT ((nM f y fs).lookup g) (if g=f then some u else mA g);rw [vU];by_cases q:g=f
  .rwa [if_pos q,if_pos q]
  .rw [if_neg q,if_neg q];exact r g
 .by_cases q:g=f
  .rw [q];exact(vx f y fs).1
  .refine(vx f y fs).2 g (wi g λ z=>hg ?_);show (if g=f then some u else mA g)=none
   rwa [if_neg q]
theorem Inv.made (I:Inv X pins σ H s):Inv X pins σ (upd (upd H s.heap.objs.size (.own (s.heap.objs.size+1))) (s.heap.objs.size+1) (.ins C s.heap.objs.size []))
  {s with heap:=(s.heap.push bP).push (b8 C s.heap.objs.size)}:=by
 have e1:(s.heap.push bP).get? s.heap.objs.size=some bP:=aK s.heap rfl
 have e2:((s.heap.push bP).push (b8 C s.heap.objs.size)).get? (s.heap.objs.size+1)=some (b8 C s.heap.objs.size):=by
  have:=aK (s.heap.push bP) (o:=b8 C s.heap.objs.size) rfl
  rwa [bX] at this
 have e3:(s.heap.push bP).Ns s.heap.objs.size (λ _=>none):=⟨bP,#[],_,e1,rfl,(λ e he=>absurd he (by simp)),λ _=>rfl⟩
 have I1:=I.laid (a:=s.heap.objs.size) (o:=.own (s.heap.objs.size+1)) (h':=s.heap.push bP) (t':=s.toks) (λ b u q=>ah _ q) (ay _) ⟨_,e1⟩;refine I1.laid (a:=s.heap.objs.size+1) (o:=.ins C s.heap.objs.size []) (t':=s.toks) (λ b u q=>ah _ q) (eB (bX _ _)) ?_;have ne:s.heap.objs.size≠s.heap.objs.size+1:=aO (cQ _);refine⟨by rw [e_ ne,eX],aP _,ne,e2,λ _=>none,(Heap.Ns1.of_empty e3).at λ o q=>ah _ q,λ _=>True.intro,λ y hy=>absurd rfl hy⟩
theorem Pk (hb:attributeBase e f env (eval e env)=eval e env)
  (h:wpAny (model prog w) A (eval e env) (λ o jL=>wpAny (model prog w) A (getAttr o f true) Q E jL) E s):wpAny (model prog w) A (eval (.Attribute e f pos) env) Q E s:=
 Attribute_any_ h (by rw [arm_eval_Attribute,hb])
end
def KY (K:aj) (ta:TE) (f:Str):TE:=λ σ H Q=>ta σ H λ x H1=>∃a C dx fs v,x = .ref a/\H1 a=some (.ins C dx fs)/\Df K C/\nr K C f/\fs.lookup f=some v/\Q v H1
def NY (K:aj) (ta tv:TE) (f:Str):TS:=λ D σ H=>tv σ H λ y H1=>ta σ H1 λ x H2=>∃a C dx fs,x = .ref a/\H2 a=some (.ins C dx fs)/\Df K C/\nr K C f/\fs.length<1000/\
 D.nx σ (upd H2 a (.ins C dx (nM f y fs)))
section
variable {X:Cx} {o e value:Expr} {f:Str} {pos pos' NH:Pos} {ta tv:TE}
theorem Rj (he:PE X e ta) (hb:attributeBase e f X.env (eval e X.env)=eval e X.env):PE X (.Attribute e f pos) (KY X.K ta f):=by
 intro pins s σ H Q I h;refine Pk hb (gU (he pins s σ H _ I h) λ u s1 zq=> ?_);obtain⟨x,H1,I1,rx,a,C,dx,fs,v,ex,ea,c,n,l,q⟩:=zq;subst ex;obtain rfl:u=Value.ref a:=rx;exact Gz I1 ea c n l λ u' s2 I2 ru=>⟨v,H1,I2,ru,q⟩
theorem QV (ha:PE X o ta) (hv:PE X value tv) (hs:swapsWith value (some (.Attribute o f pos')) pos.line X.env=pure false):PS X (.Assign [.Attribute o f pos'] value pos) (NY X.K ta tv f):=by
 intro pins s σ H D I h;refine plainObj_wpAny_Assign_Attribute (gU (hv pins s σ H _ I h) λ u s1 ⟨y,H1,I1,ry,q⟩=>gU (ha pins s1 σ H1 _ I1 q) λ ov s2 zq=> ?_) hs;obtain⟨x,H2,I2,rx,a,C,dx,fs,ex,ea,c,n,l,q2⟩:=zq;subst ex;obtain rfl:ov=Value.ref a:=rx;exact Fh I2 ea c n l ry λ s3 I3=>⟨σ,_,I3,q2⟩
end
section
variable {X:Cx} {pins:List (Addr×Obj)} {σ:St} {H:Hp} {s:Shared} {A:Around} {E:Value->Shared->Prop} {Q:Value->Shared->Prop} {c:Value} {b:Bool}
inductive vH (K:aj) (H:Hp):V->Value->Prop where
 | jv:vH K H .jv (.type "NoneType")
 | bl (x:Bool):vH K H (.bl x) (.type "bool")
 | int (i:Int):vH K H (.int i) (.type "int")
 | str (x:Str):vH K H (.str x) (.type "str")
 | Sy (x:UInt64):vH K H (.Sy x) (.type "float")
 | lst {a:Addr} {xs:List V} (e:H a=some (.lst xs)):vH K H (.ref a) (.type "list")
 | tH {a:Addr} {o:Obj} {xs:List V} (e:H a=some (.tH o (.lst xs))):vH K H (.ref a) (.type "list")
 | tup {a:Addr} {xs:List V} (e:H a=some (.tup xs)):vH K H (.ref a) (.type "tuple")
 | dK {a:Addr} {kvs:List (Key×V)} (e:H a=some (.dK kvs)):vH K H (.ref a) (.type "dict")
 | dT {a:Addr} {kvs:List (List Key×V)} (e:H a=some (.dT kvs)):vH K H (.ref a) (.type "dict")
 | ins {a C dx:Addr} {fs:List (Str×V)} (e:H a=some (.ins C dx fs)) (cl:Df K C) (ha:bp K (.ref C) "__class__" = some (some (.builtin "object.__class__")))
   (hn:PySem.W.specialIn K (.builtin "object.__class__") "__get__" = some (some (.builtin "getset_descriptor.__get__"))) (Ā:PySem.W.takesIn K (.builtin "object.__class__")=some true)
   (hm:PySem.W.mroIn K C (.type "object")=some true):vH K H (.ref a) (.ref C)
theorem JH (I:Inv X pins σ H s) (rx:RelV x u) (ty:vH X.K H x t) (e:cx X.K t c=some b) (h:∀tk,Q (.bool b) {s with toks:=tk}) :
  wpAny (model X.prog X.w) A (call (.builtin "isinstance") [u,c]) Q E s:=by
 cases ty with
 | jv=>cases (show u=Value.none from rx);exact bM PySem.W.kitx_none I.wZ True.intro e (λ z=>nomatch z) h
 | bl y=>cases (show u=Value.bool y from rx);exact bM PySem.W.kitx_bool I.wZ True.intro e (λ z=>nomatch z) h
 | int i=>obtain⟨t,q⟩:=(show ∃t,u=Value.int i t from rx);cases q;exact bM PySem.W.kitx_int I.wZ True.intro e (λ z=>nomatch z) h
 | str y=>obtain⟨t,q⟩:=(show ∃t,u=Value.str y t from rx);cases q;exact bM PySem.W.kitx_str I.wZ True.intro e (λ z=>nomatch z) h
 | Sy y=>obtain⟨t,q⟩:=(show ∃t,u=Value.float y t from rx);cases q;exact bM PySem.W.kitx_float I.wZ True.intro e (λ z=>nomatch z) h
 | @lst a xs ea=>
  cases (show u=Value.ref a from rx);obtain⟨_,_,n,_,h1⟩:=(show ig X.prog X.w H s.heap a (.lst xs) from I.gJ a _ ea)
  exact bM PySem.W.kitx_list I.wZ ⟨_,h1,rfl⟩ e (λ z=>nomatch z) h
 | @tH a ob xs ea=>
  cases (show u=Value.ref a from rx);obtain⟨_,_,_,n,_,h1⟩:=(show ig X.prog X.w H s.heap a (.tH ob (.lst xs)) from I.gJ a _ ea)
  exact bM PySem.W.kitx_list I.wZ ⟨_,h1,rfl⟩ e (λ z=>nomatch z) h
 | @tup a xs ea=>
  cases (show u=Value.ref a from rx);obtain⟨_,_,_,p⟩:=(show ig X.prog X.w H s.heap a (.tup xs) from I.gJ a _ ea)
  obtain⟨o,h1,h2,_⟩:=p;exact bM PySem.W.kitx_tuple I.wZ ⟨o,h1,h2⟩ e (λ z=>nomatch z) h
 | @dK a kvs ea=>
  cases (show u=Value.ref a from rx);obtain⟨_,_,vs,_,p⟩:=(show ig X.prog X.w H s.heap a (.dK kvs) from I.gJ a _ ea)
  obtain⟨o,es,ep,h1,h2,_⟩:=p;exact bM PySem.W.kitx_dict I.wZ ⟨o,h1,h2.1⟩ e (λ z=>nomatch z) h
 | @dT a kvs ea=>
  cases (show u=Value.ref a from rx);obtain⟨_,_,xs,_,o,es,ep,h1,h2,_⟩:=(show ig X.prog X.w H s.heap a (.dT kvs) from I.gJ a _ ea)
  exact bM PySem.W.kitx_dict I.wZ ⟨o,h1,h2.1⟩ e (λ z=>nomatch z) h
 | @ins a C dx fs ea cl ha hn Ā hm=>
  cases (show u=Value.ref a from rx);obtain⟨mA,O,_⟩:=xF I.gJ ea;obtain⟨od,J,_⟩:=O.look;exact bM (PySem.W.kitx_own (cl.get _) cl.hd ha hn Ā hm) I.wZ J e (λ z=>nomatch z) h
end
structure jd (k:Nat) (A:Around):Prop where
 hd:A.handled=none
 dp:A.depth+3*k+5<recursionLimit
 un:A.units+16*k+200<cLine
theorem jd.mono (r:jd k A) (h:j<=k):jd j A:=⟨r.hd,by have:=r.dp;lia,by have:=r.un;lia⟩
theorem jd.deeper (r:jd (k+1) A) (env:Env):jd k (A.deeper env):=
 ⟨r.hd,by have:=r.dp;show A.depth+1+3*k+5<_;exact Qan this,by have:=r.un;show A.units+3+16*k+200<_;lia⟩
theorem Gg {A:Around} {C:Addr} {us:List Value} {kw:List (Str×Value)}:(A.under (.builtin "type.__call__" ⟨.ref C::us,kw⟩)).depth=A.depth+1:=by
 first|rfl|simp [Around.under,Code.weight,Code.isCreation,Code.isGuard,Code.isCaller,Code.frames,Code.isFrame,guardIds]
theorem Gf {A:Around} {C:Addr} {us:List Value} {kw:List (Str×Value)}:(A.under (.builtin "type.__call__" ⟨.ref C::us,kw⟩)).units=A.units+1:=by
 first|rfl|simp [Around.under,Code.cUnits,Code.frames,Code.isFrame]
theorem jd.make (r:jd (k+1) A) (C:Addr) (us:List Value) (kw:List (Str×Value)):jd k (A.under (.builtin "type.__call__" ⟨.ref C::us,kw⟩)):=
 ⟨r.hd,by have:=r.dp;rw [Gg];exact Qan this,by have:=r.un;rw [Gf];lia⟩
theorem jd.depth (r:jd k A):A.depth<recursionLimit:=by have:=r.dp;lia
theorem jd.units (r:jd k A):A.units+64<cLine:=by have:=r.un;lia
def zR:TA:=λ _ H Q=>Q [] H
def Dr (ta:TE) (tr:TA):TA:=λ σ H Q=>ta σ H λ x H1=>tr σ H1 λ xs H2=>Q (x::xs) H2
section
variable {X:Cx} {e:Expr} {es:List Expr} {te:TE} {t:TA} {pos:Pos}
theorem Fz:PA X [] zR:=λ _ _ _ _ H Q I h=>Calls.spliced_nil ⟨[],H,I,.nil,h⟩
theorem B3 (ha:PE X e te) (hr:PA X es t) (hs:starEach (e::es) X.env=(false,eval e X.env)::starEach es X.env:=by rfl):PA X (e::es) (Dr te t):=by
 intro pos pins s σ H Q I h;rw [hs];show wpAny _ _ (spliced ((false,eval e X.env)::backTo pos (starEach es X.env))) _ _ s;refine Calls.spliced_cons (gU (ha pins s σ H _ I h) λ u s1 zq=> ?_);obtain⟨x,H1,I1,r1,q1⟩:=zq;exact gU (hr pos pins s1 σ H1 _ I1 q1) λ us s2 ⟨xs,H2,I2,r2,q2⟩=>⟨x::xs,H2,I2,.cons r1 r2,q2⟩
def NJ (t:TA):TE:=λ σ H Q=>t σ H λ xs H1=>xs.length<=sizeLine/\∀p,H1 p=none->Q (.ref p) (upd H1 p (.tup xs))
def NN (t:TA):TE:=λ σ H Q=>t σ H λ xs H1=>xs.length<=sizeLine/\∀p,H1 p=none->Q (.ref p) (upd H1 p (.lst xs))
theorem Q8 {x1} (h:PA X es t):PE X (.Tuple es x1 pos) (NJ t):=by
 intro pins s σ H Q I hq;refine wpAny_Tuple_spliced (gU (h pos pins s σ H _ I hq) λ us s1 ⟨xs,H1,I1,r,z,q⟩=>⟨by rwa [<-r.length],?_⟩);have hf:H1 s1.heap.objs.size=none:=I1.gJ.fresh (ay _);refine⟨.ref s1.heap.objs.size,upd H1 s1.heap.objs.size (.tup xs),I1.laid (t':=s1.toks) (λ b u e=>ah _ e) (ay _) ?_,rfl,q _ hf⟩;exact⟨z,us,r,⟨_,aK _ rfl,rfl,_,rfl⟩⟩
theorem LA (h:PA X es t):PE X (.List es pos) (NN t):=by
 intro pins s σ H Q I hq;refine wpAny_List_spliced (gU (h pos pins s σ H _ I hq) λ us s1 ⟨xs,H1,I1,r,z,q⟩=>⟨by rwa [<-r.length],?_⟩);have hf:H1 s1.heap.objs.size=none:=I1.gJ.fresh (ay _);refine⟨.ref s1.heap.objs.size,upd H1 s1.heap.objs.size (.lst xs),I1.laid (t':=s1.toks) (λ b u e=>ah _ e) (ay _) ?_,rfl,q _ hf⟩;exact⟨z,us,0,r,aK _ rfl⟩
end
abbrev Sp:=List V->Hp->VK->XK->Prop
abbrev G6:=List Env->Hp->Shared->XK->Value->Shared->Prop
structure G5 (P:Program) (w:World) (K:aj) (mg:Str->Option Value) (base:Heap) (A:Around) (outer:List Env) (s:Shared) (H:Hp):Prop where
 frames:A.frames=some outer
 mod:Mod K mg base
 bs:∀b o,base.get? b=some o->s.heap.get? b=some o/\H b=none
 MV:base.objs.size<=s.heap.objs.size
 w_:s.heap.FunFrames base outer
 Sx:∀b∈uP outer,H b=none
 gJ:rA P w H s.heap
 bare:AllBare s.gens
def CE (outer:List Env) (P:Program) (w:World) (H:Hp) (s:Shared) (Q:VK) (u:Value) (s':Shared):Prop:=
 ∃v H',s'.os=s.os/\AllBare s'.gens/\Un (uP outer) [] H H' s.heap s'.heap/\rA P w H' s'.heap/\RelV v u/\Q v H'
def CR (CX:G6) (outer:List Env) (P:Program) (w:World) (H:Hp) (s:Shared) (Q:VK) (E:XK) (r:Result) (s':Shared):Prop:=
 match r with
 | .ok (.ret u)=>CE outer P w H s Q u s'
 | .ok _=>False
 | .error e=>CX outer H s E e s'
structure f_ (P:Program) (w:World) (K:aj) (mg:Str->Option Value) (base:Heap) (CX:G6) (k:Nat) (f:Addr) (fd:FuncData) (ps:List Str) (sp:Sp):Prop where
 len:∀vs H Q E,sp vs H Q E->vs.length=ps.length
 run:∀(A:Around) (outer:List Env) (s:Shared) (H:Hp) (args:Args) (us:List Value) (vs:List V) (Q:VK) (E:XK),jd k A->G5 P w K mg base A outer s H->BindsTo s fd args (ps.zip us)->Vals vs us->sp vs H Q E->
  codeAny (model P w) A (.call (.ref f) args) (CR CX outer P w H s Q E) s
theorem f_.mono {P:Program} {w:World} {K:aj} {mg:Str->Option Value} {base:Heap} {CX:G6} {j k:Nat} {f:Addr} {fd:FuncData} {ps:List Str} {sp:Sp} (F:f_ P w K mg base CX j f fd ps sp) (h:j<=k) :
  f_ P w K mg base CX k f fd ps sp:=⟨F.len,λ A outer s H args us vs Q E hr=>F.run A outer s H args us vs Q E (hr.mono h)⟩
theorem G5.make {P:Program} {w:World} {K:aj} {mg:Str->Option Value} {base:Heap} {A:Around} {outer:List Env} {s:Shared} {H:Hp} (e:G5 P w K mg base A outer s H) (C:Addr) (us:List Value) (kw:List (Str×Value)) :
  G5 P w K mg base (A.under (.builtin "type.__call__" ⟨.ref C::us,kw⟩)) outer s H:=⟨by first|exact e.frames|(simpa [Around.under,Code.envs,Code.isFrame,pushEnvs] using e.frames),e.mod,e.bs,e.MV,e.w_,e.Sx,e.gJ,e.bare⟩
section
variable {X:Cx} {pins:List (Addr×Obj)} {σ:St} {H:Hp} {s s':Shared}
theorem Inv.Vo (I:Inv X pins σ H s):G5 X.prog X.w X.K X.mg X.base X.A X.stack s H:=
 ⟨I.ok.frames,I.ok.mod,I.bs,bj I.ok.MV I.sz,I.stack,I.xw,I.gJ,I.bare⟩
theorem Inv.after (I:Inv X pins σ H s) (h:CE X.stack X.prog X.w H s Q u s'):EP X pins σ Q u s':=by
 obtain⟨v,H',os,bare,un,gJ,r,q⟩:=h;obtain⟨hh,g,d,t,Υ⟩:=s';obtain rfl:Υ=s.os:=os;exact⟨v,H',I.call (h':=hh) (g':=g) (d':=d) (t':=t) (ch:= []) un gJ bare (λ b z=>absurd z (by simp)),r,q⟩
end
def Ds (sp:Sp) (uk:List V) (E:XK) (t:TA):TE:=λ σ H Q=>t σ H λ vs H1=>sp (vs++uk) H1 Q E
def rD (C:Addr) (m:Str) (sp:Sp) (uk:List V) (E:XK) (ta:TE) (t:TA):TE:=λ σ H Q=>ta σ H λ x H1=>∃a dx fs,x = .ref a/\H1 a=some (.ins C dx fs)/\fs.lookup m=none/\
 t σ H1 λ vs H2=>sp (x::(vs++uk)) H2 Q E
def He (C:Addr) (sp:Sp) (uk:List V) (E:XK) (t:TA):TE:=λ σ H Q=>t σ H λ vs H1=>∀x dx,H1 x=none->H1 dx=none->dx≠x->
 sp (.ref x::(vs++uk)) (upd (upd H1 dx (.own x)) x (.ins C dx [])) (λ v H2=>v = .jv/\Q (.ref x) H2) E
def Binds (K:aj) (fd:FuncData) (ps:List Str) (ds:List Value):Prop:=
 ∀(s:Shared) (us:List Value),K.In s.heap->(us++ds).length=ps.length->BindsTo s fd ⟨us,[]⟩ (ps.zip (us++ds))
theorem Binds.all {K:aj} {fd:FuncData} {ps:List Str} (h:∀us:List Value,us.length=ps.length->bindArgs fd ⟨us,[]⟩=pure (ps.zip us)):Binds K fd ps []:=λ s us _ hl=>by
 rw [bK] at hl⊢;exact .of_eq (h us hl)
def Passes (CX:G6) (X:Cx) (E:XK):Prop:=∀(pins:List (Addr×Obj)) (σ:St) (H:Hp) (s:Shared) (e:Value) (s':Shared),Inv X pins σ H s->CX X.stack H s E e s'->X.xe e s'
section
variable {X:Cx} {CX:G6} {k:Nat} {f C:Addr} {fd:FuncData} {ps:List Str} {sp:Sp} {uk:List V} {ds:List Value} {E:XK} {x m:Str} {p pos apos:Pos} {e o:Expr} {es:List Expr} {ta:TE} {t:TA}
theorem Fs (F:f_ X.prog X.w X.K X.mg X.base CX k f fd ps sp) (hr:jd k X.A) (hb:Binds X.K fd ps ds) (hd:Vals uk ds) (hx:Passes CX X E)
  (I:Inv X pins σ H s) (r:Vals vs us) (h:sp (vs++uk) H Q E):wpAny (model X.prog X.w) X.A (call (.ref f) us) (EP X pins σ Q) X.xe s:=by
 have r2:Vals (vs++uk) (us++ds):=r.append hd;have hl:(us++ds).length=ps.length:=by rw [<-r2.length];exact F.len _ _ _ _ h
 refine wpAny_call (codeAny_mono (F.run X.A X.stack s H ⟨us,[]⟩ (us++ds) (vs++uk) Q E hr I.Vo (hb s us I.wZ hl) r2 h) λ r s' hq=> ?_)
 cases r with
 | error e=>exact hx pins σ H s e s' I hq
 | ok fl=>
  cases fl with
  | ret u=>exact I.after hq
  | next=>exact False.elim hq
  | brk=>exact False.elim hq
  | cont=>exact False.elim hq
theorem Ou (F:f_ X.prog X.w X.K X.mg X.base CX k f fd ps sp) (hr:jd k X.A) (hg:Gl X x) (hm:X.mg x=some (.ref f)) (hk:ck X.K (.ref f)=true) (hb:Binds X.K fd ps ds) (hd:Vals uk ds) (hx:Passes CX X E)
  (ha:PA X (e::es) t) (Em:(x==("__debug__" : Str))=false:=by decide) (he:starEach (e::es) X.env=(false,eval e X.env)::starEach es X.env:=by rfl) (xG:(backTo pos (starEach es X.env)).any (·.1)=false:=by rfl) :
  PE X (.Call (.Name x p) (e::es) [] pos) (Ds sp uk E t):=by
 intro pins s σ H Q I h;refine wpAny_Call_Name_kw (xC I hg hm ?_ Em);refine PySem.W.callWith_K (h₀:=X.base) I.ok.mod.RP hk (gU (ha pos pins s σ H _ I h) λ us s1 ⟨vs,H1,I1,r,q⟩=>⟨I1.wZ,?_⟩) he xG;exact Fs F hr hb hd hx I1 r q
theorem Hy (he:PE X o ta) (c:Df X.K C) (hm:Meth X.K C m f) (F:f_ X.prog X.w X.K X.mg X.base CX k f fd ps sp) (hr:jd k X.A) (hb:Binds X.K fd ps ds) (hd:Vals uk ds) (hx:Passes CX X E) (ha:PA X (e::es) t)
  (pM:starEach (e::es) X.env=(false,eval e X.env)::starEach es X.env:=by rfl) (xG:(backTo pos (starEach es X.env)).any (·.1)=false:=by rfl)
  (ht:eval (.Call (.Attribute o m apos) (e::es) [] pos) X.env=(do
   let ov <-eval o X.env
   standAt apos.atName
   let (f,first) <-holding [ov] (getMethod ov m pl)
   callWith pos f first (backTo pos (starEach (e::es) X.env)) (backToKw pos (keywordEach [] X.env))):=by rfl) :
  PE X (.Call (.Attribute o m apos) (e::es) [] pos) (rD C m sp uk E ta t):=by
 intro pins s σ H Q I h;refine PySem.W.methodCall_KW (pl:=pl) (gU (he pins s σ H _ I h) λ u s1 zq=> ?_) ht;obtain⟨x,H1,I1,rx,a,dx,fs,ex,ea,l,q⟩:=zq;subst ex;obtain rfl:u=Value.ref a:=rx;refine yU I1 ea c hm l ?_;refine PySem.W.callWith_K (first:= [.ref a]) (h₀:=X.base) I.ok.mod.RP hm.kp (gU (ha pos pins s1 σ H1 _ I1 q) λ us s2 ⟨vs,H2,I2,r,q2⟩=>⟨I2.wZ,?_⟩) pM xG;exact Fs (us:=.ref a::us) (vs:=.ref a::vs) F hr hb hd hx I2 (.cons rfl r) q2
theorem Ly (he:PE X o ta) (c:Df X.K C) (hm:Meth X.K C m f) (F:f_ X.prog X.w X.K X.mg X.base CX k f fd ps sp) (hr:jd k X.A) (hb:Binds X.K fd ps ds) (hd:Vals uk ds) (hx:Passes CX X E)
  (ht:eval (.Call (.Attribute o m apos) [] [] pos) X.env=(do
   let ov <-eval o X.env
   standAt apos.atName
   let (f,first) <-holding [ov] (getMethod ov m pl)
   callWith pos f first (backTo pos (starEach [] X.env)) (backToKw pos (keywordEach [] X.env))):=by rfl) :
  PE X (.Call (.Attribute o m apos) [] [] pos) (rD C m sp uk E ta zR):=by
 intro pins s σ H Q I h;refine PySem.W.methodCall_KW (pl:=pl) (gU (he pins s σ H _ I h) λ u s1 zq=> ?_) ht;obtain⟨x,H1,I1,rx,a,dx,fs,ex,ea,l,q⟩:=zq;subst ex;obtain rfl:u=Value.ref a:=rx;refine yU I1 ea c hm l ?_;exact PySem.W.callWith_K0 (first:= [.ref a]) I1.wZ hm.kp (Fs (us:= [.ref a]) (vs:= [.ref a]) F hr hb hd hx I1 (.cons rfl .nil) q)
structure Mk (K:aj) (C f:Addr):Prop where
 makes:dI K C=true
 init:bp K (.ref C) "__init__" = some (some (.ref f))
 fn:dE K (.ref f)=true
 kp:ck K (.ref C)=true
theorem Ld (M:Mk X.K C f) (F:f_ X.prog X.w X.K X.mg X.base CX k f fd ps sp) (hr:jd (k+1) X.A) (hb:Binds X.K fd ps ds) (hd:Vals uk ds)
  (hx:Passes CX X E) (I:Inv X pins σ H s) (r:Vals vs us)
  (h:∀x dx,H x=none->H dx=none->dx≠x->sp (.ref x::(vs++uk)) (upd (upd H dx (.own x)) x (.ins C dx [])) (λ v H2=>v = .jv/\Q (.ref x) H2) E) :
  wpAny (model X.prog X.w) X.A (call (.ref C) us) (EP X pins σ Q) X.xe s:=by
 have hq:=h (s.heap.objs.size+1) s.heap.objs.size (I.gJ.fresh (cf _)) (I.gJ.fresh (ay _)) (aO (cQ _));have I2:=Inv.made (C:=C) I;have r2:Vals (V.ref (s.heap.objs.size+1)::(vs++uk)) (Value.ref (s.heap.objs.size+1)::(us++ds)):=.cons rfl (r.append hd)
 have hl:(Value.ref (s.heap.objs.size+1)::us++ds).length=ps.length:=by
  have e:=r2.length;rw [F.len _ _ _ _ hq] at e;exact e.symm
 refine wpAny_call (L7 (f:=f) I.wZ M.makes M.init (beq_iff_eq.mp M.fn) (codeAny_mono (F.run _ X.stack _ _ ⟨Value.ref (s.heap.objs.size+1)::us,[]⟩ (Value.ref (s.heap.objs.size+1)::(us++ds)) _ _ E (hr.make C us [])
  (I2.Vo.make C us []) (hb _ (Value.ref (s.heap.objs.size+1)::us) I2.wZ hl) r2 hq) λ r s' U1=> ?_))
 cases r with
 | error e=>exact hx pins σ _ _ e s' I2 U1
 | ok fl=>
  cases fl with
  | ret u=>
   obtain⟨v,H',I3,rv,ev,q3⟩:=I2.after U1;subst ev;exact⟨rv,⟨V.ref (s.heap.objs.size+1),H',I3,rfl,q3⟩⟩
  | next=>exact False.elim U1
  | brk=>exact False.elim U1
  | cont=>exact False.elim U1
theorem Lz (M:Mk X.K C f) (F:f_ X.prog X.w X.K X.mg X.base CX k f fd ps sp) (hr:jd (k+1) X.A) (hg:Gl X x) (hm:X.mg x=some (.ref C)) (hb:Binds X.K fd ps ds) (hd:Vals uk ds) (hx:Passes CX X E)
  (Em:(x==("__debug__" : Str))=false:=by decide):PE X (.Call (.Name x p) [] [] pos) (He C sp uk E zR):=by
 intro pins s σ H Q I h;refine wpAny_Call_Name_kw (xC I hg hm ?_ Em);exact PySem.W.callWith_K0 I.wZ M.kp (Ld (us:= []) M F hr hb hd hx I .nil h)
end
section
variable {X:Cx} {CX:G6} {k:Nat} {f C:Addr} {fd:FuncData} {ps ks:List Str} {sp:Sp} {E:XK} {x m:Str} {p pos apos aaa:Pos} {e o:Expr} {es:List Expr} {kws:List Keyword} {te ta:TE} {t tk:TA} {nm:Option Str}
variable {g:List Value->List Value->List Value} {gV:List V->List V->List V}
end
structure fG (N P:List Str) (sc:Scope):Prop where
 kind:sc.kind = .function
 co:sc.isCoroutine=false
 gen:sc.isGenerator=false
 nd:N.Nodup
 pre:N.take P.length=P
 par:∀x∈P,sc.names.lookup x=some .local\/sc.names.lookup x=some .cell
 RC:∀y∈sc.names,y.2≠.free
theorem Bi {kindOf:Str->Option NameKind} {x:Str}:∀{binds:List (Str×Value)} {m:Str->Option Value},(∀v,(x,v)∉binds)->bindL kindOf binds m x=m x
 | [],_,_=>rfl
 | (n,v)::r,m,h=>by
  unfold bindL;rw [Bi λ w hw=>h w (az _ hw)]
  split
  .have:x≠n:=by rintro rfl;exact h v aZ
   simp [this]
  .rfl
theorem Bk {kindOf:Str->Option NameKind} {x:Str}:∀{binds:List (Str×Value)} {m:Str->Option Value},(∀v,(x,v)∉binds)->bindC kindOf binds m x=m x
 | [],_,_=>rfl
 | (n,v)::r,m,h=>by
  unfold bindC;rw [Bk λ w hw=>h w (az _ hw)]
  split
  .rfl
  .have:x≠n:=by rintro rfl;exact h v aZ
   simp [this]
theorem Bj {kindOf:Str->Option NameKind} {x:Str} {v:Value}:∀{P:List Str} {vs:List Value} {i:Nat} {m:Str->Option Value},P.Nodup->P[i]? = some x->vs[i]? = some v->kindOf x=some .local->
  bindL kindOf (P.zip vs) m x=some v
 | [],_,_,_,_,h,_,_=>by simp at h
 | _::_,[],_,_,_,_,h,_=>by simp at h
 | p::P,w::vs,0,m,nd,h1,h2,hk=>by
  simp at h1 h2;subst h1;subst h2;show bindL kindOf ((p,w)::P.zip vs) m p=_;unfold bindL;rw [Bi λ v hv=>(aY.mp nd).1 (dJ hv).1,if_pos hk];simp
 | p::P,w::vs,i+1,m,nd,h1,h2,hk=>by
  show bindL kindOf ((p,w)::P.zip vs) m x=_;unfold bindL;exact Bj (i:=i) (aY.mp nd).2 (by simpa using h1) (by simpa using h2) hk
theorem Bl {kindOf:Str->Option NameKind} {x:Str} {v:Value}:∀{P:List Str} {vs:List Value} {i:Nat} {m:Str->Option Value},P.Nodup->P[i]? = some x->vs[i]? = some v->kindOf x≠some .local->
  bindC kindOf (P.zip vs) m x=some v
 | [],_,_,_,_,h,_,_=>by simp at h
 | _::_,[],_,_,_,_,h,_=>by simp at h
 | p::P,w::vs,0,m,nd,h1,h2,hk=>by
  simp at h1 h2;subst h1;subst h2;show bindC kindOf ((p,w)::P.zip vs) m p=_;unfold bindC;rw [Bk λ v hv=>(aY.mp nd).1 (dJ hv).1,if_neg hk];simp
 | p::P,w::vs,i+1,m,nd,h1,h2,hk=>by
  show bindC kindOf ((p,w)::P.zip vs) m x=_;unfold bindC;exact Bl (i:=i) (aY.mp nd).2 (by simpa using h1) (by simpa using h2) hk
def start (N:List Str) (vs:List V):St:=vs.map some++List.replicate (N.length-vs.length) none
def ze (CX:G6) (P:Program) (w:World) (K:aj) (mg:Str->Option Value) (base:Heap) (N:List Str) (qual:Str) (scope:Scope) (f:Addr) (cd:Value) (A:Around) (outer:List Env) (s:Shared) (H:Hp) (E:XK):Cx where
 prog:=P
 w:=w
 K:=K
 mg:=mg
 base:=base
 A:=A.deeper (envOfC qual scope s.heap.objs.size f cd)
 N:=N
 jj:=s
 kZ:=H
 env:=envOfC qual scope s.heap.objs.size f cd
 outer:=outer
 stack:=envOfC qual scope s.heap.objs.size f cd::outer
 ex:= []
 calm:=true
 fn:=λ _=>true
 pn:= []
 xe:=λ e s'=>wpAny (model P w) (A.deeper (envOfC qual scope s.heap.objs.size f cd)) (leaving (envOfC qual scope s.heap.objs.size f cd) e) (λ _ QE=>CX outer H s E e QE) (λ e' QE=>CX outer H s E e' QE) s'
theorem EA {sc:Scope} {n:Nat} {x:Str} (h:sc.names.lookup x=some .cell):∃c,(cellsFrom n sc.names []).lookup x=some c:=by
 have q:=PySem.W.cellsFrom_some sc.names n [] (.inl h);exact Option.isSome_iff_exists.mp q
theorem JI {CX:G6} {P:Program} {w:World} {K:aj} {mg:Str->Option Value} {base:Heap} {N ps:List Str} {qual:Str} {scope:Scope} {f:Addr} {cd:Value} {A:Around} {outer:List Env} {s s1:Shared} {H:Hp} {E:XK} {us:List Value} {vs:List V}
  (S:fG N ps scope) (hd:A.handled=none) (e0:G5 P w K mg base A outer s H) (hl:vs.length=ps.length) (r:Vals vs us)
  (x:InCallC s s.heap.objs.size (bindL (envOfC qual scope s.heap.objs.size f cd).kindOf (ps.zip us) λ _=>none) (cellsFrom (s.heap.objs.size+1) scope.names []) (bindC (envOfC qual scope s.heap.objs.size f cd).kindOf (ps.zip us) λ _=>none) s1) :
  Inv (ze CX P w K mg base N qual scope f cd A outer s H E) [] (start N vs) H s1:=by
 have xG:ps.length<=N.length:=by have:=congrArg List.length S.pre;rw [aT] at this;lia
 obtain⟨h1,tk,rfl,hk⟩:=x.done;have UJ:∀b:Addr,b∉(ze CX P w K mg base N qual scope f cd A outer s H E).ex:=λ b z=>absurd (show b∈([]:List Addr) from z) (by simp)
 refine⟨⟨e0.mod,S.kind,rfl,rfl,ay _,λ y z c h1 h2=> ?_,λ y hy=> ?_,λ y c _ h=> ?_,λ _=>hd,Around.frames_deeper e0.frames,.inr ⟨rfl,rfl⟩,λ b z=>absurd z (UJ b),e0.bs,e0.MV,λ b _ _=>UJ b,λ b z=>absurd z (UJ b),e0.w_,e0.Sx⟩,
  rfl,e0.bare,Un.kept hk,⟨_,x.toInCall.ns,λ i y v h1 h2 h3=> ?_⟩,λ y c h=>⟨_,x.cell y c h⟩,e0.gJ.fresh (ay _),λ y c h=> ?_,λ p hp=>absurd (show p∈([]:List (Addr×Obj)) from hp) (by simp),e0.gJ.kept hk,?_⟩
 .exact name_of_addr x.apart (PySem.mem_of_lookup h1) (PySem.mem_of_lookup h2)
 .have hy:scope.names.lookup y=some .cell\/scope.names.lookup y=some .free:=hy;rcases hy with hy|hy
  .exact EA hy
  .exact absurd rfl (S.RC _ (PySem.mem_of_lookup hy))
 .exact dF (x.above y c (PySem.mem_of_lookup h))
 .have hi:i<vs.length:=by
   unfold start at h2;by_cases hi:i<vs.length
   .exact hi
   .rw [bt (by simpa using hi)] at h2;rw [List.getElem?_replicate] at h2
    split at h2<;>cases h2
  have ha:vs[i]? = some v:=by
   unfold start at h2;rw [aR (by simpa using hi),ak] at h2
   cases e:vs[i]? with
   | none=>rw [e] at h2;cases h2
   | some a=>rw [e] at h2;cases h2;rfl
  obtain⟨u,hu,rv⟩:=r.get ha
  have hp:ps[i]? = some y:=by
   rwa [<-S.pre,List.getElem?_take_of_lt (Za hi (Ze hl))]
  have ê:ps.Nodup:=by rw [<-S.pre];exact S.nd.sublist (eC _ _)
  refine⟨u,rv,?_⟩;rcases S.par y (ai hp) with k|k
  .exact .inl ⟨k,Bj ê hp hu k⟩
  .obtain⟨c,e⟩:=EA (n:=s.heap.objs.size+1) k;refine .inr ⟨.inl k,c,e,?_⟩;have q:=x.cell y c e;rw [Bl ê hp hu (by show scope.names.lookup y≠_;rw [k];decide)] at q;exact q
 .exact e0.gJ.fresh (dF (x.above y c (PySem.mem_of_lookup h)))
 .unfold start;show _=N.length;rw [aq,ae,List.length_replicate];lia
theorem Qe {CX:G6} {P:Program} {w:World} {K:aj} {mg:Str->Option Value} {base:Heap} {k:Nat} {f:Addr} {name qual:Str} {params:Arguments} {body:List Stmt} {scope:Scope} {dV kV doc pm ik ct oc:Value} {an od:Option Addr}
  {PL:Array (Option Value)} {N ps:List Str} {sp:Sp} (lk:K.lookup f=some ⟨oc,od,.func (cb name qual params body scope dV kV doc pm an ik ct),PL⟩) (Gx:dR K ik qual=true) (S:fG N ps scope)
  (len:∀vs H Q E,sp vs H Q E->vs.length=ps.length)
  (yS:∀(A:Around) (outer:List Env) (s:Shared) (H:Hp) (vs:List V) (Q:VK) (E:XK),jd k (A.deeper (envOfC qual scope s.heap.objs.size f ik))->sp vs H Q E->
   ∃t,xl (ze CX P w K mg base N qual scope f ik A outer s H E) body t/\t {nx:=λ _ H'=>Q .jv H',rt:=Q} (start N vs) H) :
  f_ P w K mg base CX (k+1) f (cb name qual params body scope dV kV doc pm an ik ct) ps sp:=by
 refine⟨len,λ A outer s H args us vs Q E hr e0 hb r JK=> ?_⟩;have hl:=len _ _ _ _ JK;have KX:K.In s.heap:=e0.mod.RP.keeps λ b o e=>(e0.bs b o e).1;have lim:s.heap.NoLimit:=e0.mod.nolimit.keeps λ b o e=>(e0.bs b o e).1
 have U_:∀y∈ps.zip us,scope.names.lookup y.1=some .local\/(scope.names.lookup y.1=some .cell/\((cellsFrom (s.heap.objs.size+1) scope.names []).lookup y.1).isSome=true):=λ ⟨n,v⟩ hy=>by
  rcases S.par n (dJ hy).1 with q|q
  .exact .inl q
  .exact .inr ⟨q,PySem.W.cellsFrom_some _ _ _ (.inl q)⟩
 refine codeAny_call_function hr.depth (KX _ _ lk) rfl S.co S.gen rfl (PySem.W.codeRec_of KX Gx) (hb _ _ _ _ ?_);refine wpAny_newFunctionEnv_cells S.kind U_ λ env he s1 x=> ?_;subst he;refine⟨lim.keeps x.toInCall.keep,codeAny_func ?_⟩;obtain⟨t,ht,hq⟩:=yS A outer s H vs Q E (hr.deeper _) JK;have I:Inv (ze CX P w K mg base N qual scope f ik A outer s H E) [] (start N vs) H s1:=JI S hr.hd e0 hl r x;refine wpAny_mono (ht [] s1 (start N vs) H _ I hq) (λ fl s' hs=> ?_) λ e s' hs=>hs
 have fin:∀{fT:St} {H':Hp} {v:V} {u:Value},Inv (ze CX P w K mg base N qual scope f ik A outer s H E) [] fT H' s'->RelV v u->Q v H'->CE outer P w H s Q u s':=
  λ {fT H' v u} J rv q=>⟨v,H',J.os,J.bare,J.base,J.gJ,rv,q⟩
 cases fl with
 | ret u=>
  obtain⟨v,fT,H',J,rv,q⟩:=hs;exact fin J rv q
 | next=>
  obtain⟨fT,H',J,q⟩:=hs;exact fin (v:=V.jv) (u:=Value.none) J rfl q
 | brk=>
  obtain⟨_,_,_,q⟩:=hs;exact False.elim q
 | cont=>
  obtain⟨_,_,_,q⟩:=hs;exact False.elim q
section
variable {X:Cx} {x:Str} {p pos:Pos} {e:Expr} {es:List Expr} {t:TA} {id T:String} {r:List V->Hp->VK->Prop}
def Tt (r:List V->Hp->VK->Prop) (t:TA):TE:=λ σ H Q=>t σ H λ vs H1=>r vs H1 Q
theorem LN (hc:kg X (.builtin id) r) (hg:Gl X x) (hm:X.mg x=none) (hv:bootBuiltins x=some (.builtin id)) (ha:PA X (e::es) t) (hn:x≠"__name__" := by decide) (Em:(x==("__debug__" : Str))=false:=by decide)
  (he:starEach (e::es) X.env=(false,eval e X.env)::starEach es X.env:=by rfl) (xG:(backTo pos (starEach es X.env)).any (·.1)=false:=by rfl):PE X (.Call (.Name x p) (e::es) [] pos) (Tt r t):=by
 intro pins s σ H Q I h;refine wpAny_Call_Name_kw (kT I hg hm hv ?_ hn Em);exact eD (gU (ha pos pins s σ H _ I h) λ us s1 ⟨vs,H1,I1,r1,q1⟩=>hc pins s1 σ H1 vs us Q I1 r1 q1) he xG
theorem Jm (hc:kg X (.type T) r) (hg:Gl X x) (hm:X.mg x=none) (hv:bootBuiltins x=some (.type T)) (ha:PA X (e::es) t) (hn:x≠"__name__" := by decide) (Em:(x==("__debug__" : Str))=false:=by decide)
  (he:starEach (e::es) X.env=(false,eval e X.env)::starEach es X.env:=by rfl) (xG:(backTo pos (starEach es X.env)).any (·.1)=false:=by rfl):PE X (.Call (.Name x p) (e::es) [] pos) (Tt r t):=by
 intro pins s σ H Q I h;refine wpAny_Call_Name_kw (kT I hg hm hv ?_ hn Em);exact bq (gU (ha pos pins s σ H _ I h) λ us s1 ⟨vs,H1,I1,r1,q1⟩=>hc pins s1 σ H1 vs us Q I1 r1 q1) he xG
end
end L2
namespace HT
open PySem PyProof.Rows
section
open PySem.SeqAt
open PySem.AutoSeq1 (wpAny_loadPart')
open PySem.MeetsSeq PySem.MeetsSeq2 PySem.MeetsSeq3
end
section
variable {prog:Program} {w:World} {A:Around} {E:Value->Shared->Prop} {s:Shared}
def jH (n d:Nat):Option Int->Nat
 | none=>d
 | some v=>if v<0 then (v+(n:Int)).toNat else min v.toNat n
theorem Lb (n d:Nat):jH n d none=d:=rfl
theorem NX (n d k:Nat):jH n d (some (k:Int))=min k n:=by
 show (if (k:Int)<0 then ((k:Int)+(n:Int)).toNat else min (k:Int).toNat n)=min k n;rw [if_neg (Yx Yt),au]
theorem QB (n d:Nat) (hd:d<=n) (o:Option Int):jH n d o<=n:=by
 cases o with
 | none=>exact hd
 | some v=>
  show (if v<0 then (v+(n:Int)).toNat else min v.toNat n)<=n;by_cases hv:v<0
  .rw [if_pos hv];lia
  .rw [if_neg hv];exact Nat.min_le_right _ _
theorem Ij (v:Int) (n d:Nat):(if v<0 then max (v+(n:Int)) 0 else min v (n:Int))=((jH n d (some v):Nat):Int):=by
 show (if v<0 then max (v+(n:Int)) 0 else min v (n:Int))=(((if v<0 then (v+(n:Int)).toNat else min v.toNat n):Nat):Int);by_cases hv:v<0
 .simp only [if_pos hv];lia
 .simp only [if_neg hv];lia
theorem GW (lo hi:Option Int) (n:Nat):Builtin.Slice.sliceAdjust lo hi 1 (n:Int)=(((jH n 0 lo:Nat):Int),((jH n n hi:Nat):Int)):=by
 have h1:¬((1:Int)<0):=by exact Yx (by decide)
 unfold Builtin.Slice.sliceAdjust;simp only [h1,if_false];refine Prod.ext ?_ ?_
 .cases lo with
  | none=>rfl
  | some v=>exact Ij v n 0
 .cases hi with
  | none=>rfl
  | some v=>exact Ij v n n
theorem Fy (i j:Nat):Builtin.Slice.slicePlaces (i:Int) (j:Int) 1=j-i:=by
 unfold Builtin.Slice.slicePlaces;have h1:(1:Int)>0:=by exact by decide
 simp only [h1,if_true,Int.ediv_one]
 split<;>lia
theorem ye (p:IsPart v o) (h:Q o s):wpAny (model prog w) A (Builtin.Slice.slicePartIndex v) Q E s:=by
 cases p with
 | none=>exact slicePart_none h
 | int i t=>exact slicePart_int h
theorem uU {sl:Addr} {vl vu:Value} {lo hi:Option Int} {n:Nat} {Q:Int×Int×Nat->Shared->Prop} (hs:s.heap.IsSliceOf sl vl vu .none) (pl:IsPart vl lo) (pu:IsPart vu hi)
  (h:Q (((jH n 0 lo:Nat):Int),1,jH n n hi-jH n 0 lo) s):wpAny (model prog w) A (Builtin.Slice.sliceApplied (.ref sl) (pure (n:Int))) Q E s:=by
 obtain⟨os,U3,ĕ,Wv⟩:=id hs;unfold Builtin.Slice.sliceApplied Builtin.Slice.sliceFields;refine wpAny_bind (wpAny_bind (wpAny_field U3 Wv (x:=vl) rfl (wpAny_bind (wpAny_field U3 Wv (x:=vu) rfl (wpAny_bind (wpAny_field U3 Wv (x:=.none) rfl (wpAny_pure ?_)))))));refine wpAny_bind (slicePart_none ?_);show wpAny _ _ (if ((1:Int)==0)=true then _ else _) _ _ s;rw [if_neg (by decide)];refine wpAny_bind (ye pl (wpAny_bind (ye pu (wpAny_bind (wpAny_pure ?_)))));show wpAny _ _ (match Builtin.Slice.sliceAdjust lo hi 1 (n:Int) with|(lo,hi)=>pure (lo,(1:Int),Builtin.Slice.slicePlaces lo hi 1)) _ _ s;rw [GW lo hi n];show wpAny _ _ (pure (((jH n 0 lo:Nat):Int),(1:Int),Builtin.Slice.slicePlaces ((jH n 0 lo:Nat):Int) ((jH n n hi:Nat):Int) 1)) _ _ s;rw [Fy];exact wpAny_pure h
theorem Lu (xs:Array Value) (i k:Nat):((List.range k).filterMap λ (m:Nat)=>xs[((i:Int)+(m:Int)*1).toNat]?).toArray=((xs.toList.drop i).take k).toArray:=by
 have e:(λ (m:Nat)=>xs[((i:Int)+(m:Int)*1).toNat]?)=λ m=>xs[i+m]? := by
  funext m
  have:((i:Int)+(m:Int)*1).toNat=i+m:=by exact (Nat.add_assoc _ _ _).symm
  rw [this]
 rw [e];have:=pick_run xs i k;rw [List.filterMap_map] at this;have e2:((λ x=>xs[x]?)∘λ x=>i+x)=λ m=>xs[i+m]? := rfl;rw [e2] at this;rw [this]
theorem ui {t sl:Addr} {items:Array Value} {vl vu:Value} {lo hi:Option Int} {Q:Value->Shared->Prop} (ht:IsTup s.heap t items) (hs:s.heap.IsSliceOf sl vl vu .none) (pl:IsPart vl lo) (pu:IsPart vu hi)
  (hw:¬(jH items.size 0 lo=0/\jH items.size items.size hi=items.size))
  (h:Q (.ref s.heap.objs.size) {s with heap:=s.heap.push {cls:=.type "tuple",data:=.seq ((items.toList.drop (jH items.size 0 lo)).take (jH items.size items.size hi-jH items.size 0 lo)).toArray}})
  (hsz:items.size<=sizeLine):wpAny (model prog w) A (getItem (.ref t) (.ref sl)) Q E s:=by
 have HR:sizeOk (.seq ((items.toList.drop (jH items.size 0 lo)).take (jH items.size items.size hi-jH items.size 0 lo)).toArray):=by
  show ((items.toList.drop (jH items.size 0 lo)).take (jH items.size items.size hi-jH items.size 0 lo)).toArray.size<=sizeLine;rw [aM,aT,eJ,bD];omega
 have hj:jH items.size items.size hi<=items.size:=QB _ _ (ay _) hi;obtain⟨os,U3,ĕ,Wv⟩:=id hs;have hTs:s.TypeIs (.ref sl) "slice" := ⟨os,U3,ĕ⟩
 unfold getItem
 try with_reducible refine wpAny_holding ?_
 first|refine wpAny_bind (wpAny_pure ?_)|skip
 refine wpAny_bind (wpAny_sequenceKey ht.typeIs (by decide) ?_)
 refine wpAny_bind (wpAny_callSpecial?_slot (name:=Str.ofString "__getitem__") ht.typeIs cL
  (wpAny_call_entry cL ht.typeIs entry_tuple_getitem ?_ (args_tuple_getitem _ _)))
 show wpAny _ _ (Builtin.Tuple.tupleItemsOf (.ref t) >>= _) _ _ s;refine wpAny_bind (tupleItemsOf_ ht ?_);refine wpAny_bind (wpAny_typeOf hTs ?_);rw [if_pos (by decide)];refine wpAny_bind (uU hs pl pu ?_)
 have YI:¬((((jH items.size 0 lo:Nat):Int)==0&&(1:Int)==1&&(jH items.size items.size hi-jH items.size 0 lo)==items.size)=true):=by
  intro q;rw [bg,bg] at q;have q1:((jH items.size 0 lo:Nat):Int)=0:=eq_of_beq q.1.1;have q2:jH items.size items.size hi-jH items.size 0 lo=items.size:=eq_of_beq q.2;exact hw ⟨Int.ofNat.inj q1,Zq hj (Zc (Zg q2) Zu)⟩
 show wpAny _ _ (if (((jH items.size 0 lo:Nat):Int)==0&&(1:Int)==1&&(jH items.size items.size hi-jH items.size 0 lo)==items.size)=true then _ else _) _ _ s;rw [if_neg YI,Lu]
 first
  | exact wpAny_bind (m:=Builtin.Tuple.tupleExact _) (wpAny_newObj_type (wpAny_pure ⟨_,rfl,wpAny_pure h⟩) HR)
  | exact wpAny_bind (m:=Builtin.Tuple.tupleExact _) (wpAny_newObj_type (wpAny_bind (wpAny_pure (wpAny_pure ⟨_,rfl,wpAny_pure h⟩))) HR)
  | exact wpAny_bind (wpAny_bind (m:=Builtin.Tuple.tupleExact _) (wpAny_newObj_type (wpAny_pure (wpAny_pure ⟨_,rfl,wpAny_pure h⟩)) HR))
  | exact wpAny_bind (wpAny_bind (m:=Builtin.Tuple.tupleExact _) (wpAny_newObj_type (wpAny_pure ⟨_,rfl,wpAny_pure h⟩) HR))
end
end HT
namespace L2
open PySem PySem.Spec PyProof.Rows
abbrev TO:=St->Hp->(Option Int->Hp->Prop)->Prop
def PO (X:Cx) (e:Option Expr) (t:TO):Prop:=
 ∀(pins:List (Addr×Obj)) (s:Shared) (σ:St) (H:Hp) (Q:Option Int->Hp->Prop),Inv X pins σ H s->t σ H Q->
  wpAny (model X.prog X.w) X.A (evalPart e X.env) (λ u s'=>∃o H',Inv X pins σ H' s'/\IsPart u o/\Q o H') X.xe s
def xu:TO:=λ _ H Q=>Q none H
def Ha (t:TE):TO:=λ σ H Q=>t σ H λ x H1=>∃i,x = .int i/\Q (some i) H1
theorem intsAre_of:∀{us:List Value},Vals (ns.map V.int) us->IntsAre us ns:=by
 induction ns with
 | nil=>intro us r;rw [bu] at r;cases r;exact .nil
 | cons n ns ih=>
  intro us r;rw [aD] at r
  cases r with
  | cons r1 r2=>
   obtain⟨t,e⟩:=r1;subst e;exact .cons n t (ih r2)
section
variable {X:Cx} {e:Expr} {te:TE} {lo hi:Option Expr} {tl th:TO} {pos p2:Pos}
theorem Oe:PO X none xu:=by
 intro pins s σ H Q I h;rw [evalPart_none];exact wpAny_pure ⟨none,H,I,.none,h⟩
theorem Od (h:PE X e te):PO X (some e) (Ha te):=by
 intro pins s σ H Q I hw;rw [evalPart_some];refine gU (h pins s σ H _ I hw) λ u s1 zq=> ?_;obtain⟨x,H1,I1,r1,q1⟩:=zq;obtain⟨i,rfl,q⟩:=q1;obtain⟨t,rfl⟩:=r1;exact⟨some i,H1,I1,.int i t,q⟩
def VN (X:Cx) (r:V->Option Int->Option Int->Hp->VK->Prop):Prop:=
 ∀(pins:List (Addr×Obj)) (s:Shared) (σ:St) (H:Hp) (x:V) (v vl vu:Value) (lo hi:Option Int) (sl:Addr) (Q:VK),Inv X pins σ H s->RelV x v->s.heap.IsSliceOf sl vl vu .none->IsPart vl lo->IsPart vu hi->r x lo hi H Q->
  ∃T id,typeLookup (.type T) "__getitem__" = pure (some (.builtin id))/\s.TypeIs v T/\wpAny (model X.prog X.w) X.A (getItem v (.ref sl)) (EP X pins σ Q) X.xe s
def VY (r:V->Option Int->Option Int->Hp->VK->Prop) (te:TE) (tl th:TO):TE:=λ σ H Q=>te σ H λ x H1=>tl σ H1 λ l H2=>th σ H2 λ u H3=>r x l u H3 Q
theorem Lx (hr:VN X r) (he:PE X e te) (hl:PO X lo tl) (hu:PO X hi th):PE X (.Subscript e (.Slice lo hi none p2) pos) (VY r te tl th):=by
 intro pins s σ H Q I h;refine Subscript_ (gU (he pins s σ H _ I h) λ v s1 zq=> ?_);obtain⟨x,H1,I1,r1,q1⟩:=zq;refine wpAny_Slice (gU (hl pins s1 σ H1 _ I1 q1) λ vl s2 ⟨l,H2,I2,pl,q2⟩=>gU (hu pins s2 σ H2 _ I2 q2) λ vu s3 zq=> ?_);obtain⟨u,H3,I3,pu,q3⟩:=zq;rw [evalPart_none];refine wpAny_pure ?_;have I4:Inv X pins σ H3 {s3 with heap:=s3.heap.push {cls:=.type "slice",data:=.fields #[vl,vu,.none]}}:=I3.kept (t':=s3.toks) λ b ob q=>ah _ q;obtain⟨T,id,hT,ht,hg⟩:=hr pins {s3 with heap:=s3.heap.push {cls:=.type "slice",data:=.fields #[vl,vu,.none]}} σ H3 x v vl vu l u s3.heap.objs.size Q I4 r1 (Heap.IsSliceOf.new ..) pl pu q3;show wpAny (model X.prog X.w) X.A (subscriptTail e (.Slice lo hi none p2) v (.ref s3.heap.objs.size)) (EP X pins σ Q) X.xe {s3 with heap:=s3.heap.push {cls:=.type "slice",data:=.fields #[vl,vu,.none]}};exact tail_any (ops:= [.ref s3.heap.objs.size,v]) ht hT hg (by with_unfolding_all rfl)
def uw (xs:List V) (lo hi:Option Int):List V:=(xs.drop (HT.jH xs.length 0 lo)).take (HT.jH xs.length xs.length hi-HT.jH xs.length 0 lo)
theorem wq (xs:List V) (lo hi:Option Int):(uw xs lo hi).length<=xs.length:=by
 unfold uw;rw [aT,eJ];exact Qao
def Xl (K:aj):V->Option Int->Option Int->Hp->VK->Prop:=λ x lo hi H Q=>∃a xs,x = .ref a/\oh K H a xs/\
 ¬(HT.jH xs.length 0 lo=0/\HT.jH xs.length xs.length hi=xs.length)/\∀p,H p=none->Q (.ref p) (upd H p (.tup (uw xs lo hi)))
theorem QA:VN X (Xl X.K):=by
 intro pins s σ H x v vl vu lo hi sl Q I rx hs pl pu h;obtain⟨a,xs,rfl,hx,hw,q⟩:=h
 cases rx;obtain⟨its,r,ht,hz⟩:=I.tuple hx;have hlen:its.toArray.size=xs.length:=by rw [aM];exact r.length.symm
 refine⟨"tuple",_,cL.lookup,ht.typeIs,?_⟩;refine HT.ui ht hs pl pu (by rwa [hlen]) ?_ (by rwa [hlen]);rw [hlen];refine⟨.ref s.heap.objs.size,_,I.laid (t':=s.toks) (o:=.tup (uw xs lo hi)) (λ b ob q=>ah _ q) (ay _) ?_,rfl,q _ (I.gJ.fresh (ay _))⟩;exact⟨bj (wq xs lo hi) hz,_,(r.drop (HT.jH xs.length 0 lo)).take (HT.jH xs.length xs.length hi-HT.jH xs.length 0 lo),IsTup.new _ _⟩
end
def OI (n:Nat) (i:Int):Option Nat:=if 0<=i then (if i<n then some i.toNat else none) else if -(n:Int)<=i then some (i+n).toNat else none
def xh {α:Type} (xs:List α) (i:Int):Option α:=(OI xs.length i).bind λ j=>xs[j]?
theorem HN (h:OI n i=some j):seqIndex? i n=some j/\j<n/\-(n:Int)<=i/\i<n:=by
 unfold OI at h;by_cases h0:0<=i
 .rw [if_pos h0] at h;by_cases h1:i<n
  .rw [if_pos h1] at h;have e:i.toNat=j:=Option.some.inj h;exact⟨by rw [seqIndex_of h0 h1,e],by lia,by lia,h1⟩
  .rw [if_neg h1] at h;cases h
 .rw [if_neg h0] at h;by_cases h1 : -(n:Int)<=i
  .rw [if_pos h1] at h;have e:(i+n).toNat=j:=Option.some.inj h;exact⟨by rw [seqIndex_neg (Yj h0) h1,e],by lia,h1,Ya (Yj h0) Yt⟩
  .rw [if_neg h1] at h;cases h
theorem CV {α:Type} {xs:List α} {v:α} (h:xh xs i=some v):∃j,seqIndex? i xs.length=some j/\xs[j]? = some v/\j<xs.length/\-(xs.length:Int)<=i/\i<xs.length:=by
 unfold xh at h
 cases e:OI xs.length i with
 | none=>rw [e] at h;cases h
 | some j=>
  rw [e] at h;obtain⟨h1,h2,h3,h4⟩:=HN e;exact⟨j,h1,h,h2,h3,h4⟩
theorem qZ {α:Type} {xs:List α} {j:Nat} {v:α} (h:xs[j]? = some v):xh xs (j:Int)=some v:=by
 have hj:j<xs.length:=(ag.mp h).1
 have e:OI xs.length (j:Int)=some j:=by
  unfold OI;rw [if_pos Yt,if_pos (Yp hj)];simp
 unfold xh;rwa [e]
def C2 (b:Expr):Prop:=∀o i,subscripted b false o i=operate [o,i] (getItem o i)
def Qp (X:Cx) (r:R2):Prop:=
 ∀(value slice:Expr) (pins:List (Addr×Obj)) (s:Shared) (σ:St) (H:Hp) (x y:V) (v u:Value) (Q:VK),Inv X pins σ H s->RelV x v->RelV y u->r x y H Q->
  subscripted slice false v u=operate [v,u] (getItem v u)->wpAny (model X.prog X.w) X.A (subscriptTail value slice v u) (EP X pins σ Q) X.xe s
def T7 (X:Cx) (id:String) (r:V->List V->Hp->VK->Prop):Prop:=
 ∀(pins:List (Addr×Obj)) (s:Shared) (σ:St) (H:Hp) (x:V) (xs:List V) (v:Value) (us:List Value) (Q:VK),Inv X pins σ H s->RelV x v->Vals xs us->r x xs H Q->
  wpAny (model X.prog X.w) X.A (call (.builtin id) (v::us)) (EP X pins σ Q) X.xe s
section
variable {X:Cx} {a b:Expr} {ta tb:TE} {pos:Pos}
theorem Ux {r:R2} (hr:Qp X r) (ha:PE X a ta) (hb:PE X b tb) (hs:C2 b):PE X (.Subscript a b pos) (KS r ta tb):=by
 intro pins s σ H Q I h;exact Subscript_ (SY ha hb I h λ v u s2 x y H2 I2 rx ry q=>hr a b pins s2 σ H2 x y v u Q I2 rx ry q (hs _ _))
def Ll (K:aj):R2:=λ x y H Q=>∃p xs i v,x = .ref p/\y = .int i/\fZ K H p xs/\xh xs i=some v/\Q v H
def Fu (K:aj):R2:=λ x y H Q=>∃p xs i v,x = .ref p/\y = .int i/\oh K H p xs/\xh xs i=some v/\Q v H
def QK:R2:=λ x y H Q=>∃z i c,x = .str z/\y = .int i/\z.length<=sizeLine/\xh z.cps.toList i=some c/\Q (.str ⟨#[c]⟩) H
theorem fJ:Qp X (Ll X.K):=by
 intro value slice pins s σ H x y v u Q I rx ry h hs;obtain⟨p,xs,i,z,rfl,rfl,hq,he,q⟩:=h
 cases rx;obtain⟨t,rfl⟩:=ry;obtain⟨its,r,pl,hz⟩:=I.list hq;obtain⟨j,h1,h2,h3,h4,h5⟩:=CV he;obtain⟨w,ew,Fq⟩:=r.get h2;have hl:=r.length;have hn:=sP;have fin:EP X pins σ Q w s:=⟨z,H,I,Fq,q⟩
 by_cases h0:0<=i
 .have hj:i.toNat=j:=by
   rw [seqIndex_of h0 h5] at h1;exact Option.some.inj h1
  exact item_listR pl.isList h0 (by lia) (by rw [hj];simpa using ew) fin hs
 .have hj:(i+(its.toArray.size:Int)).toNat=j:=by
   rw [seqIndex_neg (Yj h0) h4] at h1;rw [aM,<-hl];exact Option.some.inj h1
  exact subscriptTail_builtinR (x:=w) pl.isList.typeIs slot_list_getitem.lookup
   (wpAny_getItem_list_neg (Q:=λ r s'=>r=w/\EP X pins σ Q r s') pl.isList (Yj h0) (by rw [aM]<;>lia) (by lia) (by rw [hj];simpa using ew) ⟨rfl,fin⟩) hs
theorem fk:Qp X (Fu X.K):=by
 intro value slice pins s σ H x y v u Q I rx ry h hs;obtain⟨p,xs,i,z,rfl,rfl,hq,he,q⟩:=h
 cases rx;obtain⟨t,rfl⟩:=ry;obtain⟨its,r,pl,hz⟩:=I.tuple hq;obtain⟨j,h1,h2,h3,h4,h5⟩:=CV he;obtain⟨w,ew,Fq⟩:=r.get h2;have hl:=r.length;have hn:=sP;have fin:EP X pins σ Q w s:=⟨z,H,I,Fq,q⟩
 exact subscriptTail_builtinR (x:=w) pl.typeIs slot_tuple_getitem.lookup
  (getItem_tuple (j:=j) (Q:=λ r s'=>r=w/\EP X pins σ Q r s') pl (by lia) (by lia) (by rwa [aM,<-hl]) (by simpa using ew) ⟨rfl,fin⟩) hs
theorem Gr:Qp X QK:=by
 intro value slice pins s σ H x y v u Q I rx ry h hs;obtain⟨z,i,c,rfl,rfl,hz,he,q⟩:=h;obtain⟨t,rfl⟩:=rx;obtain⟨t',rfl⟩:=ry;obtain⟨j,h1,h2,h3,h4,h5⟩:=CV he;have hl:z.cps.toList.length=z.length:=by simp [Str.length]
 rw [hl] at h1 h4 h5;have hn:=sP
 exact tail_any (typeIs_str s z t) slot_str_getitem.lookup (getItem_str (c:=c) (by
  have e1:decide (i < -(2 ^ 63:Int))=false:=decide_eq_false (by lia);have e2:decide (i≥2 ^ 63)=false:=decide_eq_false (by lia);rw [e1,e2,Bool.or_false]) (by rw [h1];simpa using h2) ⟨.str ⟨#[c]⟩,H,I.tok _,⟨_,rfl⟩,q⟩) hs
theorem Ge (its:List Value) (n j:Nat) (u:Value):Obj.mapSeq (·.setIfInBounds j u) {cls:=.type "list",data:=.seq its.toArray n} = {cls:=.type "list",data:=.seq (its.set j u).toArray n}:=by
 simp [Obj.mapSeq]
theorem Inv.lst (I:Inv X pins σ H s) (h:H p=some (.lst xs)) :
  ∃(its:List Value) (n:Nat),Vals xs its/\s.heap.get? p=some {cls:=.type "list",data:=.seq its.toArray n}/\xs.length<=sizeLine:=by
 obtain⟨z,its,n,r,e⟩:=I.gJ p _ h;exact⟨its,n,r,e,z⟩
theorem Inv.RF {pins:List (Addr×Obj)} {σ:St} {H:Hp} {s:Shared} {p:Addr} {xs ys:List V} {its its':List Value} {n n':Nat} {f:Obj->Obj} (I:Inv X pins σ H s) (h:H p=some (.lst xs))
  (ho:s.heap.get? p=some {cls:=.type "list",data:=.seq its.toArray n}) (hf:f {cls:=.type "list",data:=.seq its.toArray n} = {cls:=.type "list",data:=.seq its'.toArray n'}) (r:Vals ys its') (hz:ys.length<=sizeLine) (t:Nat) :
  Inv X pins σ (upd H p (.lst ys)) {s with heap:=s.heap.update p f,toks:=t}:=by
 have e:(s.heap.update p f).get? p=some {cls:=.type "list",data:=.seq its'.toArray n'}:=by
  rw [bY f ho (by rw [hf]<;>rfl),hf]
 refine I.write (x:=p) (e:=p) (by rw [h];trivial) (.inl rfl) (λ b u hb q=>(bT _ _ (Ne.symm hb)).trans q) ⟨_,e⟩ ?_;exact⟨hz,its',n',r,e⟩
def Lk:V->V->V->Hp->(Hp->Prop)->Prop:=λ o i v H Q=>∃p xs k j,o = .ref p/\i = .int k/\H p=some (.lst xs)/\OI xs.length k=some j/\Q (upd H p (.lst (xs.set j v)))
theorem set_list:S9 X Lk:=by
 intro pins s σ H o i v ov iv u Q I ro ri rv h;obtain⟨p,xs,k,j,rfl,rfl,hp,hj,q⟩:=h
 cases ro;obtain⟨t,rfl⟩:=ri;obtain⟨its,n,r,ho,hz⟩:=I.lst hp;obtain⟨h1,h2,h3,h4⟩:=HN hj;have hl:=r.length;have hn:=sP
 have I':Inv X pins σ (upd H p (.lst (xs.set j v))) {s with heap:=s.heap.update p (Obj.mapSeq (·.setIfInBounds j u))}:=
  I.RF hp ho (Ge its n j u) (r.set rv j) (by rwa [bS]) s.toks
 by_cases h0:0<=k
 .have hk:k.toNat=j:=by
   rw [seqIndex_of h0 h4] at h1;exact Option.some.inj h1
  exact PySem.W.ki_setAt ho h0 (by lia) (by rwa [aM,<-hl]) (by rw [hk];exact⟨_,I',q⟩)
 .have hk:(k+(its.toArray.size:Int)).toNat=j:=by
   rw [seqIndex_neg (Yj h0) h3] at h1;rw [aM,<-hl];exact Option.some.inj h1
  exact PySem.W.ki_setBack ho (Yj h0) (by rwa [aM,<-hl]) (by lia) (by rw [hk];exact⟨_,I',q⟩)
theorem BU (lo hi:Option Int) (n:Nat):(sliceBounds lo hi none n).1=((HT.jH n 0 lo:Nat):Int)/\(sliceBounds lo hi none n).2.1=((HT.jH n n hi:Nat):Int)/\(sliceBounds lo hi none n).2.2=1:=by
 refine⟨?_,?_,rfl⟩
 .cases lo with
  | none=>simp [sliceBounds,HT.jH]
  | some i=>
   simp only [sliceBounds,HT.jH,Option.getD_none,show (1:Int)>0 by decide,if_true];by_cases h:i<0
   .simp only [h,if_true]<;>exact Qap h
   .simp only [h,if_false]<;>exact Qaq
 .cases hi with
  | none=>simp [sliceBounds,HT.jH]
  | some i=>
   simp only [sliceBounds,HT.jH,Option.getD_none,show (1:Int)>0 by decide,if_true];by_cases h:i<0
   .simp only [h,if_true]<;>exact Qap h
   .simp only [h,if_false]<;>exact Qaq
theorem zT (its:List Value) (lo hi:Option Int):slicePick its.toArray lo hi none=((its.drop (HT.jH its.length 0 lo)).take (HT.jH its.length its.length hi-HT.jH its.length 0 lo)).toArray:=by
 obtain⟨h1,h2,h3⟩:=BU lo hi its.toArray.size;unfold slicePick;rw [h1,h2,h3];simp only [sliceRange_one,pick_run,aM]<;>rfl
def Uo (K:aj):V->Option Int->Option Int->Hp->VK->Prop:=λ x lo hi H Q=>∃a xs,x = .ref a/\fZ K H a xs/\∀p,H p=none->Q (.ref p) (upd H p (.lst (uw xs lo hi)))
theorem lq:VN X (Uo X.K):=by
 intro pins s σ H x v vl vu lo hi sl Q I rx hs pl pu h;obtain⟨a,xs,rfl,hx,q⟩:=h
 cases rx;obtain⟨its,r,ht,hz⟩:=I.list hx;have hlen:=r.length;refine⟨"list",_,slot_list_getitem.lookup,ht.isList.typeIs,?_⟩;refine wpAny_getItem_list_slice ht.isList hs pl pu .none (by simp) ?_ (by rw [aM]<;>exact Zc (Zg hlen) hz);rw [zT,<-hlen];refine⟨.ref s.heap.objs.size,_,I.laid (t':=s.toks) (o:=.lst (uw xs lo hi)) (λ b ob q=>ah _ q) (ay _) ?_,rfl,q _ (I.gJ.fresh (ay _))⟩;exact⟨bj (wq xs lo hi) hz,_,0,(r.drop (HT.jH xs.length 0 lo)).take (HT.jH xs.length xs.length hi-HT.jH xs.length 0 lo),aK _ rfl⟩
def kb:V->Bool
 | .jv=>true
 | .bl _=>true
 | .int _=>true
 | .str _=>true
 | _=>false
def xK:V->V->Bool
 | .jv,.jv=>true
 | .bl a,.bl b=>a==b
 | .bl a,.int b=>(if a then 1 else 0)==b
 | .int a,.bl b=>a==(if b then 1 else 0)
 | .int a,.int b=>a==b
 | .str a,.str b=>a==b
 | _,_=>false
theorem SJ (ry:RelV y u) (rx:RelV x v) (fy:kb y=true) (fx:kb x=true):SeqAt.EqAt A s u v (xK y x):=by
 cases y with
 | jv=>
  cases ry
  cases x with
  | jv=>cases rx;exact SeqAt.EqAt.same _
  | bl b=>cases rx;exact SeqAt.EqAt.none_bool b
  | int b=>obtain⟨t,rfl⟩:=rx;exact SeqAt.EqAt.none_int b t
  | str b=>obtain⟨t,rfl⟩:=rx;exact SeqAt.EqAt.none_str b t
  | _=>exact absurd (show false=true from fx) aJ
 | bl a=>
  cases ry
  cases x with
  | jv=>cases rx;exact SeqAt.EqAt.bool_none a
  | bl b=>cases rx;exact SeqAt.EqAt.bool_bool a b
  | int b=>obtain⟨t,rfl⟩:=rx;exact SeqAt.EqAt.bool_int a b t
  | str b=>obtain⟨t,rfl⟩:=rx;exact SeqAt.EqAt.bool_str a b t
  | _=>exact absurd (show false=true from fx) aJ
 | int a=>
  obtain⟨t',rfl⟩:=ry
  cases x with
  | jv=>cases rx;exact SeqAt.EqAt.int_none a t'
  | bl b=>cases rx;exact SeqAt.EqAt.int_bool a t' b
  | int b=>obtain⟨t,rfl⟩:=rx;exact SeqAt.EqAt.int_int a t' b t
  | str b=>obtain⟨t,rfl⟩:=rx;exact SeqAt.EqAt.int_str a t' b t
  | _=>exact absurd (show false=true from fx) aJ
 | str a=>
  obtain⟨t',rfl⟩:=ry
  cases x with
  | jv=>cases rx;exact SeqAt.EqAt.str_none a t'
  | bl b=>cases rx;exact SeqAt.EqAt.str_bool a t' b
  | int b=>obtain⟨t,rfl⟩:=rx;exact SeqAt.EqAt.str_int a t' b t
  | str b=>obtain⟨t,rfl⟩:=rx;exact SeqAt.EqAt.str_str a t' b t
  | _=>exact absurd (show false=true from fx) aJ
 | _=>exact absurd (show false=true from fy) aJ
def CG (x:V) (u:Value):Bool:=match u with
 | .none=>xK .jv x
 | .bool b=>xK (.bl b) x
 | .int i _=>xK (.int i) x
 | .str z _=>xK (.str z) x
 | _=>false
theorem CF (r:RelV y u) (f:kb y=true):CG x u=xK y x:=by
 cases y with
 | jv=>cases r;rfl
 | bl b=>cases r;rfl
 | int i=>obtain⟨t,rfl⟩:=r;rfl
 | str z=>obtain⟨t,rfl⟩:=r;rfl
 | _=>exact absurd (show false=true from f) aJ
theorem uE:∀{xs:List V} {us:List Value},Vals xs us->xs.all kb=true->us.any (CG x)=xs.any λ y=>xK y x
 | _,_,.nil,_=>rfl
 | y::xs,u::us,.cons r t,f=>by
  rw [cV,bg] at f;rw [cU,cU,CF r f.1,uE t f.2]
theorem lY (rx:RelV x v) (fx:kb x=true):∀{xs:List V} {us:List Value},Vals xs us->xs.all kb=true->∀u∈us,SeqAt.EqAt A s u v (CG x u)
 | _,_,.nil,_=>λ u hu=>by cases hu
 | y::xs,u::us,.cons r t,f=>λ u' hu=>by
  rw [cV,bg] at f;rcases aA.mp hu with rfl|hu
  .rw [CF r f.1];exact SJ r rx f.1 fx
  .exact lY rx fx t f.2 u' hu
def RW (x:V) (xs:List V):Bool:=xs.any λ y=>xK y x
def Up (K:aj) (neg:Bool):R2:=λ x y H Q=>∃p xs,y = .ref p/\(fZ K H p xs\/oh K H p xs)/\kb x=true/\xs.all kb=true/\Q (.bl (if neg then !RW x xs else RW x xs)) H
theorem AD:tI X (compareOp .In) (Up X.K false):=by
 intro pins s σ H x y v u Q I rx ry h;obtain⟨p,xs,rfl,hq,fx,fs,q⟩:=h
 cases ry;rcases hq with hq|hq
 .obtain⟨its,r,pl,hz⟩:=I.list hq;refine SeqAt.in_listAt (CG x) pl.isList (λ w hw=>lY rx fx r fs w (by simpa using hw)) ⟨.bl _,H,I,rfl,?_⟩
  rwa [show its.toArray.any (CG x)=its.any (CG x) by simp,uE r fs]
 .obtain⟨its,r,pl,hz⟩:=I.tuple hq;refine SeqAt.in_tupleAt (CG x) pl (λ w hw=>lY rx fx r fs w (by simpa using hw)) ⟨.bl _,H,I,rfl,?_⟩
  rwa [show its.toArray.any (CG x)=its.any (CG x) by simp,uE r fs]
theorem B':tI X (compareOp .NotIn) (Up X.K true):=by
 intro pins s σ H x y v u Q I rx ry h;obtain⟨p,xs,rfl,hq,fx,fs,q⟩:=h
 cases ry;rcases hq with hq|hq
 .obtain⟨its,r,pl,hz⟩:=I.list hq;refine SeqAt.notIn_listAt (CG x) pl.isList (λ w hw=>lY rx fx r fs w (by simpa using hw)) ⟨.bl _,H,I,rfl,?_⟩
  rwa [show its.toArray.any (CG x)=its.any (CG x) by simp,uE r fs]
 .obtain⟨its,r,pl,hz⟩:=I.tuple hq;refine SeqAt.notIn_tupleAt (CG x) pl (λ w hw=>lY rx fx r fs w (by simpa using hw)) ⟨.bl _,H,I,rfl,?_⟩
  rwa [show its.toArray.any (CG x)=its.any (CG x) by simp,uE r fs]
theorem fH:kg X (.builtin "len") (λ xs H Q=>∃p ys,xs = [.ref p]/\(fZ X.K H p ys\/oh X.K H p ys)/\Q (.int ys.length) H):=by
 intro pins s σ H xs us Q I r h;obtain⟨p,ys,rfl,hq,q⟩:=h;obtain⟨u,rfl,rx⟩:=vals1 r
 cases rx;have hn:=sP;rcases hq with hq|hq
 .obtain⟨its,r',pl,hz⟩:=I.list hq;have hlen:=r'.length;exact Calls.call_len_list pl.isList (by simp only [aM]<;>lia) ⟨.int ys.length,H,I.tok _,⟨s.toks+1,by rw [aM,hlen]⟩,q⟩
 .obtain⟨its,r',pl,hz⟩:=I.tuple hq;have hlen:=r'.length;exact len_tuple pl (by simp only [aM]<;>lia) ⟨.int ys.length,H,I.tok _,⟨s.toks+1,by rw [aM,hlen]⟩,q⟩
theorem CO:kg X (.builtin "len") (λ xs H Q=>∃z,xs = [.str z]/\z.length<=sizeLine/\Q (.int z.length) H):=by
 intro pins s σ H xs us Q I r h;obtain⟨z,rfl,hz,q⟩:=h;obtain⟨u,rfl,t,rfl⟩:=vals1 r;have hn:=sP;exact len_str (by lia) ⟨.int z.length,H,I.tok _,⟨_,rfl⟩,q⟩
theorem uy:kg X (.type "list") (λ xs H Q=>∃p ys,xs = [.ref p]/\(fZ X.K H p ys\/oh X.K H p ys)/\∀l,H l=none->Q (.ref l) (upd H l (.lst ys))):=by
 intro pins s σ H xs us Q I r h;obtain⟨p,ys,rfl,hq,q⟩:=h;obtain⟨u,rfl,rx⟩:=vals1 r
 cases rx
 have fin:∀(its:List Value),Vals ys its->ys.length<=sizeLine->∀(h':Heap) (c':Nat),(∀b o',s.heap.get? b=some o'->h'.get? b=some o')->
   h'.get? s.heap.objs.size=some {cls:=.type "list",dict:=none,data:=.seq its.toArray c',slots:= #[]}->EP X pins σ Q (.ref s.heap.objs.size) {s with heap:=h'}:=λ its r' hz h' c' kp e=>
  ⟨.ref s.heap.objs.size,_,I.laid (t':=s.toks) kp (ay _) (show ig X.prog X.w _ h' _ (.lst ys) from ⟨hz,its,c',r',e⟩),rfl,q _ (I.gJ.fresh (ay _))⟩
 rcases hq with hq|hq
 .obtain⟨its,r',pl,hz⟩:=I.list hq;have hlen:=r'.length;obtain⟨o,ho,hc,n,hd⟩:=pl.isList;exact call_list_seq p (.inl rfl) ho hc hd (λ h' c' kp e=>fin its r' hz h' c' kp e) (by simp only [aM]<;>exact Zc (Zg hlen) hz)
 .obtain⟨its,r',pl,hz⟩:=I.tuple hq;have hlen:=r'.length;obtain⟨o,ho,hc,n,hd⟩:=pl;exact call_list_seq p (.inr rfl) ho hc hd (λ h' c' kp e=>fin its r' hz h' c' kp e) (by simp only [aM]<;>exact Zc (Zg hlen) hz)
def Tq (K:aj) (T:String) (x:V) (H:Hp):Prop:=match x with
 | .str _=>T="str"
 | .int _=>T="int"
 | .ref p=>(T="list"/\∃xs,fZ K H p xs)\/(T="tuple"/\∃o,K.lookup p=some o/\o.cls = .type "tuple"/\o.dict=none)\/
   (T="dict"/\((∃kvs,H p=some (.dK kvs))\/∃kvs,H p=some (.dT kvs)))\/(T="set"/\∃S n,H p=some (.set S n))
 | _=>False
theorem KO (I:Inv X pins σ H s) (r:RelV x v) (ty:Tq X.K T x H) :
  s.TypeIs v T/\∀a,v = .ref a->∃ob,s.heap.get? a=some ob/\ob.dict=none:=by
 cases x with
 | str z=>
  obtain⟨t,rfl⟩:=r
  cases (show T="str" from ty);exact⟨typeIs_str s z t,λ _ e=>nomatch e⟩
 | int i=>
  obtain⟨t,rfl⟩:=r
  cases (show T="int" from ty);exact⟨typeIs_int s i t,λ _ e=>nomatch e⟩
 | ref p=>
  cases r;rcases ty with ⟨rfl,xs,hq⟩ | ⟨rfl,o,hk,hc,hd⟩ | ⟨rfl,hk⟩ | ⟨rfl,S,n,hk⟩
  .obtain⟨its,_,pl,_⟩:=I.list hq;refine⟨pl.isList.typeIs,λ a e=> ?_⟩
   cases e;obtain⟨o,n,e,c,hd,_⟩:=pl;exact⟨o,e,hd⟩
  .refine⟨⟨o,I.wZ p o hk,hc⟩,λ a e=> ?_⟩
   cases e;exact⟨o,I.wZ _ o hk,hd⟩
  .have z:∃o,s.heap.get? p=some o/\o.ExactDict:=by
    rcases hk with ⟨kvs,hk⟩ | ⟨kvs,hk⟩
    .obtain⟨_,_,_,_,o,_,_,e,ex,_⟩:=I.gJ p _ hk;exact⟨o,e,ex⟩
    .obtain⟨_,_,_,_,o,_,_,e,ex,_⟩:=I.gJ p _ hk;exact⟨o,e,ex⟩
   obtain⟨o,e,ex⟩:=z;refine⟨⟨o,e,ex.1⟩,λ a e2=> ?_⟩
   cases e2;exact⟨o,e,ex.2.1⟩
  .obtain⟨o,_,_,_,e,ex,_⟩:=I.gJ p _ hk;refine⟨⟨o,e,ex.1⟩,λ a e2=> ?_⟩
   cases e2;exact⟨o,e,ex.2.1⟩
 | _=>exact False.elim ty
def NP (K:aj) (T:String) (r:V->List V->Hp->VK->Prop) (to:TE):TE:=λ σ H Q=>to σ H λ x H1=>Tq K T x H1/\r x [] H1 Q
def Ub (K:aj) (T:String) (r:V->List V->Hp->VK->Prop) (to:TE) (t:TA):TE:=λ σ H Q=>to σ H λ x H1=>Tq K T x H1/\t σ H1 λ xs H2=>r x xs H2 Q
variable {o e:Expr} {es:List Expr} {to:TE} {t:TA} {name:Str} {apos gM:Pos} {T id:String} {r:V->List V->Hp->VK->Prop}
theorem Rl (pa:PlainAttrs T) (slot:Slot T name id) (OL:typeOf (.builtin id)=pure (.type "method_descriptor")) (hm:T7 X id r) (ho:PE X o to)
  (nS:attributeBase o name X.env (eval o X.env)=eval o X.env:=by rfl) (nR:(apos.endLine==gM.line)=true:=by rfl):PE X (.Call (.Attribute o name apos) [] [] gM) (NP X.K T r to):=by
 intro pins s σ H Q I h;refine wpAny_Call_method0_late nS nR (gU (ho pins s σ H _ I h) λ v s1 zq=> ?_);obtain⟨x,H1,I1,r1,ty,q1⟩:=zq;obtain⟨h1,h2⟩:=KO I1 r1 ty;exact⟨T,id,pa,slot,OL,h1,h2,Calls.callWith_builtin rfl (PySem.evalArgs_none (hm pins s1 σ H1 x [] v [] Q I1 r1 .nil q1))⟩
theorem PJ (pa:PlainAttrs T) (slot:Slot T name id) (OL:typeOf (.builtin id)=pure (.type "method_descriptor")) (hm:T7 X id r) (ho:PE X o to) (ha:PA X (e::es) t)
  (nS:attributeBase o name X.env (eval o X.env)=eval o X.env:=by rfl)
  (Mq:((backTo gM (starEach (e::es) X.env)).all (λ x=> !x.1)&&(backToKw gM (keywordEach [] X.env)).all (λ x=>x.1.isSome)
   && decide ((e::es).length+([]:List Keyword).length+(if ([]:List Keyword).isEmpty then 0 else 1)<30))=true:=by rfl)
  (nR:(apos.endLine==gM.line)=true:=by rfl) (hs:starEach (e::es) X.env=(false,eval e X.env)::starEach es X.env:=by rfl) (yP:(backTo gM (starEach es X.env)).any (·.1)=false:=by rfl) :
  PE X (.Call (.Attribute o name apos) (e::es) [] gM) (Ub X.K T r to t):=by
 intro pins s σ H Q I h;refine wpAny_Call_method_late nS Mq nR rfl (gU (ho pins s σ H _ I h) λ v s1 zq=> ?_);obtain⟨x,H1,I1,r1,ty,q1⟩:=zq;obtain⟨h1,h2⟩:=KO I1 r1 ty;refine⟨T,id,pa,slot,OL,h1,h2,?_⟩;have hA:=ha gM pins s1 σ H1 _ I1 q1;rw [hs] at hA⊢;refine Calls.callWith_builtin (by show (false||(backTo gM (starEach es X.env)).any (·.1))=false;rw [yP]<;>rfl) (Calls.evalArgs_plain ?_);exact gU hA λ us s2 ⟨vs,H2,I2,r2,q2⟩=>hm pins s2 σ H2 x vs v us Q I2 r1 r2 q2
end
def Tb (X:Cx) (id:String) (r:V->List V->Hp->VK->Prop):Prop:=
 ∀(pins:List (Addr×Obj)) (s:Shared) (σ:St) (H:Hp) (x:V) (xs:List V) (v:Value) (us:List Value) (Q:VK),Inv X pins σ H s->RelV x v->Vals xs us->r x xs H Q->
  wpAny (model X.prog X.w) X.A (call (.builtin id) (v::us)) (EP X pins σ Q) X.xe s
theorem Vals.one:∀{x:V} {us:List Value},Vals [x] us->∃u,us = [u]/\RelV x u
 | _,_,.cons r .nil=>⟨_,rfl,r⟩
theorem Vals.two:∀{x y:V} {us:List Value},Vals [x,y] us->∃u v,us = [u,v]/\RelV x u/\RelV y v
 | _,_,_,.cons r (.cons q .nil)=>⟨_,_,rfl,r,q⟩
theorem Vals.zero:∀{us:List Value},Vals [] us->us = []
 | _,.nil=>rfl
theorem Vals.dropLast (h:Vals xs us):Vals xs.dropLast us.dropLast:=by
 induction h with
 | nil=>exact .nil
 | cons r t ih=>
  cases t with
  | nil=>exact .nil
  | cons q t'=>exact .cons r ih
theorem Vals.reverse (h:Vals xs us):Vals xs.reverse us.reverse:=by
 induction h with
 | nil=>exact .nil
 | cons r t ih=>rw [cK,cK];exact Vals.append ih (.cons r .nil)
theorem GH {α:Type} (l:List α):l.eraseIdx (l.length-1)=l.dropLast:=by
 induction l with
 | nil=>rfl
 | cons a r ih=>
  cases r with
  | nil=>rfl
  | cons b r=>
   have e:(a::b::r).length-1=((b::r).length-1)+1:=by
    have h1:(a::b::r).length=r.length+2:=rfl;have h2:(b::r).length=r.length+1:=rfl;exact rfl
   rw [e,List.eraseIdx_cons_succ,ih]
   all_goals rfl
section
variable {X:Cx} {pins:List (Addr×Obj)} {σ:St} {H:Hp} {s:Shared} {l b:Addr} {xs ys zs:List V}
theorem Inv.L8 {its its':List Value} {n:Nat} {f:Array Value->Array Value} {t':Nat} (I:Inv X pins σ H s) (hH:H l=some (.lst xs))
  (e:s.heap.get? l=some {cls:=.type "list",data:=.seq its.toArray n}) (hf:f its.toArray=its'.toArray) (hv:Vals ys its') (hz:ys.length<=sizeLine) :
  Inv X pins σ (upd H l (.lst ys)) {s with heap:=s.heap.update l (Obj.mapSeq f),toks:=t'}:=by
 have q:=PySem.IsL.update e f;rw [hf] at q;refine I.write (x:=l) (e:=l) (by rw [hH];exact trivial) (.inl rfl) (λ b' u hb hu=>(bT s.heap (Obj.mapSeq f) (Ne.symm hb)).trans hu) ⟨_,q⟩ ?_;exact⟨hz,its',_,hv,q⟩
theorem Inv.RI (I:Inv X pins σ H s) (hv:Vals ys its) (hz:ys.length<=sizeLine) :
  Inv X pins σ (upd H s.heap.objs.size (.lst ys)) {s with heap:=s.heap.push {cls:=.type "list",data:=.seq its.toArray},toks:=t'}:=
 I.laid (λ _ _ q=>ah _ q) (ay _) ⟨hz,its,0,hv,aK _ rfl⟩
theorem Inv.fresh (I:Inv X pins σ H s):H s.heap.objs.size=none:=I.gJ.fresh (ay _)
theorem Inv.yC (I:Inv X pins σ H s) (hH:H l=some (.lst xs)):xs.length<=sizeLine/\∃(its:List Value) (n:Nat),Vals xs its/\xs.length=its.length/\s.heap.get? l=some {cls:=.type "list",data:=.seq its.toArray n}:=by
 obtain⟨z,its,n,r,e⟩:=I.gJ l _ hH;exact⟨z,its,n,r,r.length,e⟩
theorem LW (h:n<=sizeLine):Builtin.List.listTooLong n=false:=by
 unfold Builtin.List.listTooLong;exact decide_eq_false (by lia)
end
section
variable {X:Cx}
def B2:V->List V->Hp->VK->Prop:=λ x vs H Q=>∃l xs y,x = .ref l/\vs = [y]/\H l=some (.lst xs)/\xs.length<sizeLine/\Q .jv (upd H l (.lst (xs ++ [y])))
theorem gR:Tb X "list.append" B2:=by
 intro pins s σ H x vs v us Q I rx rv h;obtain⟨l,xs,y,rfl,rfl,hH,hz,q⟩:=h
 cases rx;obtain⟨u,rfl,ru⟩:=rv.one;obtain⟨z,its,n,r,hl,e⟩:=I.yC hH;refine call_meets F.slot_list_append ⟨_,e,rfl⟩ F.entry_list_append (F.args_list_append_2 _ _) (PySem.list_append l its.toArray n u (by rw [aM];exact Zc (Zg hl) z)) ⟨e,?_⟩;refine⟨.jv,_,I.L8 (its':=its ++ [u]) hH e (by simp) (r.append (.cons ru .nil)) ?_,rfl,q⟩;rw [aq,bx];exact hz
def N0:V->List V->Hp->VK->Prop:=λ x vs H Q=>∃l b xs zs,x = .ref l/\vs = [.ref b]/\H l=some (.lst xs)/\H b=some (.lst zs)/\xs.length+zs.length<=sizeLine/\Q .jv (upd H l (.lst (xs++zs)))
theorem vo:Tb X "list.extend" N0:=by
 intro pins s σ H x vs v us Q I rx rv h;obtain⟨l,b,xs,zs,rfl,rfl,hH,hB,hz,q⟩:=h
 cases rx;obtain⟨u,rfl,ru⟩:=rv.one
 cases ru;obtain⟨z,its,n,r,hl,e⟩:=I.yC hH;obtain⟨z2,Gs,n2,r2,zO,e2⟩:=I.yC hB;have hsz:its.toArray.size+Gs.toArray.size<=sizeLine:=by rw [aM,aM];exact Qar hz hl zO
 have U8:¬(!its.toArray.isEmpty&&Builtin.List.listTooLong (its.toArray.size+Gs.toArray.size))=true:=by
  rw [LW hsz,Bool.and_false];exact aJ
 refine call_meets F.slot_list_extend ⟨_,e,rfl⟩ F.entry_list_extend (F.args_list_extend_2 _ _)
  (AutoSeq1.list_extend_list_list_0 l its.toArray n b Gs.toArray n2 U8 (by rw [aM];exact Zc (Zg hl) z) (Zc hsz Zk)) ⟨e,e2,?_⟩
 refine⟨.jv,_,I.L8 (its':=its++Gs) hH e (by simp) (r.append r2) ?_,rfl,q⟩;rw [aq];exact hz
def Xm:V->List V->Hp->VK->Prop:=λ x vs H Q=>∃l xs y,x = .ref l/\vs = []/\H l=some (.lst xs)/\xs[xs.length-1]? = some y/\Q y (upd H l (.lst xs.dropLast))
theorem Ga:Tb X "list.pop" Xm:=by
 intro pins s σ H x vs v us Q I rx rv h;obtain⟨l,xs,y,rfl,rfl,hH,hy,q⟩:=h
 cases rx;have UZ:=rv.zero;subst UZ;obtain⟨z,its,n,r,hl,e⟩:=I.yC hH;obtain⟨u,hu,ru⟩:=r.get hy
 have Wh:its.toArray[its.toArray.size-1]? = some u:=by
  show its.toArray[its.length-1]? = some u
  rwa [<-bc,<-hl]
 refine call_meets F.slot_list_pop ⟨_,e,rfl⟩ F.entry_list_pop (F.args_list_pop_1 _) (MeetsSeq.list_pop_last l its.toArray n u Wh (by rw [aM];exact Zc (Zg hl) z)) ⟨e,?_⟩;refine⟨y,_,I.L8 (its':=its.dropLast) hH e ?_ r.dropLast ?_,ru,q⟩
 .show its.toArray.eraseIdxIfInBounds (its.toArray.size-1)=its.dropLast.toArray;rw [aM,List.eraseIdxIfInBounds_toArray,GH]
 .rw [List.length_dropLast];exact Zc Zu z
def yr:V->List V->Hp->VK->Prop:=λ x vs H Q=>∃l xs,x = .ref l/\vs = []/\H l=some (.lst xs)/\Q .jv (upd H l (.lst xs.reverse))
theorem F_:Tb X "list.reverse" yr:=by
 intro pins s σ H x vs v us Q I rx rv h;obtain⟨l,xs,rfl,rfl,hH,q⟩:=h
 cases rx;have UZ:=rv.zero;subst UZ;obtain⟨z,its,n,r,hl,e⟩:=I.yC hH;refine call_meets F.slot_list_reverse ⟨_,e,rfl⟩ F.entry_list_reverse (F.args_list_reverse_1 _) (AutoSeq1.list_reverse_list_0 l its.toArray n (by rw [aM];exact Zc (Zg hl) z)) ⟨e,?_⟩;refine⟨.jv,_,I.L8 (its':=its.reverse) hH e (by simp) r.reverse ?_,rfl,q⟩;rw [List.length_reverse];exact z
def QM:V->List V->Hp->VK->Prop:=λ x vs H Q=>∃l xs,x = .ref l/\vs = []/\H l=some (.lst xs)/\Q .jv (upd H l (.lst []))
theorem L0:Tb X "list.clear" QM:=by
 intro pins s σ H x vs v us Q I rx rv h;obtain⟨l,xs,rfl,rfl,hH,q⟩:=h
 cases rx;have UZ:=rv.zero;subst UZ;obtain⟨z,its,n,r,hl,e⟩:=I.yC hH;refine call_meets F.slot_list_clear ⟨_,e,rfl⟩ F.entry_list_clear (F.args_list_clear_1 _) (AutoSeq1.list_clear_list_0 l its.toArray n (by rw [aM];exact Zc (Zg hl) z)) ⟨e,?_⟩;exact⟨.jv,_,I.L8 (its':= []) (ys:= []) hH e rfl .nil (aP _),rfl,q⟩
def QN:R2:=λ x y H Q=>∃l b xs zs,x = .ref l/\y = .ref b/\H l=some (.lst xs)/\H b=some (.lst zs)/\xs.length+zs.length<=sizeLine/\∀p,H p=none->Q (.ref p) (upd H p (.lst (xs++zs)))
theorem mZ:tI X (binaryOp .Add) QN:=by
 intro pins s σ H x y v u Q I rx ry h;obtain⟨l,b,xs,zs,rfl,rfl,hH,hB,hz,q⟩:=h
 cases rx
 cases ry;obtain⟨z,its,n,r,hl,e⟩:=I.yC hH;obtain⟨z2,Gs,n2,r2,zO,e2⟩:=I.yC hB;refine PySem.P.add_list e e2 ?_ (by rw [aM,aM];exact Qar hz hl zO);have ea:its.toArray++Gs.toArray=(its++Gs).toArray:=by simp
 rw [ea];exact⟨.ref _,_,I.RI (t':=s.toks) (r.append r2) (by rw [aq];exact hz),rfl,q _ I.fresh⟩
end
section
variable {prog:Program} {w:World} {A:Around} {E:Value->Shared->Prop} {s:Shared}
end
section
variable {X:Cx}
end
end L2
namespace Ū
open PySem PySem.W PySem.Calls PyProof.Rows
theorem w9:∀(ns:List Int) (vs:List Value),WellAll P h vs (ns.map WData.int)->IntsAre vs ns:=by
 intro ns
 induction ns with
 | nil=>
  intro vs w;rw [bu] at w
  cases w;exact .nil
 | cons n ns ih=>
  intro vs w;rw [aD] at w
  cases w with
  | cons a b=>
   cases a;exact .cons _ _ (ih _ b)
theorem Jd {l:OpenLaw} {n:Nat} (hn:l.most=some n) {P:Params} {h:Heap} {args:List WData} {vals:List Value}
  (ON:l.row.toRowW.claim.pre args=true) (P9:WellAll P h vals args) :
  ∃a vs ns,vals = [Value.ref a]/\args = [WData.list (ns.map WData.int)]/\h.get? a=some {cls:=.type "list",data:=.seq vs.toArray}/\IntsAre vs ns/\ns.length<=n:=by
 have JL:WShape.hasAll [] args [.list .int]=true:=(pre_splitW ON).1;have hc:l.pre.holds [] {args:=args}=true:=(pre_splitW ON).2;obtain⟨d,r,rfl,h1,h2⟩:=hasAllW_cons JL;obtain rfl:=hasAllW_nil h2;obtain⟨xs,rfl,h3⟩:=hasW_list h1;obtain⟨ns,rfl⟩:=items_int h3
 have hlen:ns.length<=n:=by
  unfold OpenLaw.pre at hc
  have h4:(WTm.not (.lt (.lit (.int (n:Int))) (.len (.arg 0)))).holds [] {args:= [.list (ns.map .int)]}=true:=by
   have h4:=(holds_andW hc).1;rw [hn] at h4;exact h4
  have h5:=condW_of h4 (w_not (w_lt w_lit (w_len_list (w_arg rfl))));rw [ae] at h5;refine eG λ q=> ?_;have q':(n:Int)<((ns.length:Nat):Int):=by exact Yp q
  first
   | (rw [decide_eq_true q'] at h5;exact absurd h5 (by decide))
   | (simp at h5;omega)
 cases P9 with
 | cons w1 w2=>
  cases w2
  cases w1 with
  | list ho Y2=>exact⟨_,_,ns,rfl,rfl,ho,w9 ns _ Y2,hlen⟩
theorem Jg (l:OpenLaw) (args:List WData):l.row.toRowW.claim.post args (.bool true) args=true:=
 postW_of (r:=l.row.toRowW) (X:=(true==true))
  (show WShape.has [] (.bool true) .bool=true by first|rfl|decide|simp [WShape.has,WShape.arms,WShape.armsAll])
  (show (WTm.eq .res (.lit (.bool true))).value [] {args:=args,res:=some (.bool true),after:=args}=some (.bool (true==true)) from w_eq_bool (w_res rfl) w_lit) rfl
theorem ED {l:OpenLaw} {n:Nat} {q:Program} {loose:List Str} {XP:(Str->Option Value)->Heap->Prop} {YP:World->Heap->Prop} {d:DefRec}
  (hn:l.most=some n) (Vb:d.params.defaults = [])
  (call:∀(w:World) (jj jL:Shared) (mg mb:Str->Option Value) (fa:Addr) (o:Obj) (pm cd doc:Value) (a:Addr) (vs:List Value) (ns:List Int),
   Ground q loose [] XP w jj mg mb jL.heap->YP w jL.heap->
   jL.heap.get? fa=some o->o.data = .func (docDef d.name d.params d.body d.scope pm cd doc)->jL.heap.CodeRec cd d.name->mg d.name=some (.ref fa)->
   jL.heap.get? a=some {cls:=.type "list",data:=.seq vs.toArray}->IntsAre vs ns->ns.length<=n->jL.gens = #[]->
   codeAny (model l.prog w) callerA (.call (.ref fa) ⟨[.ref a],[]⟩) (λ r s'=>r = .ok (.ret (.bool true))/\OldK jL.heap s'.heap/\s'.os=jL.os/\AllBare s'.gens) jL) :
  WalkO q loose XP YP l.row.toRowW d [] (λ f vs=>PySem.call f vs):=by
 intro w jj jL mg mb G Y fa o pm cd doc dV kV ho hd Gx hD U7 hg args vals as ON aae hrd P9 hlo;obtain rfl:dV = .none:=Dflts.none hD Vb;obtain rfl:kV = .none:=Dflts.noKw hD;obtain⟨a,vs,ns,rfl,rfl,R_,hints,hlen⟩:=Jd hn ON P9;refine enter_call (codeAny_mono (call w jj jL mg mb fa o pm cd doc a vs ns G Y ho (fd_plain hd) Gx U7 R_ hints hlen hg) λ r s' hq=> ?_);obtain⟨rfl,h2,h3,h4⟩:=hq;exact⟨.inl ⟨.bool true,.bool true,[],rfl,λ _=>rfl,.bool true,Jg l _,λ _=>⟨List.Pairwise.nil,λ _ hm=>(nomatch hm)⟩⟩,h2,h3,h4⟩
section
variable {prog:Program} {w:World} {A:Around} {E:Value->Shared->Prop} {s:Shared} {K:Frag}
end
end Ū
namespace L2
open PySem PySem.Spec PyProof.Rows
theorem Ao:∀{vs:List Value} {ns:List Int},IntsAre vs ns->Vals (ns.map V.int) vs
 | _,_,.nil=>.nil
 | _,_,.cons n t h=>.cons ⟨t,rfl⟩ (Ao h)
def Ta (H:Hp):Prop:=∀b,H b=none\/∃o xs,H b=some (.tH o (.lst xs))
theorem Mc {P:Program} {w:World} {K:aj} {mg mb:Str->Option Value} {CX:G6} {k:Nat} {fa a:Addr} {fd:FuncData} {x:Str} {sp:Sp} {jL:Shared} {vs:List Value} {ns:List Int}
  (KX:K.In jL.heap) (ć:jL.heap.Ns mainGlobals mg) (hb:jL.heap.Ns builtinsNs mb) (hbb:∀x:Str,x≠"__name__"->mb x=bootBuiltins x) (YN:jL.heap.NoLimit) (hg:jL.gens = #[])
  (ha:jL.heap.get? a=some {cls:=.type "list",data:=.seq vs.toArray}) (hi:IntsAre vs ns) (hl:ns.length<=sizeLine) (hr:jd k callerA)
  (F:∀base:Heap,K.In base->base.Ns mainGlobals mg->f_ P w K mg base CX k fa fd [x] sp) (Vc:∀(s:Shared) (u:Value),BindsTo s fd ⟨[u],[]⟩ [(x,u)])
  (JK:∀H:Hp,Ta H->fZ K H a (ns.map V.int)->sp [.ref a] H (λ v _=>v = .bl true) λ _ _ _=>False)
  (Y9:∀H e s',CX [] H jL (λ _ _ _=>False) e s'->False) :
  codeAny (model P w) callerA (.call (.ref fa) ⟨[.ref a],[]⟩) (λ r s'=>r = .ok (.ret (.bool true))/\OldK jL.heap s'.heap/\s'.os=jL.os/\AllBare s'.gens) jL:=by
 have rv:=Ao hi;have XS:=hi.length
 have core:∀H:Hp,Ta H->fZ K H a (ns.map V.int)->rA P w H jL.heap->(∀b,H b≠none->b=a)->(H a≠none->K.lookup a=none)->
   codeAny (model P w) callerA (.call (.ref fa) ⟨[.ref a],[]⟩) (λ r s'=>r = .ok (.ret (.bool true))/\OldK jL.heap s'.heap/\s'.os=jL.os/\AllBare s'.gens) jL:=by
  intro H hO hS gJ hA hK;have Iq:∀{b:Addr} {o:Obj},jL.heap.get? b=some o->H b=none->(Cy jL.heap H).get? b=some o:=λ e n=>Mp e n
  have UJ:∀{b:Addr} {o:Obj} {es:Array DictEntry} {ep:Nat},jL.heap.get? b=some o->o.data = .dict es ep->H b=none:=λ {b o es ep} e d=>by
   cases q:H b with
   | none=>rfl
   | some u=>
    have e':b=a:=hA b (by rw [q];simp);subst e';rw [ha] at e;cases e;have d':Data.seq vs.toArray _=Data.dict es ep:=d
    cases d'
  have V':∀{b:Addr} {m:Str->Option Value},jL.heap.Ns b m->(Cy jL.heap H).Ns b m:=λ {b m} ⟨o,es,ep,e,d,r⟩=>⟨o,es,ep,Iq e (UJ e d),d,r⟩
  have Ĝ:K.In (Cy jL.heap H):=λ b o e=>Iq (KX b o e) (by
   cases q:H b with
   | none=>rfl
   | some u=>
    have e':b=a:=hA b (by rw [q];simp);subst e';rw [hK (by rw [q];simp)] at e;cases e)
  have hM:Mod K mg (Cy jL.heap H):=⟨Ĝ,V' ć,⟨mb,V' hb,hbb⟩,let ⟨mc,h1,h2⟩:=YN;⟨mc,V' h1,h2⟩⟩
  have e0:G5 P w K mg (Cy jL.heap H) callerA [] jL H:=⟨rfl,hM,λ b o e=>OB e,eB (JO _ _),trivial,λ b hb=>absurd (show b∈([]:List Addr) from hb) (by simp),gJ,.of_eq hg⟩
  refine codeAny_mono ((F _ Ĝ (V' ć)).run callerA [] jL H ⟨[.ref a],[]⟩ [.ref a] [.ref a] _ _ hr e0 (Vc jL (.ref a)) (.cons rfl .nil) (JK H hO hS)) λ r s' h=> ?_
  cases r with
  | error e=>exact(Y9 H e s' h).elim
  | ok fl=>
   cases fl with
   | next=>exact False.elim h
   | brk=>exact False.elim h
   | cont=>exact False.elim h
   | ret u=>
    obtain⟨v,H',os,bare,un,YH,r',q⟩:=h;have q':v = .bl true:=q;subst q';obtain rfl:u=Value.bool true:=r';refine⟨rfl,OldK.of_keep λ b o e=> ?_,os,bare⟩
    cases q:H b with
    | none=>exact un.keep b o e q (by intro z;exact absurd (show b∈([]:List Addr) from z) (by simp)) (by simp)
    | some u=>
     rcases hO b with z | ⟨ob,xs,z⟩
     .rw [q] at z;cases z
     .have z2:=un.pJ b ob _ z;obtain⟨e1,_⟩:=gJ b _ z;obtain⟨e2,_⟩:=YH b _ z2;rw [e] at e1;cases e1;exact e2
 cases hk:K.lookup a with
 | some o=>
  have e:=KX a o hk;rw [ha] at e
  cases e;refine core (λ _=>none) (λ _=>.inl rfl) (.inr ⟨_,vs.toArray,_,hk,rfl,rfl,rfl,by rwa [aM,XS],by simpa using rv⟩) (λ b u z=>by have z':(none:Option HO)=some u:=z;cases z') (λ b z=>absurd rfl z) λ z=>absurd rfl z
 | none=>
  refine core (λ b=>if b=a then some (.tH {cls:=.type "list",data:=.seq vs.toArray} (.lst (ns.map V.int))) else none) (λ b=> ?_) (.inl (.inr ⟨{cls:=.type "list",data:=.seq vs.toArray},if_pos rfl⟩)) (λ b u z=> ?_) (λ b z=> ?_) λ _=>hk
  .by_cases hb:b=a
   .exact .inr ⟨_,_,if_pos hb⟩
   .exact .inl (if_neg hb)
  .by_cases hb:b=a
   .have z':=(if_pos hb).symm.trans z
    cases z';subst hb;exact⟨ha,by rwa [ae],vs,_,rv,ha⟩
   .have z':=(if_neg hb).symm.trans z
    cases z'
  .by_cases hb:b=a
   .exact hb
   .exact absurd (if_neg hb) z
abbrev KOf {K:aj} {h:Heap} (_:K.In h):aj:=K
theorem NB {l:eP} {n k:Nat} {q:Program} {loose:List Str} {XP:(Str->Option Value)->Heap->Prop} {YP:World->Heap->Prop} {d:DefRec} {K:Params->aj} {CX:World->G6} {sp:World->Sp} {x:Str}
  (hn:l.most=some n) (OO:n<=sizeLine) (Vb:d.params.defaults = []) (hr:jd k callerA)
  (hY:∀(w:World) (h:Heap),YP w h->(K w.params).In h)
  (F:∀(w:World) (mg:Str->Option Value) (fa:Addr) (h:Heap),(K w.params).In h->h.Ns mainGlobals mg->mg d.name=some (.ref fa)->
   ∃fd:FuncData,(∀(s:Shared) (u:Value),BindsTo s fd ⟨[u],[]⟩ [(x,u)])/\
    ∀base:Heap,(K w.params).In base->base.Ns mainGlobals mg->f_ l.prog w (K w.params) mg base (CX w) k fa fd [x] (sp w))
  (JK:∀(w:World) (H:Hp) (a:Addr) (ns:List Int),ns.length<=n->Ta H->fZ (K w.params) H a (ns.map V.int)->sp w [.ref a] H (λ v _=>v = .bl true) λ _ _ _=>False)
  (Y9:∀(w:World) (H:Hp) (s:Shared) (e:Value) (s':Shared),CX w [] H s (λ _ _ _=>False) e s'->False) :
  PySem.W.WalkO q loose XP YP l.row.toRowW d [] (λ f vs=>PySem.call f vs):=by
 refine Ū.ED hn Vb λ w jj jL mg mb fa o pm cd doc a vs ns G Y ho hd Gx U7 R_ hints hlen hg=> ?_;have KX:=hY w _ Y;obtain⟨fd,hb,hF⟩:=F w mg fa _ KX G.T.g U7;exact Mc KX G.T.g G.T.b G.T.builtins G.T.nolimit hg R_ hints (bj hlen OO) hr hF hb (λ H hO hS=>JK w H a ns hlen hO hS) λ H e s'=>Y9 w H jL e s'
def inClass (s:Stmt) (j:Nat):Stmt:=match s with
 | .ClassDef _ _ _ body _ _ _ _ _ _ _=>body.getD j (.Pass ⟨0,0,0,0⟩)
 | _=>.Pass ⟨0,0,0,0⟩
def mD (s:Stmt):Arguments:=match s with
 | .FunctionDef _ a _ _ _ _ _ _ _ _=>a
 | _=> {posonlyargs:= [],args:= [],vararg:=none,kwonlyargs:= [],kw_defaults:= [],kwarg:=none,defaults:= []}
def j5 (s:Stmt):List Stmt:=match s with
 | .FunctionDef _ _ b _ _ _ _ _ _ _=>b
 | _=> []
def fw (s:Stmt):Scope:=match s with
 | .FunctionDef _ _ _ _ _ _ sc _ _ _=>sc
 | _=> {kind:=.function,names:= [],isGenerator:=false,isCoroutine:=false}
abbrev E0:XK:=λ _ _ _=>False
structure M' (K:aj) (x qual:Str) (st:Stmt) (f:Addr) (fd:FuncData):Prop where
 ex:∃(oc:Value) (od:Option Addr) (kV doc pm:Value) (an:Option Addr) (ik ct:Value) (PL:Array (Option Value)),
  fd=cb x qual (mD st) (j5 st) (fw st) .none kV doc pm an ik ct/\K.lookup f=some ⟨oc,od,.func fd,PL⟩/\dR K ik qual=true
 kp:ck K (.ref f)=true
section
variable {P:Program} {w:World} {K:aj} {mg:Str->Option Value} {base:Heap}
theorem Sw {x qual:Str} {st:Stmt} {f:Addr} {oc:Value} {od:Option Addr} {kV doc pm:Value} {an:Option Addr} {ik ct:Value} {PL:Array (Option Value)} (l:K.lookup f=some ⟨oc,od,.func (cb x qual (mD st) (j5 st) (fw st) .none kV doc pm an ik ct),PL⟩)
  (c:dR K ik qual=true) (k:ck K (.ref f)=true):M' K x qual st f (cb x qual (mD st) (j5 st) (fw st) .none kV doc pm an ik ct):=⟨⟨_,_,_,_,_,_,_,_,_,rfl,l,c⟩,k⟩
theorem M'.binds {x qual:Str} {st:Stmt} {f:Addr} {fd:FuncData} {ps:List Str} (F:M' K x qual st f fd)
  (h:∀(kV doc pm:Value) (an:Option Addr) (ik ct:Value) (us:List Value),us.length=ps.length->bindArgs (cb x qual (mD st) (j5 st) (fw st) .none kV doc pm an ik ct) ⟨us,[]⟩=pure (ps.zip us)):Binds K fd ps []:=by
 obtain⟨oc,od,kV,doc,pm,an,ik,ct,PL,rfl,lk,Gx⟩:=F.ex;exact .all (h kV doc pm an ik ct)
end
theorem j4 (hr:jd k A):A.units+1<cLine:=bV (Nat.add_le_add_left (by decide:1<=64) _) hr.units
section
variable {X:Cx}
theorem pv (i:Nat) (hN:X.N[i]? = some x:=by rfl) (hv:WQ X.env.scope x:=by first|exact Or.inl rfl|exact Or.inr (Or.inl rfl)|exact Or.inr (Or.inr rfl)) (hd:(x==("__debug__" : Str))=false:=by decide)
  (Gx:(x==("__classdict__" : Str))=false:=by decide):PE X (.Name x pos) (IU i):=Q5 hN hv hd Gx
end
def fh (H H':Hp):Prop:=∀b o,H b=some o->H' b=some o
theorem fh.refl (H:Hp):fh H H:=λ _ _ h=>h
theorem fh.trans (a:fh H H1) (b:fh H1 H2):fh H H2:=λ c o h=>b c o (a c o h)
theorem fh.free (e:fh H H') (h:H' l=Option.none):H l=Option.none:=by
 cases q:H l with
 | none=>rfl
 | some o=>
  rw [e l o q] at h
  cases h
theorem fh.seq {K:aj} {H H':Hp} {a:Addr} {xs:List V} (e:fh H H') (h:fZ K H a xs):fZ K H' a xs:=by
 rcases h with (h | ⟨o,h⟩)|h
 .exact .inl (.inl (e _ _ h))
 .exact .inl (.inr ⟨o,e _ _ h⟩)
 .exact .inr h
section
variable {κ:Type} [DecidableEq κ]
def gT (kvs:List (κ×V)) (k:κ):Option V:=(kvs.find? λ kv=>decide (kv.1=k)).map (·.2)
def putK (kvs:List (κ×V)) (k:κ) (v:V):List (κ×V):=
 if (kvs.any λ kv=>decide (kv.1=k))=true then kvs.map (λ kv=>if kv.1=k then (kv.1,v) else kv) else kvs ++ [(k,v)]
def um (kvs:List (κ×V)) (k:κ):List (κ×V):=kvs.filter λ kv=>decide (kv.1≠k)
theorem KN:gT ([]:List (κ×V)) k=none:=rfl
theorem iu {p:κ×V} {r:List (κ×V)} {k:κ} (e:p.1=k):gT (p::r) k=some p.2:=by simp [gT,bJ,e]
theorem iw {p:κ×V} {r:List (κ×V)} {k:κ} (e:¬p.1=k):gT (p::r) k=gT r k:=by simp [gT,bJ,e]
theorem nD (k:κ):∀kvs:List (κ×V),(kvs.any λ kv=>decide (kv.1=k))=(gT kvs k).isSome
 | []=>rfl
 | p::r=>by
  rw [cU];by_cases e:p.1=k
  .simp only [iu e,decide_eq_true e,Bool.true_or,Option.isSome_some]
  .rw [iw e,decide_eq_false e,Bool.false_or];exact nD k r
theorem Dk (k j:κ) (y:V):∀kvs:List (κ×V),gT (kvs.map λ kv=>if kv.1=k then (kv.1,y) else kv) j=(gT kvs j).map λ x=>if j=k then y else x
 | []=>rfl
 | p::r=>by
  have ih:=Dk k j y r;rw [aD];by_cases h:p.1=k
  .rw [if_pos h];by_cases e:p.1=j
   .rw [iu (p:=(p.1,y)) e,iu e,Option.map_some,if_pos (e.symm.trans h)]
   .rw [iw (p:=(p.1,y)) e,iw e,ih]
  .rw [if_neg h];by_cases e:p.1=j
   .rw [iu (p:=p) e,iu e,Option.map_some,if_neg (λ z=>h (e.trans z))]
   .rw [iw (p:=p) e,iw e,ih]
theorem Ap (k j:κ) (y:V):∀kvs:List (κ×V),gT kvs k=none->gT (kvs ++ [(k,y)]) j=if j=k then some y else gT kvs j
 | [],_=>by
  by_cases e:k=j
  .rw [if_pos e.symm];exact iu (p:=(k,y)) e
  .rw [if_neg (λ z=>e z.symm)];exact iw (p:=(k,y)) e
 | p::r,hn=>by
  rw [cR];have hk:¬p.1=k:=λ z=>by rw [iu z] at hn;cases hn
  rw [iw hk] at hn;have ih:=Ap k j y r hn;by_cases e:p.1=j
  .rw [iu e,iu e,if_neg (λ z=>hk (e.trans z))]
  .rw [iw e,iw e,ih]
theorem Dj (kvs:List (κ×V)) (k j:κ) (y:V):gT (putK kvs k y) j=if j=k then some y else gT kvs j:=by
 unfold putK;by_cases a:(kvs.any λ kv=>decide (kv.1=k))=true
 .rw [if_pos a,Dk];rw [nD] at a;by_cases e:j=k
  .obtain⟨x,hx⟩:=Option.isSome_iff_exists.mp a;rw [if_pos e,e,hx,Option.map_some,if_pos rfl]
  .rw [if_neg e]
   cases gT kvs j with
   | none=>rfl
   | some x=>rw [Option.map_some,if_neg e]
 .rw [if_neg a];refine Ap k j y kvs ?_;rw [nD] at a
  cases q:gT kvs k with
  | none=>rfl
  | some x=>rw [q] at a;exact(a rfl).elim
theorem mB (kvs:List (κ×V)) (k:κ) (v:V):(putK kvs k v).length<=kvs.length+1:=by
 unfold putK
 split
 .rw [ae];exact Zk
 .rw [aq,aF,aV];exact Nat.le_refl _
theorem lW {kvs:List (κ×V)} {k:κ} (v:V) (h:gT kvs k=none):putK kvs k v=kvs ++ [(k,v)]:=by
 unfold putK;rw [nD,h];exact if_neg (by decide)
theorem oT.nQ (r:oT o u):o.isSome=u.isSome:=by
 cases o with
 | none=>cases u with
  | none=>rfl
  | some _=>exact(show False from r).elim
 | some _=>cases u with
  | none=>exact(show False from r).elim
  | some _=>rfl
theorem oT.getD (r:oT o u) (rd:RelV d d'):RelV (o.getD d) (u.getD d'):=by
 cases o with
 | none=>cases u with
  | none=>exact rd
  | some _=>exact(show False from r).elim
 | some _=>cases u with
  | none=>exact(show False from r).elim
  | some _=>exact r
theorem KV.val {kvs:List (κ×V)} {vs:List (κ×Value)} (r:KV kvs vs) (k:κ):oT (gT kvs k) (valueAt vs k):=by
 unfold KV at r
 induction r with
 | nil=>exact True.intro
 | @cons p q ps qs h t ih=>
  obtain⟨h1,h2⟩:=h;by_cases e:p.1=k
  .have e':q.1=k:=h1.symm.trans e;have b:valueAt (q::qs) k=some q.2:=by simp [valueAt,bJ,e']
   rwa [iu e,b]
  .have e':¬q.1=k:=λ z=>e (h1.trans z);have b:valueAt (q::qs) k=valueAt qs k:=by simp [valueAt,bJ,e']
   rwa [iw e,b]
theorem KV.any (r:KV kvs vs) (k:κ):(kvs.any λ kv=>decide (kv.1=k))=vs.any λ kv=>decide (kv.1=k):=by
 unfold KV at r
 induction r with
 | nil=>rfl
 | cons h t ih=>rw [cU,cU,ih,h.1]
theorem KV.QH (r:KV kvs vs) (k:κ) (ry:RelV y u) :
  KV (kvs.map λ kv=>if kv.1=k then (kv.1,y) else kv) (vs.map λ kv=>if kv.1=k then (kv.1,u) else kv):=by
 unfold KV at r⊢
 induction r with
 | nil=>exact .nil
 | @cons p q ps qs h t ih=>
  rw [aD,aD];refine .cons ?_ ih;obtain⟨h1,h2⟩:=h;by_cases e:p.1=k
  .rw [if_pos e,if_pos (h1.symm.trans e)];exact⟨h1,ry⟩
  .rw [if_neg e,if_neg (λ z=>e (h1.trans z))];exact⟨h1,h2⟩
theorem KV.put (r:KV kvs vs) (k:κ) (ry:RelV y u):KV (putK kvs k y) (stored vs k u):=by
 unfold putK stored;rw [r.any k];by_cases e:(vs.any λ kv=>decide (kv.1=k))=true
 .rw [if_pos e,if_pos e];exact r.QH k ry
 .rw [if_neg e,if_neg e];exact Paired.snoc r ⟨rfl,ry⟩
theorem KV.drop (r:KV kvs vs) (k:κ):KV (um kvs k) (without vs k):=by
 unfold KV at r⊢;unfold um without
 induction r with
 | nil=>exact .nil
 | @cons p q ps qs h t ih=>
  obtain⟨h1,h2⟩:=h;rw [dC,dC];by_cases e:p.1=k
  .have a:¬decide (p.1≠k)=true:=by simp [e]
   have b:¬decide (q.1≠k)=true:=by simp [h1.symm.trans e]
   rwa [if_neg a,if_neg b]
  .have e':¬q.1=k:=λ z=>e (h1.trans z);have a:decide (p.1≠k)=true:=by simp [e]
   have b:decide (q.1≠k)=true:=by simp [e']
   rw [if_pos a,if_pos b];exact .cons ⟨h1,h2⟩ ih
theorem KV.keys {kvs:List (κ×V)} {vs:List (κ×Value)} (r:KV kvs vs):kvs.map (·.1)=vs.map (·.1):=by
 unfold KV at r
 induction r with
 | nil=>rfl
 | cons h t ih=>rw [aD,aD,ih,h.1]
theorem KV.length (r:KV kvs vs):kvs.length=vs.length:=Paired.length r
theorem MI (kvs:List (κ×V)) (k:κ):(um kvs k).length<=kvs.length:=bB _ _
end
theorem uh (r:RelV (kV k) u):(gA P w).is k u=true:=by
 cases k with
 | inl i=>obtain⟨t,e⟩:=(show ∃t,u=Value.int i t from r);subst e;exact DZ P w i t
 | inr x=>obtain⟨t,e⟩:=(show ∃t,u=Value.str x t from r);subst e;exact DY P w x t
theorem AO:∀{ks:List Key} {us:List Value},Vals (ks.map kV) us->ItemsAre (gA P w) ks us
 | [],_,r=>by rw [bu] at r;cases r;exact .nil
 | k::ks,_,r=>by
  rw [aD] at r
  cases r with
  | cons h t=>exact .cons (uh h) (AO t)
abbrev KT (H:Hp):List (List Key×V)->List (List Key×Addr×Value)->Prop:=Paired λ p q=>p.1=q.1/\H q.2.1=some (.tup (p.1.map kV))/\RelV p.2 q.2.2
theorem KT.val {H:Hp} {kvs:List (List Key×V)} {xs:List (List Key×Addr×Value)} (r:KT H kvs xs) (k:List Key):oT (gT kvs k) ((atKey xs k).map (·.2)):=by
 induction r with
 | nil=>exact True.intro
 | @cons p q ps qs h t ih=>
  obtain⟨h1,_,h2⟩:=h;by_cases e:p.1=k
  .have e':q.1=k:=h1.symm.trans e;have b:atKey (q::qs) k=some q.2:=by simp [atKey,bJ,e']
   rwa [iu e,b]
  .have e':¬q.1=k:=λ z=>e (h1.trans z);have b:atKey (q::qs) k=atKey qs k:=by simp [atKey,bJ,e']
   rwa [iw e,b]
theorem KT.QH (r:KT H kvs xs) (k:List Key) (ry:RelV y u) :
  KT H (kvs.map λ kv=>if kv.1=k then (kv.1,y) else kv) (xs.map (putAt k u)):=by
 induction r with
 | nil=>exact .nil
 | @cons p q ps qs h t ih=>
  rw [aD,aD];refine .cons ?_ ih;obtain⟨h1,h2,h3⟩:=h;unfold putAt;by_cases e:p.1=k
  .rw [if_pos e,if_pos (h1.symm.trans e)];exact⟨h1,h2,ry⟩
  .rw [if_neg e,if_neg (λ z=>e (h1.trans z))];exact⟨h1,h2,h3⟩
theorem KT.put (r:KT H kvs xs) (k:List Key) (hb:H b=some (.tup (k.map kV))) (ry:RelV y u) :
  KT H (putK kvs k y) (storedH xs k b u):=by
 have e:(kvs.any λ kv=>decide (kv.1=k))=(atKey xs k).isSome:=by
  rw [nD,(r.val k).nQ,Option.isSome_map]
 unfold putK storedH;rw [e];by_cases q:(atKey xs k).isSome=true
 .rw [if_pos q,if_pos q];exact r.QH k ry
 .rw [if_neg q,if_neg q];exact Paired.snoc r ⟨rfl,hb,ry⟩
theorem KT.keeps (r:KT H kvs xs) (ht:∀b ys,H b=some (.tup ys)->H' b=some (.tup ys)):KT H' kvs xs:=
 Paired.RE r λ _ _ z=>⟨z.1,ht _ _ z.2.1,z.2.2⟩
section
variable {P:Program} {w:World} {H:Hp} {h:Heap} {a:Addr}
theorem PF (ok:rA P w H h) (e:Rd H a u):ig P w H h a u:=e.ok ok
theorem pk (ok:rA P w H h) (e:Rd H a (.dK kvs)):kvs.length<=sizeLine/\(a==sysModules)=false/\∃vs,KV kvs vs/\h.DictOf (gA P w) a vs:=
 show ig P w H h a (.dK kvs) from PF ok e
theorem MJ (ok:rA P w H h) (e:H a=some (.dK kvs)):kvs.length<=sizeLine/\(a==sysModules)=false/\∃vs,KV kvs vs/\h.DictOf (gA P w) a vs:=pk ok (.inl e)
theorem sQ (ok:rA P w H h) (e:H a=some (.tup (ks.map kV))):(tupleKind (gA P w)).is h ks a:=by
 obtain⟨_,its,r,o,h1,h2,n,h3⟩:=(show ig P w H h a (.tup (ks.map kV)) from ok a _ e)
 exact⟨o,its.toArray,n,h1,h2,h3,by simpa using AO r⟩
theorem yX (ok:rA P w H h) (e:Rd H a (.dT kvs)):kvs.length<=sizeLine/\(a==sysModules)=false/\
  ∃xs,KT H kvs xs/\h.DictOfH (tupleKind (gA P w)) a xs:=by
 obtain⟨z,y,xs,r,o,es,ep,h1,h2,h3,h4,h5⟩:=(show ig P w H h a (.dT kvs) from PF ok e)
 refine⟨z,y,xs,r,o,es,ep,h1,h2,h3,h4,λ x hx=> ?_,h5⟩
 have all:∀{l:List (List Key×V)} {m:List (List Key×Addr×Value)},KT H l m->∀x∈m,(tupleKind (gA P w)).is h x.1 x.2.1:=by
  intro l m q
  induction q with
  | nil=>intro x hx;exact nomatch hx
  | @cons p q ps qs hq t ih=>
   intro x hx;rcases aA.mp hx with e|hx
   .subst e;exact sQ ok (by rw [<-hq.1];exact hq.2.1)
   .exact ih x hx
 exact all r x hx
theorem Qi (ok:rA P w H h) (e:H a=some (.dT kvs)):kvs.length<=sizeLine/\(a==sysModules)=false/\
  ∃xs,KT H kvs xs/\h.DictOfH (tupleKind (gA P w)) a xs:=yX ok (.inl e)
end
def lB (H:Hp) (a:Addr) (y:V) (r:Option V):Prop:=
 (∃kvs k,Rd H a (.dK kvs)/\y=kV k/\r=gT kvs k)\/∃kvs k b,Rd H a (.dT kvs)/\y = .ref b/\H b=some (.tup (k.map kV))/\r=gT kvs k
def xq (H:Hp) (a:Addr) (y v:V) (H':Hp):Prop:=
 (∃kvs k,H a=some (.dK kvs)/\y=kV k/\kvs.length<sizeLine/\H'=upd H a (.dK (putK kvs k v)))\/
 ∃kvs k b,H a=some (.dT kvs)/\y = .ref b/\H b=some (.tup (k.map kV))/\kvs.length<sizeLine/\H'=upd H a (.dT (putK kvs k v))
theorem lB.k {H:Hp} {a:Addr} {kvs:List (Key×V)} {k:Key} (e:H a=some (.dK kvs)):lB H a (kV k) (gT kvs k):=.inl ⟨kvs,k,.inl e,rfl,rfl⟩
theorem lB.t {H:Hp} {a b:Addr} {kvs:List (List Key×V)} {k:List Key} (e:H a=some (.dT kvs)) (eb:H b=some (.tup (k.map kV))):lB H a (.ref b) (gT kvs k):=.inr ⟨kvs,k,b,.inl e,rfl,eb,rfl⟩
theorem xq.k {H:Hp} {a:Addr} {kvs:List (Key×V)} {k:Key} {v:V} (e:H a=some (.dK kvs)) (hl:kvs.length<sizeLine):xq H a (kV k) v (upd H a (.dK (putK kvs k v))):=.inl ⟨kvs,k,e,rfl,hl,rfl⟩
theorem xq.t {H:Hp} {a b:Addr} {kvs:List (List Key×V)} {k:List Key} {v:V} (e:H a=some (.dT kvs)) (eb:H b=some (.tup (k.map kV))) (hl:kvs.length<sizeLine) :
  xq H a (.ref b) v (upd H a (.dT (putK kvs k v))):=.inr ⟨kvs,k,b,e,rfl,eb,hl,rfl⟩
section
variable {X:Cx} {pins:List (Addr×Obj)} {σ:St} {H:Hp} {s:Shared} {a:Addr} {y v:V} {u r:Value} {o:Option V} {A:Around} {E:Value->Shared->Prop}
theorem Inv.big (I:Inv X pins σ H s):sysModules<s.heap.objs.size:=by
 have h:mainGlobals<s.heap.objs.size:=(I.mod.glob.keeps I.bk).lt;exact Nat.lt_trans (by decide) h
theorem J5 (hu:A.units+1<cLine) (I:Inv X pins σ H s) (g:lB H a y (some v)) (ry:RelV y u) (h:∀w' s',Inv X pins σ H s'->RelV v w'->Q w' s') :
  wpAny (model X.prog X.w) A (getItem (.ref a) u) Q E s:=by
 rcases g with ⟨kvs,k,e,ey,l⟩ | ⟨kvs,k,b,e,ey,eb,l⟩
 .subst ey;obtain⟨z,hd,vs,rel,dd⟩:=pk I.gJ e;obtain⟨w',hw,Fq⟩:=oT.some_of (v:=v) (o:=valueAt vs k) (by rw [l];exact rel.val k);exact wpAny_getItem_of (uh ry) dd.mapOf hw (h w' _ (I.tok _) Fq)
 .subst ey
  cases (show u=Value.ref b from ry);obtain⟨z,hd,xs,rel,dd⟩:=yX I.gJ e;obtain⟨w',hw,Fq⟩:=oT.some_of (v:=v) (o:=(atKey xs k).map (·.2)) (by rw [l];exact rel.val k);obtain⟨p,hp,TN⟩:=Option.map_eq_some_iff.mp hw;refine wpAny_getItem_heap (tupleKind_room_in1 hu) (sQ I.gJ eb) dd hp ?_;rw [TN];exact h w' _ (I.tok _) Fq
theorem Z1 (hu:A.units+1<cLine) (I:Inv X pins σ H s) (g:lB H a y o) (ry:RelV y u) (h:∀s',Inv X pins σ H s'->Q (.bool o.isSome) s') :
  wpAny (model X.prog X.w) A (compareOp .In u (.ref a)) Q E s:=by
 rcases g with ⟨kvs,k,e,ey,l⟩ | ⟨kvs,k,b,e,ey,eb,l⟩
 .subst ey;obtain⟨z,hd,vs,rel,dd⟩:=pk I.gJ e;refine wpAny_in_of (uh ry) hd dd.mapOf ?_;rw [<-(rel.val k).nQ,<-l];exact h _ (I.tok _)
 .subst ey
  cases (show u=Value.ref b from ry);obtain⟨z,hd,xs,rel,dd⟩:=yX I.gJ e;refine wpAny_in_heap (tupleKind_room_in1 hu) (sQ I.gJ eb) hd dd ?_;have q:=(rel.val k).nQ;rw [Option.isSome_map] at q;rw [<-q,<-l];exact h _ (I.tok _)
theorem Pb (hu:A.units+1<cLine) (I:Inv X pins σ H s) (g:lB H a y o) (ry:RelV y u) (h:∀s',Inv X pins σ H s'->Q (.bool (!o.isSome)) s') :
  wpAny (model X.prog X.w) A (compareOp .NotIn u (.ref a)) Q E s:=by
 rcases g with ⟨kvs,k,e,ey,l⟩ | ⟨kvs,k,b,e,ey,eb,l⟩
 .subst ey;obtain⟨z,hd,vs,rel,dd⟩:=pk I.gJ e;refine wpAny_notIn_of (uh ry) hd dd.mapOf ?_;rw [<-(rel.val k).nQ,<-l];exact h _ (I.tok _)
 .subst ey
  cases (show u=Value.ref b from ry);obtain⟨z,hd,xs,rel,dd⟩:=yX I.gJ e;refine wpAny_notIn_heap (tupleKind_room_in1 hu) (sQ I.gJ eb) hd dd ?_;have q:=(rel.val k).nQ;rw [Option.isSome_map] at q;rw [<-q,<-l];exact h _ (I.tok _)
theorem uo (I:Inv X pins σ H s) (mu:VO (H a)) (hs:Heap.SameBut a s.heap h') (he:∃q,h'.get? a=some q) (new:ig X.prog X.w (upd H a ob) h' a ob) :
  Inv X pins σ (upd H a ob) {s with heap:=h',toks:=t'}:=
 I.write (x:=a) (e:=a) mu (.inl rfl) (λ b q hb z=>(hs.2 b hb).trans z) he new
theorem CI (z:kvs.length<=sizeLine) (hd:(a==sysModules)=false) (rel:KV kvs vs) (dd:h'.DictOf (gA P w) a vs) :
  ig P w H' h' a (.dK kvs):=⟨z,hd,vs,rel,dd⟩
theorem J4 (hu:A.units+1<cLine) (I:Inv X pins σ H s) (g:xq H a y v H') (ry:RelV y u) (rv:RelV v r) (h:∀s',Inv X pins σ H' s'->Q () s') :
  wpAny (model X.prog X.w) A (setItem (.ref a) u r) Q E s:=by
 rcases g with ⟨kvs,k,e,ey,l,eH⟩ | ⟨kvs,k,b,e,ey,eb,l,eH⟩
 .subst ey eH;obtain⟨z,hd,vs,rel,dd⟩:=MJ I.gJ e;have hz:vs.length<=sizeLine:=by rwa [<-rel.length]
  have hl:(putK kvs k v).length<=sizeLine:=by have:=mB kvs k v;exact Zc this l
  refine wpAny_setItem_pairs (hsz:=hz) (uh ry) dd λ h' Kt hs=>h _ ?_;have he:∃q,h'.get? a=some q:=let ⟨q,_,_,hq,_⟩:=Kt;⟨q,hq⟩;exact uo I (by rw [e];exact True.intro) hs he (CI hl hd (rel.put k rv) Kt)
 .subst ey eH
  cases (show u=Value.ref b from ry);obtain⟨z,hd,xs,rel,dd⟩:=Qi I.gJ e;have hz:xs.length<=sizeLine:=by rwa [<-Paired.length rel]
  have hl:(putK kvs k v).length<=sizeLine:=by have:=mB kvs k v;exact Zc this l
  refine wpAny_setItem_heap (hsz:=hz) (tupleKind_room_in1 hu) (sQ I.gJ eb) dd λ h' Kt hs=>h _ ?_;obtain⟨q,es,ep,hq,h2,h3,h4,_,h5⟩:=Kt;refine uo I (by rw [e];exact True.intro) hs ⟨q,hq⟩ ⟨hl,hd,_,(rel.put k eb rv).keeps λ c ys ec=> ?_,q,es,ep,hq,h2,h3,h4,h5⟩
  rwa [e_ (gN ec e (λ z=>nomatch z))]
end
section
variable {X:Cx} {pins:List (Addr×Obj)} {σ:St} {H:Hp} {s:Shared} {a:Addr} {kvs:List (Key×V)} {k:Key} {u:Value} {A:Around} {E:Value->Shared->Prop}
theorem Vx (I:Inv X pins σ H s) (e:H a=some (.dK kvs)) (ry:RelV (kV k) u) (l:gT kvs k=some v) (hm:more = []\/∃x,more = [x])
  (h:∀w' s',Inv X pins σ (upd H a (.dK (um kvs k))) s'->RelV v w'->Q w' s'):wpAny (model X.prog X.w) A (call (.builtin "dict.pop") (.ref a::u::more)) Q E s:=by
 obtain⟨z,hd,vs,rel,dd⟩:=MJ I.gJ e;obtain⟨w',hw,Fq⟩:=oT.some_of (v:=v) (o:=valueAt vs k) (by rw [<-l];exact rel.val k)
 have hp:(keyPart u).isSome=true:=by
  cases k with
  | inl i=>obtain⟨t,q⟩:=(show ∃t,u=Value.int i t from ry);subst q;rfl
  | inr x=>obtain⟨t,q⟩:=(show ∃t,u=Value.str x t from ry);subst q;rfl
 have ha:argsOk "dict.pop" ⟨.ref a::u::more,[]⟩:=by
  rcases hm with q | ⟨x,q⟩
  .subst q;exact PySem.F.args_dict_pop_2 _ _
  .subst q;exact PySem.F.args_dict_pop_3 _ _ _
 refine call_meetsIn PySem.F.slot_dict_pop dd.typeIs PySem.F.entry_dict_pop ha (meets_dict_pop_there (gA X.prog X.w) a (uh ry) more hm hp)
  ⟨vs,w',dd,by rwa [<-rel.length],hw,λ h' Kt hs=>h w' _ ?_ Fq⟩
 have he:∃q,h'.get? a=some q:=let ⟨q,_,_,hq,_⟩:=Kt;⟨q,hq⟩;exact uo I (by rw [e];exact True.intro) hs he (CI (bj (MI kvs k) z) hd (rel.drop k) Kt)
theorem Vy (I:Inv X pins σ H s) (e:Rd H a (.dK kvs)) (h:∀t s',Inv X pins σ H s'->Q (.int kvs.length t) s'):wpAny (model X.prog X.w) A (call (.builtin "len") [.ref a]) Q E s:=by
 obtain⟨z,hd,vs,rel,dd⟩:=pk I.gJ e;refine call_len_dict hd dd (by rw [<-rel.length];rw [sizeLine_eq] at z;lia) ?_;rw [<-rel.length];exact h _ _ (I.tok _)
end
def Pr (i:Expr):Prop:=∀ov iv,subscripted i false ov iv=operate [ov,iv] (getItem ov iv)
theorem NS {prog:Program} {w:World} {A:Around} {E:Value->Shared->Prop} {s:Shared} {env:Env} {value slice:Expr} {pos:Pos} {T id:String} {Q:Value->Shared->Prop}
  (hl:typeLookup (.type T) "__getitem__" = pure (some (.builtin id))) (hs:Pr slice)
  (h:wpAny (model prog w) A (eval value env) (λ o jL=>wpAny (model prog w) A (eval slice env) (λ i ji=>ji.TypeIs o T/\wpAny (model prog w) A (getItem o i) Q E ji) E jL) E s) :
  wpAny (model prog w) A (eval (.Subscript value slice pos) env) Q E s:=by
 refine Subscript_ (wpAny_mono h (λ o jL EY=>wpAny_mono EY (λ i ji Vd=> ?_) λ _ _ x=>x) λ _ _ x=>x);obtain⟨hT,Vd⟩:=Vd;unfold subscriptTail;refine wpAny_bind ?_;rw [getitemInPython_of_ne hT.not_modules];refine wpAny_bind (wpAny_specialOf hT hl ?_)
 have fin:wpAny (model prog w) A (subscripted slice false o i) (λ r Nd=>wpAny (model prog w) A (letTemporaryGo value o r >>= λ _=>pure r) Q E Nd) E ji:=by
  rw [hs o i];exact wpAny_operating (wpAny_mono Vd (λ r Nd WB=>wpAny_bind (wpAny_letTemporaryGo (wpAny_pure WB))) λ _ _ x=>x)
 first
  | exact wpAny_pure (wpAny_bind fin)
  | exact wpAny_bind (wpAny_pure (wpAny_bind fin))
  | exact wpAny_bind fin
theorem Es (I:Inv X pins σ H s) (g:lB H a y o):s.TypeIs (.ref a) "dict" := by
 rcases g with ⟨kvs,k,e,_,_⟩ | ⟨kvs,k,b,e,_,_,_⟩
 .obtain⟨_,_,vs,_,dd⟩:=pk I.gJ e;exact dd.typeIs
 .obtain⟨_,_,xs,_,dd⟩:=yX I.gJ e;exact dd.typeIs
def Dq (td ty:TE):TE:=λ σ H Q=>td σ H λ x H1=>ty σ H1 λ y H2=>∃a v,x = .ref a/\lB H2 a y (some v)/\Q v H2
def NO (ty td:TE):TE:=λ σ H Q=>ty σ H λ y H1=>td σ H1 λ x H2=>∃a o,x = .ref a/\lB H2 a y o/\Q (.bl o.isSome) H2
def xv (ty td:TE):TE:=λ σ H Q=>ty σ H λ y H1=>td σ H1 λ x H2=>∃a o,x = .ref a/\lB H2 a y o/\Q (.bl (!o.isSome)) H2
def Ho (td ty tv:TE):TS:=λ D σ H=>tv σ H λ v H1=>td σ H1 λ x H2=>ty σ H2 λ y H3=>∃a H4,x = .ref a/\xq H3 a y v H4/\D.nx σ H4
section
variable {X:Cx} {o i e value:Expr} {pos pos' NH:Pos} {td ty tv:TE}
theorem Oo (hu:X.A.units+1<cLine) (ho:PE X o td) (hi:PE X i ty) (hs:Pr i):PE X (.Subscript o i pos) (Dq td ty):=by
 intro pins s σ H Q I h;refine NS PySem.F.slot_dict_getitem.lookup hs (gU (ho pins s σ H _ I h) λ u s1 ⟨x,H1,I1,rx,q1⟩=>gU (hi pins s1 σ H1 _ I1 q1) λ iv s2 zq=> ?_);obtain⟨y,H2,I2,ry,a,v,ex,g,q2⟩:=zq;subst ex;obtain rfl:u=Value.ref a:=rx;exact⟨Es I2 g,J5 hu I2 g ry λ w' s3 I3 Fq=>⟨v,H2,I3,Fq,q2⟩⟩
theorem Rn (hu:X.A.units+1<cLine) (hi:PE X i ty) (ho:PE X o td):PC X .In i o (NO ty td):=by
 intro pins s σ H Q I h;refine gU (hi pins s σ H _ I h) λ iv s1 ⟨y,H1,I1,ry,q1⟩=>gU (ho pins s1 σ H1 _ I1 q1) λ u s2 zq=> ?_;obtain⟨x,H2,I2,rx,a,ov,ex,g,q2⟩:=zq;subst ex;obtain rfl:u=Value.ref a:=rx;exact Z1 hu I2 g ry λ s3 I3=>⟨.bl ov.isSome,H2,I3,rfl,q2⟩
theorem Jn (hu:X.A.units+1<cLine) (hi:PE X i ty) (ho:PE X o td):PC X .NotIn i o (xv ty td):=by
 intro pins s σ H Q I h;refine gU (hi pins s σ H _ I h) λ iv s1 ⟨y,H1,I1,ry,q1⟩=>gU (ho pins s1 σ H1 _ I1 q1) λ u s2 zq=> ?_;obtain⟨x,H2,I2,rx,a,ov,ex,g,q2⟩:=zq;subst ex;obtain rfl:u=Value.ref a:=rx;exact Pb hu I2 g ry λ s3 I3=>⟨.bl (!ov.isSome),H2,I3,rfl,q2⟩
theorem Oc (hu:X.A.units+1<cLine) (ho:PE X o td) (hi:PE X i ty) (hv:PE X value tv) (hs:swapsWith value (some (.Subscript o i pos')) pos.line X.env=pure false) :
  PS X (.Assign [.Subscript o i pos'] value pos) (Ho td ty tv):=by
 intro pins s σ H D I h;refine wpAny_Assign_Subscript (gU (hv pins s σ H _ I h) λ r s1 ⟨v,H1,I1,rv,q1⟩=>gU (ho pins s1 σ H1 _ I1 q1) λ u s2 ⟨x,H2,I2,rx,q2⟩=>gU (hi pins s2 σ H2 _ I2 q2) λ iv s3 zq=> ?_) hs;obtain⟨y,H3,I3,ry,a,H4,ex,g,q3⟩:=zq;subst ex;obtain rfl:u=Value.ref a:=rx;exact J4 hu I3 g ry rv λ s4 I4=>⟨σ,H4,I4,q3⟩
end
theorem MK (h:Heap) (hb:sysModules<h.objs.size):ig P w H (h.push {cls:=.type "dict",data:=.dict #[]}) h.objs.size (.dK []):=
 ⟨aP _,beq_eq_false_iff_ne.mpr (Ne.symm (aO hb)),[],.nil,Heap.DictOf.new h⟩
theorem MH (h:Heap) (hb:sysModules<h.objs.size):ig P w H (h.push {cls:=.type "dict",data:=.dict #[]}) h.objs.size (.dT []):=
 ⟨aP _,beq_eq_false_iff_ne.mpr (Ne.symm (aO hb)),[],.nil,_,#[],0,aK _ rfl,⟨rfl,rfl,rfl⟩,rfl,rfl,cq⟩
def BP:TE:=λ _ H Q=>∀p,H p=none->Q (.ref p) (upd H p (.dK []))
section
variable {X:Cx} {pos:Pos}
theorem LH:PE X (.Dict [] [] pos) BP:=λ pins s σ H Q I h=>
 wpAny_Dict_empty ⟨.ref s.heap.objs.size,_,I.laid (a:=s.heap.objs.size) (o:=.dK []) (t':=s.toks) (λ _ _ q=>ah _ q) (ay _) (MK s.heap I.big),rfl,h _ (I.gJ.fresh (ay _))⟩
end
def oH (kvs more:List (Key×V)):List (Key×V):=more.foldl (λ acc kv=>putK acc kv.1 kv.2) kvs
theorem KV.merge:∀{more:List (Key×V)} {rs:List (Key×Value)} {kvs:List (Key×V)} {vs:List (Key×Value)},KV more rs->KV kvs vs->KV (oH kvs more) (merged vs rs):=by
 intro more rs kvs vs r;unfold KV at r
 induction r generalizing kvs vs with
 | nil=>intro q;exact q
 | @cons p q ps qs h t ih=>
  intro r0
  have e:KV (putK kvs p.1 p.2) (stored vs q.1 q.2):=by
   have:=r0.put p.1 h.2
   rwa [<-h.1]
  exact ih e
theorem rP:∀(more kvs:List (Key×V)),(oH kvs more).length<=kvs.length+more.length
 | [],kvs=>by show kvs.length<=kvs.length+0;exact Zk
 | p::r,kvs=>by
  have h1:=rP r (putK kvs p.1 p.2);have h2:=mB kvs p.1 p.2;show (oH (putK kvs p.1 p.2) r).length<=_;rw [aF];lia
structure M1 (X:Cx) (o:Expr) (m:Str) (apos:Pos) (e:Expr) (gM:Pos):Prop where
 base:attributeBase o m X.env (eval o X.env)=eval o X.env
 iD:((backTo gM (starEach [e] X.env)).all (λ x=> !x.1)&&(backToKw gM (keywordEach [] X.env)).all (λ x=>x.1.isSome)
  && decide (([e]:List Expr).length+([]:List Keyword).length+(if ([]:List Keyword).isEmpty then 0 else 1)<30))=true
 line:(apos.endLine==gM.line)=true
 trees:backTo gM (starEach [e] X.env) = [(false,eval e X.env)]
structure M2 (X:Cx) (o:Expr) (m:Str) (apos:Pos) (e f:Expr) (gM:Pos):Prop where
 base:attributeBase o m X.env (eval o X.env)=eval o X.env
 iD:((backTo gM (starEach [e,f] X.env)).all (λ x=> !x.1)&&(backToKw gM (keywordEach [] X.env)).all (λ x=>x.1.isSome)
  && decide (([e,f]:List Expr).length+([]:List Keyword).length+(if ([]:List Keyword).isEmpty then 0 else 1)<30))=true
 line:(apos.endLine==gM.line)=true
 trees:backTo gM (starEach [e,f] X.env) = [(false,eval e X.env),(false,eval f X.env)]
def WU (H:Hp) (a:Addr):Prop:=(∃kvs,Rd H a (.dK kvs))\/∃kvs,Rd H a (.dT kvs)
theorem yN (I:Inv X pins σ H s) (d:WU H a) :
  s.TypeIs (.ref a) "dict"/\(∀b,Value.ref a = .ref b->∃ob,s.heap.get? b=some ob/\ob.dict=none)/\(a==sysModules)=false:=by
 rcases d with ⟨kvs,e⟩ | ⟨kvs,e⟩
 .obtain⟨_,hd,vs,_,dd⟩:=pk I.gJ e;refine⟨dd.typeIs,λ b q=> ?_,hd⟩
  cases q;obtain⟨ob,_,_,h1,h2,_⟩:=dd;exact⟨ob,h1,h2.2.1⟩
 .obtain⟨_,hd,xs,_,dd⟩:=yX I.gJ e;refine⟨dd.typeIs,λ b q=> ?_,hd⟩
  cases q;obtain⟨ob,_,_,h1,h2,_⟩:=dd;exact⟨ob,h1,h2.2.1⟩
section
variable {X:Cx} {pins:List (Addr×Obj)} {σ:St} {H:Hp} {s:Shared} {a:Addr} {y d:V} {u r:Value} {o:Option V} {A:Around} {E:Value->Shared->Prop}
theorem SS (hu:A.units+1<cLine) (I:Inv X pins σ H s) (g:lB H a y o) (ry:RelV y u) (rd:RelV d r) (h:∀w' s',Inv X pins σ H s'->RelV (o.getD d) w'->Q w' s') :
  wpAny (model X.prog X.w) A (call (.builtin "dict.get") [.ref a,u,r]) Q E s:=by
 rcases g with ⟨kvs,k,e,ey,l⟩ | ⟨kvs,k,b,e,ey,eb,l⟩
 .subst ey;obtain⟨z,hd,vs,rel,dd⟩:=pk I.gJ e;refine call_meetsIn dP dd.typeIs PySem.F.entry_dict_get (PySem.F.args_dict_get_3 _ _ _) (meets_dict_get_default (gA X.prog X.w) a (uh ry) hd r) ⟨_,dd.mapOf,h _ _ (I.tok _) ?_⟩;rw [l];exact(rel.val k).getD rd
 .subst ey
  cases (show u=Value.ref b from ry);obtain⟨z,hd,xs,rel,dd⟩:=yX I.gJ e;refine call_meetsIn dP dd.typeIs PySem.F.entry_dict_get (PySem.F.args_dict_get_3 _ _ _) (meetsH_dict_get_default (tupleKind (gA X.prog X.w)) a b hd r) ⟨tupleKind_room_in1 hu,k,xs,sQ I.gJ eb,dd,h _ _ (I.tok _) ?_⟩;rw [l];exact(rel.val k).getD rd
end
def BQ (td ty tx:TE):TE:=λ σ H Q=>td σ H λ x H1=>∃a,x = .ref a/\WU H1 a/\ty σ H1 λ y H2=>tx σ H2 λ z H3=>∃o,lB H3 a y o/\Q (o.getD z) H3
def BO (td ty:TE):TE:=λ σ H Q=>td σ H λ x H1=>∃a,x = .ref a/\WU H1 a/\ty σ H1 λ y H2=>∃kvs k v,H2 a=some (.dK kvs)/\y=kV k/\gT kvs k=some v/\Q v (upd H2 a (.dK (um kvs k)))
section
variable {X:Cx} {o e f:Expr} {apos gM:Pos} {td ty tx:TE}
theorem LK (hu:X.A.units+1<cLine) (ho:PE X o td) (he:PE X e ty) (hf:PE X f tx) (m:M2 X o "get" apos e f gM):PE X (.Call (.Attribute o "get" apos) [e,f] [] gM) (BQ td ty tx):=by
 intro pins s σ H Q I h;refine wpAny_Call_method m.base m.iD m.line cE dP PySem.F.type_dict_get (gU (ho pins s σ H _ I h) λ u s1 zq=> ?_);obtain⟨x,H1,I1,rx,a,ex,d,q1⟩:=zq;subst ex;obtain rfl:u=Value.ref a:=rx;obtain⟨t1,t2,_⟩:=yN I1 d;refine⟨t1,t2,?_⟩;rw [m.trees]
 refine Calls.callWith_builtin rfl (Calls.evalArgs_plain (Calls.spliced_cons (gU (he pins s1 σ H1 _ I1 q1) λ iv s2 ⟨y,H2,I2,ry,q2⟩=>
  Calls.spliced_cons (gU (hf pins s2 σ H2 _ I2 q2) λ fv s3 ⟨z,H3,I3,rz,ov,g,q3⟩=>Calls.spliced_nil ?_))))
 exact SS hu I3 g ry rz λ w' s4 I4 Fq=>⟨_,H3,I4,Fq,q3⟩
theorem LG (ho:PE X o td) (he:PE X e ty) (m:M1 X o "pop" apos e gM):PE X (.Call (.Attribute o "pop" apos) [e] [] gM) (BO td ty):=by
 intro pins s σ H Q I h;refine wpAny_Call_method m.base m.iD m.line cE PySem.F.slot_dict_pop PySem.F.type_dict_pop (gU (ho pins s σ H _ I h) λ u s1 zq=> ?_);obtain⟨x,H1,I1,rx,a,ex,d,q1⟩:=zq;subst ex;obtain rfl:u=Value.ref a:=rx;obtain⟨t1,t2,_⟩:=yN I1 d;refine⟨t1,t2,?_⟩;rw [m.trees];refine Calls.callWith_builtin rfl (Calls.evalArgs_plain (Calls.spliced_cons (gU (he pins s1 σ H1 _ I1 q1) λ iv s2 ⟨y,H2,I2,ry,kvs,k,v,ea,ey,l,q2⟩=>Calls.spliced_nil ?_)));subst ey;exact Vx I2 ea ry l (.inl rfl) λ w' s3 I3 Fq=>⟨v,_,I3,Fq,q2⟩
end
section
variable {X:Cx} {pins:List (Addr×Obj)} {σ:St} {H:Hp} {s:Shared} {a:Addr} {kvs:List (Key×V)} {A:Around} {E:Value->Shared->Prop}
end
section
variable {X:Cx} {pins:List (Addr×Obj)} {σ:St} {H:Hp} {s:Shared} {a:Addr} {y:V} {u:Value} {A:Around} {E:Value->Shared->Prop}
end
end L2
namespace L2
open PySem
section
variable {X:Cx}
theorem lF:kg X (.builtin "len") (λ xs H Q=>∃a kvs,xs = [V.ref a]/\H a=some (.dK kvs)/\Q (.int kvs.length) H):=by
 intro pins s σ H xs us Q I r h;obtain⟨a,kvs,rfl,ha,q⟩:=h;obtain⟨u,rfl,ru⟩:=vals1 r
 cases ru;exact Vy I (.inl ha) λ t s' I'=>⟨.int kvs.length,H,I',⟨t,rfl⟩,q⟩
end
section
variable {κ:Type} [DecidableEq κ]
theorem xA:∀{l:List κ} {k:κ},l.Nodup->¬k∈l->(l ++ [k]).Nodup
 | [],k,_,_=>by simp
 | a::r,k,h,hk=>by
  obtain⟨h1,h2⟩:=aY.mp h;show (a::(r ++ [k])).Nodup;refine aY.mpr ⟨λ m=> ?_,xA h2 λ m=>hk (aA.mpr (Or.inr m))⟩;rcases ax.mp m with q|q
  .exact h1 q
  .exact hk (aA.mpr (Or.inl (ao.mp q).symm))
end
end L2
namespace L2
open PySem PySem.Spec PyProof.Rows
def T8 (z:Str):It:=⟨λ i _=>i<z.cps.size,λ i H v H'=>H'=H/\∃c,z.cps[i]? = some c/\v = .str ⟨#[c]⟩,λ i _=>i=z.cps.size⟩
theorem xS {P:Program} {w:World} {K:aj} {y:Str} {py:Pos} {n:Nat} {Pv:Nat->Value->Prop} {St:Nat->Heap->Prop} {it:Addr} {J:It}
  (W:∀A:Around,A.handled=none->Walks P w A it [it] [it] n Pv St) (hS:∀(A:Around) (i:Nat) (s:Shared) (Q:Value->Shared->Prop) (E:Value->Shared->Prop),St i s.heap->Q (.ref it) s->wpAny (model P w) A (pyIter (.ref it)) Q E s)
  (ho:∀i h,St i h->∃o,h.get? it=some o/\∀v,o.data≠.cell v) (hf:∀i h h',St i h->(∀b∈[it],∀o,h.get? b=some o->h'.get? b=some o)->St i h')
  (hgo:∀i H,J.go i H->i<n) (U0:∀i H,J.stop i H->i=n) (hy:∀i H v,J.go i H->Pv i v->∃z,RelV z v/\J.BE i H z H):Turn P w K (.Name y py) J [it] it St where
 mem:=by simp
 obj:=λ i h st b hb=>by
  obtain rfl:b=it:=by simpa using hb
  exact ho i h st
 keep:=hf
 item:=by
  intro X hP hw hK hc i pins s σ H E I fp st hg;subst hP hw hK;obtain⟨f0,f1,f2,f3,f4,f5⟩:=fp it (by simp);refine(W X.A (I.ok.hd hc)).item i s _ _ (hgo i H hg) st λ v h' tk hP C9 k=>⟨v,rfl,?_⟩
  obtain⟨z,rz,yz⟩:=hy i H v hg hP;have I1:Inv X pins σ H {s with heap:=h',toks:=tk}:=I.turned (λ b o hb e=>k b o (by simpa using hb) e) f0 f1 f3 f4 f5;exact wpAny_pure ⟨z,H,I1,rz,yz,C9,λ b hb=>(fp b hb).1⟩
 done:=by
  intro X hP hw hK hc i pins s σ H E I fp st hg;subst hP hw hK;obtain⟨f0,f1,f2,f3,f4,f5⟩:=fp it (by simp);have e:=U0 i H hg;subst e;exact(W X.A (I.ok.hd hc)).done s _ _ st λ h' tk k=>⟨rfl,I.turned (λ b o hb e=>k b o (by simpa using hb) e) f0 f1 f3 f4 f5⟩
 self:=hS
section
variable {X:Cx} {y:Str} {py:Pos}
def RX (te:TE):TI:=λ σ H R=>te σ H λ v H1=>∃z,v = .str z/\R (T8 z) H1
theorem HP (i:Nat) (H:Hp) (v:Value) (_:(T8 z).go i H) (h:SignAt z i v):∃u,RelV u v/\(T8 z).BE i H u H:=by
 obtain⟨c,t,e,rfl⟩:=h;exact⟨.str ⟨#[c]⟩,⟨t,rfl⟩,rfl,c,e,rfl⟩
theorem QZ (h:PE X e te):PI X (.Name y py) e (RX te):=by
 intro pins s σ H R I hw;refine gU (h pins s σ H _ I hw) λ v s1 zq=> ?_;obtain⟨z,H1,I1,r1,q1⟩:=zq;obtain⟨z,rfl,q⟩:=q1;obtain⟨t,rfl⟩:=r1
 have fin:∀{ty:String} (o:Obj),o.data = .fields #[.str z t,.int 0 0]->o.cls = .type ty->o.isFreed=false->
   Turn X.prog X.w X.K (.Name y py) (T8 z) [s1.heap.objs.size] s1.heap.objs.size (λ i h=>h.IsStrIter s1.heap.objs.size ty z t i)->
   WT X pins σ (.Name y py) R (.ref s1.heap.objs.size) {s1 with heap:=s1.heap.push o}:=λ {ty} o ho hc YV T=>by
  refine⟨s1.heap.objs.size,[s1.heap.objs.size],_,T8 z,H1,rfl,I1.kept (t':=s1.toks) λ b o e=>ah _ e,T,⟨o,aK _ YV,hc,ho⟩,λ b hb=> ?_,q⟩;obtain rfl:b=s1.heap.objs.size:=by simpa using hb
  exact I1.Ae (ay _) (I1.gJ.fresh (ay _))
 have nc:∀{ty:String} (i:Nat) (h:Heap),h.IsStrIter s1.heap.objs.size ty z t i->∃o,h.get? s1.heap.objs.size=some o/\∀v,o.data≠.cell v:=λ i h ⟨o,e,c,d⟩=>⟨o,e,λ v z=>by rw [d] at z;cases z⟩
 have kp:∀{ty:String} (i:Nat) (h h':Heap),h.IsStrIter s1.heap.objs.size ty z t i->(∀b∈[s1.heap.objs.size],∀o,h.get? b=some o->h'.get? b=some o)->h'.IsStrIter s1.heap.objs.size ty z t i:=
  λ i h h' ⟨o,e,c,d⟩ k=>⟨o,k _ (by simp) o e,c,d⟩
 cases ha:z.cps.all (· < 128)
 .exact wpAny_pyIter_wide ha (fin _ rfl rfl rfl (xS (λ A hA=>Walks.strWide hA _ z t) (λ A i s Q E st h=>wpAny_pyIter_striter_wide st h) nc kp (λ _ _ h=>h) (λ _ _ h=>h) HP))
 .exact wpAny_pyIter_ascii ha (fin _ rfl rfl rfl (xS (λ A hA=>Walks.strAscii hA _ z t) (λ A i s Q E st h=>wpAny_pyIter_striter_ascii st h) nc kp (λ _ _ h=>h) (λ _ _ h=>h) HP))
end
theorem Bc (J:Nat->Shared->Prop)
  (turn:∀n s,J n s->wpAny (model prog w) A (pyNext it) (λ r jL=>match r with
   | none=>R (.ok .next) jL
   | some v=>wpAny (model prog w) A (letOwnedTupleGo tg it v) (λ _ Ui=>wpAny (model prog w) A (assign tg env v) (λ _ ji=>
     wpAny (model prog w) A (forIn ifs true λ c r=>if r=true then do let ok <-isTrue c env (eval c env);pure (ForInStep.yield ok) else pure (ForInStep.yield r)) (λ ok Nd=>
      if ok=true then wpAny (model prog w) A (eval elt env) (λ x Tu=>wpAny (model prog w) A (call (.builtin "list.append") [acc,x]) (λ _ Ô=>∃m,m<n/\J m Ô) (λ _ _=>False) Tu) (λ _ _=>False) Nd
      else ∃m,m<n/\J m Nd) (λ _ _=>False) ji) (λ _ _=>False) Ui) (λ _ _=>False) jL) (λ _ _=>False) s)
  (n:Nat) (h:J n s):codeAny (model prog w) A (.compLoop (.ListComp elt [⟨tg,iter,ifs,0⟩] scope pos) 0 it acc env) R s:=by
 refine codeAny_loop rfl J (λ n s hJ=> ?_) n h;show wpAny (model prog w) A (Sem.onRaise (compTurn (.ListComp elt [⟨tg,iter,ifs,0⟩] scope pos) 0 it acc env) (λ e=>do noteFrame e env;theTreesLotGoes e)) _ _ s;refine wpAny_noted ?_;rw [compTurn_list];have no:∀{E:Value->Shared->Prop} (a:Value) (b:Shared),False->E a b:=λ _ _ z=>z.elim;refine wpAny_bind (wpAny_standAt (wpAny_bind (wpAny_mono (turn n s hJ) (λ r jL EY=> ?_) no)))
 cases r with
 | none=>exact wpAny_pure EY
 | some v=>
  refine wpAny_bind (wpAny_mono EY (λ _ Ui EY=> ?_) no);refine wpAny_bind (wpAny_mono EY (λ _ ji Vd=> ?_) no);refine wpAny_bind (wpAny_mono Vd (λ ok Nd WB=> ?_) no)
  cases ok with
  | false=>exact wpAny_pure ⟨rfl,WB⟩
  | true=>
   refine wpAny_bind (wpAny_bind (wpAny_mono WB (λ x Tu h_4=> ?_) no));exact wpAny_bind (wpAny_mono h_4 (λ _ Ô h_5=>wpAny_pure (wpAny_pure ⟨rfl,h_5⟩)) no)
abbrev Cx.De (X:Cx) (scope:Scope) (cl:List (Str×Addr)) (C:Addr) (N:List Str) (jj:Shared) (kZ:Hp) (ex:List Addr):Cx:=
 {X with env:=compEnvC scope cl C X.env,N:=N,jj:=jj,kZ:=kZ,outer:=X.stack,stack:=X.stack,ex:=ex,fn:=λ _=>false,pn:= [],xe:=λ _ _=>False}
structure tG (sc so:Scope) (x:Str) (N XN:List Str) (fr:List Nat):Prop where
 kind:sc.kind = .function
 F7:∀y∈sc.names,y.2≠.cell
 names:∀y∈sc.names,y.2 = .local->sc.names.lookup y.1=some .local
 hx:sc.names.lookup x=some .local
 nd:N.Nodup
 SI:N=x::fr.map (λ j=>XN.getD j "")
 X6:∀j∈fr,j<XN.length
 Vj:∀y∈sc.names,y.2 = .free->so.names.lookup y.1=some .cell\/so.names.lookup y.1=some .free
 X4:∀j∈fr,sc.names.lookup (XN.getD j "")=some .free
 pN:∀j∈fr,so.names.lookup (XN.getD j "")≠some .local
def gk (env:Env):List (Str×NameKind)->List (Str×Addr)->List (Str×Addr)
 | [],acc=>acc
 | (n,k)::r,acc=>if k == .free then (match env.cells.lookup n with|some c=>gk env r ((n,c)::acc)|none=>gk env r acc) else gk env r acc
theorem Ez (env:Env):∀(l:List (Str×NameKind)) (acc:List (Str×Addr)),(∀y∈l,y.2 = .free->∃c,env.cells.lookup y.1=some c)->
  (forIn (m:=Sem) l acc λ (y:Str×NameKind) (cs:List (Str×Addr))=>if y.2 == .free then do let a <-cellOf env y.1;pure (ForInStep.yield ((y.1,a)::cs)) else pure (ForInStep.yield cs))=pure (gk env l acc)
 | [],acc,_=>rfl
 | (n,k)::r,acc,h=>by
  have ih:=λ acc=>Ez env r acc λ y hy=>h y (az _ hy);rw [List.forIn_cons];by_cases hk:k = .free
  .subst hk;obtain⟨c,e⟩:=h (n,.free) aZ rfl;simp only [cellOf,e,gk,beq_self_eq_true,if_true];exact ih _
  .have hb:(k==NameKind.free)=false:=by simpa using hk
   simp only [hb,gk,cB,if_false];exact ih _
theorem xN (env:Env) (sc:Scope) (h:∀y∈sc.names,y.2 = .free->∃c,env.cells.lookup y.1=some c):closureFor sc env=pure (gk env sc.names []):=by
 unfold closureFor;have e:=Ez env sc.names [] h;exact(congrArg (λ t:Sem _=>t >>= λ cs=>pure cs) e).trans rfl
theorem l8 (env:Env):∀(l:List (Str×NameKind)) (acc:List (Str×Addr)),(∀y c,acc.lookup y=some c->env.cells.lookup y=some c)->∀y c,(gk env l acc).lookup y=some c->env.cells.lookup y=some c
 | [],acc,h=>h
 | (n,k)::r,acc,h=>by
  unfold gk
  split
  .split
   .rename_i c e
    refine l8 env r _ λ y c' q=> ?_;rw [cu] at q
    cases hy:y==n with
    | true=>
     rw [hy] at q
     cases q;have:y=n:=by simpa using hy
     subst this;exact e
    | false=>
     rw [hy] at q;exact h y c' q
   .exact l8 env r acc h
  .exact l8 env r acc h
theorem oO (env:Env):∀(l:List (Str×NameKind)) (acc:List (Str×Addr)) (y:Str),(∃c,acc.lookup y=some c)->∃c,(gk env l acc).lookup y=some c
 | [],_,_,h=>h
 | (n,k)::r,acc,y,h=>by
  unfold gk
  split
  .split
   .refine oO env r _ y ?_;rw [cu]
    cases y==n with
    | true=>exact⟨_,rfl⟩
    | false=>exact h
   .exact oO env r acc y h
  .exact oO env r acc y h
theorem jN (env:Env):∀(l:List (Str×NameKind)) (acc:List (Str×Addr)) (y:Str),(y,NameKind.free)∈l->(∃c,env.cells.lookup y=some c)->∃c,(gk env l acc).lookup y=some c
 | [],_,_,h,_=>nomatch h
 | (n,k)::r,acc,y,h,hc=>by
  unfold gk;rcases aA.mp h with e|hm
  .cases e;obtain⟨c,e⟩:=hc;rw [if_pos (by rfl),e];exact oO env r _ _ ⟨c,by simp [cu]⟩
  .split
   .split
    .exact jN env r _ y hm hc
    .exact jN env r acc y hm hc
   .exact jN env r acc y hm hc
def M6 (f:Str×NameKind->Str×NameKind):Prop:=∀p,f p=p\/(p.2 = .free/\f p=(p.1,.cell))
theorem i8 {y n:Str} {k:NameKind} {r:List (Str×NameKind)}:List.lookup y ((n,k)::r)=if y=n then some k else r.lookup y:=by
 rw [cu];by_cases h:y=n
 .rw [if_pos h,show (y==n)=true by simpa using h]
 .rw [if_neg h,show (y==n)=false by simpa using h]
theorem AB {f:Str×NameKind->Str×NameKind} (hf:M6 f):∀{names:List (Str×NameKind)} {y:Str} {k:NameKind},(names.map f).lookup y=some k->(k = .cell\/k = .free)->(∀z∈names,z.2≠.cell)->(y,NameKind.free)∈names
 | [],_,_,h,_,_=>by simp at h
 | (n,j)::r,y,k,h,hk,hc=>by
  rw [aD] at h;have go:r.lookup y=r.lookup y->(r.map f).lookup y=some k->(y,NameKind.free)∈(n,j)::r:=λ _ h'=>az _ (AB hf h' hk λ z hz=>hc z (az _ hz));rcases hf (n,j) with e | ⟨e1,e⟩
  .rw [e,i8] at h;by_cases hy:y=n
   .rw [if_pos hy] at h
    cases h;rcases hk with rfl|rfl
    .exact absurd rfl (hc (n,.cell) aZ)
    .rw [hy];exact aZ
   .rw [if_neg hy] at h;exact go rfl h
  .rw [e,i8] at h;by_cases hy:y=n
   .rw [hy,show j=NameKind.free from e1];exact aZ
   .rw [if_neg hy] at h;exact go rfl h
theorem qg {f:Str×NameKind->Str×NameKind} (hf:M6 f):∀{names:List (Str×NameKind)} {y:Str},names.lookup y=some .free->(names.map f).lookup y=some .cell\/(names.map f).lookup y=some .free
 | [],_,h=>by simp at h
 | (n,j)::r,y,h=>by
  rw [i8] at h;rw [aD];rcases hf (n,j) with e | ⟨e1,e⟩
  .rw [e,i8];by_cases hy:y=n
   .rw [if_pos hy] at h⊢
    cases h;exact .inr rfl
   .rw [if_neg hy] at h⊢;exact qg hf h
  .rw [e,i8];by_cases hy:y=n
   .rw [if_pos hy];exact .inl rfl
   .rw [if_neg hy] at h⊢;exact qg hf h
theorem t4 (env:Env):M6 λ (n,k)=>if (k==NameKind.free&&env.scope.kind == .function&&env.kindOf n==some .cell) then (n,NameKind.cell) else (n,k):=λ ⟨n,k⟩=>by
 by_cases h:(k==NameKind.free&&env.scope.kind == .function&&env.kindOf n==some .cell)=true
 .refine .inr ⟨?_,if_pos h⟩;have h1:=(cX.mp (cX.mp h).1).1
  simpa using h1
 .exact .inl (if_neg h)
theorem tZ (h:(relabel sc env).names.lookup y=some k) (hk:k = .cell\/k = .free) (hc:∀z∈sc.names,z.2≠.cell):(y,NameKind.free)∈sc.names:=
 AB (t4 env) h hk hc
theorem qd (h:sc.names.lookup y=some .free):(relabel sc env).names.lookup y=some .cell\/(relabel sc env).names.lookup y=some .free:=
 qg (t4 env) h
def IB (X:Cx) (ifs:List Expr) (t:TT):Prop:=
 ∀(pins:List (Addr×Obj)) (s:Shared) (σ:St) (H:Hp) (Q:Bool->Hp->Prop),Inv X pins σ H s->t σ H Q->
  wpAny (model X.prog X.w) X.A (forIn ifs true λ c r=>if r=true then do let ok <-isTrue c X.env (eval c X.env);pure (ForInStep.yield ok) else pure (ForInStep.yield r)) (TP X pins σ Q) X.xe s
def BH:TT:=λ _ H Q=>Q true H
theorem N6:IB X [] BH:=λ _ _ _ H _ I h=>wpAny_tests_nil ⟨H,I,h⟩
theorem N5 (h:PT X c t):IB X [c] t:=λ pins s σ H Q I hw=>wpAny_tests_one (h pins s σ H Q I hw)
def Ar (fr:List Nat) (σ:St):St:=none::fr.map λ j=>(σ[j]?).join
def lI (x:V) (fr:List Nat) (σ:St):St:=some x::fr.map λ j=>(σ[j]?).join
def uN (J:It) (H1:Hp) (fr:List Nat) (σ:St) (tt:TT) (te:TE) (Q:VK):Prop:=
 ∀D,H1 D=none->∃W:Nat->Nat->List V->Hp->Prop,(∃m,W 0 m [] (upd H1 D (.lst [])))/\
  ∀i m ys H2,W i m ys H2->((J.stop i H2/\Q (.ref D) H2)\/(J.go i H2/\∀x H3,J.BE i H2 x H3->tt (lI x fr σ) H3 λ b H4=>
   if b=true then te (lI x fr σ) H4 λ y H5=>H5 D=some (.lst ys)/\ys.length<sizeLine/\∃m',m'<m/\W (i+1) m' (ys ++ [y]) (upd H5 D (.lst (ys ++ [y])))
   else ∃m',m'<m/\W (i+1) m' ys H4))
def tK (wi:TI) (fr:List Nat) (tt:TT) (te:TE):TE:=λ σ H Q=>wi σ H λ J H1=>uN J H1 fr σ tt te Q
section
variable {X:Cx} {x:Str} {px:Pos} {elt iter:Expr} {ifs:List Expr} {scope:Scope} {pos:Pos} {N:List Str} {fr:List Nat} {tt:TT} {te:TE} {wi:TI}
theorem CL (S:tG scope X.env.scope x N X.N fr) (I:Inv X pins σ H s):∀y∈scope.names,y.2 = .free->∃c,X.env.cells.lookup y.1=some c:=
 λ y hy hf=>I.ok.has y.1 (S.Vj y hy hf)
theorem zi {pins:List (Addr×Obj)} {σ:St} {H:Hp} {ji:Shared} {J:It} {fp:List Addr} {it:Addr} {tn:Nat->Heap->Prop} {Q:VK} {RR:Value->Addr->Result->Shared->Prop} {E:Value->Shared->Prop}
  (hc:X.calm=true) (S:tG scope X.env.scope x N X.N fr) (ht:∀cl C jj kZ ex,IB (X.De scope cl C N jj kZ ex) ifs tt) (he:∀cl C jj kZ ex,PE (X.De scope cl C N jj kZ ex) elt te)
  (I:Inv X pins σ H ji) (T:Turn X.prog X.w X.K (.Name x px) J fp it tn) (st:tn 0 ji.heap) (f2:∀b∈fp,rC X pins H b) (R:uN J H fr σ tt te Q)
  (Y5:∀(D C:Addr) (s':Shared) (m:Str->Option Value) (H':Hp),Inv X pins σ H' s'->s'.heap.Ns C m->rC X pins H' C->Q (.ref D) H'->RR (.ref D) C (.ok .next) s') :
  wpAny (model X.prog X.w) X.A (newList []) (λ acc Nd=>wpAny (model X.prog X.w) X.A (newFunctionEnv scope X.env.globals (gk X.env scope.names []) [] X.env.qual none .none (some X.env)) (λ MR Tu=>
   codeAny (model X.prog X.w) X.A (.compStart (.ListComp elt [⟨.Name x px,iter,ifs,0⟩] scope pos) 0 (.ref it) acc {MR with scope:=relabel scope X.env}) (RR acc MR.locals) Tu) E Nd) E ji:=by
 refine wpAny_newObj_type (wpAny_newFunctionEnv S.F7 (by intro y hy;simp at hy) (λ EY yQ Ml=> ?_) S.kind);dsimp only at yQ Ml⊢;have hD:H ji.heap.objs.size=none:=I.fresh;have I0:Inv X pins σ (upd H ji.heap.objs.size (.lst [])) {ji with heap:=ji.heap.push {cls:=.type "list",dict:=none,data:=.seq ([]:List Value).toArray}}:=I.RI (t':=ji.toks) (its:= []) .nil (aP _);have Kr:∀b o,ji.heap.get? b=some o->(ji.heap.push {cls:=.type "list",dict:=none,data:=.seq ([]:List Value).toArray}).get? b=some o:=λ b o e=>ah _ e;have Ss:(ji.heap.push {cls:=.type "list",dict:=none,data:=.seq ([]:List Value).toArray}).objs.size=ji.heap.objs.size+1:=bX ..;generalize hG:ji.heap.push {cls:=.type "list",dict:=none,data:=.seq ([]:List Value).toArray}=G at yQ Ml I0 Kr Ss⊢;generalize Ve:ji.heap.objs.size=D at hD I0 Ss⊢;obtain⟨W,⟨m0,w0⟩,turn⟩:=R D hD;have old:∀b o,G.get? b=some o->EY.get? b=some o:=λ b o e=>Ml.extBut b o (aO (aG e)) (ah _ e);have sub:=l8 X.env scope.names [] (λ y c z=>by simp at z)
 have IY:Inv (X.De scope (gk X.env scope.names []) G.objs.size N {ji with heap:=G} (upd H D (.lst [])) fp) [] (Ar fr σ) (upd H D (.lst [])) {ji with heap:=EY,toks:=ji.toks+([]:List (Str×Value)).length}:=by
  refine⟨⟨I.ok.mod,S.kind,I.ok.glob,I.ok.blt,ay _,λ y z c e1 e2=>I.ok.inj y z c (sub y c e1) (sub z c e2),λ y hy=> ?_,λ y c z=>(nomatch z),I.ok.hd,I.ok.frames,.inl rfl,λ b hb=>⟨?_,λ y c e=>(f2 b hb).2.2.2.2.1 y c (sub y c e)⟩,
   I0.bs,bj I.ok.MV I0.sz,λ b o e hb=> ?_,λ b hb z=> ?_,I0.stack,I0.xw⟩,rfl,I.bare,Un.kept old,⟨_,yQ,λ i y v e1 e2 e3=> ?_⟩,λ y c e=> ?_,I0.gJ.fresh (ay _),λ y c e=>I0.mC y c (sub y c e),λ p hp=>absurd (show p∈([]:List (Addr×Obj)) from hp) (by simp),I0.gJ.kept old,?_⟩
  .have hm:(y,NameKind.free)∈scope.names:=by
    rcases hy with hy|hy
    .exact tZ hy (.inl rfl) S.F7
    .exact tZ hy (.inr rfl) S.F7
   exact jN X.env scope.names [] y hm (CL S I _ hm rfl)
  .obtain⟨o,e,_⟩:=T.obj 0 _ st b hb;have h1:@LT.lt Nat _ b ji.heap.objs.size:=aG e;show b≠G.objs.size;intro z;have z':@Eq Nat b G.objs.size:=z;rw [Ss] at z';exact Zf h1 (Zc (Ze Ve) (Zc Zk (Zg z')))
  .rcases (f2 b hb).2.2.2.1 with z|z
   .exact I.ok.t_ b o e z
   .have h1:@LT.lt Nat _ b X.base.objs.size:=aG e;have h2:@LE.le Nat _ X.base.objs.size X.jj.heap.objs.size:=I.ok.MV;have z':@LE.le Nat _ X.jj.heap.objs.size b:=z;exact Zf h1 (Zc h2 z)
  .rcases aA.mp (I.BR b z) with e|e
   .exact(f2 b hb).2.1 e
   .exact(f2 b hb).2.2.1 e
  .cases i with
   | zero=>simp [Ar] at e2
   | succ k=>
    have MG:(fr.map λ j=>X.N.getD j "")[k]? = some y:=by
     have z:N[k+1]? = some y:=e1;rw [S.SI] at z
     simpa using z
    have Nx:(fr.map λ j=>(σ[j]?).join)[k]? = some (some v):=by simpa [Ar] using e2
    rw [ak] at MG Nx
    cases hj:fr[k]? with
    | none=>rw [hj] at MG;cases MG
    | some j=>
     rw [hj] at MG Nx;have ey:X.N.getD j "" = y:=Option.some.inj MG;have ev:(σ[j]?).join=some v:=Option.some.inj Nx;have Sm:j∈fr:=ai hj;have TQ:=S.X6 j Sm;have eN:X.N[j]? = some y:=by rw [<-ey];simp [List.getD,TQ]
     have eσ:σ[j]? = some (some v):=by
      cases q:σ[j]? with
      | none=>rw [q] at ev;cases ev
      | some w=>rw [q] at ev;rw [show w=some v from ev]
     have vX:scope.names.lookup y=some .free:=by rw [<-ey];exact S.X4 j Sm
     have hm:(y,NameKind.free)∈scope.names:=PySem.mem_of_lookup vX;obtain⟨m,hn,hl⟩:=I.loc;obtain⟨u,r,l⟩:=hl j y v eN eσ (by rcases S.Vj _ hm rfl with z|z;exact .inr (.inl z);exact .inr (.inr z));refine⟨u,r,?_⟩;rcases l with ⟨k1,_⟩ | ⟨_,c,ec,o,ho,hd⟩
     .exact absurd k1 (by rw [<-ey];exact S.pN j Sm)
     .obtain⟨c',e'⟩:=jN X.env scope.names [] y hm ⟨c,ec⟩;have e2:=sub y c' e';rw [ec] at e2
      cases e2;exact .inr ⟨qd vX,c,e',o,old _ _ (Kr _ _ ho),hd⟩
  .obtain⟨v,o,ho,hd⟩:=I.cell y c (sub y c e);exact⟨v,o,old _ _ (Kr _ _ ho),hd⟩
  .show (Ar fr σ).length=N.length;rw [S.SI];simp [Ar]
 have WG:∀b∈fp,(upd H D (.lst [])) b=none:=λ b hb=>by
  obtain⟨o,e,_⟩:=T.obj 0 _ st b hb;rw [e_ (by intro z;rw [z,<-Ve] at e;exact absurd (aG e) (bU _))];exact(f2 b hb).1
 have K2:tn 0 EY:=T.keep _ _ _ st λ b _ o e=>old _ _ (Kr _ _ e)
 have stat:∀{H':Hp},(∀b∈fp,H' b=none)->∀b∈fp,rC (X.De scope (gk X.env scope.names []) G.objs.size N {ji with heap:=G} (upd H D (.lst [])) fp) [] H' b:=λ hn b hb=>
  ⟨hn b hb,(IY.ok.TZ b hb).1,IY.ok.J0 b hb,.inl hb,(IY.ok.TZ b hb).2,λ p hp=>absurd (show p∈([]:List (Addr×Obj)) from hp) (by simp)⟩
 have loop:codeAny (model X.prog X.w) X.A (.compLoop (.ListComp elt [⟨.Name x px,iter,ifs,0⟩] scope pos) 0 (.ref it) (.ref D) (compEnvC scope (gk X.env scope.names []) G.objs.size X.env)) (RR (.ref D) G.objs.size)
   {ji with heap:=EY,toks:=ji.toks+([]:List (Str×Value)).length}:=by
  refine Bc (λ n s'=>∃i ys H',Inv (X.De scope (gk X.env scope.names []) G.objs.size N {ji with heap:=G} (upd H D (.lst [])) fp) [] (Ar fr σ) H' s'/\tn i s'.heap/\(∀b∈fp,H' b=none)/\W i n ys H') ?_ m0 ⟨0,[],_,IY,K2,WG,w0⟩;rintro n s3 ⟨i,ys,H3,I3,Ko,Qd,w3⟩;rcases turn i n ys H3 w3 with ⟨stop,q⟩ | ⟨go,step⟩
  .refine gU (T.done (X.De scope (gk X.env scope.names []) G.objs.size N {ji with heap:=G} (upd H D (.lst [])) fp) rfl rfl rfl hc i [] s3 _ H3 _ I3 (stat Qd) Ko stop) λ r s4 zq=> ?_;obtain⟨hr,I4⟩:=zq;subst hr;obtain⟨m',Sd,_⟩:=I4.loc;have u:Un (uP X.stack) fp H H3 ji.heap s4.heap:=Un.trans (Un.laid Kr (eB Ve) hD) I4.base;refine Y5 D G.objs.size s4 m' H3 (I.Ql I4.os u I4.gJ I4.bare λ b hb=>⟨(f2 b hb).2.2.2.1,(f2 b hb).2.1,(f2 b hb).2.2.2.2.1,(f2 b hb).2.2.2.2.2⟩) Sd (I.Ae (Zc (Ze Ve) (Zc Zk (Zg Ss))) I4.free) q
  .refine gU (T.item (X.De scope (gk X.env scope.names []) G.objs.size N {ji with heap:=G} (upd H D (.lst [])) fp) rfl rfl rfl hc i [] s3 _ H3 _ I3 (stat Qd) Ko go) λ r s4 zq=> ?_;obtain⟨u,hr,h4⟩:=zq;subst hr;refine gU h4 λ _ s5 zq=> ?_;obtain⟨x',H5,I5,r5,y5,K3,Vk⟩:=zq;have VR:=I5.pinned (stat Vk) (T.obj _ _ K3);refine wpAny_assign_Name (tL (i:=0) VR S.nd (by show N[0]? = some x;rw [S.SI];rfl) (.inl (lookup_relabel_local S.hx)) r5 (λ s6 I6=> ?_) (.inr (lookup_relabel_local S.hx)));have Ã:Inv (X.De scope (gk X.env scope.names []) G.objs.size N {ji with heap:=G} (upd H D (.lst [])) fp) ([]++qh fp s5.heap) (lI x' fr σ) H5 s6:=I6
   have again:∀{H8:Hp} {s8:Shared} {E5:List V},Inv (X.De scope (gk X.env scope.names []) G.objs.size N {ji with heap:=G} (upd H D (.lst [])) fp) ([]++qh fp s5.heap) (lI x' fr σ) H8 s8->(∃m',m'<n/\W (i+1) m' E5 H8)->
     ∃m,m<n/\∃i ys H',Inv (X.De scope (gk X.env scope.names []) G.objs.size N {ji with heap:=G} (upd H D (.lst [])) fp) [] (Ar fr σ) H' s8/\tn i s8.heap/\(∀b∈fp,H' b=none)/\W i m ys H':=λ {H8 s8 E5} I8 ⟨m',hm,w8⟩=>by
    refine⟨m',hm,i+1,E5,H8,I8.pQ.weak (by simp [Ar,lI]) (λ j v e=> ?_),T.keep _ _ _ K3 λ b hb o e=>(I8.pin (b,o) (aB _ (aB _ (ki hb e)))).1,λ b hb=> ?_,w8⟩
    .cases j with
     | zero=>simp [Ar] at e
     | succ k=>simpa [Ar,lI] using e
    .obtain⟨o,e,d⟩:=T.obj _ _ K3 b hb;exact(I8.pin (b,o) (aB _ (aB _ (ki hb e)))).2.1
   refine gU (ht _ _ _ _ _ _ s6 (lI x' fr σ) H5 _ Ã (step x' H5 y5)) λ b s7 zq=> ?_;obtain⟨H7,I7,q7⟩:=zq
   cases b with
   | false=>exact again I7 q7
   | true=>
    refine gU (he _ _ _ _ _ _ s7 _ H7 _ I7 q7) λ yv s8 zq=> ?_;obtain⟨y,H8,I8,r8,Y7,hz,q8⟩:=zq;refine gU (gR _ s8 _ H8 (.ref D) [y] (.ref D) [yv] (λ _ H9=>H9=upd H8 D (.lst (ys ++ [y]))) I8 rfl (.cons r8 .nil) ⟨D,ys,y,rfl,rfl,Y7,hz,rfl⟩) λ _ s9 zq=> ?_;obtain⟨_,H9,I9,_,e9⟩:=zq;subst e9;exact again I9 q8
 exact codeAny_compStart_list loop (T.self _ 0 _ _ _ K2 loop)
theorem Oq (hc:X.calm=true) (S:tG scope X.env.scope x N X.N fr) (hi:PI X (.Name x px) iter wi) (ht:∀cl C jj kZ ex,IB (X.De scope cl C N jj kZ ex) ifs tt) (he:∀cl C jj kZ ex,PE (X.De scope cl C N jj kZ ex) elt te)
  (hs:∀v,foldedSetIterable iter X.env v=pure v:=by intro _;rfl):PE X (.ListComp elt [⟨.Name x px,iter,ifs,0⟩] scope pos) (tK wi fr tt te):=by
 intro pins s σ H Q I h;rw [eval_ListComp];refine wpAny_comprehension_free (use:=none) rfl hs (xN X.env scope (CL S I)) S.kind S.names (gU (hi pins s σ H _ I h) λ v s1 h1=>gU h1 λ TK s2 h2=> ?_);obtain⟨it,fp,tn,J,H2,e,I2,T,Kp,f2,R⟩:=h2;subst e;refine zi (RR:=λ acc C=>compPost (model X.prog X.w) X.A X.xe none (EP X pins σ Q) acc C) hc S ht he I2 T Kp f2 R λ D C s' m H' I' hn hf q=> ?_;exact⟨m,hn,λ h' R5=>⟨.ref D,H',I'.turned (t':=s'.toks) (λ b o hb e=>R5.extBut b o hb e) hf.1 hf.2.1 hf.2.2.2.1 hf.2.2.2.2.1 hf.2.2.2.2.2,rfl,q⟩⟩
theorem N' (hN:X.N.Nodup) (JP:X.N[i]? = some y) (hy:Loc X.env.scope y) (hc:X.calm=true) (S:tG scope X.env.scope x N X.N fr) (hi:PI X (.Name x px) iter wi)
  (ht:∀cl C jj kZ ex,IB (X.De scope cl C N jj kZ ex) ifs tt) (he:∀cl C jj kZ ex,PE (X.De scope cl C N jj kZ ex) elt te)
  (R1:swapsWith (.ListComp elt [⟨.Name x px,iter,ifs,0⟩] scope pos) (some (.Name y py)) Ff.line X.env=pure true:=by rfl)
  (hs:∀v,foldedSetIterable iter X.env v=pure v:=by intro _;rfl) (hf:X.fn y=true\/X.env.scope.names.lookup y=some .local:=by first|exact .inl rfl|exact .inr rfl|assumption) :
  PS X (.Assign [.Name y py] (.ListComp elt [⟨.Name x px,iter,ifs,0⟩] scope pos) Ff) (zS (tK wi fr tt te) (pj i)):=by
 intro pins s σ H D I h;rw [exec_Assign_Name_used _ _ _ _ R1];refine wpAny_bind (wpAny_standAt (wpAny_bind ?_));show wpAny (model X.prog X.w) X.A (comprehension (.ListComp elt [⟨.Name x px,iter,ifs,0⟩] scope pos) scope X.env _ (newList []) false (eval iter X.env) (some (assign (.Name y py) X.env)) >>= λ _=>pure ()) _ _ s
 refine wpAny_bind (wpAny_mono (wpAny_comprehension_free (use:=some (assign (.Name y py) X.env)) (Q:=λ _ s'=>SP X pins D .next s') rfl hs (xN X.env scope (CL S I)) S.kind S.names
  (gU (hi pins s σ H _ I h) λ v s1 h1=>gU h1 λ TK s2 h2=> ?_)) (λ _ s' hq=>wpAny_pure (wpAny_pure hq)) λ _ _ e=>e)
 obtain⟨it,fp,tn,J,H2,e,I2,T,Kp,f2,R⟩:=h2;subst e;refine zi (RR:=λ acc C=>compPost (model X.prog X.w) X.A X.xe (some (assign (.Name y py) X.env)) (λ _ s'=>SP X pins D .next s') acc C) hc S ht he I2 T Kp f2 R λ Dl C s' m H' I' hn Gw q=> ?_;show wpAny (model X.prog X.w) X.A (assign (.Name y py) X.env (.ref Dl)) _ _ _;refine wpAny_assign_Name (uT I' hN JP hy (show RelV (.ref Dl) (.ref Dl) from rfl) (λ QE Ä zq=> ?_) hf);obtain⟨a,sb,ha⟩:=zq
 have Y8:C≠a:=by
  rcases ha with z|z
  .rw [z];exact Gw.2.1
  .exact λ w=>Gw.2.2.2.2.1 y a z w.symm
 exact⟨m,hn.sameBut sb Y8,λ h' R5=>⟨_,H',Ä.turned (t':=QE.toks) (λ b o hb e=>R5.extBut b o hb e) Gw.1 Gw.2.1 Gw.2.2.2.1 Gw.2.2.2.2.1 Gw.2.2.2.2.2,q⟩⟩
end
abbrev tx (l:List Nat):Str:=⟨l.toArray⟩
theorem xR (l:List Nat):(tx l).length=l.length:=by simp [Str.length]
theorem qL (l:List Nat):(tx l).cps.toList=l:=by simp [tx]
theorem BG (a b:List Nat):tx a++tx b=tx (a++b):=by
 show (⟨a.toArray++b.toArray⟩:Str)=⟨(a++b).toArray⟩;simp
theorem iK:tx a=tx b↔a=b:=by simp [tx]
section
variable {X:Cx}
theorem Rq:tI X (compareOp .In) (λ x y H Q=>∃c z,x = .str ⟨#[c]⟩/\y = .str z/\Q (.bl (decide (c∈z.cps.toList))) H):=by
 intro pins s σ H x y v u Q I rx ry h;obtain⟨c,z,rfl,rfl,q⟩:=h;refine Jo pins s σ H _ _ v u Q I rx ry ⟨_,_,rfl,rfl,?_⟩
 rwa [StrLaws.found_one]
theorem xU:∀{ys:List Str} {us:List Value},Vals (ys.map V.str) us->StrsAre us ys
 | [],us,r=>by
  cases r;exact .nil
 | y::ys,us,r=>by
  rw [aD] at r
  cases r with
  | cons r1 r2=>
   obtain⟨t,rfl⟩:=r1;exact .cons y t (xU r2)
def rJoin (K:aj):V->List V->Hp->VK->Prop:=λ x xs H Q=>∃(p:Addr) (ys:List (List Nat)),x = .str ⟨#[]⟩/\xs = [.ref p]/\fZ K H p (ys.map λ l=>V.str (tx l))/\(ys.map List.length).sum<=16777216/\Q (.str (tx ys.flatten)) H
theorem Gq (ys:List (List Nat)):Txt.join ⟨#[]⟩ (ys.map tx)=tx ys.flatten:=by
 unfold Txt.join;rw [StrLaws.glued_eq_join]
 induction ys with
 | nil=>rfl
 | cons a r ih=>
  cases r with
  | nil=>simp [Str.join,tx]
  | cons b r=>
   show tx a ++ ⟨#[]⟩++Str.join ⟨#[]⟩ ((b::r).map tx)=_;rw [ih,show tx a++(⟨#[]⟩:Str)=tx a from (BG a []).trans (by rw [bK]),BG];rfl
theorem HE:T7 X "str.join" (rJoin X.K):=by
 intro pins s σ H x xs v us Q I rx rs h;obtain⟨p,ys,rfl,rfl,hq,hz,q⟩:=h;obtain⟨t,rfl⟩:=rx;obtain⟨u,rfl,hu⟩:=rs.one
 cases hu;obtain⟨its,r,pl,_⟩:=I.list hq;have r':Vals ((ys.map tx).map V.str) its:=by rwa [aQ]
 refine join_list pl.isList (xU r') ?_ λ t' k=>⟨.str (tx ys.flatten),H,I.tok _,⟨t',?_⟩,q⟩
 .have e:(ys.map tx).map (·.length)=ys.map List.length:=by
   rw [aQ];exact List.map_congr_left λ a _=>xR a
  rw [e];show _+_*0<=_;omega
 .rw [Gq]
theorem wz:∀{bs:List Bool} {us:List Value},Vals (bs.map V.bl) us->LSm.BoolsAre us bs
 | [],us,r=>by
  cases r;exact .nil
 | b::bs,us,r=>by
  rw [aD] at r
  cases r with
  | cons r1 r2=>
   cases r1;exact .cons b (wz r2)
theorem MT (hc:X.calm=true):kg X (.builtin "all") (λ xs H Q=>∃(p:Addr) (bs:List Bool),xs = [.ref p]/\fZ X.K H p (bs.map V.bl)/\Q (.bl (bs.all id)) H):=by
 intro pins s σ H xs us Q I r h;obtain⟨p,bs,rfl,hq,q⟩:=h;obtain⟨u,rfl,ru⟩:=r.one
 cases ru;obtain⟨its,r,pl,_⟩:=I.list hq;have hb:=wz r;obtain⟨o,n,e,Y1,_,hd⟩:=id pl;have iJ:p<s.heap.objs.size:=aG e;refine call_all_walk (wpAny_pyIter_list pl.isList ?_)
 refine⟨s.heap.objs.size,[s.heap.objs.size,p],[s.heap.objs.size],its.toArray.size,_,_,λ i=>(bs[i]?).getD true,rfl,Walks.list (A:=X.A.in1) (I.ok.hd hc) _ p (aO iJ) its.toArray,
  ⟨⟨_,aK _ rfl,rfl,rfl⟩,pl.isList.push _⟩,λ i v s' Q' E' hP hQ=> ?_,λ h' tk hk=> ?_⟩
 .obtain⟨b,e,rfl⟩:=hb.get i v (by simpa using hP);simp only [e,Option.getD_some] at hQ;exact wpAny_truthy_bool hQ
 .have e:((List.range its.toArray.size).all λ i=>(bs[i]?).getD true)=bs.all id:=by
   rw [aM,hb.length];exact LSm.range_all bs
  rw [e];exact⟨.bl _,H,I.kept (λ b o e=>hk b o (λ z=>by rw [ao.mp z] at e;exact bU _ (aG e)) (ah _ e)),rfl,q⟩
theorem jq:kg X (.builtin "isinstance") (λ xs H Q=>∃x t c b,xs = [x,.ty c]/\vH X.K H x t/\cx X.K t (.type c)=some b/\Q (.bl b) H):=by
 intro pins s σ H xs us Q I r h;obtain⟨x,t,c,b,rfl,ty,e,q⟩:=h;obtain⟨u,v,rfl,ru,rv⟩:=r.two
 cases rv;exact JH I ru ty e λ tk=>⟨.bl b,H,I.tok _,rfl,q⟩
end
theorem RO (K:aj):cx K (.type "bool") (.type "bool")=some true:=by rfl
theorem RN (K:aj):cx K (.type "int") (.type "bool")=some false:=by rfl
theorem RM (K:aj):cx K (.type "int") (.type "int")=some true:=by rfl
theorem Mf (K:aj):cx K (.type "list") (.type "list")=some true:=by rfl
theorem Me (K:aj):cx K (.type "tuple") (.type "tuple")=some true:=by rfl
theorem fh.fS (s:fh H H') (h:H a=none):fh H (upd H' a o):=λ b u e=>by
 rw [e_ (fq e h)];exact s b u e
theorem fh.new (h:H a=none):fh H (upd H a o):=(fh.refl H).fS h
structure Tells (J:It) (H1:Hp) (xs:List V):Prop where
 go:∀i H,i<xs.length->fh H1 H->J.go i H
 stop:∀H,fh H1 H->J.stop xs.length H
 BE:∀i H x H',fh H1 H->i<xs.length->J.BE i H x H'->H'=H/\xs[i]? = some x
theorem CM {α:Type} {J:It} {H1:Hp} {fr:List Nat} {σ:St} {tt:TT} {te:TE} {Q:VK} {cs:List α} {g:α->V} (T:Tells J H1 (cs.map g)) (p:α->Bool) (f:α->V) (hz:cs.length<=sizeLine)
  (ht:∀c H2 Q2,c∈cs->fh H1 H2->(∀H3,fh H2 H3->Q2 (p c) H3)->tt (lI (g c) fr σ) H2 Q2)
  (he:∀c H2 Q2,c∈cs->p c=true->fh H1 H2->(∀H3,fh H2 H3->Q2 (f c) H3)->te (lI (g c) fr σ) H2 Q2)
  (hQ:∀D H2,H1 D=none->fh H1 H2->H2 D=some (.lst ((cs.filter p).map f))->Q (.ref D) H2):uN J H1 fr σ tt te Q:=by
 intro D hD;have hlen:(cs.map g).length=cs.length:=ae ..;refine⟨λ i m ys H2=>m=cs.length-i/\i<=cs.length/\ys=((cs.take i).filter p).map f/\fh H1 H2/\H2 D=some (.lst ys),⟨_,rfl,aP _,rfl,fh.new hD,eX⟩,?_⟩;rintro i m ys H2 ⟨rfl,hi,rfl,s2,d2⟩;by_cases iJ:i<cs.length
 .refine .inr ⟨T.go i H2 (by rwa [hlen]) s2,λ x H3 y=> ?_⟩;obtain⟨rfl,hx⟩:=T.BE i H2 x H3 s2 (by rwa [hlen]) y;rw [ak] at hx
  cases hc:cs[i]? with
  | none=>rw [hc] at hx;cases hx
  | some c=>
   rw [hc] at hx;obtain rfl:g c=x:=Option.some.inj hx;have hm:c∈cs:=ai hc;have tk:(cs.take (i+1)).filter p=(cs.take i).filter p++(if p c then [c] else []):=take_succ_filter p cs i c hc;refine ht c H3 _ hm s2 λ H4 s4=> ?_
   cases hp:p c with
   | false=>
    rw [hp] at tk;refine⟨_,?_,rfl,iJ,by rw [tk];simp,s2.trans s4,s4 _ _ d2⟩;exact T6 iJ
   | true=>
    rw [hp] at tk;refine he c H4 _ hm hp (s2.trans s4) λ H5 s5=>⟨s5 _ _ (s4 _ _ d2),?_,_,?_,rfl,iJ,by rw [tk];simp,((s2.trans s4).trans s5).fS hD,eX⟩
    .have h1:=bB p (cs.take i);rw [aT] at h1;rw [ae];lia
    .exact T6 iJ
 .obtain rfl:i=cs.length:=by exact Zq hi (Zi iJ)
  exact .inl ⟨by have:=T.stop H2 s2;rw [hlen] at this;exact this,hQ D H2 hD s2 (by rw [bh] at d2;exact d2)⟩
theorem IS:Tells (T8 z) H1 (z.cps.toList.map λ c=>V.str ⟨#[c]⟩) where
 go:=λ i H hi _=>by
  rw [ae] at hi;exact(show i<z.cps.size by simpa using hi)
 stop:=λ H _=>by
  rw [ae];exact(show z.cps.toList.length=z.cps.size by simp)
 BE:=λ i H x H' _ _ y=>by
  obtain⟨e,c,hc,rfl⟩:=y;refine⟨e,?_⟩;rw [ak,bc,hc];rfl
theorem iE {lo:Int} {n:Nat}:Tells (Qq lo n) H1 ((List.range n).map λ k:Nat=>V.int (lo+(k:Int))) where
 go:=λ i H hi _=>by
  rw [ae,aI] at hi;exact hi
 stop:=λ H _=>by
  rw [ae,aI];exact ay _
 BE:=λ i H x H' _ hi y=>by
  obtain⟨e,rfl⟩:=y;rw [ae,aI] at hi;refine⟨e,?_⟩;rw [ak,cz hi];rfl
theorem gH {K:aj} {H1:Hp} {a:Addr} {xs:List V} (h:fZ K H1 a xs):Tells (Qr K a) H1 xs where
 go:=λ i H hi s=>⟨xs,xs[i],s.seq h,by simp [hi]⟩
 stop:=λ H s=>⟨xs,s.seq h,ay _⟩
 BE:=λ i H x H' s _ y=>⟨y.1,y.2 xs (s.seq h)⟩
theorem comp_map {α:Type} {J:It} {H1:Hp} {fr:List Nat} {σ:St} {te:TE} {Q:VK} {cs:List α} {g:α->V} (T:Tells J H1 (cs.map g)) (f:α->V) (hz:cs.length<=sizeLine)
  (he:∀c H2 Q2,c∈cs->fh H1 H2->(∀H3,fh H2 H3->Q2 (f c) H3)->te (lI (g c) fr σ) H2 Q2)
  (hQ:∀D H2,H1 D=none->fh H1 H2->H2 D=some (.lst (cs.map f))->Q (.ref D) H2):uN J H1 fr σ BH te Q:=
 CM T (λ _=>true) f hz (λ c H2 Q2 _ _ h=>h H2 (fh.refl _)) (λ c H2 Q2 hm _ s h=>he c H2 Q2 hm s h) λ D H2 hD s d=>hQ D H2 hD s (by rw [List.filter_eq_self.mpr (λ _ _=>rfl)] at d;exact d)
structure gE (K:aj) (mg:Str->Option Value) (x:Str) (st:Stmt) (ps:List Str) (f:Addr) (fd:FuncData):Prop where
 fn:M' K x x st f fd
 b:Binds K fd ps []
 g:mg x=some (.ref f)
section
variable {X:Cx}
theorem LL (h:∃u,X.mg x=some u/\RelV v u) (hg:Gl X x:=by rfl) (hd:(x==("__debug__" : Str))=false:=by decide):PE X (.Name x pos) (tC v):=by
 obtain⟨u,e,r⟩:=h;exact Ol hg e r hd
theorem Ut (hm:X.mg x=none) (hv:bootBuiltins x=some (.type T)) (hg:Gl X x:=by rfl) (hn:x≠"__name__" := by decide) (hd:(x==("__debug__" : Str))=false:=by decide):PE X (.Name x pos) (tC (.ty T)):=
 Ov hg hm hv rfl hn hd
end
def Qj (sc so:Scope) (x:Str) (N XN:List Str) (fr:List Nat):Bool:=
 decide (sc.kind = .function)&&sc.names.all (λ y=>decide (y.2≠.cell))&&sc.names.all (λ y=>decide (y.2 = .local->sc.names.lookup y.1=some .local))&&decide (sc.names.lookup x=some .local)&&decide N.Nodup &&
 decide (N=x::fr.map (λ j=>XN.getD j ""))&&fr.all (λ j=>decide (j<XN.length))&&sc.names.all (λ y=>decide (y.2 = .free->so.names.lookup y.1=some .cell\/so.names.lookup y.1=some .free)) &&
 fr.all (λ j=>decide (sc.names.lookup (XN.getD j "")=some .free))&&fr.all (λ j=>decide (so.names.lookup (XN.getD j "")≠some .local))
theorem tG.of (h:Qj sc so x N XN fr=true):tG sc so x N XN fr:=by
 unfold Qj at h;simp only [bg,cS,decide_eq_true_eq] at h;obtain⟨⟨⟨⟨⟨⟨⟨⟨⟨h1,h2⟩,h3⟩,h4⟩,h5⟩,h6⟩,h7⟩,h8⟩,h9⟩,Y'⟩:=h;exact⟨h1,h2,h3,h4,h5,h6,h7,h8,h9,Y'⟩
theorem g_ {α β:Type} {f:α->β} {l:List α} {i:Nat} {y:β} (h:(l.map f)[i]? = some y):∃z,l[i]? = some z/\y=f z:=by
 rw [ak] at h
 cases e:l[i]? with
 | none=>rw [e] at h;cases h
 | some z=>rw [e] at h;exact⟨z,rfl,(Option.some.inj h).symm⟩
theorem ic {α:Type} {l:List α} {i:Nat} {z:α} (h:l[i]? = some z):l.take (i+1)=l.take i ++ [z]:=by
 rw [List.take_add_one,h];rfl
def Hh (ta tb:TE) (k:Int):TE:=λ σ H Q=>ta σ H λ x H1=>tb σ H1 λ y H2=>∃i j,x = .int i/\y = .int j/\Q (.bl (decide (i<=j)&&decide (j<=k))) H2
theorem Ow (ha:PE X a ta) (hb:PE X b tb) (hc:PE X c (tC (.int k))) (hm:lastMarks [CmpOp.LtE,CmpOp.LtE] [b,c]=false:=by with_unfolding_all rfl) :
  PE X (.Compare a [.LtE,.LtE] [b,c] pos) (Hh ta tb k):=by
 intro pins s σ H Q I h;refine Compare_chain (gU (ha pins s σ H _ I h) λ v s1 ⟨x,H1,I1,r1,q1⟩=>chain_link (gU (hb pins s1 σ H1 _ I1 q1) λ u s2 zq=> ?_)) hm;obtain⟨y,H2,I2,r2,q2⟩:=zq;obtain⟨i,j,rfl,rfl,q⟩:=q2;refine gU (PM pins s2 σ H2 _ _ v u (λ z H3=>z = .bl (decide (i<=j))/\H3=H2) I2 r1 r2 ⟨i,j,rfl,rfl,rfl,rfl⟩) λ d s3 zq=> ?_;obtain⟨z,H3,I3,r3,e,e'⟩:=zq;subst e e'
 cases r3;refine wpAny_truthy_bool ?_;by_cases Č:i<=j
 .rw [decide_eq_true Č] at q⊢;refine ite_tt (chain_last (gU (hc pins s3 σ _ (λ z H4=>z = .int k/\H4=H3) I3 ⟨rfl,rfl⟩) λ w' s4 zq=> ?_));obtain⟨z',H4,I4,r4,e,e'⟩:=zq;subst e e';exact PM pins s4 σ _ _ _ u w' Q I4 r2 r4 ⟨j,k,rfl,rfl,q⟩
 .rw [decide_eq_false Č] at q⊢;exact ite_ff ⟨.bl false,H3,I3,rfl,q⟩
end L2
namespace L2
open PySem
theorem QJ {K:aj} {H:Hp} {σ:St} {i:Nat} {cs:List Nat} {te:TE} {Q:VK} (l:List Nat) (hσ:σ[i]? = some (some (.str (tx l)))) (hz:l.length<=sizeLine)
  (X_:∀c H2 Q2,c∈l->Q2 (.bl (decide (c∈cs))) H2->te (lI (.str ⟨#[c]⟩) [] σ) H2 Q2) (h:∀H2,fh H H2->Q (.bl (l.all λ c=>decide (c∈cs))) H2) :
  tK (RX (IU i)) [] BH te σ H λ x H1=>∃p,x = .ref p/\∃bs:List Bool,fZ K H1 p (bs.map V.bl)/\Q (.bl (bs.all id)) H1:=by
 refine⟨_,hσ,_,rfl,comp_map IS (λ c=>.bl (decide (c∈cs))) (by rwa [qL]) (λ c H2 Q2 hc _ h=>X_ c H2 Q2 (by rw [qL] at hc;exact hc) (h H2 (fh.refl _))) λ D H2 _ s2 d2=>⟨D,rfl,l.map λ c=>decide (c∈cs),?_,?_⟩⟩
 .rw [qL] at d2;rw [aQ];exact fZ.of d2
 .have e:(l.map λ c=>decide (c∈cs)).all id=l.all λ c=>decide (c∈cs):=by
   rw [List.all_map];rfl
  rw [e];exact h H2 s2
theorem gK {α:Type} {a:α} {r:List α}:xh (a::r) 0=some a:=by
 have e:=qZ (xs:=a::r) (j:=0) (v:=a) rfl
 simpa using e
end L2
namespace L2
open PySem PySem.Spec PyProof.Rows
abbrev VU:List Value:= [.type "ValueError",.type "Exception",.type "BaseException",.type "object"]
structure zC (K:aj) (mg:Str->Option Value) (x:Str) (C:Addr):Prop where
 g:mg x=some (.ref C)
 ex:PySem.W.excIn K C VU "ValueError.__new__" = true
theorem zC.own {K:aj} {mg:Str->Option Value} {x:Str} {C:Addr} {h:Heap} (T:zC K mg x C) (X:K.In h):OwnCls x C VU "ValueError.__new__" mg h:=by
 refine⟨T.g,?_⟩;have q:=T.ex;unfold PySem.W.excIn at q
 split at q
 .rename_i dd cd sl ho
  split at q
  .rename_i C' bm k0 k1 k2 k3 n k5 hm hs
   simp only [bg,beq_iff_eq,Bool.not_eq_true'] at q;obtain⟨⟨⟨⟨⟨e1,e2⟩,e3⟩,e4⟩,e5⟩,e6⟩:=q;subst e1 e2;obtain⟨nm,bs,mro,ns,qn,hd,sn,sub,ab,col,del⟩:=cd;dsimp only at hm e3 e5 e6;subst hm e3
   obtain rfl:sl = #[k0,k1,k2,k3,some (.builtin "ValueError.__new__"),k5]:=by
    obtain⟨l⟩:=sl;simp only at hs;rw [hs]
   exact⟨bm,ns,nm,qn,bs,hd,sn,sub,ab,col,dd,k0,k1,k2,k3,k5,_,X _ _ ho,.of_isNs (PySem.W.isNs_of_in X e5),PySem.W.nsMap_none_of_in X e5 e6,PySem.W.tail_of_in X e4⟩
  .cases q
 .cases q
def ET (a:Addr) (h:Heap):Prop:=∃o vs,h.get? a=some o/\o.data = .fields vs/\vs[2]? = some .none
structure gD (a:Addr) {α:Type} (t:Sem α):Prop where
 out:∀(M:Model) (Γ:PySem.Ctx) (R:α->Pos->Shared->Prop) (X:Value->Pos->Shared->Prop) (p:Pos) (s:Shared),ET a s.heap->Sem.wp M Γ t R X p s->Sem.wp M Γ t (λ x p' s'=>R x p' s'/\ET a s'.heap) X p s
namespace gD
variable {α β:Type} {a:Addr}
theorem pure' (x:α):gD a (Pure.pure x:Sem α):=⟨λ _ _ _ _ _ _ c h=>by rw [Sem.wp_pure'] at h⊢;exact⟨h,c⟩⟩
theorem Ÿ (w:String):gD a (PySem.unsupported w:Sem α):=⟨λ _ _ _ _ _ _ _ h=>h.elim⟩
theorem bind' (hm:gD a m) (hf:∀x,gD a (f x)):gD a (m >>= f):=⟨λ M Γ R X p s c h=>by
 rw [Sem.wp_bind'] at h⊢;exact Sem.wp_mono M Γ m (λ x p1 s1 q=>(hf x).out M Γ R X p1 s1 q.2 q.1) (λ _ _ _ q=>q) p s (hm.out M Γ _ X p s c h)⟩
theorem X3 {c:Prop} [Decidable c] (ht:gD a t) (hu:gD a u):gD a (if c then t else u):=by split<;>assumption
theorem UQ (b:Addr):gD a (PySem.load b):=⟨λ _ _ _ _ _ _ c h=>by
 obtain⟨o,e,q⟩:=h;exact⟨o,e,q,c⟩⟩
theorem update' (b:Addr) (f:Obj->Obj) (hf:∀o,(f o).data=o.data):gD a (PySem.update b f):=⟨λ _ _ _ _ _ s c h=>by
 refine⟨h.1,h.2,?_⟩;obtain⟨o,vs,e,d,q⟩:=c;by_cases z:b=a
 .subst z;exact⟨_,vs,bY f e (Obj.isFreed_of_fields ((hf o).trans d)),(hf o).trans d,q⟩
 .exact⟨o,vs,(bT _ f z).trans e,d,q⟩⟩
theorem Qz:gD a PySem.stack:=⟨λ _ _ _ _ _ _ c h=>by
 unfold PySem.stack at h⊢;rw [Sem.wp_stack] at h⊢;exact⟨h,c⟩⟩
theorem S6 (o:Obj):gD a (PySem.alloc o):=⟨λ _ _ _ _ _ s c h=>by
 refine⟨h,?_⟩;obtain⟨o1,vs,e,d,q⟩:=c;exact⟨o1,vs,ah _ e,d,q⟩⟩
theorem Sz (v:Value) (i:Nat):gD a (PySem.field v i):=⟨λ _ Γ R X p s c h=>by
 rw [wp_field_iff] at h⊢;obtain⟨b,o,vs,x,e1,e2,e3,e4,q⟩:=h;exact⟨b,o,vs,x,e1,e2,e3,e4,q,c⟩⟩
theorem Jc (v:Value) (i:Nat) (x:Value) (hi:i≠2):gD a (PySem.setField v i x):=⟨λ _ Γ R X p s c h=>by
 rw [wp_setField_iff] at h⊢;obtain⟨b,o,vs,e1,e2,e3,e4,q⟩:=h;refine⟨b,o,vs,e1,e2,e3,e4,q,?_⟩;obtain⟨o1,ws,f1,f2,f3⟩:=c;by_cases z:b=a
 .subst z;rw [e2] at f1
  cases f1;rw [e3] at f2
  cases f2;exact⟨_,_,bY _ e2 (Obj.isFreed_of_fields (Obj.data_mapFields e3 _)),Obj.data_mapFields e3 _,by rwa [Array.getElem?_setIfInBounds_ne hi]⟩
 .exact⟨o1,ws,(bT _ _ z).trans f1,f2,f3⟩⟩
theorem any (k:gD a t) (c:ET a s.heap) (h:wpAny M A t Q E s):wpAny M A t (λ x s'=>Q x s'/\ET a s'.heap) E s:=
 λ Γ p hΓ=>k.out M Γ _ _ p s c (h Γ p hΓ)
theorem Z6 (k:gD a t) (c:d=none->ET a s.heap) (h:wpAny M A t Q E s):wpAny M A t (λ x s'=>Q x s'/\(d=none->ET a s'.heap)) E s:=by
 cases d with
 | none=>exact wpAny_mono (k.any (c rfl) h) (λ x s' q=>⟨q.1,λ _=>q.2⟩) λ _ _ q=>q
 | some d=>exact wpAny_mono h (λ x s' q=>⟨q,λ z=>(nomatch z)⟩) λ _ _ q=>q
end gD
local macro_rules | `(tactic| walk_at "kc")=> `(tactic| repeat' with_reducible first
  | assumption
  | exact gD.pure' _
  | exact gD.Ÿ _
  | exact gD.Sz _ _
  | exact gD.Jc _ _ _ (by decide)
  | exact gD.UQ _
  | exact gD.update' _ _ λ _=>rfl
  | exact gD.Qz
  | exact gD.S6 _
  | apply gD.X3
  | apply gD.bind'
  | intro _
  | split)
section
variable (a:Addr)
theorem Ct (env:Env) (l:List Env):gD a (behindIsImport env l):=by
 unfold behindIsImport;walk_at "kc"
theorem Cv:gD a underTheClaimsCaller:=by
 unfold underTheClaimsCaller;walk_at "kc"
theorem Gp (env:Env) (i:Bool) (l:List Env):gD a (keptBack env i l):=by
 have k:=Cv a
 cases l<;>unfold keptBack<;>walk_at "kc"
theorem vW:∀l:List Env,gD a (readyFrames l)
 | []=>gD.pure' _
 | env::l=>by
  have k1:=vW l;have k2:=Ct a env l;have k3:=λ i=>Gp a env i l;unfold readyFrames;walk_at "kc"
  all_goals exact k3 _
theorem ug (l:List Env):gD a (frameObject l):=by
 cases l with
 | nil=>exact gD.pure' _
 | cons env l=>
  have k:=vW a (env::l);unfold frameObject;walk_at "kc"
theorem Ab (env:Env):gD a (PySem.frameOf env):=by
 have k1:gD a frameEnvs:=by
  unfold frameEnvs;walk_at "kc"
 have k2:=ug a;unfold PySem.frameOf;walk_at "kc"
 all_goals exact k2 _
theorem JF (cells:List Value):gD a (newFields "traceback" cells):=by
 unfold newFields newObj newObjAsIs;walk_at "kc"
theorem Gn (e:Value) (env:Env):gD a (noteFrame e env):=by
 have k1:=Ab a env
 have k2:∀f b,gD a (entryPlaceOf f b):=λ f b=>by
  unfold entryPlaceOf;walk_at "kc"
 have k3:=JF a;unfold noteFrame EntryCells.newEntry;walk_at "kc"
 all_goals first|exact k2 _ _|exact k3 _
theorem Cu (e:Value) (f:Option Addr):gD a (setFlight e f):=by
 unfold setFlight;walk_at "kc"
theorem rQ (env:Env) (e:Value):gD a (leaving env e):=gD.bind' (Gn a e env) λ _=>Cu a e none
end
structure Fly (P:Program) (w:World) (outer:List Env) (H:Hp) (s:Shared) (H':Hp) (a C:Addr) (s':Shared):Prop where
 os:s'.os=s.os
 bare:AllBare s'.gens
 fly:∃a0 B,Heap.FlyingW B outer a (.ref C) a0 s'.heap/\rA P w H' B/\(∀b o,s.heap.get? b=some o->H b=none->b∉uP outer->B.get? b=some o)/\∀b o,s.heap.get? b=some o->b∉uP outer->∃o',B.get? b=some o'
 slot:∀b o,s.heap.get? b=some o->H b=none->b∈uP outer->∃sl,s'.heap.get? b=some {o with slots:=sl}
 free:∀b o,s.heap.get? b=some o->H b=none->H' b=none
 i5:∀b xs,H b=some (.tup xs)->H' b=some (.tup xs)
 pJ:∀b o u,H b=some (.tH o u)->H' b=some (.tH o u)
 q_:∀b ps,H b=some (.KQ ps)->∃more,H' b=some (.KQ (ps++more))
def ir (P:Program) (w:World):G6:=λ outer H s E e s'=>∃a C H' d,e = .ref a/\Fly P w outer H s H' a C s'/\(d=none->ET a s'.heap)/\E (.ref C) d H'
def Raises (X:Cx) (E:XK):Prop:=∀(pins:List (Addr×Obj)) (σ:St) (H:Hp) (s:Shared) (h':Heap) (e C:Addr) (vs:List Value),Inv X pins σ H s->Heap.MadeExcOf s.heap h' e (.ref C) vs->E (.ref C) none H->X.xe (.ref e) {s with heap:=h'}
theorem FU (ok:rA P w H h) (k:∀b o u,H b=some u->h.get? b=some o->h'.get? b=some o):rA P w H h':=λ a o e=>
 (ok a o e).tM (λ b u hb q=>by
  rcases hb with rfl|hb
  .exact k _ u o e q
  .exact k _ u _ hb q) (λ _ q=>q) λ _ _ q=>q
section
variable {P:Program} {w:World} {K:aj} {mg:Str->Option Value} {base:Heap} {N:List Str} {qual:Str} {scope:Scope} {f:Addr} {cd:Value} {A:Around} {outer:List Env} {s:Shared} {H:Hp} {E:XK}
theorem oB:Raises (ze (ir P w) P w K mg base N qual scope f cd A outer s H E) E:=by
 intro pins σ H1 s1 h' e C vs I mk q;have pM:=I.stack;have YV:∀b∈uP (envOfC qual scope s.heap.objs.size f cd::outer),H1 b=none:=I.xw;have inF:∀env∈(envOfC qual scope s.heap.objs.size f cd::outer),∀b,env.frame=some b->b∈uP (envOfC qual scope s.heap.objs.size f cd::outer):=λ env he b hb=>bE.mpr ⟨env,he,hb⟩
 have NR:∀b∈uP outer,b∈uP (envOfC qual scope s.heap.objs.size f cd::outer):=λ b hb=>by
  obtain⟨env,he,hf⟩:=bE.mp hb;exact bE.mpr ⟨env,az _ he,hf⟩
 have LX:∀b o,s.heap.get? b=some o->b∉uP outer->b∉uP (envOfC qual scope s.heap.objs.size f cd::outer):=λ b o e1 n hb=>by
  obtain⟨env,he,hf⟩:=bE.mp hb;rcases aA.mp he with rfl|he
  .have z:s.heap.objs.size=b:=Option.some.inj hf;exact absurd (aG e1) (by rw [<-z];exact bU _)
  .exact n (bE.mpr ⟨env,he,hf⟩)
 have cN:ET e h':=by
  obtain⟨t,he,_,_⟩:=mk.there;exact⟨_,_,he,rfl,rfl⟩
 refine wpAny_mono ((rQ e _ _).any cN (wpAny_leaves_madeW (base:=eO s1.heap (uP (envOfC qual scope s.heap.objs.size f cd::outer))) I.ok.frames rfl (λ b o z=>PySem.W.of_hideAll _ z) (PySem.W.funFrames_hide pM inF) mk (Q:=λ _ s2=>∃h2 t,s2 = {s1 with heap:=h2}/\Heap.FlyingW (eO s1.heap (uP (envOfC qual scope s.heap.objs.size f cd::outer))) outer e (.ref C) (.ref t) h2/\h'.UpToSlots h2) λ h2 t fl _ _ up=>⟨h2,t,rfl,fl,up⟩)) (λ _ s2 HS=> ?_) λ _ _ q=>q;obtain⟨⟨h2,t,rfl,fl,up⟩,cN2⟩:=HS;refine⟨e,C,H1,none,rfl,⟨I.os,I.bare,⟨_,_,fl,FU I.gJ λ b o u hu z=>cY _ z λ hb=> ?_,λ b o e1 n1 n2=> ?_,λ b o e1 n2=> ?_⟩,λ b o e1 n1 hb=> ?_,λ b o e1 n1=>I.base.free b o e1 n1 (by intro z;exact absurd (show b∈([]:List Addr) from z) (by simp)),I.base.i5,I.base.pJ,I.base.q_⟩,λ _=>cN2,q⟩
 .rw [YV b hb] at hu
  cases hu
 .exact cY _ (I.base.keep b o e1 n1 n2 (by intro z;exact absurd (show b∈([]:List Addr) from z) (by simp))) (LX b o e1 n2)
 .obtain⟨o',e2⟩:=I.base.there b o e1 (by intro z;exact absurd (show b∈([]:List Addr) from z) (by simp));exact⟨o',cY _ e2 (LX b o e1 n2)⟩
 .obtain⟨sl,e2⟩:=I.base.slot b o e1 n1 hb (by intro z;exact absurd (show b∈([]:List Addr) from z) (by simp));obtain⟨_,o2,e3,nf⟩:=pM.mem (NR b hb);rw [e2] at e3
  cases e3;obtain⟨Ó,e4⟩:=up b _ (mk.keeps b _ e2) nf;exact⟨Ó,e4⟩
theorem t9:Passes (ir P w) (ze (ir P w) P w K mg base N qual scope f cd A outer s H E) E:=by
 intro pins σ H1 s1 e s2 I hx;obtain⟨a,C,H2,d,rfl,F,hd,q⟩:=hx;obtain⟨a0,B,fl,gJ,kp,th⟩:=F.fly
 have LX:∀b o,s.heap.get? b=some o->b∉uP outer->b∉uP (envOfC qual scope s.heap.objs.size f cd::outer):=λ b o e1 n hb=>by
  obtain⟨env,he,hf⟩:=bE.mp hb;rcases aA.mp he with rfl|he
  .have z:s.heap.objs.size=b:=Option.some.inj hf;exact absurd (aG e1) (by rw [<-z];exact bU _)
  .exact n (bE.mpr ⟨env,he,hf⟩)
 have NR:∀b∈uP outer,b∈uP (envOfC qual scope s.heap.objs.size f cd::outer):=λ b hb=>by
  obtain⟨env,he,hf⟩:=bE.mp hb;exact bE.mpr ⟨env,az _ he,hf⟩
 have t_:∀b:Addr,b∉(ze (ir P w) P w K mg base N qual scope f cd A outer s H E).ex:=λ b z=>absurd (show b∈([]:List Addr) from z) (by simp);refine wpAny_mono ((rQ a _ _).Z6 hd (wpAny_leaves_onW I.ok.frames rfl fl (Q:=λ _ s3=>∃h2,s3 = {s2 with heap:=h2}/\Heap.FlyingW B outer a (.ref C) a0 h2/\s2.heap.UpToSlots h2) λ h2 ZI up=>⟨h2,rfl,ZI,up⟩)) (λ _ s3 hs3=> ?_) λ _ _ q=>q;obtain⟨⟨h2,rfl,ZI,up⟩,hd2⟩:=hs3;refine⟨a,C,H2,d,rfl,⟨F.os.trans I.os,F.bare,⟨_,B,ZI,gJ,λ b o e1 n1 n2=> ?_,λ b o e1 n2=> ?_⟩,λ b o e1 n1 hb=> ?_,λ b o e1 n1=> ?_,λ b xs e1=>F.i5 b xs (I.base.i5 b xs e1),λ b o u e1=>F.pJ b o u (I.base.pJ b o u e1),λ b ps e1=> ?_⟩,hd2,q⟩
 .exact kp b o (I.base.keep b o e1 n1 n2 (t_ b)) (I.base.free b o e1 n1 (t_ b)) (LX b o e1 n2)
 .obtain⟨o1,e2⟩:=I.base.there b o e1 (t_ b);exact th b o1 e2 (LX b o e1 n2)
 .obtain⟨sl,e2⟩:=I.base.slot b o e1 n1 hb (t_ b);obtain⟨Ó,e3⟩:=F.slot b _ e2 (I.base.free b o e1 n1 (t_ b)) (NR b hb);obtain⟨_,o2,e4,nf⟩:=fl.2.2.1.mem (NR b hb);rw [e3] at e4
  cases e4;obtain⟨Λ,e5⟩:=up b _ e3 nf;exact⟨Λ,e5⟩
 .obtain⟨o1,e2⟩:=I.base.there b o e1 (t_ b);exact F.free b o1 e2 (I.base.free b o e1 n1 (t_ b))
 .obtain⟨m1,e2⟩:=I.base.q_ b ps e1;obtain⟨m2,e3⟩:=F.q_ b _ e2;exact⟨m1++m2,by rw [e3,eu]⟩
end
theorem fE:Passes (ir P w) X E0:=λ _ _ _ _ _ _ _ ⟨_,_,_,_,_,_,_,z⟩=>z.elim
def BJ (E:XK) (C:Addr) (te:TE):TS:=λ _ σ H=>te σ H λ _ H1=>E (.ref C) none H1
theorem Lq {X:Cx} {E:XK} {x:Str} {C:Addr} {O7:Expr} {te:TE} {np gM pos:Pos} (T:zC X.K X.mg x C) (hR:Raises X E) (hc:X.calm=true) (he:PE X O7 te) (hg:Gl X x:=by rfl) (hd:(x==("__debug__" : Str))=false:=by decide)
  (hs:starEach [O7] X.env = [(false,eval O7 X.env)]:=by rfl):PS X (.Raise (some (.Call (.Name x np) [O7] [] gM)) none pos) (BJ E C te):=by
 intro pins s σ H D I h;obtain⟨tl,N,nm,q,bs,hdct,sn,sub,ab,col,dd,k0,k1,k2,k3,k5,mN,hC,hN,hni,TL⟩:=(T.own I.ok.mod.RP).obj;have FB:=PySem.F.excBase_ValueError
 refine wpAny_Raise_call_subT (C:=C) (nm:=nm) (q:=q) (N:=N) (bs:=bs) (bm:=tl) (hdct:=hdct) (sn:=sn) (sub:=sub) (ab:=ab) (col:=col) (dd:=dd) (k0:=k0) (k1:=k1) (k2:=k2) (k3:=k3) (k5:=k5)
  FB (mN:=mN) (TL.hasType FB.hasBase) (I.ok.hd hc) (by rw [hs];rfl) hni (xC I hg T.g ⟨rfl,?_⟩ hd)
 have hA:PA X [O7] (Dr te zR):=B3 he Fz hs;rw [hs]
 have hw:=hA gM pins s σ H (λ vs H1=>vs.length=1/\E (.ref C) none H1) I (by
  have h':te σ H λ _ H1=>E (.ref C) none H1:=h;show te σ H λ x H1=>([x].length=1/\E (.ref C) none H1)
  simpa using h')
 rw [hs] at hw;refine Calls.evalArgs_plain (gU hw λ us s2 ⟨vs,H2,I2,r2,l2,q2⟩=>⟨rfl,?_,I2.bk _ _ hC,hN.keeps I2.bk,TL.keeps I2.bk,λ h' e mk=>hR pins σ H2 s2 h' e C us I2 mk q2⟩);rw [<-r2.length,l2]
 decide
end L2
namespace L2
open PySem PySem.Spec PyProof.Rows PySem.W PySem.Builtin PySem.Builtin.ObjectAttr PySem.Builtin.Getset_descriptor
section
variable {prog:Program} {w:World} {A:Around} {E:Value->Shared->Prop} {s:Shared} {K:Frag} {x C:Addr}
end
section
variable {X:Cx}
end
end L2
namespace L2
open PySem PySem.Spec PyProof.Rows
theorem DT (x:ig P w H h a o):∃ob,h.get? a=some ob:=by
 cases o with
 | lst xs=>obtain⟨_,_,_,_,e⟩:=x;exact⟨_,e⟩
 | tup xs=>obtain⟨_,_,_,ob,e,_⟩:=x;exact⟨ob,e⟩
 | dK kvs=>obtain⟨_,_,_,_,o,_,_,e,_⟩:=x;exact⟨o,e⟩
 | dT kvs=>obtain⟨_,_,_,_,o,_,_,e,_⟩:=x;exact⟨o,e⟩
 | set S n=>obtain⟨o,_,_,_,e,_⟩:=x;exact⟨o,e⟩
 | ins C dx fs=>obtain⟨_,_,_,e,_⟩:=x;exact⟨_,e⟩
 | own y=>obtain⟨o,e⟩:=x;exact⟨o,e⟩
 | xd fs=>obtain⟨_,⟨o,_,_,e,_⟩,_⟩:=x;exact⟨o,e⟩
 | wQ lo hi=>obtain⟨_,_,_,e⟩:=x;exact⟨_,e⟩
 | tH ob u=>obtain⟨e,_⟩:=x;exact⟨ob,e⟩
 | KQ ps=>exact⟨_,x⟩
 | met f y=>exact⟨_,x⟩
 | ext φ=>obtain⟨_,e,_⟩:=x;exact e
section
variable {X:Cx} {CX:G6} {k:Nat} {f C:Addr} {fd:FuncData} {ps:List Str} {sp:Sp} {uk:List V} {ds:List Value} {E:XK} {x m:Str} {p pos apos:Pos} {e o:Expr} {es:List Expr} {ta:TE} {t:TA} {pins:List (Addr×Obj)} {σ:St}
end
abbrev TSX:=Ends->(St->XK)->St->Hp->Prop
section
variable {X:Cx} {CX:G6} {st:Stmt} {rest:List Stmt} {t u:TSX} {e:Expr} {pos:Pos} {te:XK->TE}
end
section
variable {X:Cx} {pins:List (Addr×Obj)} {σ:St} {H:Hp} {s:Shared} {a:Addr}
end
section
variable {P:Program} {w:World} {K:aj} {mg:Str->Option Value} {base:Heap}
theorem M'.Ni {x qual:Str} {st:Stmt} {f:Addr} {fd:FuncData} {N ps:List Str} {k:Nat} {sp:Sp} (F:M' K x qual st f fd) (S:fG N ps (fw st)) (yS:∀(ik:Value) (A:Around) (outer:List Env) (s:Shared) (H:Hp) (vs:List V) (Q:VK) (E:XK),jd k (A.deeper (envOfC qual (fw st) s.heap.objs.size f ik))->sp vs H Q E->
   ∃t,xl (ze (ir P w) P w K mg base N qual (fw st) f ik A outer s H E) (j5 st) t/\t {nx:=λ _ H'=>Q .jv H',rt:=Q} (start N vs) H) (len:∀vs H Q E,sp vs H Q E->vs.length=ps.length:=by rintro _ _ _ _ ⟨⟩;subst_vars;rfl):f_ P w K mg base (ir P w) (k+1) f fd ps sp:=by
 obtain⟨oc,od,kV,doc,pm,an,ik,ct,PL,rfl,lk,Gx⟩:=F.ex;exact Qe lk Gx S len λ A outer s H vs Q E hr JK=>yS ik A outer s H vs Q E hr JK
theorem M'.okN {x qual:Str} {st:Stmt} {f:Addr} {fd:FuncData} {N ps:List Str} {k:Nat} {sp:Sp} (F:M' K x qual st f fd) (S:fG N ps (fw st)) (yS:∀(ik:Value) (A:Around) (outer:List Env) (s:Shared) (H:Hp) (vs:List V) (Q:VK) (E:XK),jd k (A.deeper (envOfC qual (fw st) s.heap.objs.size f ik))->sp vs H Q E->
   ∃t,xl (ze (ir P w) P w K mg base N qual (fw st) f ik A outer s H E).Wa (j5 st) t/\t {nx:=λ _ H'=>Q .jv H',rt:=Q} (start N vs) H) (len:∀vs H Q E,sp vs H Q E->vs.length=ps.length:=by rintro _ _ _ _ ⟨⟩;subst_vars;rfl):f_ P w K mg base (ir P w) (k+1) f fd ps sp:=
 F.Ni S (len:=len) λ ik A outer s H vs Q E hr JK=>by
  obtain⟨t,h,q⟩:=yS ik A outer s H vs Q E hr JK;exact⟨t,h.Wa,q⟩
end
section
variable {X:Cx}
theorem Ri {P:Program} {w:World} {k:Nat} {f:Addr} {fd:FuncData} {ps:List Str} {sp:Sp} {E:XK} {x:Str} {st:Stmt} {p pos:Pos} {e:Expr} {es:List Expr} {t:TA} (D:gE X.K X.mg x st ps f fd) (F:f_ X.prog X.w X.K X.mg X.base (ir P w) k f fd ps sp) (hr:jd k X.A)
  (hx:Passes (ir P w) X E) (ha:PA X (e::es) t) (hg:Gl X x:=by rfl) (Em:(x==("__debug__" : Str))=false:=by decide) (he:starEach (e::es) X.env=(false,eval e X.env)::starEach es X.env:=by rfl) (xG:(backTo pos (starEach es X.env)).any (·.1)=false:=by rfl) :
  PE X (.Call (.Name x p) (e::es) [] pos) (Ds sp [] E t):=Ou F hr hg D.g D.fn.kp D.b .nil hx ha Em he xG
end
end L2
namespace L2
open PySem PySem.Spec PyProof.Rows PySem.W
abbrev Qs (K:Frag) (S:Addr) (cs:List Addr) (C:Addr):=
 ((excIn K C VU "ValueError.__new__",findIn K (.ref C) "__getattribute__",findIn K (.ref C) "__getattr__",findIn K (.ref C) "__class__"),
  ((clsIn K C).isSome,specialIn K (.builtin "object.__class__") "__get__",takesIn K (.builtin "object.__class__"),mroIn K C (.type "object")),
  (mroIn K C (.type "BaseException"),exmOne K (.ref C) (.ref S),kitOne K (.ref C) (.type "ValueError"),cs.map λ D=>kitOne K (.ref C) (.ref D)))
abbrev Kx (cs:List Addr) (C:Addr):(Bool×Option (Option Value)×Option (Option Value)×Option (Option Value))×(Bool×Option (Option Value)×Option Bool×Option Bool)×(Option Bool×Option Bool×Option Bool×List (Option Bool)):=
 ((true,some (some (.builtin "BaseException.__getattribute__")),some none,some (some (.builtin "object.__class__"))),
  (true,some (some (.builtin "getset_descriptor.__get__")),some true,some true),
  (some true,some true,some true,cs.map λ D=>some (decide ((C:Nat)=D))))
structure GX (K:Frag) (S:Addr) (cs:List Addr):Prop where
 rows:cs.map (Qs K S cs)=cs.map (Kx cs)
 nd:decide (@List.Nodup Nat cs)=true
section
variable {K:Frag} {S:Addr} {cs:List Addr} {C D:Addr}
theorem GX.row (T:GX K S cs) (h:C∈cs):Qs K S cs C=Kx cs C:=(List.map_inj_left.mp T.rows) C h
theorem GX.exc (T:GX K S cs) (h:C∈cs):excIn K C VU "ValueError.__new__" = true:=by
 have e:=T.row h;simp only [Prod.mk.injEq] at e;exact e.1.1
theorem GX.cls (T:GX K S cs) (h:C∈cs) (g:mg x=some (.ref C)):zC K mg x C:=⟨g,T.exc h⟩
end
section
variable {X:Cx} {S:Addr} {cs:List Addr}
end
section
variable {X:Cx} {CX:G6} {e:Expr} {es:List Expr} {t:TE}
end
structure iM (K:aj) (C:Addr) (m qual:Str) (st:Stmt) (ps:List Str) (f:Addr) (fd:FuncData):Prop where
 at_:Meth K C m f
 fn:M' K m qual st f fd
 b:Binds K fd ps []
section
variable {X:Cx} {P:Program} {w:World} {k:Nat} {f C:Addr} {fd:FuncData} {ps:List Str} {sp:Sp} {E:XK} {m qual:Str} {st:Stmt} {apos pos:Pos} {e o:Expr} {es:List Expr} {ta:TE} {t:TA}
theorem Uw (he:PE X o ta) (c:Df X.K C) (D:iM X.K C m qual st ps f fd) (F:f_ X.prog X.w X.K X.mg X.base (ir P w) k f fd ps sp) (hr:jd k X.A) (hx:Passes (ir P w) X E) (ha:PA X (e::es) t)
  (pM:starEach (e::es) X.env=(false,eval e X.env)::starEach es X.env:=by rfl) (xG:(backTo pos (starEach es X.env)).any (·.1)=false:=by rfl)
  (ht:eval (.Call (.Attribute o m apos) (e::es) [] pos) X.env=(do
   let ov <-eval o X.env
   standAt apos.atName
   let (f,first) <-holding [ov] (getMethod ov m pl)
   callWith pos f first (backTo pos (starEach (e::es) X.env)) (backToKw pos (keywordEach [] X.env))):=by rfl) :
  PE X (.Call (.Attribute o m apos) (e::es) [] pos) (rD C m sp [] E ta t):=Hy he c D.at_ F hr D.b .nil hx ha pM xG ht
theorem Rc (he:PE X o ta) (c:Df X.K C) (D:iM X.K C m qual st ps f fd) (F:f_ X.prog X.w X.K X.mg X.base (ir P w) k f fd ps sp) (hr:jd k X.A) (hx:Passes (ir P w) X E)
  (ht:eval (.Call (.Attribute o m apos) [] [] pos) X.env=(do
   let ov <-eval o X.env
   standAt apos.atName
   let (f,first) <-holding [ov] (getMethod ov m pl)
   callWith pos f first (backTo pos (starEach [] X.env)) (backToKw pos (keywordEach [] X.env))):=by rfl) :
  PE X (.Call (.Attribute o m apos) [] [] pos) (rD C m sp [] E ta zR):=Ly he c D.at_ F hr D.b .nil hx ht
end
end L2
namespace L2
open PySem PySem.Spec PyProof.Rows
theorem kX {α:Type} {xs:List α} {i:Int} (h0:0<=i) (h1:i<xs.length):∃v,xh xs i=some v/\xs[i.toNat]? = some v:=by
 obtain⟨j,rfl⟩:=dD h0;have hj:j<xs.length:=by exact Yv h1
 exact⟨xs[j],qZ (by simp [hj]),by simp [hj]⟩
theorem Hu {K:aj} {H:Hp} {p:Addr} {xs:List V} {i:Int} {Q:VK} (h0:0<=i) (h1:i<xs.length) (k:∀v∈xs,Q v (upd H p (.lst xs))):Ll K (.ref p) (.int i) (upd H p (.lst xs)) Q:=by
 obtain⟨v,e,e2⟩:=kX h0 h1;exact⟨p,xs,i,v,rfl,rfl,fZ.of eX,e,k v (ai e2)⟩
theorem Ht {H:Hp} {l:List Nat} {i:Int} {Q:VK} (hz:l.length<=sizeLine) (h0:0<=i) (h1:i<l.length) (k:∀c,l[i.toNat]? = some c->Q (.str (tx [c])) H):QK (.str (tx l)) (.int i) H Q:=by
 obtain⟨v,e,e2⟩:=kX h0 h1;exact⟨_,i,v,rfl,rfl,by rwa [xR],by rwa [qL],k v e2⟩
theorem fW {n:Nat} (h:n<=100000):n<=sizeLine:=bj h (by rw [sizeLine_eq];decide)
end L2
namespace L2
open PySem PySem.Spec PyProof.Rows PySem.P
section
variable {X:Cx}
theorem zh:∀{xs:List V} {us:List Value},Vals xs us->xs.all kb=true->us.countP (CG x)=xs.countP λ y=>xK y x
 | _,_,.nil,_=>rfl
 | y::xs,u::us,.cons r t,f=>by
  rw [cV,bg] at f;rw [eK,eK,zh t f.2,CF r f.1]
def Fx:V->List V->Hp->VK->Prop:=λ x vs H Q=>∃l xs y,x = .ref l/\vs = [y]/\H l=some (.lst xs)/\kb y=true/\xs.all kb=true/\Q (.int ((xs.countP λ z=>xK z y:Nat):Int)) H
theorem LZ:Tb X "list.count" Fx:=by
 intro pins s σ H x vs v us Q I rx rv h;obtain⟨l,xs,y,rfl,rfl,hH,fy,fx,q⟩:=h
 cases rx;obtain⟨u,rfl,ru⟩:=rv.one;obtain⟨z,its,n,r,hl,e⟩:=I.yC hH;refine call_meets F.slot_list_count ⟨_,e,rfl⟩ F.entry_list_count (F.args_list_count_2 _ _) (SeqAt.list_countAt l its.toArray n none #[] u (CG y)) ⟨e,λ w hw=>lY ru fy r fx w (by simpa using hw),?_⟩;refine⟨.int _,H,I.tok _,⟨_,rfl⟩,?_⟩
 rwa [show its.toArray.toList=its by simp,zh r fx]
theorem CB:∀{xs:List V} {us:List Value} {m:Nat} (hm:m<us.length),Vals xs us->xs.all kb=true->∃y,xs[m]? = some y/\CG x us[m]=xK y x
 | [],[],_,hm,_,_=>absurd hm (Nat.not_lt_zero _)
 | y::xs,u::us,0,hm,.cons r t,f=>by
  rw [cV,bg] at f;exact⟨y,rfl,CF r f.1⟩
 | y::xs,u::us,m+1,hm,.cons r t,f=>by
  rw [cV,bg] at f;exact CB (xs:=xs) (us:=us) (m:=m) (Nat.lt_of_succ_lt_succ hm) t f.2
def Fv:V->List V->Hp->VK->Prop:=λ x vs H Q=>∃(l:Addr) (xs:List V) (y:V) (j:Nat) (z:V),x = .ref l/\vs = [y]/\H l=some (.lst xs)/\kb y=true/\xs.all kb=true/\xs[j]? = some z/\xK z y=true/\(∀(m:Nat) (z':V),m<j->xs[m]? = some z'->xK z' y=false)/\Q (.int (j:Int)) H
theorem ua:Tb X "list.index" Fv:=by
 intro pins s σ H x vs v us Q I rx rv h;obtain⟨l,xs,y,j,z',rfl,rfl,hH,fy,fx,hj,hit,YI,q⟩:=h
 cases rx;obtain⟨u,rfl,ru⟩:=rv.one;obtain⟨z,its,n,r,hl,e⟩:=I.yC hH;have TQ:j<its.length:=by rw [<-hl];exact(ag.mp hj).1
 have big:(sizeLine:Int)<2 ^ 63-1:=by rw [sizeLine_eq];decide
 refine call_meets F.slot_list_index ⟨_,e,rfl⟩ F.entry_list_index (F.args_list_index_2 _ _) (SeqAt.list_indexAt l its.toArray n none #[] u (CG y) j (by simpa using TQ) (by lia) ?_ ?_) ⟨e,λ w hw=>lY ru fy r fx w (by simpa using hw),?_⟩
 .obtain⟨y',e1,e2⟩:=CB (x:=y) TQ r fx;rw [hj] at e1
  cases e1
  simpa using e2.trans hit
 .intro m hm Wn;have Wr:m<its.length:=by simpa using hm
  obtain⟨y',e1,e2⟩:=CB (x:=y) Wr r fx
  simpa using e2.trans (YI m y' Wn e1)
 .exact⟨.int _,H,I.tok _,⟨_,rfl⟩,q⟩
end
def NF (X:Cx) (a:Addr):Prop:=∀o u,X.kZ a≠some (.tH o u)
section
variable {X:Cx} {pins:List (Addr×Obj)} {σ:St} {H:Hp} {s:Shared} {a:Addr} {o o':HO}
theorem Inv.PD (I:Inv X pins σ H s) (e:H a=some o) (h1:∀xs,o≠.tup xs) (h2:∀y,o≠.own y) (h3:∀ps,o≠.KQ ps) (h4:NF X a) (new:ig X.prog X.w (upd H a o') s.heap a o'):Inv X pins σ (upd H a o') s:=by
 have nn:∀b,H b=none->b≠a:=λ b z w=>by rw [w,e] at z;cases z
 have un:∀b,H b=none->upd H a o' b=none:=λ b z=>by rwa [e_ (nn b z)]
 refine⟨I.ok,I.os,I.bare,⟨I.base.keep,I.base.slot,λ b ob q n hx=>un b (I.base.free b ob q n hx),I.base.there,λ b xs q=> ?_,λ b ob u q=> ?_,λ b ps q=> ?_⟩,I.loc,I.cell,un _ I.free,λ x c q=>un _ (I.mC x c q),λ p hp=> ?_,λ b u q=> ?_,I.len⟩
 .have z:=I.base.i5 b xs q;rw [e_ (λ w=>by rw [w,e] at z;exact h1 xs (Option.some.inj z))];exact z
 .have hb:b≠a:=λ w=>h4 ob u (by rwa [<-w]);rw [e_ hb];exact I.base.pJ b ob u q
 .obtain⟨more,z⟩:=I.base.q_ b ps q;exact⟨more,by rw [e_ (λ w=>by rw [w,e] at z;exact h3 _ (Option.some.inj z))];exact z⟩
 .obtain⟨p1,p2,p3⟩:=I.pin p hp;exact⟨p1,un _ p2,p3⟩
 .by_cases hb:b=a
  .subst hb;rw [eX] at q
   cases q;exact new
  .rw [e_ hb] at q;refine(I.gJ b u q).tM (λ _ _ _ z=>z) (λ c z=> ?_) λ c xs z=> ?_
   .rw [e_ (λ w=>by rw [w,e] at z;exact h2 b (Option.some.inj z))];exact z
   .rw [e_ (λ w=>by rw [w,e] at z;exact h1 xs (Option.some.inj z))];exact z
theorem DU (x:ig P w H h a (.dK kvs)):ig P w H' h a (.dK kvs):=x
theorem Inv.freeze (I:Inv X pins σ H s) (e:H a=some (.dK kvs)):∃ob,s.heap.get? a=some ob/\NF X a/\Inv X pins σ (upd H a (.tH ob (.dK kvs))) s:=by
 obtain⟨ob,ho⟩:=DT (I.gJ a _ e)
 have nf:NF X a:=λ o u z=>by
  have:=I.base.pJ a o u z;rw [e] at this
  cases this
 exact⟨ob,ho,nf,I.PD e (λ _ z=>nomatch z) (λ _ z=>nomatch z) (λ _ z=>nomatch z) nf ⟨ho,DU (I.gJ a _ e)⟩⟩
theorem Inv.IQ (I:Inv X pins σ H s) (e:H a=some (.tH ob (.dK kvs))) (nf:NF X a):Inv X pins σ (upd H a (.dK kvs)) s:=
 I.PD e (λ _ z=>nomatch z) (λ _ z=>nomatch z) (λ _ z=>nomatch z) nf (DU (I.gJ a _ e).2)
def Pp (X:Cx) (P:Hp->Prop) (H:Hp):Prop:=∃a ob kvs,NF X a/\H a=some (.tH ob (.dK kvs))/\P (upd H a (.dK kvs))
end
theorem xD (h:(gA P w).is k v=true):RelV (kV k) v:=by
 rcases iq (show yL k v=true from h) with ⟨i,t,rfl,rfl⟩ | ⟨x,t,rfl,rfl⟩
 .exact⟨t,rfl⟩
 .exact⟨t,rfl⟩
def Â (d:Addr) (ob:Obj) (kvs:List (Key×V)):It:=
 ⟨λ i H=>i<kvs.length/\H d=some (.tH ob (.dK kvs)),λ i H x H'=>H'=H/\(kvs.map λ kv=>kV kv.1)[i]? = some x,λ i H=>i=kvs.length/\H d=some (.tH ob (.dK kvs))⟩
theorem sW (I:Inv X pins σ H s) (e:H d=some (.tH ob (.dK kvs))) (he:ob.data = .dict es ep) :
  (d==sysModules)=false/\kvs.length<=sizeLine/\∃vs,KV kvs vs/\s.heap.DictAt (gA X.prog X.w) d vs ep:=by
 obtain⟨ho,z,y,vs,r,o2,SH,ep2,e2,c1,c2,c3⟩:=I.gJ d _ e;rw [ho] at e2
 cases e2;rw [he] at c2
 cases c2;exact⟨y,z,vs,r,ob,es,ho,c1,he,c3⟩
theorem IK {P:Program} {w:World} {K:aj} {y:Str} {py:Pos} (d it:Addr) (ob:Obj) (kvs:List (Key×V)) {es:Array DictEntry} {ep:Nat} (he:ob.data = .dict es ep) :
  Turn P w K (.Name y py) (Â d ob kvs) [it] it (λ i h=>h.IsKeyIter it d i kvs.length ep) where
 mem:=by simp
 obj:=λ i h st b hb=>by
  have e:b=it:=by simpa using hb
  subst e;obtain⟨o,e,c,d⟩:=st;exact⟨o,e,λ v z=>by rw [d] at z;cases z⟩
 keep:=λ i h h' st k=>st.at λ o e=>k it (by simp) o e
 item:=by
  intro X hP hw hK hc i pins s σ H E I hf st hg;subst hP hw hK;obtain⟨hi,hd⟩:=hg;obtain⟨_,_,vs,r,da⟩:=sW I hd he;have hl:kvs.length=vs.length:=r.length;have hiv:i<vs.length:=by exact Za hi (Ze hl)
  obtain⟨⟨k,x⟩,hx⟩:∃p,vs[i]? = some p:=⟨vs[i],by simp [hiv]⟩
  have Sj:(kvs.map λ kv=>kV kv.1)[i]? = some (kV k):=by
   have e1:(kvs.map (·.1))[i]? = some k:=by
    rw [r.keys,ak,hx];rfl
   rw [ak] at e1⊢
   cases q:kvs[i]? with
   | none=>rw [q] at e1;cases e1
   | some p=>
    rw [q] at e1;have:p.1=k:=Option.some.inj e1;rw [<-this];rfl
  rw [hl] at st;obtain⟨f0,f1,f2,f3,f4,f5⟩:=hf it (by simp);refine wpAny_pyNext_dict_item st da hx λ key h' hk C9 sb=> ?_;have I1:Inv X pins σ H {s with heap:=h'}:=I.turned (t':=s.toks) (λ b o hb e=>(sb.2 b hb).trans e) f0 f1 f3 f4 f5;rw [<-hl] at C9;exact⟨key,rfl,wpAny_pure ⟨kV k,H,I1,xD hk,⟨rfl,Sj⟩,C9,λ b hb=>(hf b hb).1⟩⟩
 done:=by
  intro X hP hw hK hc i pins s σ H E I hf st hg;subst hP hw hK;obtain⟨hi,hd⟩:=hg;obtain⟨_,_,vs,r,da⟩:=sW I hd he;have hl:kvs.length=vs.length:=r.length;rw [hl] at st;obtain⟨f0,f1,f2,f3,f4,f5⟩:=hf it (by simp);exact wpAny_pyNext_dict_end (I.ok.hd hc) st da (by rw [List.getElem?_eq_none_iff];exact Zc (Zg hl) (Zg hi)) λ h' eb=>⟨rfl,I.turned (t':=s.toks) (λ b o hb e=>eb b o hb e) f0 f1 f3 f4 f5⟩
 self:=λ _ _ _ _ _ st h=>wpAny_pyIter_keyiter st h
section
variable {X:Cx} {y:Str} {py:Pos}
def P8 (X:Cx) (te:TE):TI:=λ σ H R=>te σ H λ x H1=>∃a kvs,x = .ref a/\H1 a=some (.dK kvs)/\∀ob,NF X a->R (Â a ob kvs) (upd H1 a (.tH ob (.dK kvs)))
theorem Og {e:Expr} {te:TE} (h:PE X e te):PI X (.Name y py) e (P8 X te):=by
 intro pins s σ H R I hw;refine gU (h pins s σ H _ I hw) λ v s1 zq=> ?_;obtain⟨x,H1,I1,r1,a,kvs,ex,ha,q⟩:=zq;subst ex
 cases (show v=Value.ref a from r1);obtain⟨ob,ho,nf,I2⟩:=I1.freeze ha;obtain⟨_,_,_,_,o2,es,ep,e2,_,c2,_⟩:=I1.gJ a _ ha;rw [ho] at e2
 cases e2;obtain⟨R3,hz,vs,r,da⟩:=sW I2 eX c2;refine wpAny_pyIter_dict R3 da ?_;refine⟨s1.heap.objs.size,[s1.heap.objs.size],_,Â a ob kvs,_,rfl,I2.kept (t':=s1.toks) λ b o e=>ah _ e,IK a s1.heap.objs.size ob kvs c2,⟨_,aK _ rfl,rfl,by rw [show kvs.length=vs.length from r.length];rfl⟩,λ b hb=> ?_,q ob nf⟩;obtain rfl:b=s1.heap.objs.size:=by simpa using hb
 exact I2.Ae (ay _) (I2.gJ.fresh (ay _))
def ES (X:Cx) (D:Ends):Ends:=⟨λ σ H=>Pp X (D.nx σ) H,λ v H=>Pp X (D.rt v) H,λ σ H=>Pp X (D.bk σ) H,λ σ H=>Pp X (D.ct σ) H⟩
def KW (X:Cx) (te:TE) (g:TG) (tb:TS):TS:=λ D σ H=>Qx (P8 X te) g tb (ES X D) σ H
theorem SP.IQ (h:SP X pins (ES X D) f s):SP X pins D f s:=by
 cases f with
 | next=>obtain⟨σ,H,I,a,ob,kvs,nf,e,q⟩:=h;exact⟨σ,_,I.IQ e nf,q⟩
 | brk=>obtain⟨σ,H,I,a,ob,kvs,nf,e,q⟩:=h;exact⟨σ,_,I.IQ e nf,q⟩
 | cont=>obtain⟨σ,H,I,a,ob,kvs,nf,e,q⟩:=h;exact⟨σ,_,I.IQ e nf,q⟩
 | ret u=>obtain⟨v,σ,H,I,r,a,ob,kvs,nf,e,q⟩:=h;exact⟨v,σ,_,I.IQ e nf,r,q⟩
theorem Oa (hp:PassesOwn (model X.prog X.w) X.A X.env X.xe) (hc:X.calm=true) (hi:PE X iter te) (hg:PG X (.Name y py) g) (hb:xl X body tb)
  (hs:∀x,foldedSetIterable iter X.env x=pure x:=by intro _;rfl):PS X (.For (.Name y py) iter body [] pos) (KW X te g tb):=λ pins s σ H D I h=>
 gU (Ls hp hc (Og hi) hg hb hs pins s σ H (ES X D) I h) λ f s' q=>q.IQ
section
variable {elt iter:Expr} {ifs:List Expr} {scope:Scope} {pos:Pos} {N:List Str} {fr:List Nat} {tt:TT} {te Θ:TE}
end
theorem j6 (hc:X.calm=true):kg X (.type "list") (λ xs H Q=>∃d kvs,xs = [.ref d]/\Rd H d (.dK kvs)/\∀l,H l=none->Q (.ref l) (upd H l (.lst (kvs.map λ kv=>kV kv.1)))):=by
 intro pins s σ H xs us Q I r h;obtain⟨d,kvs,rfl,hd,q⟩:=h;obtain⟨u,rfl,ru⟩:=r.one
 cases ru;obtain⟨hz,R3,vs,rel,dd⟩:=pk I.gJ hd;obtain⟨ep,da⟩:=dd.dictAt;have hl:kvs.length=vs.length:=rel.length;refine PySem.W.kdl_call (PySem.W.kdl_dict R3) (I.ok.hd hc) da (Zc (Zg hl) hz) λ h' tk Po c' kp e Ac=> ?_
 have HQ:Vals (kvs.map λ kv=>kV kv.1) Po.toList:=by
  have hlen:Po.toList.length=kvs.length:=by rw [bD,Ac.1,hl]
  have key:∀(ks:List Key) (us:List Value),ks.length=us.length->(∀(j:Nat) (k:Key) (v:Value),ks[j]? = some k->us[j]? = some v->(gA X.prog X.w).is k v=true)->Vals (ks.map kV) us:=by
   intro ks
   induction ks with
   | nil=>
    intro us e _
    cases us with
    | nil=>exact .nil
    | cons _ _=>cases e
   | cons k ks ih=>
    intro us e h
    cases us with
    | nil=>cases e
    | cons u us=>exact .cons (xD (h 0 k u rfl rfl)) (ih us (by simpa using e) λ j k' v e1 e2=>h (j+1) k' v e1 e2)
  have:=key (kvs.map (·.1)) Po.toList (by rw [ae,hlen]) λ j k v e1 e2=>by
   obtain⟨k',x,e3,e4⟩:=Ac.2 j v (by rwa [<-bc]);rw [rel.keys,ak,e3] at e1
   cases e1;exact e4
  rw [aQ] at this;exact this
 exact⟨.ref s.heap.objs.size,_,I.laid (t':=tk) kp (ay _) (show ig X.prog X.w _ h' _ (.lst _) from ⟨by rwa [ae],Po.toList,c',HQ,by simpa using e⟩),rfl,q _ (I.gJ.fresh (ay _))⟩
end
mutual
inductive tE (K:aj) (H:Hp):V->PyData->Prop
 | jv:tE K H .jv .none
 | bl (b:Bool):tE K H (.bl b) (.bool b)
 | int (i:Int):tE K H (.int i) (.int i)
 | str (x:Str):tE K H (.str x) (.str x)
 | lst {a:Addr} {xs:List V} {ds:List PyData}:fZ K H a xs->pH K H xs ds->tE K H (.ref a) (.list ds)
 | tup {a:Addr} {xs:List V} {ds:List PyData}:oh K H a xs->pH K H xs ds->tE K H (.ref a) (.tuple ds)
inductive pH (K:aj) (H:Hp):List V->List PyData->Prop
 | nil:pH K H [] []
 | cons {x:V} {xs:List V} {d:PyData} {ds:List PyData}:tE K H x d->pH K H xs ds->pH K H (x::xs) (d::ds)
end
section
variable {X:Cx} {pins:List (Addr×Obj)} {σ:St} {H:Hp} {s:Shared}
mutual
theorem tE.reads (I:Inv X pins σ H s):∀{v:V} {d:PyData} {u:Value},tE X.K H v d->RelV v u->∃as,Reads s.heap u d as
 | _,_,_,.jv,r=>by cases r;exact⟨_,.none⟩
 | _,_,_,.bl b,r=>by cases r;exact⟨_,.bool b⟩
 | _,_,_,.int i,r=>by obtain⟨t,rfl⟩:=r;exact⟨_,.int i t⟩
 | _,_,_,.str x,r=>by obtain⟨t,rfl⟩:=r;exact⟨_,.str x t⟩
 | _,_,_,.lst hq hs,r=>by
  cases r;obtain⟨its,rv,pl,_⟩:=I.list hq;obtain⟨as,ra⟩:=pH.reads I hs rv;obtain⟨o,ho,hc,n,hd⟩:=pl.isList;exact⟨_,.list ho hc hd (by simpa using ra)⟩
 | _,_,_,.tup hq hs,r=>by
  cases r;obtain⟨its,rv,pl,_⟩:=I.tuple hq;obtain⟨as,ra⟩:=pH.reads I hs rv;obtain⟨o,ho,hc,n,hd⟩:=pl;exact⟨_,.tuple ho hc hd (by simpa using ra)⟩
theorem pH.reads (I:Inv X pins σ H s):∀{vs:List V} {ds:List PyData} {us:List Value},pH X.K H vs ds->Vals vs us->∃as,ReadsAll s.heap us ds as
 | _,_,_,.nil,r=>by cases r;exact⟨_,.nil⟩
 | _,_,_,.cons h hs,r=>by
  cases r with
  | cons r1 r2=>
   obtain⟨as,a1⟩:=tE.reads I h r1;obtain⟨bs,b1⟩:=pH.reads I hs r2;exact⟨_,.cons a1 b1⟩
end
end
mutual
theorem eqv_refl:∀d:PyData,d.canLay0=true->PyData.eqv d d=true
 | .none,_=>by simp [PyData.eqv]
 | .bool b,_=>by simp [PyData.eqv]
 | .int i,_=>by simp [PyData.eqv]
 | .str x,_=>by simp [PyData.eqv]
 | .list xs,h=>by
  rw [PyData.eqv];exact eqvAll_refl xs (by simpa [PyData.canLay0] using h)
 | .tuple xs,h=>by
  rw [PyData.eqv];exact eqvAll_refl xs (by simpa [PyData.canLay0] using h)
 | .dict _,h=>by simp [PyData.canLay0] at h
theorem eqvAll_refl:∀ds:List PyData,PyData.canLayAll0 ds=true->PyData.eqvAll ds ds=true
 | [],_=>by simp [PyData.eqvAll]
 | d::ds,h=>by
  rw [PyData.canLayAll0,bg] at h;rw [PyData.eqvAll,eqv_refl d h.1,eqvAll_refl ds h.2];rfl
end
def QL (K:aj):R2:=λ x y H Q=>∃d,tE K H x d/\tE K H y d/\SeqAt.shaped d=true/\Q (.bl true) H
section
variable {X:Cx}
theorem Rr (hu:X.A.units+64<cLine):tI X (compareOp .Eq) (QL X.K):=by
 intro pins s σ H x y v u Q I rx ry h;obtain⟨d,h1,h2,h3,q⟩:=h;obtain⟨as,a1⟩:=h1.reads I rx;obtain⟨bs,b1⟩:=h2.reads I ry;refine eq_dataH a1 b1 h3 h3 hu ?_;rw [eqv_refl d (SeqAt.canLay_of_shaped h3)];exact⟨.bl true,H,I,rfl,q⟩
end
theorem X9 (r:jd k A):A.units+64<cLine:=r.units
def LU (l:List Nat):Prop:=∀c∈l,c<1114112
theorem KZ (h:LU l):PyData.strOk (tx l)=true:=by
 unfold PyData.strOk;simp only [tx,Array.all_eq_true,decide_eq_true_eq];intro i hi;exact h _ (by simp)
structure Step (H:Hp) (F:List Addr) (H':Hp) (F':List Addr):Prop where
 off:∀b o,b∉F->H b=some o->H' b=some o
 own:∀b∈F',b∈F\/H b=none
 tup:∀b xs,H b=some (.tup xs)->H' b=some (.tup xs)
theorem Step.refl (H:Hp) (F:List Addr):Step H F H F:=⟨λ _ _ _ e=>e,λ _ h=>.inl h,λ _ _ e=>e⟩
theorem Step.same (s:fh H H'):Step H F H' F:=⟨λ b o _ e=>s b o e,λ _ h=>.inl h,λ b xs e=>s _ _ e⟩
theorem Step.trans (a:Step H F H1 F1) (b:Step H1 F1 H2 F2):Step H F H2 F2:=by
 refine⟨λ c o hc e=>b.off c o (λ h1=> ?_) (a.off c o hc e),λ c hc=> ?_,λ c xs e=>b.tup c xs (a.tup c xs e)⟩
 .rcases a.own c h1 with z|z
  .exact hc z
  .rw [e] at z
   cases z
 .rcases b.own c hc with h1|h1
  .exact a.own c h1
  .by_cases hF:c∈F
   .exact .inl hF
   .refine .inr ?_
    cases q:H c with
    | none=>rfl
    | some o=>
     rw [a.off c o hF q] at h1
     cases h1
theorem Step.apart (a:Step H F H' F') (hb:b∉F) (e:H b=some o):b∉F':=λ h=>by
 rcases a.own b h with z|z
 .exact hb z
 .rw [e] at z
  cases z
end L2
namespace L2
open PySem
abbrev Nm:=List Nat
def EE:List Nat:= [97,98,99,100,101,102,103,104,105,106,107,108,109,110,111,112,113,114,115,116,117,118,119,120,121,122]
theorem OD:c∈EE↔97<=c/\c<=122:=by
 rw [show EE=List.range' 97 26 from rfl,List.mem_range'_1];lia
def nT (l:Nm):Bool:=decide (1<=l.length/\l.length<=12)&&l.all λ c=>decide (c∈EE)
inductive Rf where
 | noName|DW|HC|UI|PN|twice|IW|full
 deriving DecidableEq
structure ni where
 start:Nm
 name:Nm
 stop:Nm
 weight:Int
 deriving DecidableEq
structure WA where
 things:List (Nm×List (Nm×Int))
 fL:List (Int×ni)
 next:Int
def WA.names (A:WA):List Nm:=A.things.map (·.1)
def WA.zu (A:WA) (l:Nm):Except Rf WA:=
 if nT l=false then .error .noName else if l∈A.names then .error .twice else if 100<=A.things.length then .error .full else .ok {A with things:=A.things ++ [(l,[])]}
structure WS where
 dx:Addr
 dv:Addr
 dt:Addr
 vals:List (Nm×Addr×List (Nm×Int))
 fL:List (Int×Addr×ni)
 next:Int
def WS.abs (W:WS):WA:=⟨W.vals.map λ x=>(x.1,x.2.2),W.fL.map λ x=>(x.1,x.2.2),W.next⟩
def WS.own (W:WS) (p:Addr):List Addr:=p::W.dv::W.dt::W.vals.map (·.2.1)
def j2 (vals:List (Nm×Addr×List (Nm×Int))):List (Key×V):=vals.map λ x=>(.inr (tx x.1),.ref x.2.1)
def fR (fL:List (Int×Addr×ni)):List (Key×V):=fL.map λ x=>(.inl x.1,.ref x.2.1)
def gz (m:List (Nm×Int)):List (Key×V):=m.map λ y=>(.inr (tx y.1),.int y.2)
def wK (t:ni):List V:= [.str (tx t.start),.str (tx t.name),.str (tx t.stop),.int t.weight]
structure gy (C:Addr) (H:Hp) (p:Addr) (W:WS):Prop where
 obj:H p=some (.ins C W.dx [("kept_values",.ref W.dv),("kept_ties",.ref W.dt),("coming_number",.int W.next)])
 val:H W.dv=some (.dK (j2 W.vals))
 fX:H W.dt=some (.dK (fR W.fL))
 each:∀x∈W.vals,H x.2.1=some (.dK (gz x.2.2))
 i5:∀x∈W.fL,H x.2.1=some (.tup (wK x.2.2))
 nd:(W.dv::W.dt::W.vals.map (·.2.1)).Nodup
 names:(W.vals.map (·.1)).Nodup
 nums:(W.fL.map (·.1)).Nodup
 iD:W.vals.length<=100
 SD:W.fL.length<=400
theorem vn (W:WS):W.abs.names=W.vals.map (·.1):=by
 unfold WA.names WS.abs;rw [aQ];rfl
theorem uQ (l:Nm):∀vals:List (Nm×Addr×List (Nm×Int)),gT (j2 vals) (.inr (tx l))=(vals.find? λ x=>decide (x.1=l)).map λ x=>V.ref x.2.1
 | []=>rfl
 | x::r=>by
  have ih:=uQ l r;unfold j2 at ih⊢;rw [aD,bJ];by_cases e:x.1=l
  .rw [iu (by rw [e]),decide_eq_true e];rfl
  .rw [iw (λ z=>e (iK.mp (Sum.inr.inj z))),decide_eq_false e,ih]
theorem Aq (l:Nm):∀m:List (Nm×Int),gT (gz m) (.inr (tx l))=(m.find? λ x=>decide (x.1=l)).map λ x=>V.int x.2
 | []=>rfl
 | x::r=>by
  have ih:=Aq l r;unfold gz at ih⊢;rw [aD,bJ];by_cases e:x.1=l
  .rw [iu (by rw [e]),decide_eq_true e];rfl
  .rw [iw (λ z=>e (iK.mp (Sum.inr.inj z))),decide_eq_false e,ih]
theorem nB (n:Int):∀fL:List (Int×Addr×ni),gT (fR fL) (.inl n)=(fL.find? λ x=>decide (x.1=n)).map λ x=>V.ref x.2.1
 | []=>rfl
 | x::r=>by
  have ih:=nB n r;unfold fR at ih⊢;rw [aD,bJ];by_cases e:x.1=n
  .rw [iu (by rw [e]),decide_eq_true e];rfl
  .rw [iw (λ z=>e (Sum.inl.inj z)),decide_eq_false e,ih]
theorem find_none {α β:Type} [DecidableEq β] {f:α->β} {b:β} {l:List α}:l.find? (λ x=>decide (f x=b))=none↔b∉l.map f:=by
 rw [List.find?_eq_none];constructor
 .intro h m;obtain⟨x,hx,e⟩:=aE.mp m;exact h x hx (decide_eq_true e)
 .intro h x hx e;exact h (aE.mpr ⟨x,hx,of_decide_eq_true e⟩)
theorem find_some {α β:Type} [DecidableEq β] {f:α->β} {b:β} {l:List α} (h:b∈l.map f):∃x,l.find? (λ x=>decide (f x=b))=some x/\x∈l/\f x=b:=by
 cases q:l.find? (λ x=>decide (f x=b)) with
 | none=>exact absurd h (find_none.mp q)
 | some x=>exact⟨x,rfl,List.mem_of_find?_eq_some q,by have z:=List.find?_some q;simpa using z⟩
theorem pO {l:Nm} {vals:List (Nm×Addr×List (Nm×Int))}:(gT (j2 vals) (.inr (tx l))).isSome=decide (l∈vals.map (·.1)):=by
 rw [uQ];by_cases h:l∈vals.map (·.1)
 .obtain⟨x,e,_,_⟩:=find_some h;rw [e,decide_eq_true h];rfl
 .rw [find_none.mpr h,decide_eq_false h];rfl
theorem kC {n:Int} {fL:List (Int×Addr×ni)}:(gT (fR fL) (.inl n)).isSome=decide (n∈fL.map (·.1)):=by
 rw [nB];by_cases h:n∈fL.map (·.1)
 .obtain⟨x,e,_,_⟩:=find_some h;rw [e,decide_eq_true h];rfl
 .rw [find_none.mpr h,decide_eq_false h];rfl
theorem kK {l:Nm} {m:List (Nm×Int)}:(gT (gz m) (.inr (tx l))).isSome=decide (l∈m.map (·.1)):=by
 rw [Aq];by_cases h:l∈m.map (·.1)
 .obtain⟨x,e,_,_⟩:=find_some h;rw [e,decide_eq_true h];rfl
 .rw [find_none.mpr h,decide_eq_false h];rfl
theorem sV (n:Int) (fL:List (Int×Addr×ni)):um (fR fL) (.inl n)=fR (fL.filter λ x=>decide (x.1≠n)):=by
 unfold um fR;rw [eT]
 congr 1
 apply List.filter_congr;intro x _;simp only [Function.comp];rw [decide_eq_decide];exact not_congr ⟨λ z=>Sum.inl.inj z,λ z=>by rw [z]⟩
theorem gy.SQ (w:gy C H p W):W.dv≠W.dt:=λ z=>by
 have:=(aY.mp w.nd).1;exact this (by rw [z];exact aZ)
theorem gy.à (w:gy C H p W):W.dv≠p:=gN w.val w.obj (by intro z;cases z)
theorem gy.Xq (w:gy C H p W):W.dt≠p:=gN w.fX w.obj (by intro z;cases z)
theorem gy.dvx (w:gy C H p W) (h:x∈W.vals):x.2.1≠W.dv:=λ z=>by
 have:=(aY.mp w.nd).1;exact this (az _ (by rw [<-z];exact aE.mpr ⟨x,h,rfl⟩))
theorem gy.œ (w:gy C H p W) (h:x∈W.vals):x.2.1≠W.dt:=λ z=>by
 have:=(aY.mp (aY.mp w.nd).2).1;exact this (by rw [<-z];exact aE.mpr ⟨x,h,rfl⟩)
theorem gy.keep (w:gy C H p W) (h:∀b o,b∈W.own p->H b=some o->H' b=some o) (ht:∀b xs,H b=some (.tup xs)->H' b=some (.tup xs)):gy C H' p W:=by
 refine⟨h _ _ (by simp [WS.own]) w.obj,h _ _ (by simp [WS.own]) w.val,h _ _ (by simp [WS.own]) w.fX,λ x hx=>h _ _ ?_ (w.each x hx),λ x hx=>ht _ _ (w.i5 x hx),w.nd,w.names,w.nums,w.iD,w.SD⟩;simp only [WS.own,aA,aE];exact .inr (.inr (.inr ⟨x,hx,rfl⟩))
theorem gy.same (w:gy C H p W) (s:fh H H'):gy C H' p W:=w.keep (λ b o _ e=>s b o e) λ b xs e=>s b _ e
theorem gy.LO (w:gy C H p W) (h:b∈W.own p):∃o,H b=some o/\∀xs,o≠.tup xs:=by
 simp only [WS.own,aA,aE] at h;rcases h with rfl|rfl|rfl | ⟨x,hx,rfl⟩
 .exact⟨_,w.obj,λ _ z=>nomatch z⟩
 .exact⟨_,w.val,λ _ z=>nomatch z⟩
 .exact⟨_,w.fX,λ _ z=>nomatch z⟩
 .exact⟨_,w.each x hx,λ _ z=>nomatch z⟩
theorem gy.added {C:Addr} {H:Hp} {p d:Addr} {W:WS} {l:Nm} (w:gy C H p W) (hd:H d=none) (hl:l∉W.vals.map (·.1)) (hf:W.vals.length<100) :
  gy C (upd (upd H d (.dK [])) W.dv (.dK (putK (j2 W.vals) (.inr (tx l)) (.ref d)))) p {W with vals:=W.vals ++ [(l,d,[])]}/\
  Step H (W.own p) (upd (upd H d (.dK [])) W.dv (.dK (putK (j2 W.vals) (.inr (tx l)) (.ref d)))) (WS.own {W with vals:=W.vals ++ [(l,d,[])]} p):=by
 have hp:p≠d:=fq w.obj hd;have Ĕ:W.dv≠d:=fq w.val hd;have hdt:W.dt≠d:=fq w.fX hd
 have SK:putK (j2 W.vals) (.inr (tx l)) (.ref d)=j2 (W.vals ++ [(l,d,[])]):=by
  rw [lW]
  .unfold j2;rw [av];rfl
  .rw [uQ,find_none.mpr hl];rfl
 rw [SK]
 have zN:∀b o,b≠W.dv->H b=some o->upd (upd H d (.dK [])) W.dv (.dK (j2 (W.vals ++ [(l,d,[])]))) b=some o:=λ b o hb e=>by
  rwa [e_ hb,e_ (fq e hd)]
 refine⟨⟨zN _ _ w.à.symm w.obj,eX,zN _ _ w.SQ.symm w.fX,λ x hx=> ?_,λ x hx=>zN _ _ (gN (w.i5 x hx) w.val (by intro z;cases z)) (w.i5 x hx),?_,?_,w.nums,by simp only [aq,aF,aV];lia,w.SD⟩,⟨λ b o hb e=>zN b o (λ z=>hb (by simp [WS.own,z])) e,λ b hb=> ?_,λ b xs e=>zN b _ (gN e w.val (by intro z;cases z)) e⟩⟩
 .rcases ax.mp hx with h|h
  .exact zN _ _ (w.dvx h) (w.each x h)
  .rw [ao.mp h];show upd (upd H d (.dK [])) W.dv _ d=_;rw [e_ Ĕ.symm,eX];rfl
 .have YJ:d∉W.dv::W.dt::W.vals.map (·.2.1):=by
   intro h;simp only [aA,aE] at h;rcases h with h|h | ⟨x,hx,h⟩
   .exact Ĕ h.symm
   .exact hdt h.symm
   .exact fq (w.each x hx) hd h
  show (W.dv::W.dt::(W.vals ++ [(l,d,[])]).map (λ x:Nm×Addr×List (Nm×Int)=>x.2.1)).Nodup;rw [av];have:=xA w.nd YJ;exact this
 .show ((W.vals ++ [(l,d,[])]).map (λ x:Nm×Addr×List (Nm×Int)=>x.1)).Nodup;rw [av];exact xA w.names hl
 .simp only [WS.own,av,aA,ax,aD,bu,bb,or_false] at hb⊢;rcases hb with h|h|h|h|h
  .exact .inl (.inl h)
  .exact .inl (.inr (.inl h))
  .exact .inl (.inr (.inr (.inl h)))
  .exact .inl (.inr (.inr (.inr h)))
  .exact .inr (by rwa [h])
end L2
namespace L2
open PySem PySem.Spec PyProof.Rows
section
variable {X:Cx} {a b e o i:Expr} {ta tb td ty:TE} {pos:Pos} {f:Str} {r:R2}
theorem Om (he:PE X e ta) (hb:attributeBase e f X.env (eval e X.env)=eval e X.env:=by rfl):PE X (.Attribute e f pos) (KY X.K ta f):=Rj he hb
theorem Rg (hr:Qp X r) (ha:PE X a ta) (hb:PE X b tb) (hs:C2 b:=by exact λ _ _=>rfl):PE X (.Subscript a b pos) (KS r ta tb):=Ux hr ha hb hs
theorem LJ (hu:X.A.units+1<cLine) (ho:PE X o td) (hi:PE X i ty) (hs:Pr i:=by exact λ _ _=>rfl):PE X (.Subscript o i pos) (Dq td ty):=Oo hu ho hi hs
end
section
variable {X:Cx} {e:Expr} {ta:TE} {pos:Pos} {f:Str}
theorem iF (K:aj) (h:X.K=K:=by rfl):Qp X (Ll K):=h▸fJ
theorem xE (K:aj) (h:X.K=K:=by rfl):Qp X (Fu K):=h▸fk
end
theorem H_ {α β:Type} [DecidableEq β] {f:α->β} {x:α}:∀{l:List α},(l.map f).Nodup->x∈l->l.find? (λ y=>decide (f y=f x))=some x
 | [],_,h=>nomatch h
 | a::r,nd,h=>by
  rw [bJ];rcases aA.mp h with e|h'
  .subst e;rw [decide_eq_true rfl]
  .have ë:=aY.mp nd;rw [decide_eq_false (λ z=>ë.1 (by rw [z];exact aE.mpr ⟨x,h',rfl⟩))];exact H_ ë.2 h'
theorem OV {H:Hp} {d:Addr} {fL:List (Int×Addr×ni)} {x:Int×Addr×ni} (hd:Rd H d (.dK (fR fL))) (nd:(fL.map (·.1)).Nodup) (h:x∈fL):lB H d (.int x.1) (some (.ref x.2.1)):=by
 refine .inl ⟨_,.inl x.1,hd,rfl,?_⟩;rw [nB,H_ nd h];rfl
end L2
namespace L2
open PySem
def uc (n:Int):Nat:=97+(n%26).toNat
theorem L' (n:Int):EE[(n%26).toNat]? = some (uc n):=by
 unfold uc;have h1:(n%26).toNat<26:=by lia
 generalize (n%26).toNat=k at h1;have all:∀k<26,EE[k]? = some (97+k):=by decide
 exact all k h1
theorem Ma (h:uc n=uc m):n%26=m%26:=by
 unfold uc at h;lia
structure zF (H0 H:Hp) (F:List Addr):Prop where
 same:fh H0 H
 new:∀b∈F,H0 b=none
theorem zF.step (m:zF H0 H F) (s:Step H F1 H' F2) (h:∀b∈F1,b∈F):zF H0 H' (F2++F):=by
 have back:∀b,H b=none->H0 b=none:=λ b z=>by
  cases q:H0 b with
  | none=>rfl
  | some o=>
   rw [m.same b o q] at z
   cases z
 refine⟨λ b o e=>s.off b o (λ z=> ?_) (m.same b o e),λ b hb=> ?_⟩
 .have:=m.new b (h b z);rw [e] at this
  cases this
 .rcases ax.mp hb with z|z
  .rcases s.own b z with y|y
   .exact m.new b (h b y)
   .exact back b y
  .exact m.new b z
theorem zF.mono (m:zF H0 H F) (h:∀b∈F',b∈F):zF H0 H F':=⟨m.same,λ b hb=>m.new b (h b hb)⟩
theorem zF.fresh (m:zF H0 H F) (h:H b=none):H0 b=none:=m.same.free h
end L2
namespace L2
open PySem PySem.Spec PyProof.Rows
def lD:List Expr->Option (List Str)
 | []=>some []
 | .Constant (.str x) _ _::r=>(lD r).map (x :: ·)
 | _=>none
def Hf (vs:List V):TE:=λ _ H Q=>vs.length<=sizeLine/\∀p,H p=none->Q (.ref p) (upd H p (.lst vs))
theorem HA:∀{es:List Expr} {xs:List Str},lD es=some xs->PA X es (λ _ H Q=>Q (xs.map V.str) H)
 | [],xs,h=>by
  cases h;exact Fz
 | e::r,xs,h=>by
  cases e with
  | Constant c j pos=>
   cases c with
   | str x=>
    unfold lD at h
    cases q:lD r with
    | none=>rw [q] at h;cases h
    | some ys=>
     rw [q] at h
     cases h;exact B3 (X:=X) Lw (HA q) rfl
   | _=>cases h
  | _=>cases h
theorem Oj (h:lD es=some xs:=by rfl):PE X (.List es pos) (Hf (xs.map V.str)):=λ pins s σ H Q I hq=>LA (HA h) pins s σ H Q I hq
theorem eY (h:∀N:St->Hp->Prop,(∀fT H',u D fT H'->N fT H')->t {D with nx:=N} σ H):KR t u D σ H:=h _ λ _ _ z=>z
theorem QI {K:aj} {H:Hp} {a:Addr} {ns:List Nm} {l:Nm} {neg:Bool} {Q:VK} (ha:fZ K H a (ns.map λ z=>V.str (tx z))) (q:Q (.bl (if neg then !decide (l∈ns) else decide (l∈ns))) H):Up K neg (.str (tx l)) (.ref a) H Q:=by
 refine⟨a,_,rfl,.inl ha,rfl,?_,?_⟩
 .rw [cS];intro v hv;obtain⟨b,_,rfl⟩:=aE.mp hv;rfl
 .have e:RW (.str (tx l)) (ns.map λ z=>V.str (tx z))=decide (l∈ns):=by
   unfold RW;rw [cA,cv,decide_eq_true_eq];constructor
   .rintro⟨v,hv,e⟩;obtain⟨b,hb,rfl⟩:=aE.mp hv;have:tx b=tx l:=by simpa [xK] using e
    rwa [<-iK.mp this]
   .intro h;exact⟨_,aE.mpr ⟨l,h,rfl⟩,by simp [xK]⟩
  rwa [e]
structure Bx (p:Prop):Prop where
 un:p
theorem fC:Bx (xl X [] Hd):=⟨N_⟩
theorem eZ {X:Cx} {st:Stmt} {t:TS} (h1:Bx (PS X st t)):Bx (xl X [st] t):=⟨N8 h1.un⟩
theorem c_ {X:Cx} {st:Stmt} {rest:List Stmt} {t u:TS} (h1:Bx (PS X st t)) (h2:Bx (xl X rest u)):Bx (xl X (st::rest) (KR t u)):=⟨Ln h1.un h2.un⟩
theorem fu (i:Nat) (hN:List.Nodup (Cx.N X)) (he:Bx (PE X e te)) (hs:swapsWith e (some (Expr.Name x pos')) (Pos.line pos) (Cx.env X)=pure false:=by rfl) (hf:Cx.fn X x=true\/List.lookup x (Scope.names (Env.scope (Cx.env X)))=some NameKind.local:=by first|exact .inl rfl|exact .inr rfl|assumption) (hi:(Cx.N X)[i]? = some x:=by rfl) (hx:L2.Loc (Env.scope (Cx.env X)) x:=by walk_at "o"):Bx (PS X (Stmt.Assign [Expr.Name x pos'] e pos) (zS te (pj i))):=⟨QT hN hi hx he.un hs hf⟩
theorem jC (hN:List.Nodup (Cx.N X)) (JP:(Cx.N X)[i]? = some y) (hy:L2.Loc (Env.scope (Cx.env X)) y) (hc:Cx.calm X=true) (S:tG scope (Env.scope (Cx.env X)) x N (Cx.N X) fr) (hi:Bx (PI X (Expr.Name x px) iter wi)) (ht:∀(cl:List (Str×Addr)) (C:Addr) (jj:Shared) (kZ:Hp) (ex:List Addr),Bx (IB (Cx.De X scope cl C N jj kZ ex) ifs tt)) (he:∀(cl:List (Str×Addr)) (C:Addr) (jj:Shared) (kZ:Hp) (ex:List Addr),Bx (PE (Cx.De X scope cl C N jj kZ ex) elt te)) (R1:swapsWith (Expr.ListComp elt [{target:=Expr.Name x px,iter:=iter,ifs:=ifs,is_async:=(0:Int)}] scope pos) (some (Expr.Name y py)) (Pos.line Ff) (Cx.env X)=pure true:=by rfl) (hs:∀(v:Value),foldedSetIterable iter (Cx.env X) v=pure v:=by intro _;rfl) (hf:Cx.fn X y=true\/List.lookup y (Scope.names (Env.scope (Cx.env X)))=some NameKind.local:=by first|exact .inl rfl|exact .inr rfl|assumption):Bx (PS X (Stmt.Assign [Expr.Name y py] (Expr.ListComp elt [{target:=Expr.Name x px,iter:=iter,ifs:=ifs,is_async:=(0:Int)}] scope pos) Ff) (zS (tK wi fr tt te) (pj i))):=⟨N' hN JP hy hc S hi.un (λ y0 y1 y2 y3 y4=>(ht y0 y1 y2 y3 y4).un) (λ y0 y1 y2 y3 y4=>(he y0 y1 y2 y3 y4).un) R1 hs hf⟩
theorem nY (hu:Around.units (Cx.A X)+(1:Nat)<cLine) (ho:Bx (PE X o td)) (hi:Bx (PE X i ty)) (hv:Bx (PE X value tv)) (hs:swapsWith value (some (Expr.Subscript o i pos')) (Pos.line pos) (Cx.env X)=pure false:=by rfl):Bx (PS X (Stmt.Assign [Expr.Subscript o i pos'] value pos) (Ho td ty tv)):=⟨Oc hu ho.un hi.un hv.un hs⟩
theorem oQ (he:Bx (PE X e te)) (hg:Bx (PG X tg g)) (hs:swapsWithSole [tg] e (Pos.line pos) (Cx.env X)=pure false:=by rfl) (hw:swappedStores [tg] e (Cx.env X)=pure none:=by rfl) (h1:List.map (λ (x:Bool×(Value->Sem Unit))=>Prod.snd x) (assignEach [tg] (Cx.env X)) = [assign tg (Cx.env X)]:=by rfl):Bx (PS X (Stmt.Assign [tg] e pos) (zS te g)):=⟨QW he.un hg.un hs hw h1⟩
theorem uA (ha:Bx (PE X o ta)) (hv:Bx (PE X value tv)) (hs:swapsWith value (some (Expr.Attribute o f pos')) (Pos.line pos) (Cx.env X)=pure false:=by rfl):Bx (PS X (Stmt.Assign [Expr.Attribute o f pos'] value pos) (NY (Cx.K X) ta tv f)):=⟨QV ha.un hv.un hs⟩
theorem fM (hc:Bx (PT X c tc)) (ha:Bx (xl X a t)) (hb:Bx (xl X b u)):Bx (PS X (Stmt.If c a b pos) (IV tc t u)):=⟨Uq hc.un ha.un hb.un⟩
theorem fA (he:Bx (PE X e te)):Bx (PS X (Stmt.Return (some e) pos) (NK te)):=⟨QU he.un⟩
theorem kr (T:zC (Cx.K X) (Cx.mg X) x C) (hR:Raises X E) (hc:Cx.calm X=true) (he:Bx (PE X O7 te)) (hg:Gl X x:=by rfl) (hd:(x==Str.ofString "__debug__")=false:=by decide) (hs:starEach [O7] (Cx.env X) = [(false,eval O7 (Cx.env X))]:=by rfl):Bx (PS X (Stmt.Raise (some (Expr.Call (Expr.Name x np) [O7] [] gM)) none pos) (BJ E C te)):=⟨Lq T hR hc he.un hg hd hs⟩
theorem gL (hp:PassesOwn (model (Cx.prog X) (Cx.w X)) (Cx.A X) (Cx.env X) (Cx.xe X)) (hc:Cx.calm X=true) (hi:Bx (PI X tg iter wi)) (hg:Bx (PG X tg g)) (hb:Bx (xl X body tb)) (hs:∀(x:Value),foldedSetIterable iter (Cx.env X) x=pure x:=by intro _;rfl):Bx (PS X (Stmt.For tg iter body [] pos) (Qx wi g tb)):=⟨Ls hp hc hi.un hg.un hb.un hs⟩
theorem MW (hp:PassesOwn (model (Cx.prog X) (Cx.w X)) (Cx.A X) (Cx.env X) (Cx.xe X)) (hc:Cx.calm X=true) (hi:Bx (PE X iter te)) (hg:Bx (PG X (Expr.Name y py) g)) (hb:Bx (xl X body tb)) (hs:∀(x:Value),foldedSetIterable iter (Cx.env X) x=pure x:=by intro _;rfl):Bx (PS X (Stmt.For (Expr.Name y py) iter body [] pos) (KW X te g tb)):=⟨Oa hp hc hi.un hg.un hb.un hs⟩
theorem fQ (he:Bx (PE X e te)) (hs:swapsWith e none (Pos.line pos) (Cx.env X)=pure false:=by rfl):Bx (PS X (Stmt.Expr e pos) (Hg te)):=⟨Ob he.un hs⟩
theorem J' {X:Cx} {st:Stmt}:Bx (PS X st BK):=⟨Lr⟩
theorem gI (hg:Gl X (Str.ofString "range")) (hm:Cx.mg X (Str.ofString "range")=none) (ha:Bx (PA X [a] ta)) (hs:starEach [a] (Cx.env X) = [(false,eval a (Cx.env X))]:=by rfl):Bx (PI X tg (Expr.Call (Expr.Name (Str.ofString "range") p) [a] [] pos) (P6 ta)):=⟨Jl hg hm ha.un hs⟩
theorem GQ (hg:Gl X (Str.ofString "range")) (hm:Cx.mg X (Str.ofString "range")=none) (ha:Bx (PA X [a,b] ta)) (hs:starEach [a,b] (Cx.env X) = [(false,eval a (Cx.env X)),(false,eval b (Cx.env X))]:=by rfl) (HS:starEach [b] (Cx.env X) = [(false,eval b (Cx.env X))]:=by rfl):Bx (PI X tg (Expr.Call (Expr.Name (Str.ofString "range") p) [a,b] [] pos) (P5 ta)):=⟨Jk hg hm ha.un hs HS⟩
theorem Pf (h:Bx (PE X e te)):Bx (PI X (Expr.Name y py) e (RX te)):=⟨QZ h.un⟩
theorem gi (hl:Bx (PE X l tl)):Bx (PI X tg l (Mj (Cx.K X) tl)):=⟨Hw hl.un⟩
theorem Pe (hl:Bx (PE X l tl)):Bx (PI X tg l (UX (Cx.K X) tl)):=⟨QY hl.un⟩
theorem gb (i:Nat) (hN:List.Nodup (Cx.N X)) (hf:Cx.fn X x=true\/List.lookup x (Scope.names (Env.scope (Cx.env X)))=some NameKind.local:=by first|exact .inl rfl|exact .inr rfl|assumption) (hi:(Cx.N X)[i]? = some x:=by rfl) (hx:L2.Loc (Env.scope (Cx.env X)) x:=by walk_at "o"):Bx (PG X (Expr.Name x pos) (pj i)):=⟨Oi hN hi hx hf⟩
theorem qW (ho:Bx (PE X o to)) (hi:Bx (PE X i ti)) (hs:S9 X t)
  (ha:∀v,assign (.Subscript o i pos) X.env v=(do
   let ov <-holding [v] (eval o X.env)
   let iv <-holding [v,ov] (eval i X.env)
   standAt pos
   holding [v,ov,iv] (setItem ov iv v)
   release [v,ov,iv] []):=by intro _;rfl):Bx (PG X (.Subscript o i pos) (O0 to ti t)):=⟨Q4 ho.un hi.un hs ha⟩
theorem iS (hc:Cx.calm X=true) (S:tG scope (Env.scope (Cx.env X)) x N (Cx.N X) fr) (hi:Bx (PI X (Expr.Name x px) iter wi)) (ht:∀(cl:List (Str×Addr)) (C:Addr) (jj:Shared) (kZ:Hp) (ex:List Addr),Bx (IB (Cx.De X scope cl C N jj kZ ex) ifs tt)) (he:∀(cl:List (Str×Addr)) (C:Addr) (jj:Shared) (kZ:Hp) (ex:List Addr),Bx (PE (Cx.De X scope cl C N jj kZ ex) elt te)) (hs:∀(v:Value),foldedSetIterable iter (Cx.env X) v=pure v:=by intro _;rfl):Bx (PE X (Expr.ListComp elt [{target:=Expr.Name x px,iter:=iter,ifs:=ifs,is_async:=(0:Int)}] scope pos) (tK wi fr tt te)):=⟨Oq hc S hi.un (λ y0 y1 y2 y3 y4=>(ht y0 y1 y2 y3 y4).un) (λ y0 y1 y2 y3 y4=>(he y0 y1 y2 y3 y4).un) hs⟩
theorem gu:Bx (IB X [] BH):=⟨N6⟩
theorem zm (h:Bx (PT X c t)):Bx (IB X [c] t):=⟨N5 h.un⟩
theorem d_:Bx (PA X [] zR):=⟨Fz⟩
theorem a_ (ha:Bx (PE X e te)) (hr:Bx (PA X es t)) (hs:starEach (e::es) (Cx.env X)=(false,eval e (Cx.env X))::starEach es (Cx.env X):=by rfl):Bx (PA X (e::es) (Dr te t)):=⟨B3 ha.un hr.un hs⟩
theorem fB (ho:tI X (compareOp op) r) (ha:Bx (PE X a ta)) (hb:Bx (PE X b tb)) (hm:behindInMarks op b=false):Bx (PT X (Expr.Compare a [op] [b] pos) (G' (KS r ta tb))):=⟨N7 ho ha.un hb.un hm⟩
theorem nX (ha:Bx (PT X a tA)):Bx (PW X (Expr.BoolOp BoolOp.And [a] pos) tA):=⟨pw_and1 ha.un⟩
theorem qU {X:Cx} {a b:Expr} {pos:Pos} {tA Nb:TT} {rest:List Expr} (ha:Bx (PT X a tA)) (hb:Bx (PW X (Expr.BoolOp BoolOp.And (b::rest) pos) Nb)):Bx (PW X (Expr.BoolOp BoolOp.And (a::b::rest) pos) (NQ tA Nb)):=⟨pw_and ha.un hb.un⟩
theorem mI (ha:Bx (PT X a tA)):Bx (PW X (Expr.BoolOp BoolOp.Or [a] pos) tA):=⟨pw_or1 ha.un⟩
theorem kU {X:Cx} {a b:Expr} {pos:Pos} {tA Nb:TT} {rest:List Expr} (ha:Bx (PT X a tA)) (hb:Bx (PW X (Expr.BoolOp BoolOp.Or (b::rest) pos) Nb)):Bx (PW X (Expr.BoolOp BoolOp.Or (a::b::rest) pos) (VZ tA Nb)):=⟨pw_or ha.un hb.un⟩
theorem jw (ha:Bx (PT X a tA)):Bx (PT X (Expr.UnaryOp UnaryOp.Not a pos) (NM tA)):=⟨QR ha.un⟩
theorem hZ (h:Bx (PE X e t)) (he:∀whole,isTrue e X.env whole=(do let v <-whole;standAt e.pos;holding [v] (truthy v)):=by intro _;rfl):Bx (PT X e (tB t)):=⟨QQ h.un he⟩
theorem J9 (ha:Bx (PE X a ta)) (he:∀whole,isTrue a X.env whole=(do let v <-whole;standAt a.pos;holding [v] (truthy v)):=by intro _;rfl):Bx (PT X a (λ σ H Q=>ta σ H λ x H'=>∃k,S7 X.K x H' k/\Q k H')):=⟨Lm ha.un he⟩
theorem qV (h:Bx (PC X op a b t)) (h1:behindInMarks op b=false:=by first|exact yy _ (by decide) (by decide)|rfl):Bx (PT X (Expr.Compare a [op] [b] pos) (tB t)):=⟨QS h.un h1⟩
theorem CU (hu:Around.units (Cx.A X)+(1:Nat)<cLine) (hi:Bx (PE X i ty)) (ho:Bx (PE X o td)):Bx (PC X CmpOp.In i o (NO ty td)):=⟨Rn hu hi.un ho.un⟩
theorem oR (hu:Around.units (Cx.A X)+(1:Nat)<cLine) (hi:Bx (PE X i ty)) (ho:Bx (PE X o td)):Bx (PC X CmpOp.NotIn i o (xv ty td)):=⟨Jn hu hi.un ho.un⟩
theorem Pg (h:Bx (PC X op a b t)) (h1:behindInMarks op b=false:=by first|exact yy _ (by decide) (by decide)|rfl):Bx (PE X (Expr.Compare a [op] [b] pos) t):=⟨Rk h.un h1⟩
theorem iT (ho:tI X (compareOp op) r) (ha:Bx (PE X a ta)) (hb:Bx (PE X b tb)) (hm:behindInMarks op b=false):Bx (PE X (Expr.Compare a [op] [b] pos) (KS r ta tb)):=⟨Ot ho ha.un hb.un hm⟩
theorem fb (i:Nat) (hN:(Cx.N X)[i]? = some x:=by rfl) (hv:WQ (Env.scope (Cx.env X)) x:=by first|exact Or.inl rfl|exact Or.inr (Or.inl rfl)|exact Or.inr (Or.inr rfl)) (hd:(x==Str.ofString "__debug__")=false:=by decide) (Gx:(x==Str.ofString "__classdict__")=false:=by decide):Bx (PE X (Expr.Name x pos) (IU i)):=⟨pv i hN hv hd Gx⟩
theorem jx (h:∃(u:Value),Cx.mg X x=some u/\L2.RelV v u) (hg:Gl X x:=by rfl) (hd:(x==Str.ofString "__debug__")=false:=by decide):Bx (PE X (Expr.Name x pos) (tC v)):=⟨LL h hg hd⟩
theorem sZ (hm:Cx.mg X x=none) (hv:bootBuiltins x=some (Value.type T)) (hg:Gl X x:=by rfl) (hn:x≠Str.ofString "__name__" := by decide) (hd:(x==Str.ofString "__debug__")=false:=by decide):Bx (PE X (Expr.Name x pos) (tC (V.ty T))):=⟨Ut hm hv hg hn hd⟩
theorem uB:Bx (PE X (Expr.Constant Const.none j pos) (tC V.jv)):=⟨Ra⟩
theorem jc:Bx (PE X (Expr.Constant (Const.bool b) j pos) (tC (V.bl b))):=⟨Uy⟩
theorem b_:Bx (PE X (Expr.Constant (Const.int i) j pos) (tC (V.int i))):=⟨Rh⟩
theorem fP:Bx (PE X (Expr.Constant (Const.str x) j pos) (tC (V.str x))):=⟨Lw⟩
theorem fo (ho:tI X (binaryOp op) r) (ha:Bx (PE X a ta)) (hb:Bx (PE X b tb)):Bx (PE X (Expr.BinOp a op b pos) (KS r ta tb)):=⟨Uv ho ha.un hb.un⟩
theorem CQ (ho:WR X (unaryOp op) r) (ha:Bx (PE X a ta)):Bx (PE X (Expr.UnaryOp op a pos) (VX r ta)):=⟨Us ho ha.un⟩
theorem CS (ha:Bx (PE X a ta)):Bx (PE X (Expr.UnaryOp UnaryOp.Not a pos) (Hc ta)):=⟨Q_ ha.un⟩
theorem MY (ha:Bx (PE X a ta)) (hb:Bx (PE X b tb)) (hc:Bx (PE X c (tC (V.int k)))) (hm:lastMarks [CmpOp.LtE,CmpOp.LtE] [b,c]=false:=by with_unfolding_all rfl):Bx (PE X (Expr.Compare a [CmpOp.LtE,CmpOp.LtE] [b,c] pos) (Hh ta tb k)):=⟨Ow ha.un hb.un hc.un hm⟩
theorem mJ (h:Bx (PE X a t)):Bx (PE X (Expr.BoolOp op [a] pos) t):=⟨Q9 h.un⟩
theorem uD {X:Cx} {a b:Expr} {ta tb:TE} {pos:Pos} {rest:List Expr} (ha:Bx (PE X a ta)) (hb:Bx (PE X (Expr.BoolOp BoolOp.And (b::rest) pos) tb)):Bx (PE X (Expr.BoolOp BoolOp.And (a::b::rest) pos) (Hi ta tb)):=⟨Rm ha.un hb.un⟩
theorem GR {X:Cx} {a b:Expr} {ta tb:TE} {pos:Pos} {rest:List Expr} (ha:Bx (PE X a ta)) (hb:Bx (PE X (Expr.BoolOp BoolOp.Or (b::rest) pos) tb)):Bx (PE X (Expr.BoolOp BoolOp.Or (a::b::rest) pos) (NL ta tb)):=⟨Uu ha.un hb.un⟩
theorem qX (hc:Bx (PT X c tA)) (ha:Bx (PE X a ta)) (hb:Bx (PE X b tb)):Bx (PE X (Expr.IfExp c a b pos) (V0 tA ta tb)):=⟨LD hc.un ha.un hb.un⟩
theorem i9 {X:Cx} {e:Expr} {te:TE} {lo hi:Option Expr} {tl th:TO} {pos p2:Pos} {r:V->Option Int->Option Int->Hp->VK->Prop} (hr:VN X r) (he:Bx (PE X e te)) (hl:Bx (PO X lo tl)) (hu:Bx (PO X hi th)):Bx (PE X (Expr.Subscript e (Expr.Slice lo hi none p2) pos) (VY r te tl th)):=⟨Lx hr he.un hl.un hu.un⟩
theorem jE:Bx (PO X none xu):=⟨Oe⟩
theorem jD (h:Bx (PE X e te)):Bx (PO X (some e) (Ha te)):=⟨Od h.un⟩
theorem eW (hr:Qp X r) (ha:Bx (PE X a ta)) (hb:Bx (PE X b tb)) (hs:C2 b:=by exact λ _ _=>rfl):Bx (PE X (Expr.Subscript a b pos) (KS r ta tb)):=⟨Rg hr ha.un hb.un hs⟩
theorem qY (hu:Around.units (Cx.A X)+(1:Nat)<cLine) (ho:Bx (PE X o td)) (hi:Bx (PE X i ty)) (hs:Pr i:=by exact λ _ _=>rfl):Bx (PE X (Expr.Subscript o i pos) (Dq td ty)):=⟨LJ hu ho.un hi.un hs⟩
theorem gh (h:Bx (PA X es t)):Bx (PE X (Expr.List es pos) (NN t)):=⟨LA h.un⟩
theorem zt (h:lD es=some xs:=by rfl):Bx (PE X (Expr.List es pos) (Hf (List.map V.str xs))):=⟨Oj h⟩
theorem gj (h:Bx (PA X es t)):Bx (PE X (Expr.Tuple es x1 pos) (NJ t)):=⟨Q8 h.un⟩
theorem jP:Bx (PE X (Expr.Dict [] [] pos) BP):=⟨LH⟩
theorem hU (he:Bx (PE X e ta)) (hb:attributeBase e f (Cx.env X) (eval e (Cx.env X))=eval e (Cx.env X):=by rfl):Bx (PE X (Expr.Attribute e f pos) (KY (Cx.K X) ta f)):=⟨Om he.un hb⟩
theorem fF {X:Cx} {P:Program} {w:World} {k:Nat} {f:Addr} {fd:FuncData} {ps:List Str} {sp:Sp} {E:XK} {x:Str} {st:Stmt} {p pos:Pos} {e:Expr} {es:List Expr} {t:TA} (D:gE (Cx.K X) (Cx.mg X) x st ps f fd) (F:f_ (Cx.prog X) (Cx.w X) (Cx.K X) (Cx.mg X) (Cx.base X) (ir P w) k f fd ps sp) (hr:jd k (Cx.A X)) (hx:Passes (ir P w) X E) (ha:Bx (PA X (e::es) t)) (hg:Gl X x:=by rfl) (Em:(x==Str.ofString "__debug__")=false:=by decide) (he:starEach (e::es) (Cx.env X)=(false,eval e (Cx.env X))::starEach es (Cx.env X):=by rfl) (xG:(List.any (backTo pos (starEach es (Cx.env X))) λ (x:Bool×Sem Value)=>Prod.fst x)=false:=by rfl):Bx (PE X (Expr.Call (Expr.Name x p) (e::es) [] pos) (Ds sp [] E t)):=⟨Ri D F hr hx ha.un hg Em he xG⟩
theorem Bf (M:Mk (Cx.K X) C f) (F:f_ (Cx.prog X) (Cx.w X) (Cx.K X) (Cx.mg X) (Cx.base X) CX k f fd ps sp) (hr:jd (k+(1:Nat)) (Cx.A X)) (hg:Gl X x) (hm:Cx.mg X x=some (Value.ref C)) (hb:L2.Binds (Cx.K X) fd ps ds) (hd:Vals uk ds) (hx:Passes CX X E) (Em:(x==Str.ofString "__debug__")=false:=by decide):Bx (PE X (Expr.Call (Expr.Name x p) [] [] pos) (He C sp uk E zR)):=⟨Lz M F hr hg hm hb hd hx Em⟩
theorem fD {X:Cx} {x:Str} {p pos:Pos} {e:Expr} {es:List Expr} {t:TA} {id:String} {r:List V->Hp->VK->Prop} (hc:kg X (Value.builtin id) r) (hg:Gl X x) (hm:Cx.mg X x=none) (hv:bootBuiltins x=some (Value.builtin id)) (ha:Bx (PA X (e::es) t)) (hn:x≠Str.ofString "__name__" := by decide) (Em:(x==Str.ofString "__debug__")=false:=by decide) (he:starEach (e::es) (Cx.env X)=(false,eval e (Cx.env X))::starEach es (Cx.env X):=by rfl) (xG:(List.any (backTo pos (starEach es (Cx.env X))) λ (x:Bool×Sem Value)=>Prod.fst x)=false:=by rfl):Bx (PE X (Expr.Call (Expr.Name x p) (e::es) [] pos) (Tt r t)):=⟨LN hc hg hm hv ha.un hn Em he xG⟩
theorem h_ (hc:kg X (Value.type T) r) (hg:Gl X x) (hm:Cx.mg X x=none) (hv:bootBuiltins x=some (Value.type T)) (ha:Bx (PA X (e::es) t)) (hn:x≠Str.ofString "__name__" := by decide) (Em:(x==Str.ofString "__debug__")=false:=by decide) (he:starEach (e::es) (Cx.env X)=(false,eval e (Cx.env X))::starEach es (Cx.env X):=by rfl) (xG:(List.any (backTo pos (starEach es (Cx.env X))) λ (x:Bool×Sem Value)=>Prod.fst x)=false:=by rfl):Bx (PE X (Expr.Call (Expr.Name x p) (e::es) [] pos) (Tt r t)):=⟨Jm hc hg hm hv ha.un hn Em he xG⟩
theorem uC {X:Cx} {o:Expr} {to:TE} {name:Str} {apos gM:Pos} {T id:String} {r:V->List V->Hp->VK->Prop} (pa:PlainAttrs T) (slot:Slot T name id) (OL:typeOf (Value.builtin id)=pure (Value.type "method_descriptor")) (hm:T7 X id r) (ho:Bx (PE X o to)) (nS:attributeBase o name (Cx.env X) (eval o (Cx.env X))=eval o (Cx.env X):=by rfl) (nR:(Pos.endLine apos==Pos.line gM)=true:=by rfl):Bx (PE X (Expr.Call (Expr.Attribute o name apos) [] [] gM) (NP (Cx.K X) T r to)):=⟨Rl pa slot OL hm ho.un nS nR⟩
theorem iy {X:Cx} {o e:Expr} {es:List Expr} {to:TE} {t:TA} {name:Str} {apos gM:Pos} {T id:String} {r:V->List V->Hp->VK->Prop} (pa:PlainAttrs T) (slot:Slot T name id) (OL:typeOf (.builtin id)=pure (.type "method_descriptor")) (hm:T7 X id r) (ho:Bx (PE X o to)) (ha:Bx (PA X (e::es) t))
  (nS:attributeBase o name X.env (eval o X.env)=eval o X.env:=by rfl)
  (Mq:((backTo gM (starEach (e::es) X.env)).all (λ x=> !x.1)&&(backToKw gM (keywordEach [] X.env)).all (λ x=>x.1.isSome)&&decide ((e::es).length+([]:List Keyword).length+(if ([]:List Keyword).isEmpty then 0 else 1)<30))=true:=by rfl)
  (nR:(apos.endLine==gM.line)=true:=by rfl) (hs:starEach (e::es) X.env=(false,eval e X.env)::starEach es X.env:=by rfl) (yP:(backTo gM (starEach es X.env)).any (·.1)=false:=by rfl) :
  Bx (PE X (.Call (.Attribute o name apos) (e::es) [] gM) (Ub X.K T r to t)):=⟨PJ pa slot OL hm ho.un ha.un nS Mq nR hs yP⟩
theorem vE (ho:Bx (PE X o td)) (he:Bx (PE X e ty)) (m:M1 X o (Str.ofString "pop") apos e gM:=by exact⟨rfl,rfl,rfl,rfl⟩):Bx (PE X (Expr.Call (Expr.Attribute o (Str.ofString "pop") apos) [e] [] gM) (BO td ty)):=⟨LG ho.un he.un m⟩
theorem iL {X:Cx} {P:Program} {w:World} {k:Nat} {f C:Addr} {fd:FuncData} {ps:List Str} {sp:Sp} {E:XK} {m qual:Str} {st:Stmt} {apos pos:Pos} {e o:Expr} {es:List Expr} {ta:TE} {t:TA} {pl:Sem Bool} (he:Bx (PE X o ta)) (c:Df X.K C) (D:iM X.K C m qual st ps f fd) (F:f_ X.prog X.w X.K X.mg X.base (ir P w) k f fd ps sp) (hr:jd k X.A) (hx:Passes (ir P w) X E) (ha:Bx (PA X (e::es) t))
  (pM:starEach (e::es) X.env=(false,eval e X.env)::starEach es X.env:=by rfl) (xG:(backTo pos (starEach es X.env)).any (·.1)=false:=by rfl)
  (ht:eval (.Call (.Attribute o m apos) (e::es) [] pos) X.env=(do
   let ov <-eval o X.env
   standAt apos.atName
   let (f,first) <-holding [ov] (getMethod ov m pl)
   callWith pos f first (backTo pos (starEach (e::es) X.env)) (backToKw pos (keywordEach [] X.env))):=by rfl) :
  Bx (PE X (.Call (.Attribute o m apos) (e::es) [] pos) (rD C m sp [] E ta t)):=⟨Uw he.un c D F hr hx ha.un pM xG ht⟩
theorem CT {X:Cx} {P:Program} {w:World} {k:Nat} {f C:Addr} {fd:FuncData} {ps:List Str} {sp:Sp} {E:XK} {m qual:Str} {st:Stmt} {apos pos:Pos} {o:Expr} {ta:TE} {pl:Sem Bool} (he:Bx (PE X o ta)) (c:Df X.K C) (D:iM X.K C m qual st ps f fd) (F:f_ X.prog X.w X.K X.mg X.base (ir P w) k f fd ps sp) (hr:jd k X.A) (hx:Passes (ir P w) X E)
  (ht:eval (.Call (.Attribute o m apos) [] [] pos) X.env=(do
   let ov <-eval o X.env
   standAt apos.atName
   let (f,first) <-holding [ov] (getMethod ov m pl)
   callWith pos f first (backTo pos (starEach [] X.env)) (backToKw pos (keywordEach [] X.env))):=by rfl) :
  Bx (PE X (.Call (.Attribute o m apos) [] [] pos) (rD C m sp [] E ta zR)):=⟨Rc he.un c D F hr hx ht⟩
theorem Bx.Io (h:Bx (PW X e t)):Bx (PT X e t):=⟨PW.pt h.un⟩
theorem ND {K:aj} {z:Str} {H:Hp}:Tq K "str" (.str z) H=True:=eq_true rfl
theorem gp {K:aj} {p:Addr} {H:Hp} {xs:List V} (h:fZ K H p xs):Tq K "list" (.ref p) H:=.inl ⟨rfl,xs,h⟩
theorem jn {A B:Prop} {c:Prop} [Decidable c] (hc:c) (h:A):if c then A else B:=by rwa [if_pos hc]
theorem gs {A B:Prop} {c:Prop} [Decidable c] (hc:¬c) (h:B):if c then A else B:=by rwa [if_neg hc]
theorem NA {C:Addr} {H H1:Hp} {p dx:Addr} {W:WS} (hp:H p=none) (Wu:H dx=none) (off:∀b o,b≠p->upd (upd H dx (.own p)) p (.ins C dx []) b=some o->H1 b=some o)
  (own:∀b∈W.own p,b=p\/upd (upd H dx (.own p)) p (.ins C dx []) b=none):zF H H1 (W.own p):=by
 refine⟨λ b o e=>off b o (fq e hp) ?_,λ b hb=> ?_⟩
 .rwa [e_ (fq e hp),e_ (fq e Wu)]
 .rcases own b hb with rfl|z
  .exact hp
  .by_cases h1:b=p
   .rwa [h1]
   .rw [e_ h1] at z;by_cases h2:b=dx
    .rwa [h2]
    .rw [e_ h2] at z;exact z
section
variable {prog:Program} {w:World} {A:Around} {E:Value->Shared->Prop} {s:Shared} {a₀:Array Keyed} {κ:PyProof.Rows.KeyKind}
end
section
variable {prog:Program} {w:World} {A:Around} {E:Value->Shared->Prop} {s:Shared}
theorem yd {a:Addr} {vs:List Value} {n:Nat} {R:Array Value->Prop} {P:PySem.Fin->Shared->Prop} (ho:s.heap.get? a=some (seqObj "list" vs.toArray n)) (hz:vs.length<=sizeLine) (hR:∀out,R out->out.size=vs.length)
  (short:vs.length<2->R vs.toArray)
  (long:2<=vs.length->∀z:Shared,(∀b o,b≠a->s.heap.get? b=some o->z.heap.get? b=some o)->∃kd,wpAny (model prog w) A (keyKind' vs.toArray) (λ k z'=>k=kd/\z'=z) E z/\
   wpS (model prog w) A E z sortRuns' (λ _ y=>failedOf y=none/\R ((arrOf y).map (·.2))) (SortSt.mk' kd (pairsOf vs) #[] 7 none))
  (h:∀out h' c,R out->(∀b o,b≠a->s.heap.get? b=some o->h'.get? b=some o)->h'.get? a=some (seqObj "list" out c)->P (.done (.ret .none)) {s with heap:=h'}) :
  wpAny (model prog w) A (Builtin.«list.sort» ⟨[.ref a],[]⟩) P E s:=by
 have la:a<s.heap.objs.size:=aG ho;have T9:vs.toArray.size=vs.length:=by simp
 rw [list_sort_plain];refine wpAny_bind (listItems_at ho rfl (wpAny_bind (listUpdate_at ho rfl ?_ (by rwa [T9]) (aP _))));obtain⟨ep,he⟩:∃ep,(s.heap.update a (Obj.mapSeq λ _=>(#[]:Array Value))).get? a=some (seqObj "list" #[] ep):=⟨_,get?_update_seq ho λ _=> #[]⟩
 have zN:∀b o,b≠a->s.heap.get? b=some o->(s.heap.update a (Obj.mapSeq λ _=>(#[]:Array Value))).get? b=some o:=λ b o hb e=>by
  rwa [Heap.get?_update_ne _ _ _ _ hb]
 refine wpAny_bind (seqEpoch_at he rfl (wpAny_bind (wpAny_newTuple (wpAny_bind (wpAny_newList (wpAny_holding ?_) (aP _))) (by simpa using hz))));generalize hg:s.heap.update a (Obj.mapSeq λ _=>(#[]:Array Value))=g at he zN;have Wt:((g.push (seqObj "tuple" vs.toArray 0)).push (seqObj "list" #[] 0)).get? a=some (seqObj "list" #[] ep):=ah _ (ah _ he);have Ro:∀b o,b≠a->s.heap.get? b=some o->((g.push (seqObj "tuple" vs.toArray 0)).push (seqObj "list" #[] 0)).get? b=some o:=λ b o hb e=>ah _ (ah _ (zN b o hb e));show wpAny (model prog w) A _ P E {s with heap:=(g.push (seqObj "tuple" vs.toArray 0)).push (seqObj "list" #[] 0)};generalize (g.push (seqObj "tuple" vs.toArray 0)).push (seqObj "list" #[] 0)=G at Wt Ro;dsimp only
 have last:∀out:Array Value,R out->wpAny (model prog w) A (do
   let touched:=(<-seqEpoch a)!=ep
   Builtin.List.listUpdate (.ref a) λ _=>out
   if touched then rule "list.sort.modified";raiseError "ValueError" "list modified during sort"
   ret .none) P E {s with heap:=G}:=λ out ro=>by
  refine wpAny_bind (seqEpoch_at Wt rfl (wpAny_bind (listUpdate_at Wt rfl ?_ (aP _) (by show out.size<=_;rw [hR out ro];exact Nat.le_succ_of_le hz))));rw [bne_self_eq_false,if_neg aJ];refine wpAny_pure (h out _ _ ro (λ b o hb e=> ?_) (get?_update_seq Wt λ _=>out));rw [Heap.get?_update_ne _ _ _ _ hb];exact Ro b o hb e
 by_cases iD:vs.length<2
 .rw [if_pos (by rwa [T9]),if_pos (by rwa [T9])];refine wpAny_bind (wpAny_pure ?_);rw [StateT.run_pure];refine wpAny_bind (wpAny_pure ?_)
  have eo:(arrOf (SortSt.mk' general' (vs.toArray.zip vs.toArray) #[] 7 none)).map (·.2)=vs.toArray:=by
   show (vs.toArray.zip vs.toArray).map (·.2)=vs.toArray;apply Array.toList_inj.mp;simp [eI]
  have:=last vs.toArray (short iD);dsimp only
  rwa [eo]
 .rw [if_neg (by rwa [T9]),if_neg (by rwa [T9])];obtain⟨kd,hk,hr⟩:=long (Zi iD) {s with heap:=G} Ro;refine wpAny_bind (wpAny_mono hk ?_ λ _ _ e=>e);rintro k z' ⟨rfl,rfl⟩;refine wpAny_bind (wpAny_mono hr ?_ λ _ _ e=>e);rintro⟨⟨⟩,y⟩ z' ⟨rfl,hf,ro⟩;have:=last _ ro;dsimp only at hf ro⊢
  rwa [hf]
end
end L2
namespace L2
open PySem PySem.Spec PyProof.Rows PySem.Builtin PySem.Builtin.Str
section
variable {X:Cx}
end
section
variable {X:Cx} {st:Stmt} {rest:List Stmt} {t u:TS} {e:Expr} {es:List Expr} {te:TE} {ta:TA}
end
end L2
namespace L2
open PySem PySem.Spec PyProof.Rows
section
variable {X:Cx} {st:Stmt} {rest:List Stmt} {t u:TS} {e:Expr} {es:List Expr} {te:TE} {ta:TA}
end
end L2
namespace L2
end L2
namespace L2
open PySem PySem.Spec PyProof.Rows
theorem yO:∀{ns:List Int} {us:List Value},Vals (ns.map V.int) us->∃zs:List (Int×Tok),us=zs.map (λ p=>Value.int p.1 p.2)/\zs.map (·.1)=ns
 | [],us,r=>by
  cases r;exact⟨[],rfl,rfl⟩
 | n::ns,us,r=>by
  rw [aD] at r
  cases r with
  | cons r1 r2=>
   obtain⟨t,rfl⟩:=r1;obtain⟨zs,rfl,rfl⟩:=yO r2;exact⟨(n,t)::zs,rfl,rfl⟩
section
variable {X:Cx}
theorem Bd (hp:PassesOwn (model X.prog X.w) X.A X.env X.xe) (hc:Bx (PT X c tc)) (hb:Bx (xl X body tb)):Bx (PS X (.While c body [] pos) (BI tc tb)):=⟨Lo hp hc.un hb.un⟩
end
structure jQ where
 nm:List Nat
 back:Bool
 sg:List Nat
 num:Int
structure IC (m:jQ):Prop where
 nm:LU m.nm
 sg:LU m.sg
def qt:List Nat:= [109,97,114,107]
def jM:List Nat:= [114,111,119]
def sL:List Nat:= [111,114]
def i6:List Nat:= [109,97,110,121]
def lL:List Nat:= [115,111,109,101]
def jb:List Nat:= [109,97,121,98,101]
def ones:List (List Nat):= [i6,lL,jb]
def uS:List (List Nat):= [jM,sL]
inductive Tr where
 | mark (m:jQ)
 | two (k:List Nat) (l r:Tr)
 | one (k:List Nat) (t:Tr)
def Tr.deep:Tr->Nat
 | .mark _=>1
 | .two _ l r=>max l.deep r.deep+1
 | .one _ t=>t.deep+1
def Tr.marks:Tr->List jQ
 | .mark m=> [m]
 | .two _ l r=>l.marks++r.marks
 | .one _ t=>t.marks
def EW (m:jQ):List V:= [.str (tx qt),.str (tx m.nm),.bl m.back,.str (tx m.sg),.int m.num]
inductive gZ (H:Hp):Addr->Tr->Prop
 | mark {a:Addr} {m:jQ}:H a=some (.tup (EW m))->IC m->gZ H a (.mark m)
 | two {a l r:Addr} {k:List Nat} {x y:Tr}:H a=some (.tup [.str (tx k),.ref l,.ref r])->k∈uS->gZ H l x->gZ H r y->gZ H a (.two k x y)
 | one {a i:Addr} {k:List Nat} {x:Tr}:H a=some (.tup [.str (tx k),.ref i])->k∈ones->gZ H i x->gZ H a (.one k x)
theorem gZ.keep (k:∀b xs,H b=some (.tup xs)->H' b=some (.tup xs)) (h:gZ H a t):gZ H' a t:=by
 induction h with
 | mark e o=>exact .mark (k _ _ e) o
 | two e hk _ _ i1 i2=>exact .two (k _ _ e) hk i1 i2
 | one e hk _ i1=>exact .one (k _ _ e) hk i1
theorem gZ.same (s:fh H H') (h:gZ H a t):gZ H' a t:=h.keep λ b xs e=>s b _ e
theorem gZ.step (s:Step H F H' F') (h:gZ H a t):gZ H' a t:=h.keep s.tup
theorem Tr.nV (t:Tr):1<=t.deep:=by cases t<;>simp [Tr.deep]
inductive fN {α β:Type} (R:α->β->Prop):List α->List β->Prop
 | nil:fN R [] []
 | cons {a:α} {b:β} {as:List α} {bs:List β}:R a b->fN R as bs->fN R (a::as) (b::bs)
theorem fN.imp {α β:Type} {R S:α->β->Prop} (h:∀a b,R a b->S a b):∀{as:List α} {bs:List β},fN R as bs->fN S as bs
 | _,_,.nil=>.nil
 | _,_,.cons r t=>.cons (h _ _ r) (t.imp h)
theorem fN.snoc {α β:Type} {R:α->β->Prop} {a:α} {b:β} (r:R a b):∀{as:List α} {bs:List β},fN R as bs->fN R (as ++ [a]) (bs ++ [b])
 | _,_,.nil=>.cons r .nil
 | _,_,.cons r' t=>.cons r' (t.snoc r)
theorem fN.append {α β:Type} {R:α->β->Prop}:∀{as cs:List α} {bs ds:List β},fN R as bs->fN R cs ds->fN R (as++cs) (bs++ds)
 | _,_,_,_,.nil,h=>h
 | _,_,_,_,.cons r t,h=>.cons r (t.append h)
theorem fN.len {α β:Type} {R:α->β->Prop}:∀{as:List α} {bs:List β},fN R as bs->as.length=bs.length
 | _,_,.nil=>rfl
 | _,_,.cons _ t=>by simp [t.len]
theorem fN.get {α β:Type} {R:α->β->Prop}:∀{as:List α} {bs:List β} {i:Nat} {a:α} {b:β},fN R as bs->as[i]? = some a->bs[i]? = some b->R a b
 | _,_,0,_,_,.cons r _,h1,h2=>by
  simp at h1 h2
  rwa [<-h1,<-h2]
 | _,_,i+1,_,_,.cons _ t,h1,h2=>t.get (i:=i) (by simpa using h1) (by simpa using h2)
theorem fc {K:aj} {H:Hp} {a:Addr} {xs:List V} {i:Int} {v:V} {Q:VK} (h:H a=some (.tup xs)) (e:xh xs i=some v) (q:Q v H):Fu K (.ref a) (.int i) H Q:=⟨a,xs,i,v,rfl,rfl,oh.of h,e,q⟩
theorem fK {K:aj} {H:Hp} {a:Addr} {xs:List V} {i:Int} {v:V} {Q:VK} (h:H a=some (.lst xs)) (e:xh xs i=some v) (q:Q v H):Ll K (.ref a) (.int i) H Q:=⟨a,xs,i,v,rfl,rfl,fZ.of h,e,q⟩
def Tr.kids:Tr->List Tr
 | .mark _=> []
 | .two _ l r=> [l,r]
 | .one _ t=> [t]
def Tr.kind:Tr->List Nat
 | .mark _=>qt
 | .two k _ _=>k
 | .one k _=>k
theorem gZ.kids (h:gZ H a tr):(∃m,tr = .mark m/\H a=Option.some (.tup (EW m))/\IC m)\/
  (∃as:List Addr,H a=Option.some (.tup (.str (tx tr.kind)::as.map V.ref))/\fN (gZ H) as tr.kids/\tr.kind∈uS++ones/\tr.kind≠qt/\as.length<=2/\1<=as.length):=by
 have ne:∀k∈uS++ones,k≠qt:=by decide
 cases h with
 | mark e o=>exact .inl ⟨_,rfl,e,o⟩
 | @two _ l r k _ _ e hk hl hr=>exact .inr ⟨[l,r],e,.cons hl (.cons hr .nil),aN _ hk,ne _ (aN _ hk),by simp,by simp⟩
 | @one _ i k _ e hk hi=>exact .inr ⟨[i],e,.cons hi .nil,aB _ hk,ne _ (aB _ hk),by simp,by simp⟩
theorem Tr.JC {tr t:Tr} (h:t∈tr.kids):t.deep+1<=tr.deep:=by
 cases tr with
 | mark m=>cases h
 | two k l r=>
  simp only [Tr.kids,aA,bb,or_false] at h;simp only [Tr.deep];rcases h with rfl|rfl<;>lia
 | one k x=>
  simp only [Tr.kids,aA,bb,or_false] at h;simp only [Tr.deep];rw [h];exact Nat.le_refl _
theorem A' (x:V) (xs:List V):uw (x::xs) (Option.some 1) none=xs:=by
 unfold uw
 have e1:HT.jH (x::xs).length 0 (Option.some 1)=1:=by
  simp [HT.jH]
 have e2:HT.jH (x::xs).length (x::xs).length none=(x::xs).length:=by
  simp [HT.jH]
 rw [e1,e2];simp
theorem MP (x:V) (xs:List V):¬(HT.jH (x::xs).length 0 (Option.some 1)=0/\HT.jH (x::xs).length (x::xs).length none=(x::xs).length):=by
 have e1:HT.jH (x::xs).length 0 (Option.some 1)=1:=by
  simp [HT.jH]
 rw [e1];simp
theorem fN.zip {α β:Type} {R:α->β->Prop}:∀{as:List α} {bs:List β},fN R as bs->∀c∈as.zip bs,R c.1 c.2
 | _,_,.nil,c,h=>nomatch h
 | _,_,.cons r t,c,h=>by
  rcases aA.mp h with rfl|h
  .exact r
  .exact t.zip c h
theorem fN.rev {α β:Type} {R:α->β->Prop}:∀{as:List α} {bs:List β},fN R as bs->fN R as.reverse bs.reverse
 | _,_,.nil=>.nil
 | _,_,.cons r t=>by
  rw [cK,cK];exact t.rev.snoc r
theorem qN {α:Type} {l:List α} (h:l≠[]):∃l0 x,l=l0 ++ [x]:=by
 rcases List.eq_nil_or_concat l with e | ⟨l0,x,e⟩
 .exact absurd e h
 .exact⟨l0,x,by rw [e,List.concat_eq_append]⟩
theorem K1 {H H1:Hp} {st:Addr} {xs:List V} {o:HO} (s:fh H H1) (e:H st=Option.some (.lst xs)):Step H [st] (upd H1 st o) [st]:=by
 refine⟨λ b u hb h=> ?_,λ b h=>.inl h,λ b ys h=> ?_⟩
 .rw [e_ (λ z=>hb (by rw [z];exact ao.mpr rfl))];exact s _ _ h
 .rw [e_ (λ z=>by rw [z,e] at h;cases h)];exact s _ _ h
end L2
namespace L2
open PySem PySem.Spec PyProof.Rows PySem.Builtin PySem.Builtin.Str
def HZ (c:Nat):List Nat->Option Nat
 | []=>none
 | a::r=>if a=c then some 0 else (HZ c r).map (· + 1)
section
variable {X:Cx}
def PK (c:Nat) (l:List Nat):List Nat×List Nat×List Nat:=match HZ c l with|some j=>(l.take j,[c],l.drop (j+1))|none=>(l,[],[])
end
end L2
namespace L2
open PySem PySem.Spec PyProof.Rows
structure tj (m:jQ):Prop where
 nm:m.nm = [95]\/(1<=m.nm.length/\m.nm.length<=12/\∀x∈m.nm,x∈EE)
 sg:m.sg∈[[],[60],[62],[61],[33]]
 num:m.num.natAbs<10 ^ 60
 jv:m.sg = []->m.num=0
theorem vF (h:x∈EE):x<1114112:=by
 have:=OD.mp h;exact Zb this.2 (Zd rfl)
theorem tj.ok (h:tj m):IC m:=by
 refine⟨λ x hx=> ?_,λ x hx=> ?_⟩
 .rcases h.nm with e | ⟨_,_,e⟩
  .rw [e,ao] at hx;rw [hx]
   decide
  .exact vF (e x hx)
 .have all:∀l∈[[],[60],[62],[61],[33]],∀x∈l,x<1114112:=by decide
  exact all _ h.sg x hx
inductive Pc where
 | sign (c:Nat)
 | mark (m:jQ)
@[reducible] def aab:PyProof.Rows.KeyKind where
 α:=Int
 blt a b:=decide (a<b)
 irrefl a:=by simp
 trans a b c h1 h2:=by simp only [decide_eq_true_eq] at *;exact Ya h1 (Yl h2)
 negTrans a b c h:=by
  simp only [decide_eq_true_eq] at *;omega
 total a b h1 h2:=by simp only [decide_eq_false_iff_not] at *;exact Yq (Yi h2) (Yi h1)
 keyOf v:=match v with | .int x _=>some x|_=>none
 dflt:=0
section
variable {X:Cx}
end
structure Pt (K:aj) (x qual:Str) (st:Stmt) (f:Addr) (fd:FuncData):Prop where
 ex:∃(oc:Value) (od:Option Addr) (dV kV doc pm:Value) (an:Option Addr) (ik ct:Value) (PL:Array (Option Value)),
  fd=cb x qual (mD st) (j5 st) (fw st) dV kV doc pm an ik ct/\K.lookup f=some ⟨oc,od,.func fd,PL⟩/\dR K ik qual=true
 kp:ck K (.ref f)=true
section
variable {P:Program} {w:World} {K:aj} {mg:Str->Option Value} {base:Heap}
theorem Pt.Ni {x qual:Str} {st:Stmt} {f:Addr} {fd:FuncData} {N ps:List Str} {k:Nat} {sp:Sp} (F:Pt K x qual st f fd) (S:fG N ps (fw st)) (yS:∀(ik:Value) (A:Around) (outer:List Env) (s:Shared) (H:Hp) (vs:List V) (Q:VK) (E:XK),jd k (A.deeper (envOfC qual (fw st) s.heap.objs.size f ik))->sp vs H Q E->
   ∃t,xl (ze (ir P w) P w K mg base N qual (fw st) f ik A outer s H E) (j5 st) t/\t {nx:=λ _ H'=>Q .jv H',rt:=Q} (start N vs) H) (len:∀vs H Q E,sp vs H Q E->vs.length=ps.length:=by rintro _ _ _ _ ⟨⟩;subst_vars;rfl):f_ P w K mg base (ir P w) (k+1) f fd ps sp:=by
 obtain⟨oc,od,dV,kV,doc,pm,an,ik,ct,PL,rfl,lk,Gx⟩:=F.ex;exact Qe lk Gx S len λ A outer s H vs Q E hr JK=>yS ik A outer s H vs Q E hr JK
end
structure C3 (K:aj) (C:Addr) (m qual:Str) (st:Stmt) (ps:List Str) (uk:List V) (f:Addr) (fd:FuncData):Prop where
 at_:Meth K C m f
 fn:Pt K m qual st f fd
 b:Binds K fd ps []
 bd:∃ds,Vals uk ds/\Binds K fd ps ds
section
variable {X:Cx} {P:Program} {w:World} {k:Nat} {f C:Addr} {fd:FuncData} {ps:List Str} {sp:Sp} {E:XK} {m qual:Str} {st:Stmt} {apos pos:Pos} {e o:Expr} {es:List Expr} {ta:TE} {t:TA} {uk:List V}
theorem Rb (he:PE X o ta) (c:Df X.K C) (D:C3 X.K C m qual st ps uk f fd) (F:f_ X.prog X.w X.K X.mg X.base (ir P w) k f fd ps sp) (hr:jd k X.A) (hx:Passes (ir P w) X E) (ha:PA X (e::es) t)
  (pM:starEach (e::es) X.env=(false,eval e X.env)::starEach es X.env:=by rfl) (xG:(backTo pos (starEach es X.env)).any (·.1)=false:=by rfl)
  (ht:eval (.Call (.Attribute o m apos) (e::es) [] pos) X.env=(do
   let ov <-eval o X.env
   standAt apos.atName
   let (f,first) <-holding [ov] (getMethod ov m pl)
   callWith pos f first (backTo pos (starEach (e::es) X.env)) (backToKw pos (keywordEach [] X.env))):=by rfl) :
  PE X (.Call (.Attribute o m apos) (e::es) [] pos) (rD C m sp [] E ta t):=Hy he c D.at_ F hr D.b .nil hx ha pM xG ht
theorem Ip (he:Bx (PE X o ta)) (c:Df X.K C) (D:C3 X.K C m qual st ps uk f fd) (F:f_ X.prog X.w X.K X.mg X.base (ir P w) k f fd ps sp) (hr:jd k X.A) (hx:Passes (ir P w) X E) (ha:Bx (PA X (e::es) t))
  (pM:starEach (e::es) X.env=(false,eval e X.env)::starEach es X.env:=by rfl) (xG:(backTo pos (starEach es X.env)).any (·.1)=false:=by rfl)
  (ht:eval (.Call (.Attribute o m apos) (e::es) [] pos) X.env=(do
   let ov <-eval o X.env
   standAt apos.atName
   let (f,first) <-holding [ov] (getMethod ov m pl)
   callWith pos f first (backTo pos (starEach (e::es) X.env)) (backToKw pos (keywordEach [] X.env))):=by rfl) :
  Bx (PE X (.Call (.Attribute o m apos) (e::es) [] pos) (rD C m sp [] E ta t)):=⟨Rb he.un c D F hr hx ha.un pM xG ht⟩
end
def WA.CW (A:WA) (s n e:Nm) (w:Int):Except Rf WA:=
 if s∉A.names\/e∉A.names then .error .HC else if nT n=false then .error .noName else if 10 ^ 60<=w.natAbs then .error .DW else if 400<=A.fL.length then .error .full
 else .ok {A with fL:=A.fL ++ [(A.next,⟨s,n,e,w⟩)],next:=A.next+1}
def WA.CK (A:WA) (k:Int):Except Rf WA:=
 if k∉A.fL.map (·.1) then .error .PN else .ok {A with fL:=A.fL.filter λ x=>decide (x.1≠k)}
theorem Jf (v1 v2 v3 v4:V):nM "coming_number" v4 ([("kept_values",v1),("kept_ties",v2),("coming_number",v3)]:List (Str×V))=([("kept_values",v1),("kept_ties",v2),("coming_number",v4)]:List (Str×V)):=by
 unfold nM;rw [if_neg (by decide)];unfold nM;rw [if_neg (by decide)];unfold nM;rw [if_pos rfl]
theorem gy.W8 (w:gy C H p W) (ha:H a=none) (hl:W.next∉W.fL.map (·.1)) (hf:W.fL.length<400) :
  gy C (upd (upd (upd H a (.tup (wK t))) W.dt (.dK (putK (fR W.fL) (.inl W.next) (.ref a)))) p (.ins C W.dx [("kept_values",.ref W.dv),("kept_ties",.ref W.dt),("coming_number",.int (W.next+1))])) p {W with fL:=W.fL ++ [(W.next,a,t)],next:=W.next+1}/\
  Step H (W.own p) (upd (upd (upd H a (.tup (wK t))) W.dt (.dK (putK (fR W.fL) (.inl W.next) (.ref a)))) p (.ins C W.dx [("kept_values",.ref W.dv),("kept_ties",.ref W.dt),("coming_number",.int (W.next+1))])) (WS.own {W with fL:=W.fL ++ [(W.next,a,t)],next:=W.next+1} p):=by
 have SK:putK (fR W.fL) (.inl W.next) (.ref a)=fR (W.fL ++ [(W.next,a,t)]):=by
  rw [lW]
  .unfold fR;rw [av];rfl
  .rw [nB,find_none.mpr hl];rfl
 rw [SK]
 have zN:∀b o,b≠p->b≠W.dt->H b=some o->upd (upd (upd H a (.tup (wK t))) W.dt (.dK (fR (W.fL ++ [(W.next,a,t)])))) p (.ins C W.dx [("kept_values",.ref W.dv),("kept_ties",.ref W.dt),("coming_number",.int (W.next+1))]) b=some o:=λ b o h1 h2 e=>by
  rwa [e_ h1,e_ h2,e_ (fq e ha)]
 have hap:a≠p:=(fq w.obj ha).symm;have So:a≠W.dt:=(fq w.fX ha).symm;have G9:∀b xs,H b=some (.tup xs)->b≠p/\b≠W.dt:=λ b xs e=>⟨gN e w.obj (by intro z;cases z),gN e w.fX (by intro z;cases z)⟩
 refine⟨⟨eX,zN _ _ w.à w.SQ w.val,by rw [e_ w.Xq,eX],λ x hx=>zN _ _ (gN (w.each x hx) w.obj (by intro z;cases z)) (w.œ hx) (w.each x hx),λ x hx=> ?_,w.nd,w.names,?_,w.iD,by simp only [aq,aF,aV];lia⟩,
  ⟨λ b o hb e=>zN b o (λ z=>hb (by simp [WS.own,z])) (λ z=>hb (by simp [WS.own,z])) e,λ b hb=>.inl hb,λ b xs e=>zN b _ (G9 b xs e).1 (G9 b xs e).2 e⟩⟩
 .rcases ax.mp hx with h|h
  .exact zN _ _ (G9 _ _ (w.i5 x h)).1 (G9 _ _ (w.i5 x h)).2 (w.i5 x h)
  .rw [ao.mp h];show upd (upd (upd H a _) W.dt _) p _ a=_;rw [e_ hap,e_ So,eX]
 .show ((W.fL ++ [(W.next,a,t)]).map (λ x:Int×Addr×ni=>x.1)).Nodup;rw [av];exact xA w.nums hl
theorem gy.cut (w:gy C H p W) :
  gy C (upd H W.dt (.dK (um (fR W.fL) (.inl n)))) p {W with fL:=W.fL.filter λ x=>decide (x.1≠n)}/\
  Step H (W.own p) (upd H W.dt (.dK (um (fR W.fL) (.inl n)))) (WS.own {W with fL:=W.fL.filter λ x=>decide (x.1≠n)} p):=by
 rw [sV]
 have zN:∀b o,b≠W.dt->H b=some o->upd H W.dt (.dK (fR (W.fL.filter λ x=>decide (x.1≠n)))) b=some o:=λ b o hb e=>by
  rwa [e_ hb]
 have sub:∀x∈W.fL.filter (λ x=>decide (x.1≠n)),x∈W.fL:=λ x hx=>(bG.mp hx).1
 refine⟨⟨zN _ _ w.Xq.symm w.obj,zN _ _ w.SQ w.val,eX,λ x hx=>zN _ _ (w.œ hx) (w.each x hx),λ x hx=>zN _ _ (gN (w.i5 x (sub x hx)) w.fX (by intro z;cases z)) (w.i5 x (sub x hx)),w.nd,w.names,?_,w.iD,bj (bB _ _) w.SD⟩,
  ⟨λ b o hb e=>zN b o (λ z=>hb (by simp [WS.own,z])) e,λ b hb=>.inl hb,λ b xs e=>zN b _ (gN e w.fX (by intro z;cases z)) e⟩⟩
 exact List.Sublist.nodup (List.Sublist.map _ dY) w.nums
section
variable {X:Cx} {y:Str} {py:Pos} {elt iter:Expr} {ifs:List Expr} {scope:Scope} {pos:Pos} {N:List Str} {fr:List Nat} {tt:TT} {te Θ:TE}
end
theorem qr {α:Type} [DecidableEq α]:∀(l b:List α),l.Nodup->(∀x∈l,x∈b)->l.length<=b.length
 | [],_,_,_=>aP _
 | x::l,b,hn,hs=>by
  obtain⟨h1,h2⟩:=aY.mp hn;have hb:=hs x aZ
  have:=qr l (b.erase x) h2 λ y hy=>by
   have ne:y≠x:=λ z=>h1 (by rwa [<-z]);exact(List.mem_erase_of_ne ne).mpr (hs y (az _ hy))
  rw [List.length_erase_of_mem hb] at this;have hp:0<b.length:=List.length_pos_of_mem hb;rw [aF];lia
end L2
namespace L2
open PySem PySem.Spec PyProof.Rows PySem.W
end L2
namespace L2
open PySem PySem.Spec PyProof.Rows
section
variable {X:Cx} {pins:List (Addr×Obj)} {σ:List (Option V)} {H H':Hp} {s:Shared} {h':Heap}
theorem Inv.XU (I:Inv X pins σ H s) (k:∀b u,s.heap.get? b=some u->h'.get? b=some u) (ext:∀b,b<s.heap.objs.size->H' b=H b)
  (new:∀a o,H' a=some o->s.heap.objs.size<=a->ig X.prog X.w H' h' a o):Inv X pins σ H' {s with heap:=h',toks:=t'}:=by
 have low:∀b o,H b=some o->H' b=some o:=λ b o e=>by rwa [ext b (I.gJ b o e).lt]
 refine I.un ⟨λ b u q _ _ _=>k b u q,λ b u q _ _ _=>⟨u.slots,k b u q⟩,λ b u q n _=>by rwa [ext b (aG q)],λ b u q _=>⟨u,k b u q⟩,λ b xs q=>low b _ q,λ b u xs q=>low b _ q,λ b ps q=>⟨#[],by rw [low b _ q];simp⟩⟩ λ a o e=> ?_;by_cases ha:a<s.heap.objs.size
 .rw [ext a ha] at e;exact(I.gJ a o e).tM (λ c v _ q=>k c v q) (λ c q=>low c _ q) λ c xs q=>low c _ q
 .exact new a o e (eG ha)
end
def yF (H:Hp):List Addr->List (Nm×Int)->Hp
 | a::as,y::m=>upd (yF H as m) a (.tup [.str (tx y.1),.int y.2])
 | _,_=>H
theorem ud:∀(as:List Addr) (m:List (Nm×Int)),b∉as->yF H as m b=H b
 | [],_,_=>by unfold yF;rfl
 | _::_,[],_=>by unfold yF;rfl
 | a::as,y::m,h=>by
  unfold yF;rw [e_ (λ z=>h (by rw [z];exact aZ))];exact ud as m λ z=>h (az _ z)
theorem Cp:∀(as:List Addr) (m:List (Nm×Int)) (i:Nat) (a:Addr) (y:Nm×Int),as.Nodup->as[i]? = some a->m[i]? = some y->yF H as m a=some (.tup [.str (tx y.1),.int y.2])
 | [],_,_,_,_,_,h,_=>by cases h
 | _::_,[],_,_,_,_,_,h=>by cases h
 | b::as,z::m,0,a,y,_,h1,h2=>by
  cases h1
  cases h2;unfold yF;exact eX
 | b::as,z::m,i+1,a,y,nd,h1,h2=>by
  obtain⟨n1,n2⟩:=aY.mp nd;unfold yF;rw [e_ (λ e=>n1 (by rw [<-e];exact ai (show as[i]? = some a from h1)))];exact Cp as m i a y n2 h1 h2
theorem JB:∀(as:List Addr) (m:List (Nm×Int)),as.length=m.length->as.Nodup->b∈as->yF H as m b=some o->∃(i:Nat) (y:Nm×Int),as[i]? = some b/\m[i]? = some y/\o = .tup [.str (tx y.1),.int y.2]:=by
 intro as m hl nd hb e;obtain⟨i,hi⟩:=aL.mp hb
 have lt:i<m.length:=by
  rw [<-hl];exact(ag.mp hi).1
 refine⟨i,m[i],hi,by simp,?_⟩;have:=Cp (H:=H) as m i b m[i] nd hi (by simp);rw [this] at e
 cases e;rfl
section
variable {prog:Program} {w:World} {A:Around} {E:Value->Shared->Prop} {z:Shared}
def Hz (y:Nm×Int) (t u:Tok):Obj:= {cls:=.type "tuple",data:=.seq #[.str (tx y.1) t,.int y.2 u]}
end
theorem US (r:KV kvs vs):∀{i:Nat} {p:Key×V} {q:Key×Value},kvs[i]? = some p->vs[i]? = some q->p.1=q.1/\RelV p.2 q.2:=by
 unfold KV at r
 induction r with
 | nil=>intro i p q h;cases h
 | @cons p0 q0 ps qs h t ih=>
  intro i p q h1 h2
  cases i with
  | zero=>
   cases h1
   cases h2;exact h
  | succ i=>exact ih h1 h2
section
variable {X:Cx}
end
section
variable {X:Cx}
end
theorem Ph {X:Cx} (K:aj) {o e:Expr} {es:List Expr} {to:TE} {t:TA} {name:Str} {apos gM:Pos} {T id:String} {r:V->List V->Hp->VK->Prop} (pa:PlainAttrs T) (slot:Slot T name id) (OL:typeOf (.builtin id)=pure (.type "method_descriptor")) (hm:T7 X id r) (ho:Bx (PE X o to)) (ha:Bx (PA X (e::es) t))
  (hK:X.K=K:=by rfl) (nS:attributeBase o name X.env (eval o X.env)=eval o X.env:=by rfl)
  (Mq:((backTo gM (starEach (e::es) X.env)).all (λ x=> !x.1)&&(backToKw gM (keywordEach [] X.env)).all (λ x=>x.1.isSome)&&decide ((e::es).length+([]:List Keyword).length+(if ([]:List Keyword).isEmpty then 0 else 1)<30))=true:=by rfl)
  (nR:(apos.endLine==gM.line)=true:=by rfl) (hs:starEach (e::es) X.env=(false,eval e X.env)::starEach es X.env:=by rfl) (yP:(backTo gM (starEach es X.env)).any (·.1)=false:=by rfl) :
  Bx (PE X (.Call (.Attribute o name apos) (e::es) [] gM) (Ub K T r to t)):=hK▸⟨PJ pa slot OL hm ho.un ha.un nS Mq nR hs yP⟩
structure oS (H:Hp) (r:Addr) (rs:List (Int×Addr×ni)):Prop where
 at_:H r=some (.dK (fR rs))
 i5:∀x∈rs,H x.2.1=some (.tup (wK x.2.2))
def plain (rs:List (Int×Addr×ni)):List (Int×ni):=rs.map λ x=>(x.1,x.2.2)
structure Qn (x:ni):Prop where
 s:LU x.start
 n:LU x.name
 e:LU x.stop
theorem oC (rs:List (Int×Addr×ni)):(plain rs).map (·.1)=rs.map (·.1):=by
 unfold plain;rw [aQ];rfl
theorem oS.same (h:oS H r rs) (s:fh H H'):oS H' r rs:=⟨s _ _ h.at_,λ x hx=>s _ _ (h.i5 x hx)⟩
theorem DD (hl:c∉rs.map (·.1)):putK (fR rs) (.inl c) (.ref p)=fR (rs ++ [(c,p,x)]):=by
 rw [lW]
 .unfold fR;rw [av];rfl
 .rw [nB,find_none.mpr hl];rfl
end L2
namespace L2
open PySem
theorem fO {A B:Prop} {c:Prop} [Decidable c] (h1:c->A) (h2:¬c->B):if c then A else B:=by
 by_cases h:c
 .rw [if_pos h];exact h1 h
 .rw [if_neg h];exact h2 h
theorem Ba {K:aj} {H1:Hp} {r:Addr} {js:List Int} {fr:List Nat} {σ:St} {te:TE} {Q:VK} (h:fZ K H1 r (js.map V.int)) (hj:∀j∈js,0<=j/\j<26) (hl:js.length<=100)
  (he:∀j H2 Q2,QK (.str (tx EE)) (.int j) H2 Q2->te (lI (.int j) fr σ) H2 Q2)
  (hQ:∀D H2,H1 D=none->fh H1 H2->fZ K H2 D ((js.map λ j=> [uc j]).map λ l=>V.str (tx l))->Q (.ref D) H2):uN (Qr K r) H1 fr σ BH te Q:=by
 refine comp_map (gH h) (λ j=>.str (tx [uc j])) (fW (Zc hl (Zd rfl))) (λ j H2 Q2 hm s k=>he j H2 Q2 ?_) λ D H2 hD s d=>hQ D H2 hD s (fZ.of (by rwa [aQ]));obtain⟨h0,h1⟩:=hj j hm;refine Ht (by decide) h0 (by show j<26;exact h1) λ c hc=> ?_;have e:=L' j;rw [show j%26=j by lia] at e;rw [e] at hc
 cases hc;exact k _ (fh.refl _)
theorem Am (js:List Int):(js.map λ j=> [uc j]).flatten=js.map uc:=by
 induction js with
 | nil=>rfl
 | cons j r ih=>simp [ih]
theorem Dh (js:List Int):((js.map λ j=> [uc j]).map List.length).sum=js.length:=by
 induction js with
 | nil=>rfl
 | cons j r ih=>
  simp only [aD,cj,aF,aV] at ih⊢;lia
theorem Di (js:List Int):∀x∈js.map uc,x∈EE:=λ x hx=>by
 obtain⟨j,_,rfl⟩:=aE.mp hx;exact ai (L' j)
theorem qS {n:Nat} {i:Int} (h0:0<=i) (h1:i<n):OI n i=some i.toNat:=by
 unfold OI;rw [if_pos h0,if_pos h1]
end L2
namespace L2
open PySem PySem.Spec PyProof.Rows
section
variable {X:Cx}
end
theorem Cn:typeLookup (.type "list") "keys" = pure none:=am_miss_of_fast (by kernel_rfl)
theorem Co:typeLookup (.type "list") "__getattr__" = pure none:=am_miss_of_fast (by kernel_rfl)
section
variable {prog:Program} {w:World} {A:Around} {E:Value->Shared->Prop}
theorem yE (hx:s.heap.get? a=some ⟨.type "list",none,.seq its n,sl⟩) (hA:A.handled=none)
  (hs:∀h' tk e,Heap.NewAttrErr s.heap h' e (.ref a) "keys"->E (.ref e) {s with heap:=h',toks:=tk}) :
  wpAny (model prog w) A (Builtin.«object.__getattribute__» ⟨[.ref a,.str "keys" u],[]⟩) Q E s:=by
 have miss:=Cn;obtain⟨hp,g,d,tk,os⟩:=s;have hT:(Shared.mk hp g d tk os).TypeIs (.ref a) "list" := ⟨_,hx,rfl⟩
 unfold Builtin.«object.__getattribute__»
 repeat (any_goals (first|assumption|wp_step))
 exact wpAny_raiseAttrError hA hs (attrMsg_fits (by decide +kernel) (by decide))
theorem yD (hx:s.heap.get? a=some ⟨.type "list",none,.seq its n,sl⟩) (hA:A.handled=none)
  (h:∀h' tk,(∀b ob,s.heap.get? b=some ob->h'.get? b=some ob)->Q none {s with heap:=h',toks:=tk}) :
  wpAny (model prog w) A (getAttr? (.ref a) "keys") Q E s:=by
 obtain⟨hp,g,d,tk,os⟩:=s;have hT:∀t',(Shared.mk hp g d t' os).TypeIs (.ref a) "list" := λ _=>⟨_,hx,rfl⟩
 have f1:=sub_AttributeError;have f3:=F.slot_list_getattribute.lookup;have f4:=F.slot_list_getattribute.bind (.ref a);have f5:=Co;unfold getAttr? getAttrBy? getAttrBy
 repeat (any_goals (first|assumption|((with_reducible show wpAny _ _ (call (Value.builtin "list.__getattribute__") _ _) _ _ _);refine wpAny_call_entry F.slot_list_getattribute (hT _) F.entry_list_ga (yE (s:=⟨hp,g,d,_,os⟩) hx hA λ h' tk' e he=> ?_) (F.args_list_getattribute_2 _ _))|wp_step))
 obtain⟨t',u',hee⟩:=he.there
 repeat (any_goals (first|assumption|wp_step))
 exact h h' _ he.keeps
theorem yW:entryFor table "dict.update.loop" = some Builtin.«dict.update.loop» := entryFor_of_tree (by kernel_rfl)
theorem yt:plainId "dict.update.loop" = true:=by decide +kernel
theorem vq {K:Type} [DecidableEq K] {kvs:List (K×Value)} {k:K} {v:Value}:(stored kvs k v).length<=kvs.length+1:=by
 unfold stored
 split<;>simp
theorem yu {K:Type} [DecidableEq K] {knd:KeyKind prog w K} {d it l:Addr} {us:List Value} {r:Value} {A:Around} (hA:A.handled=none) {E:Value->Shared->Prop} {Q:Value->Shared->Prop} (hd:d≠it) (hl:l≠it) (Va:d≠l) :
  ∀(ps:List (K×Value×Value)) (i:Nat) (j:Int) (kvs:List (K×Value)) (s:Shared),us.length=i+ps.length->s.heap.IsListIter it l i->s.heap.IsList l us.toArray->s.heap.DictOf knd d kvs->kvs.length+ps.length<=1000->
  (∀(m:Nat) (p:K×Value×Value),ps[m]? = some p->knd.is p.1 p.2.1=true/\∃c:Addr,us[i+m]? = some (.ref c)/\c≠d/\c≠it/\s.heap.IsTuple c #[p.2.1,p.2.2])->
  (∀h' tk,h'.DictOf knd d (merged kvs (ps.map λ p=>(p.1,p.2.2)))->(∀b ob,b≠d->b≠it->s.heap.get? b=some ob->h'.get? b=some ob)->Q r {s with heap:=h',toks:=tk})->
  codeAny (model prog w) A (.builtin "dict.update.loop" ⟨[.ref d,.ref it,.int j 0,r],[]⟩) (wants Q E) s
 | [],i,j,kvs,s,hn,hi,hL,hD,hz,hp,k=>by
  refine codeAny_builtin yW ?_;rw [Around.under_plainId yt _];unfold Builtin.«dict.update.loop»;dsimp only;refine wpAny_bind (wpAny_pyNext_list_end hA hi hL (by rw [cP];exact bC (by simp only [aV] at hn;lia)) λ h' ex=> ?_);refine wpAny_bind (wpAny_pure (wpAny_pure (k h' s.toks ?_ λ b ob _ hb e=>ex b ob hb e)));exact hD.extBut ex hd
 | p::ps,i,j,kvs,s,hn,hi,hL,hD,hz,hp,k=>by
  obtain⟨hk,c,hc,c1,c2,hT⟩:=hp 0 p rfl;refine codeAny_builtin yW ?_;rw [Around.under_plainId yt _];unfold Builtin.«dict.update.loop»;dsimp only;refine wpAny_bind (wpAny_pyNext_list_item hi hL (x:=.ref c) (by rw [cP];simpa using hc) λ h' JP sb=> ?_);dsimp only;obtain⟨oc,Wl,TV,nc,hdc⟩:=hT;have U4:h'.get? c=some oc:=(sb.2 c c2).trans Wl;obtain⟨sh,sg,sd,st,so⟩:=s;have hTc:(Shared.mk h' sg sd st so).TypeIs (.ref c) "tuple" := ⟨oc,U4,TV⟩
  refine wpAny_bind (wpAny_holding (wpAny_bind ?_));refine wpAny_tryCatch ?_;unfold Builtin.Dict.pairItems;refine wpAny_bind (wpAny_typeOf hTc ?_);rw [if_pos (by decide)];refine wpAny_bind (wpAny_seqItems U4 hdc ?_);refine wpAny_pure ?_;refine wpAny_holding ?_;have hD':(Shared.mk h' sg sd st so).heap.DictOf knd d kvs:=hD.sameBut sb hd;refine wpAny_dictSet_pairs hk hD' (λ h2 Eo Px=> ?_) (by have:=sizeLine_eq;simp only [aF] at hz;exact Zc Zk (Zc hz (Zc (Zd rfl) (Zg this))));refine wpAny_pure ⟨Code.quiet_builtin _ (by decide +kernel),?_⟩;have all:∀b ob,b≠d->b≠it->sh.get? b=some ob->h2.get? b=some ob:=λ b ob hb OS e=>(Px.2 b hb).trans ((sb.2 b OS).trans e);have sz:(stored kvs p.1 p.2.2).length<=kvs.length+1:=vq;refine yu (us:=us) hA hd hl Va ps (i+1) (j+1) (stored kvs p.1 p.2.2) ⟨h2,sg,sd,st+1,so⟩ (by simp only [aF] at hn;lia) (JP.at λ o e=>(Px.2 it hd.symm).trans e) ?_ Eo (by simp only [aF] at hz;lia) ?_ ?_
  .obtain⟨ol,e1,e2⟩:=hL;exact⟨ol,all l ol Va.symm hl e1,e2⟩
  .intro m q hq;obtain⟨k1,c',k2,k3,k4,á,k5,k6⟩:=hp (m+1) q hq;exact⟨k1,c',by rw [<-k2,cT,Nat.add_comm 1 m],k3,k4,á,all c' á k3 k4 k5,k6⟩
  .intro h3 tk hD3 T4;exact k h3 tk hD3 λ b ob hb OS e=>T4 b ob hb OS (all b ob hb OS e)
theorem Af {K:Type} [DecidableEq K] {knd:KeyKind prog w K} {l:Addr} {us:List Value} {n:Nat} {sl:Array (Option Value)} {s:Shared} {Q:Value->Shared->Prop} (hA:A.handled=none) (hx:s.heap.get? l=some ⟨.type "list",none,.seq us.toArray n,sl⟩)
  (ps:List (K×Value×Value)) (hn:us.length=ps.length) (hz:ps.length<=1000)
  (hp:∀(m:Nat) (p:K×Value×Value),ps[m]? = some p->knd.is p.1 p.2.1=true/\∃c:Addr,us[m]? = some (.ref c)/\s.heap.IsTuple c #[p.2.1,p.2.2])
  (k:∀h' tk,h'.DictOf knd s.heap.objs.size (merged [] (ps.map λ p=>(p.1,p.2.2)))->(∀b ob,s.heap.get? b=some ob->h'.get? b=some ob)->Q (.ref s.heap.objs.size) {s with heap:=h',toks:=tk}) :
  wpAny (model prog w) A (call (.type "dict") [.ref l]) Q E s:=by
 have new:(s.heap.push {cls:=.type "dict",data:=.dict #[]}).DictOf knd s.heap.objs.size []:=Heap.DictOf.new s.heap
 refine callType_codes (T:="dict") (args:= [.ref l]) (Q₁:=λ o jL=>o = .ref s.heap.objs.size/\jL = {s with heap:=s.heap.push {cls:=.type "dict",data:=.dict #[]}})
  F.kt_called_dict (F.kt_typeCall_dict_1 _) F.entry_dict_init (kt_code_dict_new (.ref l) ⟨rfl,rfl⟩) ?_
 rintro o s1 ⟨rfl,rfl⟩;refine⟨new.typeIs,F.args_dict_init_2 _ _,?_⟩;have lt:l<s.heap.objs.size:=aG hx;have qT:=ah (h:=s.heap) {cls:=.type "dict",data:=.dict #[]} hx;generalize hg:s.heap.push {cls:=.type "dict",data:=.dict #[]}=G at new qT;have kG:∀b ob,s.heap.get? b=some ob->G.get? b=some ob:=λ b ob e=>by rw [<-hg];exact ah _ e
 unfold Builtin.«dict.__init__»;refine wpAny_bind ?_;unfold Builtin.Dict.selfAndRest;refine wpAny_bind (wpAny_notOrdered_dict (s:= {s with heap:=G}) new.typeIs (wpAny_pure ?_));show wpAny _ _ (Builtin.Dict.updateFrom "dict.__init__" s.heap.objs.size (.ref l) [] .none) _ _ _;unfold Builtin.Dict.updateFrom;refine wpAny_bind (wpAny_typeOf (T:="list") ⟨_,qT,rfl⟩ ?_);rw [if_pos (by decide)];refine wpAny_bind (yD (s:= {s with heap:=G}) qT ?_ λ h2 Î k2=> ?_)
 .exact hA
 dsimp only;rw [if_pos (show (none:Option Value).isNone=true from rfl)];have rS:=k2 _ _ qT;refine wpAny_bind (wpAny_rule (wpAny_bind (wpAny_pyIter_list (items:=us.toArray) ⟨_,rS,rfl,_,rfl⟩ (wpAny_pure ⟨Code.quiet_builtin _ (by decide +kernel),?_⟩))));obtain⟨dO,d1,d2,d3,d4⟩:=new;have dlt:s.heap.objs.size<h2.objs.size:=aG (k2 _ _ d3);have k3:∀b ob,s.heap.get? b=some ob->(h2.push {cls:=.type "list_iterator",data:=.fields #[.ref l,.int 0 0]}).get? b=some ob:=λ b ob e=>ah _ (k2 _ _ (kG b ob e));refine yu (us:=us) (A:=A.in1) hA (aO dlt) (aO (aG rS)) (dc lt) ps 0 0 [] _ (by lia) ⟨_,aK _ rfl,rfl,rfl⟩ ⟨_,k3 _ _ hx,rfl,_,rfl⟩ ⟨dO,d1,d2,ah _ (k2 _ _ d3),d4⟩ (by simpa using hz) ?_ ?_
 .intro m p hm;obtain⟨q1,c,q2,oc,q3,q4⟩:=hp m p hm;exact⟨q1,c,by rwa [eA],aO (aG q3),aO (aG (k2 _ _ (kG _ _ q3))),oc,k3 _ _ q3,q4⟩
 .intro h' tk hD al;exact⟨rfl,k h' tk hD λ b ob e=>al b ob (aO (aG e)) (aO (aG (k2 _ _ (kG _ _ e)))) (k3 b ob e)⟩
end
section
variable {X:Cx}
def Fw (K:aj):List V->Hp->VK->Prop:=λ xs H Q=>∃(l:Addr) (ps:List (Addr×Key×V)),xs = [.ref l]/\H l=some (.lst (ps.map λ x=>.ref x.1))/\(∀x∈ps,H x.1=some (.tup [kV x.2.1,x.2.2]))/\ps.length<=1000/\∀d,H d=none->Q (.ref d) (upd H d (.dK (oH [] (ps.map (·.2)))))
theorem xg (hc:X.calm=true):kg X (.type "dict") (Fw X.K):=by
 rintro pins s σ H xs us Q I r ⟨l,ps,rfl,hl,hp,hz,q⟩;obtain⟨u,rfl,ru⟩:=r.one
 cases ru;obtain⟨ý,its,n,rv,hn,e⟩:=I.yC hl
 have tup:∀x∈ps,∃a b:Value,RelV (kV x.2.1) a/\RelV x.2.2 b/\s.heap.IsTuple x.1 #[a,b]:=λ x hx=>by
  obtain⟨ts,r2,p2,_⟩:=I.tuple (oh.of (hp x hx));obtain⟨a,b,rfl,ra,rb⟩:=r2.two;exact⟨a,b,ra,rb,p2⟩
 have pick:∃qs:List (Key×Value×Value),fN (λ (x:Addr×Key×V) (y:Key×Value×Value)=>y.1=x.2.1/\RelV (kV x.2.1) y.2.1/\RelV x.2.2 y.2.2/\s.heap.IsTuple x.1 #[y.2.1,y.2.2]) ps qs:=by
  clear rv hn e hl hz q hp ý
  induction ps with
  | nil=>exact⟨[],.nil⟩
  | cons x r ih=>
   obtain⟨a,b,h1,h2,h3⟩:=tup x (by simp);obtain⟨qs,hq⟩:=ih λ y hy=>tup y (az _ hy);exact⟨(x.2.1,a,b)::qs,.cons ⟨rfl,h1,h2,h3⟩ hq⟩
 obtain⟨qs,hq⟩:=pick;have ql:=hq.len
 have Sd:its.length=ps.length:=by
  rw [ae] at hn;exact hn.symm
 refine Af (knd:=gA X.prog X.w) (I.ok.hd hc) e qs (Sd.trans ql) (Zc (Zg ql) hz) (λ m p hm=> ?_) λ h' tk hD kp=> ?_
 .have lt:m<ps.length:=by
   rw [ql];exact(ag.mp hm).1
  obtain⟨e1,e2,e3,e4⟩:=hq.get (show ps[m]? = some ps[m] by simp) hm;refine⟨by rw [e1];exact uh e2,ps[m].1,?_,e4⟩;obtain⟨u,hu,ru⟩:=rv.get (show (ps.map λ x=>V.ref x.1)[m]? = some (.ref ps[m].1) by simp [lt]);rw [hu,show u=Value.ref ps[m].1 from ru]
 .have kv:KV (ps.map (·.2)) (qs.map λ p=>(p.1,p.2.2)):=by
   clear hD rv hn e hl hz q hp tup Sd ql ý
   induction hq with
   | nil=>exact .nil
   | cons h t ih=>exact .cons ⟨h.1.symm,h.2.2.1⟩ ih
  refine⟨.ref s.heap.objs.size,_,I.laid (a:=s.heap.objs.size) (o:=.dK (oH [] (ps.map (·.2)))) (t':=tk) kp (ay _) (CI ?_ (beq_eq_false_iff_ne.mpr (Ne.symm (aO I.big))) (kv.merge .nil) hD),rfl,q _ (I.gJ.fresh (ay _))⟩;have h1:=rP (ps.map (·.2)) [];rw [aV,ae] at h1;exact fW (by lia)
end
theorem vT:∀(more kvs:List (Key×V)),((kvs++more).map (·.1)).Nodup->oH kvs more=kvs++more
 | [],kvs,_=>by simp [oH]
 | p::r,kvs,h=>by
  have hp:putK kvs p.1 p.2=kvs ++ [p]:=by
   unfold putK;rw [if_neg];intro z;obtain⟨x,hx,e⟩:=cv.mp z;rw [av,bL] at h;exact h.2.2 x.1 (aE.mpr ⟨x,hx,rfl⟩) p.1 (by simp) (of_decide_eq_true e)
  show oH (putK kvs p.1 p.2) r=_;rw [hp,vT r (kvs ++ [p]) (by rwa [bH]),bH];rfl
theorem D_ (h:(kvs.map (·.1)).Nodup):oH [] kvs=kvs:=vT kvs [] h
theorem CD (X_:∀R:VK,R (.ref d) H->te σ H R) (hd:H d=some (.dK kvs)) (Pv:Nat->St->Hp->Prop) (h0:∀ob,Pv 0 σ (upd H d (.tH ob (.dK kvs))))
  (hs:∀(i:Nat) (k:Key) (σ:St) (H2:Hp) (N:St->Hp->Prop) (R:V->Hp->Prop) (B:St->Hp->Prop),(kvs.map (·.1))[i]? = some k->Pv i σ H2->Rd H2 d (.dK kvs)->(∃ob,H2 d=some (.tH ob (.dK kvs)))->(∀fT H',Pv (i+1) fT H'->H' d=H2 d->N fT H')->g (kV k) σ H2 λ lM H3=>tb ⟨N,R,B,N⟩ lM H3)
  (hx:∀fT H2,Pv kvs.length fT H2->(∃ob,H2 d=some (.tH ob (.dK kvs)))->D.nx fT (upd H2 d (.dK kvs))):KW X te g tb D σ H:=by
 refine X_ _ ⟨d,kvs,rfl,hd,λ ob nf=> ?_⟩;refine⟨λ i m σ H2=>m=kvs.length-i/\i<=kvs.length/\Pv i σ H2/\H2 d=some (.tH ob (.dK kvs)),⟨_,rfl,aP _,h0 ob,eX⟩,?_⟩;rintro i m σ H2 ⟨rfl,hi,p,f2⟩;by_cases iJ:i<kvs.length
 .refine .inr ⟨⟨iJ,f2⟩,λ fT H'=>Pv (i+1) fT H'/\H' d=some (.tH ob (.dK kvs)),λ fT H' p'=>⟨kvs.length-(i+1),T6 iJ,rfl,iJ,p'.1,p'.2⟩,λ x H3 y=> ?_⟩;obtain⟨rfl,UY⟩:=y;have hk:(kvs.map (·.1))[i]? = some kvs[i].1:=by simp [iJ]
  have ex:x=kV kvs[i].1:=by
   rw [ak,bA iJ] at UY;exact(Option.some.inj UY).symm
  rw [ex];exact hs i _ σ H3 _ _ _ hk p (.inr ⟨ob,f2⟩) ⟨ob,f2⟩ λ fT H' p' e=>⟨p',e.trans f2⟩
 .have e:i=kvs.length:=by exact Zq hi (Zi iJ)
  subst e;exact .inl ⟨⟨rfl,f2⟩,d,ob,kvs,nf,f2,hx σ H2 p ⟨ob,f2⟩⟩
section
variable {X:Cx}
end
section
variable {X:Cx} {tg:Expr}
end
section
variable {X:Cx}
theorem oj:∀{us:List Value} {ns:List Int},IntsAre us ns->Vals (ns.map V.int) us
 | _,_,.nil=>.nil
 | _,_,.cons _ _ h=>.cons ⟨_,rfl⟩ (oj h)
theorem xc (hc:X.calm=true):kg X (.builtin "sorted") (λ xs H Q=>∃(d:Addr) (kvs:List (Key×V)) (ns:List Int),xs = [.ref d]/\Rd H d (.dK kvs)/\kvs.map (·.1)=ns.map Sum.inl/\ns.length<64/\∀(l:Addr) (out:List Int),H l=none->out.Perm ns->out.Pairwise (·<=·)->Q (.ref l) (upd H l (.lst (out.map V.int)))):=by
 intro pins s σ H xs us Q I r h;obtain⟨d,kvs,ns,rfl,hd,hk,h64,q⟩:=h;obtain⟨u,rfl,ru⟩:=r.one
 cases ru;obtain⟨hz,R3,vs,rel,dd⟩:=pk I.gJ hd;obtain⟨ep,da⟩:=dd.dictAt;have hl:kvs.length=vs.length:=rel.length;refine Calls.call_function_entry kind_sorted plain_sorted entry_sorted (args_sorted1 _) ?_;unfold Builtin.«sorted»;refine wpAny_bind (m:=checkCount "sorted" 1 1 _) (wpAny_pure ?_);refine wpAny_bind (PySem.W.kdu_collect (PySem.W.kdl_dict R3) (I.ok.hd hc) da (Zc (Zg hl) hz) λ h' tk acc kp Ac=> ?_);have hlen:acc.toList.length=kvs.length:=by rw [bD,Ac.1,hl]
 have HQ:Vals (kvs.map λ kv=>kV kv.1) acc.toList:=by
  have key:∀(ks:List Key) (us:List Value),ks.length=us.length->(∀(j:Nat) (k:Key) (v:Value),ks[j]? = some k->us[j]? = some v->(gA X.prog X.w).is k v=true)->Vals (ks.map kV) us:=by
   intro ks
   induction ks with
   | nil=>
    intro us e _
    cases us with
    | nil=>exact .nil
    | cons _ _=>cases e
   | cons k ks ih=>
    intro us e h
    cases us with
    | nil=>cases e
    | cons u us=>exact .cons (xD (h 0 k u rfl rfl)) (ih us (by simpa using e) λ j k' v e1 e2=>h (j+1) k' v e1 e2)
  have:=key (kvs.map (·.1)) acc.toList (by rw [ae,hlen]) λ j k v e1 e2=>by
   obtain⟨k',x,e3,e4⟩:=Ac.2 j v (by rwa [<-bc]);rw [rel.keys,ak,e3] at e1
   cases e1;exact e4
  rw [aQ] at this;exact this
 have ek:(kvs.map λ kv=>kV kv.1)=ns.map V.int:=by
  have:=congrArg (List.map kV) hk;rw [aQ,aQ] at this;exact this
 rw [ek] at HQ;have ia:IntsAre acc.toList ns:=intsAre_of HQ
 have nl:ns.length=kvs.length:=by
  have:=congrArg List.length hk;rw [ae,ae] at this;exact this.symm
 generalize acc.toList=as at *;refine wpAny_bind (wpAny_newList ?_ (by rwa [hlen]));have R':(h'.push (seqObj "list" as.toArray 0)).get? h'.objs.size=some (seqObj "list" as.toArray 0):=aK _ rfl;refine wpAny_bind (wpAny_holding (wpAny_call_entry slot_list_sort ⟨_,R',rfl⟩ entry_list_sort (yd (R:=λ out=>∃z_,IntsAre out.toList z_/\z_.Perm ns/\z_.Pairwise (·<=·)) R' (by rwa [hlen]) (λ out ⟨z_,i1,i2,_⟩=> ?_) (λ iD=>⟨ns,ia,.refl _,?_⟩) (λ h2 z _=> ?_) λ out h2 c e XY g2=>⟨_,rfl,?_⟩) (args_list_sort _)))
 .have:=i1.length;rw [bD] at this;rw [this,i2.length_eq,<-ia.length]
 .have:=ia.length
  match ns,this with
  | [],_=>exact .nil
  | [x],_=>simp
  | x::y::r,h=>simp only [aF] at h;lia
 .have ps:(pairsOf as).size=as.length:=pairsOf_size as;refine⟨oneType',?_,?_⟩
  .match as,h2,ia with
   | v1::v2::r2,_,ia=>
    rw [keyKind_ints ia];exact wpAny_pure ⟨rfl,rfl⟩
  .refine wpS_sortRuns (a₀:=pairsOf as) ia.intKeys ⟨.refl _,rfl,rfl,rfl⟩ (by rwa [ps]) (by rwa [ps,ia.length]) λ C9 a1 a2 a3=>⟨a2,?_⟩
   obtain⟨z_,b1,b2,b3⟩:=sorted_out ia a1 a3;exact⟨z_,b1,b2,b3⟩
 .obtain⟨z_,i1,i2,i3⟩:=e;have I':=I.kept (t':=tk) kp;refine wpAny_pure ⟨_,rfl,.ref h'.objs.size,_,I'.laid (a:=h'.objs.size) (o:=.lst (z_.map V.int)) (t':=tk) (λ b u e=>XY b u (aO (aG e)) (ah _ e)) (ay _) ?_,rfl,q _ z_ (I'.gJ.fresh (ay _)) i2 i3⟩;refine⟨by rwa [ae,i2.length_eq,nl],out.toList,c,?_,by simpa using g2⟩;exact oj i1
end
section
variable {X:Cx}
variable {pos:Pos}
theorem zo:Bx (Qo X [] O1):=⟨Oh⟩
theorem lH (h1:Bx (PG X e t)) (h2:Bx (Qo X es u)) (hs:(assignEach (e::es) X.env).map (·.2)=assign e X.env::(assignEach es X.env).map (·.2):=by rfl):Bx (Qo X (e::es) (HW t u)):=⟨Lv h1.un h2.un hs⟩
theorem CP (hc:X.calm=true) (h:Bx (Qo X es t)) (hn:(assignEach es X.env).length=n:=by rfl) (pM:(assignEach es X.env).findIdx? (·.1)=none:=by rfl):Bx (PG X (.Tuple es k pos) (OZ X.K n t)):=⟨Q0 hc h.un hn pM⟩
end
theorem FA (K:aj) (h:X.K=K:=by rfl):tI X (compareOp .In) (Up K false):=h▸AD
theorem ng (K:aj) (h:X.K=K:=by rfl):kg X (.type "list") (λ xs H Q=>∃p ys,xs = [.ref p]/\(fZ K H p ys\/oh K H p ys)/\∀l,H l=none->Q (.ref l) (upd H l (.lst ys))):=h▸uy
structure EK where
 nm:List Nat
 wt:Int
 back:Bool
def Hj (s:EK):List V:= [.str (tx s.nm),.int s.wt,.bl s.back]
def Ea (w:Int) (sg:List Nat) (n:Int):Bool:=if sg = [60] then decide (w<n) else if sg = [62] then decide (w>n) else if sg = [61] then decide (w=n) else if sg = [33] then !decide (w=n) else true
def nU (m:jQ) (s:EK):Bool:=decide (s.back=m.back)&&(decide (m.nm = [95])||decide (m.nm=s.nm))&&Ea s.wt m.sg m.num
structure xP where
 iR:List jQ
 j8:List (List Int)
 ends:List Bool
structure pG (m:xP):Prop where
 lf:m.j8.length=m.iR.length+1
 le:m.ends.length=m.iR.length+1
 wQ:∀l∈m.j8,∀r∈l,1<=r/\r<=m.iR.length
 iD:m.iR.length<=24
 short:∀l∈m.j8,l.length<=100
def qE (H:Hp) (a:Addr) (ms:List jQ):Prop:=∃as:List Addr,H a=some (.lst (as.map V.ref))/\fN (λ x k=>H x=some (.tup (EW k))/\tj k) as ms
def BD (H:Hp) (a:Addr) (fs:List (List Int)):Prop:=∃as:List Addr,H a=some (.lst (as.map V.ref))/\fN (λ x l=>H x=some (.lst (l.map V.int))) as fs
def Tf (H:Hp) (a:Addr) (bs:List Bool):Prop:=H a=some (.lst (bs.map V.bl))
theorem qE.same {H H':Hp} {a:Addr} {ms:List jQ} (h:qE H a ms) (s:fh H H'):qE H' a ms:=by
 obtain⟨as,e,al⟩:=h;exact⟨as,s _ _ e,al.imp λ _ _ r=>⟨s _ _ r.1,r.2⟩⟩
theorem BD.same {H H':Hp} {a:Addr} {fs:List (List Int)} (h:BD H a fs) (s:fh H H'):BD H' a fs:=by
 obtain⟨as,e,al⟩:=h;exact⟨as,s _ _ e,al.imp λ _ _ r=>s _ _ r⟩
structure zG (H:Hp) (a:Addr) (m:xP):Prop where
 at_:∃x y z,H a=some (.tup [.ref x,.ref y,.ref z])/\qE H x m.iR/\BD H y m.j8/\Tf H z m.ends
theorem zG.same {H H':Hp} {a:Addr} {m:xP} (h:zG H a m) (s:fh H H'):zG H' a m:=by
 obtain⟨x,y,z,e,h1,h2,h3⟩:=h.at_;exact⟨x,y,z,s _ _ e,h1.same s,h2.same s,s _ _ h3⟩
def jB (m:xP) (r:Int):List Int:=(m.j8[r.toNat]?).getD []
def ZK (m:xP) (s:EK) (o:Int):Bool:=match m.iR[(o-1).toNat]? with|some k=>nU k s|none=>false
def Goes (m:xP) (s:EK) (r o:Int):Prop:=o∈jB m r/\ZK m s o=true
def m_ (m:xP) (r:Int):Bool:=(m.ends[r.toNat]?).getD false
theorem AV {m:xP} (ok:pG m) {r o:Int} (h:o∈jB m r):1<=o/\o<=m.iR.length:=by
 unfold jB at h
 cases q:m.j8[r.toNat]? with
 | none=>
  rw [q] at h
  cases h
 | some l=>
  rw [q] at h;exact ok.wQ l (ai q) o h
theorem qK {β:Type}:∀{as:List Addr} {bs:List β},as.length=bs.length->(as.zip bs).map (λ c=>V.ref c.1)=as.map V.ref
 | [],[],_=>rfl
 | [],_::_,h=>by cases h
 | _::_,[],h=>by cases h
 | a::as,b::bs,h=>by
  rw [List.zip_cons_cons,aD,aD,qK (by simpa using h)]
theorem gn {α:Type} {xs:List α} {i:Int} {v:α} (h0:0<=i) (h:xs[i.toNat]? = some v):xh xs i=some v:=by
 obtain⟨n,rfl⟩:=dD h0;exact qZ (by simpa using h)
theorem fN.at {α β:Type} {R:α->β->Prop} {as:List α} {bs:List β} {i:Nat} {b:β} (h:fN R as bs) (hb:bs[i]? = some b):∃a,as[i]? = some a/\R a b:=by
 have:i<as.length:=by
  rw [h.len];exact(ag.mp hb).1
 exact⟨as[i],by simp,h.get (by simp) hb⟩
theorem P0 {l:List Int} (nd:l.Nodup) (h:l.Pairwise (·<=·)):l.Pairwise (· < ·):=by
 induction l with
 | nil=>exact .nil
 | cons x r ih=>
  obtain⟨n1,n2⟩:=aY.mp nd;obtain⟨h1,h2⟩:=eh.mp h;refine eh.mpr ⟨λ y hy=> ?_,ih n2 h2⟩;have:=h1 y hy;have:x≠y:=λ z=>n1 (by rwa [z]);lia
theorem Ek (r:Int):∀l:List Int,RW (.int r) (l.map V.int)=decide (r∈l)
 | []=>by simp [RW]
 | x::l=>by
  have:=Ek r l;unfold RW at this⊢;rw [aD,cU,this];by_cases h:x=r
  .simp [xK,h]
  .have h':¬r=x:=λ z=>h z.symm;simp [xK,h,h']
theorem AW (l:List Int):(l.map V.int).all kb=true:=by
 induction l with
 | nil=>rfl
 | cons x r ih=>rw [aD,cV,ih];rfl
theorem Lj {K:aj} {H:Hp} {a:Addr} {l:List Int} {r:Int} {neg:Bool} {Q:VK} (ha:fZ K H a (l.map V.int)) (q:Q (.bl (if neg then !decide (r∈l) else decide (r∈l))) H):Up K neg (.int r) (.ref a) H Q:=
 ⟨a,_,rfl,.inl ha,rfl,AW l,by rwa [Ek]⟩
theorem fN.take {α β:Type} {R:α->β->Prop}:∀{as:List α} {bs:List β} (n:Nat),fN R as bs->fN R (as.take n) (bs.take n)
 | _,_,0,_=>.nil
 | _,_,_+1,.nil=>.nil
 | _,_,n+1,.cons r t=>.cons r (t.take n)
def Ny (n:Nat) (d:PyData):Prop:=d.canLay0=true/\d.depth<=n
def G4 (n:Nat) (ds:List PyData):Prop:=PyData.canLayAll0 ds=true/\PyData.depthAll ds<=n
theorem uj:∀{ds:List PyData},(∀d∈ds,Ny n d)->G4 n ds
 | [],_=>⟨rfl,aP _⟩
 | d::ds,h=>by
  have h1:=h d (by simp);have h2:=uj (n:=n) (ds:=ds) λ x hx=>h x (az _ hx);refine⟨by rw [PyData.canLayAll0,h1.1,h2.1];rfl,?_⟩;rw [PyData.depthAll];exact Nat.max_le.mpr ⟨h1.2,h2.2⟩
theorem Er (h:G4 n ds):Ny (n+1) (.list ds):=⟨by rw [PyData.canLay0];exact h.1,by rw [PyData.depth];have:=h.2;exact Zp this⟩
theorem HX (h:G4 n ds):Ny (n+1) (.tuple ds):=⟨by rw [PyData.canLay0];exact h.1,by rw [PyData.depth];have:=h.2;exact Zp this⟩
theorem O3 (i:Int):Ny 0 (.int i):=⟨rfl,ay _⟩
theorem MA (b:Bool):Ny 0 (.bool b):=⟨rfl,ay _⟩
theorem HY (h:LU l):Ny 0 (.str (tx l)):=⟨by rw [PyData.canLay0];exact KZ h,ay _⟩
theorem Ny.shaped (h:Ny n d) (l:n<=64):SeqAt.shaped d=true:=by
 unfold SeqAt.shaped;rw [bg,decide_eq_true_eq];exact⟨h.1,bj h.2 l⟩
theorem Et {α:Type} {K:aj} {H:Hp} {f:α->PyData} {R:Addr->α->Prop} (hR:∀a x,R a x->tE K H (.ref a) (f x)):∀{as:List Addr} {xs:List α},fN R as xs->pH K H (as.map V.ref) (xs.map f)
 | _,_,.nil=>.nil
 | _,_,.cons r t=>.cons (hR _ _ r) (Et hR t)
theorem Ey (ns:List Int) (lo hi:Option Int):∃cs:List Int,uw (ns.map V.int) lo hi=cs.map V.int/\cs.length<=ns.length:=by
 unfold uw;refine⟨(ns.drop (HT.jH (ns.map V.int).length 0 lo)).take (HT.jH (ns.map V.int).length (ns.map V.int).length hi-HT.jH (ns.map V.int).length 0 lo),by rw [List.map_take,List.map_drop],?_⟩;rw [aT,eJ];exact Qao
theorem vA (ns:List Int) (hi:Int) (h0:0<=hi):uw (ns.map V.int) none (some hi)=(ns.take hi.toNat).map V.int:=by
 obtain⟨k,rfl⟩:=dD h0;unfold uw;rw [HT.Lb,HT.NX,List.drop_zero,Nat.sub_zero,ae,au,List.map_take];have:=(List.take_eq_take_min (l:=ns.map V.int) (i:=k)).symm;rw [ae] at this;exact this
def kh (js:List Int) (sz at_ dl:Int) (short:Prop) [Decidable short] (i:Nat):Nm:=
 (if short then js.take (i+1) else (js.take sz.toNat).set at_.toNat ((js.getD at_.toNat 0+(i:Int)*dl)%26)).map uc
theorem Fd {sz at_ dl:Int} {short:Prop} [Decidable short] {i:Nat} (XX:js.length=12) (z1:1<=sz) (z2:sz<=12) (hi:i<12):1<=(kh js sz at_ dl short i).length/\(kh js sz at_ dl short i).length<=12/\∀x∈kh js sz at_ dl short i,x∈EE:=by
 refine⟨?_,?_,Di _⟩
 .unfold kh;rw [ae]
  split
  .rw [aT];lia
  .rw [bS,aT];lia
 .unfold kh;rw [ae]
  split
  .rw [aT];lia
  .rw [bS,aT];exact Qas XX
theorem KP {sz at_ dl:Int} {short:Prop} [Decidable short] {i j:Nat} (XX:js.length=12) (z1:1<=sz) (z2:sz<=12) (a0:0<=at_) (a1:at_<sz) (d0:dl=1\/dl=2) (hi:i<12) (hj:j<12) (h:kh js sz at_ dl short i=kh js sz at_ dl short j):i=j:=by
 unfold kh at h;by_cases s:short
 .rw [if_pos s,if_pos s] at h;have:=congrArg List.length h;rw [ae,ae,aT,aT] at this;lia
 .rw [if_neg s,if_neg s] at h;have al:at_.toNat<(js.take sz.toNat).length:=by rw [aT];lia
  have:=congrArg (λ l=>l[at_.toNat]?) h;simp only [ak,bQ al,Option.map_some,Option.some.injEq] at this;have e:=Ma this;generalize js.getD at_.toNat 0=x at e;rcases d0 with rfl|rfl<;>lia
theorem IM {sz at_ dl:Int} {short:Prop} [Decidable short] (XX:js.length=12) (z1:1<=sz) (z2:sz<=12) (a0:0<=at_) (a1:at_<sz) (d0:dl=1\/dl=2) {n:Nat} (hn:n<=12):((List.range n).map (kh js sz at_ dl short)).Nodup:=by
 rw [List.nodup_iff_pairwise_ne,List.pairwise_map];have p:=dH (n:=n);refine List.Pairwise.imp_of_mem (λ {x y} hx hy lt e=> ?_) p;have:=KP XX z1 z2 a0 a1 d0 (by have:=aU.mp hx;exact Za this hn) (by have:=aU.mp hy;exact Za this hn) e;exact Zf lt (Zg this)
theorem Im {P G:Prop} (k:P->G) (h:P):G:=k h
theorem DE:L2.plain (rs.filter λ x=>decide (x.1≠n))=(L2.plain rs).filter λ x=>decide (x.1≠n):=by
 unfold L2.plain;rw [eT];rfl
theorem AM (rs:List (Int×Addr×ni)):((fR rs).map λ kv=>kV kv.1)=(rs.map (·.1)).map V.int:=by
 unfold fR;rw [aQ,aQ];rfl
def BN (td ty tx:TE):TE:=λ σ H Q=>td σ H λ x H1=>∃a,x = .ref a/\WU H1 a/\ty σ H1 λ y H2=>tx σ H2 λ z H3=>∃kvs k,H3 a=some (.dK kvs)/\y=kV k/\kvs.length<sizeLine/\
 (∀v,gT kvs k=some v->Q v H3)/\(gT kvs k=none->Q z (upd H3 a (.dK (putK kvs k z))))
section
variable {X:Cx} {o e f:Expr} {apos gM:Pos} {td ty tx:TE}
theorem LF (ho:PE X o td) (he:PE X e ty) (hf:PE X f tx) (m:M2 X o "setdefault" apos e f gM):PE X (.Call (.Attribute o "setdefault" apos) [e,f] [] gM) (BN td ty tx):=by
 intro pins s σ H Q I h;refine wpAny_Call_method m.base m.iD m.line cE eQ PySem.F.type_dict_setdefault (gU (ho pins s σ H _ I h) λ u s1 zq=> ?_);obtain⟨x,H1,I1,rx,a,ex,d,q1⟩:=zq;subst ex;obtain rfl:u=Value.ref a:=rx;obtain⟨t1,t2,_⟩:=yN I1 d;refine⟨t1,t2,?_⟩;rw [m.trees]
 refine Calls.callWith_builtin rfl (Calls.evalArgs_plain (Calls.spliced_cons (gU (he pins s1 σ H1 _ I1 q1) λ iv s2 ⟨y,H2,I2,ry,q2⟩=>
  Calls.spliced_cons (gU (hf pins s2 σ H2 _ I2 q2) λ fv s3 ⟨z,H3,I3,rz,kvs,k,ea,ey,lt,q3,q4⟩=>Calls.spliced_nil ?_))))
 subst ey;obtain⟨hz,hd,vs,rel,dd⟩:=MJ I3.gJ ea;refine call_meetsIn eQ dd.typeIs PySem.F.entry_dict_setdefault (PySem.F.args_dict_setdefault_3 _ _ _) (PySem.kt_meets_setdefault (gA X.prog X.w) a (uh ry) hd fv) ⟨vs,dd,by rwa [<-rel.length],λ v hv=> ?_,λ hn h' Kt hs=> ?_⟩
 .have rv:=rel.val k;rw [hv] at rv
  cases e:gT kvs k with
  | none=>rw [e] at rv;exact absurd rv id
  | some v'=>
   rw [e] at rv;exact⟨v',H3,I3.tok _,rv,q3 v' e⟩
 .have rv:=rel.val k;rw [hn] at rv
  cases e:gT kvs k with
  | some v'=>rw [e] at rv;exact absurd rv id
  | none=>
   have hl:(putK kvs k z).length<=sizeLine:=by have:=mB kvs k z;exact Zc this lt
   have he':∃q,h'.get? a=some q:=let ⟨q,_,_,hq,_⟩:=Kt;⟨q,hq⟩;exact⟨z,_,uo I3 (by rw [ea];exact True.intro) hs he' (CI hl hd (rel.put k rz) Kt),rz,q4 e⟩
theorem Bg (ho:Bx (PE X o td)) (he:Bx (PE X e ty)) (hf:Bx (PE X f tx)) (m:M2 X o (Str.ofString "setdefault") apos e f gM:=by exact⟨rfl,rfl,rfl,rfl⟩):Bx (PE X (.Call (.Attribute o (Str.ofString "setdefault") apos) [e,f] [] gM) (BN td ty tx)):=⟨LF ho.un he.un hf.un m⟩
theorem Kd (hu:X.A.units+1<cLine) (ho:Bx (PE X o td)) (he:Bx (PE X e ty)) (hf:Bx (PE X f tx)) (m:M2 X o (Str.ofString "get") apos e f gM:=by exact⟨rfl,rfl,rfl,rfl⟩):Bx (PE X (.Call (.Attribute o (Str.ofString "get") apos) [e,f] [] gM) (BQ td ty tx)):=⟨LK hu ho.un he.un hf.un m⟩
end
section
variable {X:Cx} {pins:List (Addr×Obj)} {σ:St} {H:Hp} {s:Shared} {h':Heap}
theorem Inv.NG (I:Inv X pins σ H s) (k:∀b o,b≠e->b≠it->s.heap.get? b=some o->h'.get? b=some o) (f1:rC X pins H e) (f2:rC X pins H it):Inv X pins σ H {s with heap:=h',toks:=t'}:=by
 have off:∀b u,H b=some u->b≠e/\b≠it:=λ b u q=>⟨λ z=>(by rw [z,f1.1] at q;cases q),λ z=>(by rw [z,f2.1] at q;cases q)⟩
 have nc:∀b,b∉[e,it]->b≠e/\b≠it:=λ b hc=>⟨λ z=>hc (by simp [z]),λ z=>hc (by simp [z])⟩
 refine I.step (g':=s.gens) (d':=s.drawn) (ch:= [e,it]) (λ b hb=> ?_) (λ b o _ _ hc q _=>k b o (nc b hc).1 (nc b hc).2 q) (λ b o _ _ hc q _=>⟨o.slots,k b o (nc b hc).1 (nc b hc).2 q⟩) (λ _ _ _ _ n=>n)
  (λ b o hc q=>⟨o,k b o (nc b hc).1 (nc b hc).2 q⟩) (λ _ _ q=>q) (λ _ _ _ q=>q) (λ b ps q=>⟨#[],by rw [q];simp⟩) (λ m hm=> ?_) (λ b u q=> ?_) I.bare
 .rcases aA.mp hb with z|z
  .subst z;exact⟨f1.2.2.2.1,f1.2.1,f1.2.2.2.2.1,f1.2.2.2.2.2⟩
  .obtain rfl:=ao.mp z;exact⟨f2.2.2.2.1,f2.2.1,f2.2.2.2.2.1,f2.2.2.2.2.2⟩
 .obtain⟨o,es,ep,ho,r⟩:=hm;exact⟨o,es,ep,k _ o (Ne.symm f1.2.1) (Ne.symm f2.2.1) ho,r⟩
 .refine(I.gJ b u q).tM (λ c v hc w=> ?_) (λ _ w=>w) λ _ _ w=>w;rcases hc with z|z
  .subst z;exact k c v (off _ u q).1 (off _ u q).2 w
  .exact k c v (off c _ z).1 (off c _ z).2 w
end
def VQ (K:aj) (a:Addr) (xs:List V):It:=⟨λ i H=>i<xs.length/\fZ K H a xs,λ i H x H'=>∃p y,H p=none/\x = .ref p/\xs[i]? = some y/\H'=upd H p (.tup [.int i,y]),λ i H=>i=xs.length/\fZ K H a xs⟩
theorem II {P:Program} {w:World} {K:aj} {elts:List Expr} {x1:Nat} {pos:Pos} (a e it:Addr) (xs:List V) (Wm:e≠it):Turn P w K (.Tuple elts x1 pos) (VQ K a xs) [e,it] e (λ i h=>(∃old,IsEnum h e it i old)/\h.IsListIter it a i) where
 mem:=by simp
 obj:=λ i h st b hb=>by
  obtain⟨⟨old,s1⟩,o,s2,c,d⟩:=st;rcases aA.mp hb with z|z
  .subst z;exact⟨_,s1,λ v z=>by cases z⟩
  .obtain rfl:=ao.mp z;exact⟨o,s2,λ v z=>by rw [d] at z;cases z⟩
 keep:=λ i h h' st k=>⟨let ⟨old,s1⟩:=st.1;⟨old,k e (by simp) _ s1⟩,st.2.at λ o q=>k it (by simp) o q⟩
 item:=by
  intro X hP hw hK hc i pins s σ H E I hf st hg;subst hP hw hK;obtain⟨iJ,hq⟩:=hg;obtain⟨its,rv,p,hz⟩:=I.list hq;have hl:=rv.length;have hx:xs[i]? = some (xs[i]'iJ):=by simp
  obtain⟨u,hu,ru⟩:=rv.get hx;have f1:=hf e (by simp);have f2:=hf it (by simp);obtain⟨⟨old,se⟩,si⟩:=st;refine wpAny_pyNext_enum_item se si p.isList (x:=u) (by simpa using hu) Wm λ h1 eo i1 t1 z1 k1=>⟨_,rfl,?_⟩
  refine wpAny_letOwnedTupleGo_enum eo λ h2 e2 sb=> ?_;have Nx:h2.get? e=_:=e2;have elt:e<s.heap.objs.size:=aG se;have ú:it<s.heap.objs.size:=let ⟨o,ho,_⟩:=si;aG ho;have Xd:Heap.SameBut e h1 h2:=sb;have t2:h2.get? s.heap.objs.size=some {cls:=.type "tuple",data:=.seq #[.int i s.toks,u]}:=(Xd.2 _ (dc elt)).trans t1;have fr:H s.heap.objs.size=none:=I.gJ.fresh (ay _)
  have I1:=I.laid (a:=s.heap.objs.size) (h':=s.heap.push {cls:=.type "tuple",data:=.seq #[.int i s.toks,u]}) (t':=s.toks+1) (o:=.tup [.int i,xs[i]'iJ]) (λ b o q=>ah _ q) (ay _)
   ⟨by show 2<=sizeLine;decide,[.int i s.toks,u],.cons ⟨s.toks,rfl⟩ (.cons ru .nil),_,aK _ rfl,rfl,0,rfl⟩
  have g:∀b,b<s.heap.objs.size->rC X pins H b->rC X pins (upd H s.heap.objs.size (.tup [.int i,xs[i]'iJ])) b:=λ b hb f=>⟨by rw [e_ (aO hb)];exact f.1,f.2⟩
  have I2:=I1.NG (h':=h2) (t':=s.toks+1) (e:=e) (it:=it) (λ b o b1 b2 q=> ?_) (g e elt f1) (g it ú f2)
  .refine⟨.ref s.heap.objs.size,_,I2,rfl,⟨_,_,fr,rfl,hx,rfl⟩,⟨⟨u,by simpa using e2⟩,?_⟩,λ b hb=> ?_⟩
   .exact i1.at λ o q=>(Xd.2 it (Ne.symm Wm)).trans q
   .have xI:b<s.heap.objs.size:=by
     rcases aA.mp hb with z|z
     .rwa [z]
     .rwa [ao.mp z]
    rw [e_ (aO xI)];exact(hf b hb).1
  .rcases Heap.get?_push_cases q with ⟨rfl,rfl⟩|q
   .exact t2
   .exact(Xd.2 b b1).trans (k1 b o b1 b2 q)
 done:=by
  intro X hP hw hK hc i pins s σ H E I hf st hg;subst hP hw hK;obtain⟨rfl,hq⟩:=hg;obtain⟨its,rv,p,hz⟩:=I.list hq;have hl:=rv.length;obtain⟨f0,f1,f2,f3,f4,f5⟩:=hf it (by simp);obtain⟨⟨old,se⟩,si⟩:=st;exact wpAny_pyNext_enum_end (I.ok.hd hc) se si p.isList (by simp [hl]) λ h' eb=>⟨rfl,I.turned (t':=s.toks) (λ b o hb q=>eb b o hb q) f0 f1 f3 f4 f5⟩
 self:=λ _ _ _ _ _ st h=>by
  obtain⟨⟨old,se⟩,si⟩:=st;exact wpAny_pyIter_enum se h
def P7 (K:aj) (ta:TA):TI:=λ σ H R=>ta σ H λ vs H1=>∃a xs,vs = [.ref a]/\fZ K H1 a xs/\R (VQ K a xs) H1
section
variable {X:Cx} {elts:List Expr} {x1:Nat} {NH:Pos}
theorem Of {a:Expr} {ta:TA} {p pos:Pos} (hg:Gl X "enumerate") (hm:X.mg "enumerate" = none) (ha:PA X [a] ta) (hs:starEach [a] X.env = [(false,eval a X.env)]:=by rfl):PI X (.Tuple elts x1 NH) (.Call (.Name "enumerate" p) [a] [] pos) (P7 X.K ta):=by
 intro pins s σ H R I h;refine Call_ (kT I hg hm boot_enumerate (bq (gU (ha pos pins s σ H _ I h) λ us s1 zq=> ?_) hs rfl));obtain⟨vs,H1,I1,r1,q1⟩:=zq;obtain⟨b,xs,rfl,hq,q⟩:=q1;obtain⟨u,rfl,ru⟩:=r1.one
 cases ru;obtain⟨its,rv,pl,hz⟩:=I1.list hq;refine call_enumerate_list pl.isList λ h' he hi hsz kp=> ?_;refine wpAny_pyIter_enum he ?_;refine⟨s1.heap.objs.size+1,[s1.heap.objs.size+1,s1.heap.objs.size],_,_,H1,rfl,I1.kept (t':=s1.toks) kp,II b _ _ xs (Nat.succ_ne_self _),⟨⟨_,he⟩,hi⟩,λ c hb=> ?_,q⟩;rcases aA.mp hb with z|z
 .rw [z];exact I1.Ae (cf _) (I1.gJ.fresh (cf _))
 .rw [ao.mp z];exact I1.Ae (ay _) (I1.gJ.fresh (ay _))
theorem MX (hg:Gl X "enumerate") (hm:X.mg "enumerate" = none) (ha:Bx (PA X [a] ta)) (hs:starEach [a] X.env = [(false,eval a X.env)]:=by rfl):Bx (PI X (.Tuple elts x1 NH) (.Call (.Name "enumerate" p) [a] [] pos) (P7 X.K ta)):=⟨Of hg hm ha.un hs⟩
end
theorem Mx {K:aj} {a:Addr} {xs:List V} {g:TG} {tb:TS} {D:Ends} {σ:St} {H:Hp} (Pv:Nat->St->Hp->Prop) (h0:Pv 0 σ H) (hl:∀i σ H,i<=xs.length->Pv i σ H->fZ K H a xs)
  (hs:∀(i:Nat) y p σ H,xs[i]? = some y->H p=none->Pv i σ H->g (.ref p) σ (upd H p (.tup [.int i,y])) λ lM H2=>tb {D with nx:=Pv (i+1),ct:=Pv (i+1),bk:=D.nx} lM H2) (hd:∀σ H,Pv xs.length σ H->D.nx σ H) :
  ∃W:Nat->Nat->St->Hp->Prop,(∃m,W 0 m σ H)/\∀i m σ H,W i m σ H->
   ((VQ K a xs).stop i H/\D.nx σ H)\/((VQ K a xs).go i H/\∃N:St->Hp->Prop,(∀fT H',N fT H'->∃m',m'<m/\W (i+1) m' fT H')/\∀x H',(VQ K a xs).BE i H x H'->g x σ H' λ lM H2=>tb {D with nx:=N,ct:=N,bk:=D.nx} lM H2):=by
 refine⟨λ i m σ H=>m=xs.length-i/\i<=xs.length/\Pv i σ H,⟨xs.length,by simp,aP _,h0⟩,?_⟩;rintro i m σ H ⟨rfl,hi,p⟩;have q:=hl i σ H hi p;by_cases iJ:i<xs.length
 .refine .inr ⟨⟨iJ,q⟩,Pv (i+1),λ fT H' p'=>⟨xs.length-(i+1),T6 iJ,rfl,iJ,p'⟩,?_⟩;rintro x H' ⟨b,y,hb,rfl,hy,rfl⟩;exact hs i y b σ H hy hb p
 .have e:i=xs.length:=by exact Zq hi (Zi iJ)
  subst e;exact .inl ⟨⟨rfl,q⟩,hd σ H p⟩
def BL (to:TE):TE:=λ σ H Q=>to σ H λ x H1=>∃(d:Addr) (m:List (Nm×Int)),x = .ref d/\Rd H1 d (.dK (gz m))/\
 ∀(l:Addr) (as:List Addr) (H2:Hp),H1 l=none->as.length=m.length->fh H1 H2->H2 l=some (.lst (as.map V.ref))->(∀a∈as,H1 a=none/\a≠l)->
  (∀(i:Nat) (a:Addr) (y:Nm×Int),as[i]? = some a->m[i]? = some y->H2 a=some (.tup [.str (tx y.1),.int y.2]))->Q (.ref l) H2
section
variable {X:Cx}
theorem LC (hc:X.calm=true) (hg:Gl X "list") (hm:X.mg "list" = none) (ho:PE X o to)
  (nS:attributeBase o "items" X.env (eval o X.env)=eval o X.env:=by rfl) (nR:(apos.endLine==gM.line)=true:=by rfl)
  (he:starEach [.Call (.Attribute o "items" apos) [] [] gM] X.env = [(false,eval (.Call (.Attribute o "items" apos) [] [] gM) X.env)]:=by rfl) :
  PE X (.Call (.Name "list" p) [.Call (.Attribute o "items" apos) [] [] gM] [] pos) (BL to):=by
 intro pins s σ H Q I h;refine Call_ (kT I hg hm boot_list (bq ?_ he rfl));rw [he];refine Calls.spliced_cons (wpAny_Call_method0_late nS nR (gU (ho pins s σ H _ I h) λ v s1 zq=> ?_));obtain⟨x,H1,I1,r1,d,m,ex,hd,q⟩:=zq;subst ex;obtain rfl:v=Value.ref d:=r1;obtain⟨hz,R3,vs,rel,dd⟩:=pk I1.gJ hd;refine⟨"dict","dict.items",cE,PySem.F.slot_dict_items,PySem.F.type_dict_items,(yN I1 (.inl ⟨_,hd⟩)).1,(yN I1 (.inl ⟨_,hd⟩)).2.1,Calls.callWith_builtin rfl (PySem.evalArgs_none ?_)⟩;refine call_meetsIn PySem.F.slot_dict_items dd.typeIs PySem.F.entry_dict_items (PySem.F.args_dict_items_1 _) (meets_dict_items (gA X.prog X.w) d R3) ⟨⟨vs,dd⟩,Calls.spliced_nil ?_⟩;have kp1:∀b u,s1.heap.get? b=some u->(s1.heap.push {cls:=.type "dict_items",data:=.fields #[.ref d]}).get? b=some u:=λ b u e=>ah _ e;have hv:(s1.heap.push {cls:=.type "dict_items",data:=.fields #[.ref d]}).IsItemsView s1.heap.objs.size d:=⟨_,aK _ rfl,rfl,rfl⟩
 have I2:=I1.kept (t':=s1.toks) kp1;obtain⟨_,_,ŷ,Um,dd2⟩:=pk I2.gJ hd;obtain⟨ep,da⟩:=dd2.dictAt;have hl:(gz m).length=ŷ.length:=Um.length
 have OQ:(gz m).length=m.length:=by
  unfold gz;rw [ae]
 refine PySem.W.kdx_call (knd:=gA X.prog X.w) (I.ok.hd hc) hv da (Zc (Zg hl) hz) λ h' tk acc c as kp gl aaf hG Ac=> ?_;have iU:as.length=m.length:=by exact Zq (Zc (Ze aaf) (Zc (Zg hl) (Ze OQ))) (Zc (Zg OQ) (Zc (Ze hl) (Zg aaf)))
 have VG:as.Nodup:=hG.rise.imp λ h=>aO h;generalize hn:(s1.heap.push {cls:=.type "dict_items",data:=.fields #[.ref d]})=hB at *
 have hp:∀(i:Nat) (a:Addr) (y:Nm×Int),as[i]? = some a->m[i]? = some y->∃t u,h'.get? a=some (Hz y t u):=by
  intro i a y ha hy;obtain⟨key,kk,x,e1,e2,e3⟩:=hG.pairs i a ha;obtain⟨e4,rv⟩:=US Um (i:=i) (p:=(.inr (tx y.1),.int y.2)) (by unfold gz;rw [ak,hy];rfl) e1;dsimp only at e4 rv;rw [<-e4] at e2;obtain⟨t,rfl⟩:=xD e2;obtain⟨u,rfl⟩:=rv;exact⟨t,u,e3⟩
 have Ğ:H1 hB.objs.size=none:=I2.gJ.fresh (ay _);have ZG:∀a∈as,H1 a=none/\a≠hB.objs.size:=λ a ha=>⟨I2.gJ.fresh (dF (hG.above a ha)),dc (hG.above a ha)⟩
 have ext:∀b,b<hB.objs.size->upd (yF H1 as m) hB.objs.size (.lst (as.map V.ref)) b=H1 b:=λ b hb=>by
  rw [e_ (aO hb),ud as m λ z=>Nat.lt_asymm hb (hG.above b z)]
 have vals:∀l:List Addr,Vals (l.map V.ref) (l.map Value.ref):=by
  intro l
  induction l with
  | nil=>exact .nil
  | cons i l ih=>exact .cons rfl ih
 have I4:=I2.XU (t':=tk) (H':=upd (yF H1 as m) hB.objs.size (.lst (as.map V.ref))) kp ext λ a o e hsz=> ?_
 .refine⟨.ref hB.objs.size,_,I4,rfl,q _ as _ Ğ iU (λ b o e=> ?_) eX ZG λ i a y ha hy=> ?_⟩
  .rw [e_ (fq e Ğ),ud as m λ z=>by rw [(ZG b z).1] at e;cases e];exact e
  .rw [e_ (ZG a (ai ha)).2];exact Cp as m i a y VG ha hy
 .by_cases ha:a=hB.objs.size
  .subst ha;rw [eX] at e
   cases e;refine⟨by rwa [ae,iU,<-OQ],acc.toList,c,by rw [Ac];exact vals as,gl⟩
  .rw [e_ ha] at e;by_cases hm:a∈as
   .obtain⟨i,y,hi,hy,rfl⟩:=JB as m iU VG hm e;obtain⟨t,u,ho⟩:=hp i a y hi hy;exact⟨by show 2<=sizeLine;decide,[.str (tx y.1) t,.int y.2 u],.cons ⟨t,rfl⟩ (.cons ⟨u,rfl⟩ .nil),Hz y t u,ho,rfl,0,rfl⟩
   .rw [ud as m hm,I2.gJ.fresh hsz] at e
    cases e
theorem Kb (hc:X.calm=true) (hg:Gl X "list") (hm:X.mg "list" = none) (ho:Bx (PE X o to))
  (nS:attributeBase o (Str.ofString "items") X.env (eval o X.env)=eval o X.env:=by rfl) (nR:(apos.endLine==gM.line)=true:=by rfl)
  (he:starEach [.Call (.Attribute o (Str.ofString "items") apos) [] [] gM] X.env = [(false,eval (.Call (.Attribute o (Str.ofString "items") apos) [] [] gM) X.env)]:=by rfl) :
  Bx (PE X (.Call (.Name (Str.ofString "list") p) [.Call (.Attribute o (Str.ofString "items") apos) [] [] gM] [] pos) (BL to)):=⟨LC hc hg hm ho.un nS nR he⟩
end
def BM (tk tv:TE):TE:=λ σ H Q=>∀p,H p=none->tk σ (upd H p (.dT [])) λ y H1=>tv σ H1 λ z H2=>H2 p=some (.dT [])/\∃b k,y = .ref b/\H2 b=some (.tup (k.map kV))/\Q (.ref p) (upd H2 p (.dT (putK [] k z)))
section
variable {X:Cx}
theorem LI (hu:X.A.units+1<cLine) (hk:PE X k tk) (hv:PE X v tv):PE X (.Dict [some k] [v] pos) (BM tk tv):=by
 intro pins s σ H Q I q;have hn:=I.gJ.fresh (ay s.heap.objs.size);have I1:=I.laid (a:=s.heap.objs.size) (o:=.dT []) (h':=s.heap.push {cls:=.type "dict",data:=.dict #[]}) (t':=s.toks) (λ _ _ q=>ah _ q) (ay _) (MH s.heap I.big);refine wpAny_Dict_any rfl rfl (by simp) (by simp) (pairTrees_cons_walk (gU (hk pins _ σ _ _ I1 (q _ hn)) λ kv s1 ⟨y,H1,I2,ry,q1⟩=>gU (hv pins s1 σ H1 _ I2 q1) λ vv s2 ⟨z,H2,I3,rz,e,b,ks,ey,eb,q2⟩=>pairTrees_nil_walk ?_));subst ey
 cases (show kv=Value.ref b from ry);unfold storeAll;rw [List.forIn_cons];obtain⟨hz,hd,xs,rel,dd⟩:=Qi I3.gJ e;have hx:xs.length<=sizeLine:=by rwa [<-Paired.length rel]
 refine wpAny_bind (wpAny_bind (wpAny_dictSet_heap (hsz:=hx) (knd:=tupleKind (gA X.prog X.w)) (by show X.A.units<cLine;exact Zb Zk hu) (sQ I3.gJ eb) dd λ h' Kt hs=>wpAny_pure ?_));show wpAny _ _ (forIn [] PUnit.unit _) _ _ _;rw [List.forIn_nil];refine wpAny_pure ?_;obtain⟨o,es,ep,hq,h2,h3,h4,_,h5⟩:=Kt;refine⟨.ref s.heap.objs.size,_,uo (ob:=.dT (putK [] ks z)) I3 (by rw [e];exact True.intro) hs ⟨o,hq⟩ ⟨?_,hd,_,(rel.put ks eb rz).keeps λ c ys ec=> ?_,o,es,ep,hq,h2,h3,h4,h5⟩,rfl,q2⟩
 .show 1<=sizeLine
  decide
 .rwa [e_ (gN ec e (λ z=>nomatch z))]
theorem Kc (hu:X.A.units+1<cLine) (hk:Bx (PE X k tk)) (hv:Bx (PE X v tv)):Bx (PE X (.Dict [some k] [v] pos) (BM tk tv)):=⟨LI hu hk.un hv.un⟩
end
def j_ (t:ni) (b:Bool):Nm:=if b=true then t.stop else t.start
def i7 (t:ni) (b:Bool):Nm:=if b=true then t.start else t.stop
structure xn (H0 H:Hp) (d:Addr) (n m:Nat) (good:Nm->Int->Nm->Prop) (kvs:List (Key×V)):Prop where
 at_:H d=some (.dK kvs)
 len:kvs.length<=n
 nd:(kvs.map (·.2)).Nodup
 row:∀p∈kvs,∃k l ys,p=(.inr (tx k),.ref l)/\H0 l=none/\H l=some (.lst ys)/\ys.length<=m/\∀y∈ys,∃b num to,y = .ref b/\H b=some (.tup [.int num,.str (tx to)])/\good k num to
section
variable {H0 H H':Hp} {d:Addr} {n m n' m':Nat} {good:Nm->Int->Nm->Prop} {kvs:List (Key×V)}
theorem xn.same (g:xn H0 H d n m good kvs) (s:fh H H'):xn H0 H' d n m good kvs:=
 ⟨s _ _ g.at_,g.len,g.nd,λ p hp=>let ⟨k,l,ys,e,f,h,z,r⟩:=g.row p hp;⟨k,l,ys,e,f,s _ _ h,z,λ y hy=>let ⟨b,num,to,e1,e2,e3⟩:=r y hy;⟨b,num,to,e1,s _ _ e2,e3⟩⟩⟩
theorem xn.weak (g:xn H0 H d n m good kvs) (hn:n<=n') (hm:m<=m'):xn H0 H d n' m' good kvs:=
 ⟨g.at_,bj g.len hn,g.nd,λ p hp=>let ⟨k,l,ys,e,f,h,z,r⟩:=g.row p hp;⟨k,l,ys,e,f,h,bj z hm,r⟩⟩
theorem nC {κ:Type} [DecidableEq κ] {k:κ} {v:V}:∀{kvs:List (κ×V)},gT kvs k=some v->(k,v)∈kvs
 | [],h=>by rw [KN] at h;cases h
 | p::r,h=>by
  by_cases e:p.1=k
  .rw [iu e] at h
   cases h;rw [<-e];exact aZ
  .rw [iw e] at h;exact az _ (nC h)
theorem yA {α β:Type} {f:α->β}:∀{l:List α},(l.map f).Nodup->∀{x y:α},x∈l->y∈l->f x=f y->x=y
 | [],_,_,_,h,_,_=>nomatch h
 | a::l,hn,x,y,hx,hy,e=>by
  rw [aD] at hn;obtain⟨h1,h2⟩:=aY.mp hn;rcases aA.mp hx with ex|hx
  .rcases aA.mp hy with ey|hy
   .rw [ex,ey]
   .rw [ex] at e;exact absurd (aE.mpr ⟨y,hy,e.symm⟩) h1
  .rcases aA.mp hy with ey|hy
   .rw [ey] at e;exact absurd (aE.mpr ⟨x,hx,e⟩) h1
   .exact yA h2 hx hy e
theorem xn.there {k:Nm} {v:V} (g:xn H0 H d n m good kvs) (hv:gT kvs (.inr (tx k))=some v):∃l ys,v = .ref l/\H0 l=none/\H l=some (.lst ys)/\ys.length<=m/\∀y∈ys,∃b num to,y = .ref b/\H b=some (.tup [.int num,.str (tx to)])/\good k num to:=by
 obtain⟨k',l,ys,e,f,h,z,r⟩:=g.row _ (nC hv);injection e with e1 e2
 injection e1 with e1
 cases iK.mp e1;exact⟨l,ys,e2,f,h,z,r⟩
theorem xn.grow {k:Nm} {num:Int} {to:Nm} {b l:Addr} {ys:List V} (g:xn H0 H d n m good kvs) (hv:gT kvs (.inr (tx k))=some (.ref l)) (hl:H l=some (.lst ys)) (hb:H b=some (.tup [.int num,.str (tx to)])) (ok:good k num to) :
  xn H0 (upd H l (.lst (ys ++ [.ref b]))) d n (m+1) good kvs:=by
 have sO:∀c (xs:List V),H c=some (.tup xs)->upd H l (.lst (ys ++ [.ref b])) c=some (.tup xs):=λ c xs e=>by
  rwa [e_ (gN e hl (λ z=>nomatch z))]
 refine⟨by rw [e_ (gN g.at_ hl (λ z=>nomatch z))];exact g.at_,g.len,g.nd,λ p hp=> ?_⟩;obtain⟨k',l',E5,e,f,h,z,r⟩:=g.row p hp;by_cases Ĉ:l'=l
 .subst Ĉ;have ep:p=(.inr (tx k),.ref l'):=yA g.nd hp (nC hv) (by rw [e]);rw [e] at ep;injection ep with e1 _
  injection e1 with e1
  cases iK.mp e1;rw [hl] at h
  cases h;refine⟨_,l',_,e,f,eX,by rw [aq];exact dy z,λ y hy=> ?_⟩;rcases ax.mp hy with hy|hy
  .obtain⟨c,nm,t,e1,e2,e3⟩:=r y hy;exact⟨c,nm,t,e1,sO _ _ e2,e3⟩
  .exact⟨b,num,to,ao.mp hy,sO _ _ hb,ok⟩
 .refine⟨k',l',E5,e,f,by rwa [e_ Ĉ],Nat.le_succ_of_le z,λ y hy=> ?_⟩;obtain⟨c,nm,t,e1,e2,e3⟩:=r y hy;exact⟨c,nm,t,e1,sO _ _ e2,e3⟩
theorem xn.put (g:xn H0 H d n m good kvs) (hv:gT kvs (.inr (tx k))=none) (f:H0 l=none) (hl:H l=some (.lst [])) (new:∀p∈kvs,p.2≠.ref l) :
  xn H0 (upd H d (.dK (putK kvs (.inr (tx k)) (.ref l)))) d (n+1) m good (putK kvs (.inr (tx k)) (.ref l)):=by
 have keep:∀c (o:HO),(∀z,o≠.dK z)->H c=some o->upd H d (.dK (putK kvs (.inr (tx k)) (.ref l))) c=some o:=λ c o no e=>by
  rwa [e_ (gN e g.at_ (no _))]
 rw [lW _ hv] at keep⊢;refine⟨eX,by rw [aq];exact dy g.len,?_,λ p hp=> ?_⟩
 .rw [av,bL];refine⟨g.nd,by simp,λ a ha b hb z=> ?_⟩;obtain⟨p,hp,rfl⟩:=aE.mp ha;have:b = .ref l:=by simpa using hb
  exact new p hp (z.trans this)
 .rcases ax.mp hp with hp|hp
  .obtain⟨k',l',E5,e,f',h,z,r⟩:=g.row p hp;refine⟨k',l',E5,e,f',keep _ _ (λ z=>nofun) h,z,λ y hy=> ?_⟩;obtain⟨c,nm,t,e1,e2,e3⟩:=r y hy;exact⟨c,nm,t,e1,keep _ _ (λ z=>nofun) e2,e3⟩
  .exact⟨k,l,[],ao.mp hp,f,keep _ _ (λ z=>nofun) hl,aP _,λ y hy=>nomatch hy⟩
end
structure En where
 th:Nm
 rm:Int
 mr:Int
 num:Int
 E1:Int
 deriving DecidableEq
def J3 (e:En):List V:= [.str (tx e.th),.int e.rm,.int e.mr,.int e.num,.int e.E1]
def oW (H:Hp) (a:Addr) (es:List En):Prop:=∃as:List Addr,H a=some (.lst (as.map V.ref))/\fN (λ x e=>H x=some (.tup (J3 e))) as es
theorem oW.same (h:oW H a es) (s:fh H H'):oW H' a es:=by
 obtain⟨as,e,al⟩:=h;exact⟨as,s _ _ e,al.imp λ _ _ r=>s _ _ r⟩
theorem J2 (hq:H q=some (.lst (as.map V.ref))) (al:fN (λ x e=>H x=some (.tup (J3 e))) as es) (hp:H p=some (.tup (J3 e))) :
  oW (upd H q (.lst (as.map V.ref ++ [.ref p]))) q (es ++ [e]):=by
 have ne:∀x (xs:List V),H x=some (.tup xs)->upd H q (.lst (as.map V.ref ++ [.ref p])) x=some (.tup xs):=λ x xs h=>by
  rwa [e_ (gN h hq (λ z=>nomatch z))]
 refine⟨as ++ [p],by rw [eX,av];rfl,fN.snoc (R:=λ x e=>upd H q (.lst (as.map V.ref ++ [.ref p])) x=some (.tup (J3 e))) (ne _ _ hp) (al.imp λ _ _ r=>ne _ _ r)⟩
def iN (e:En):Nm×Int:=(e.th,e.rm)
def m7 (s:Nm×Int):List Key:= [.inr (tx s.1),.inl s.2]
theorem Mg (h:m7 s=m7 r):s=r:=by
 unfold m7 at h;injection h with h1 h2
 injection h2 with h2 _
 injection h1 with h1
 injection h2 with h2
 exact Prod.ext (iK.mp h1) h2
def j9 (es:List En):List (List Key×V):=es.map λ e=>(m7 (iN e),.bl true)
theorem Ay (es:List En) (s:Nm×Int):(gT (j9 es) (m7 s)).isSome=decide (s∈es.map iN):=by
 rw [<-nD];unfold j9;rw [List.any_map,cA,cv,decide_eq_true_eq,aE];constructor
 .rintro⟨e,he,h⟩;exact⟨e,he,Mg (of_decide_eq_true h)⟩
 .rintro⟨e,he,rfl⟩;exact⟨e,he,decide_eq_true rfl⟩
theorem K' (h:iN e∉es.map iN):putK (j9 es) (m7 (iN e)) (.bl true)=j9 (es ++ [e]):=by
 have:gT (j9 es) (m7 (iN e))=none:=by
  have h1:=Ay es (iN e);rw [decide_eq_false h] at h1
  cases q:gT (j9 es) (m7 (iN e)) with
  | none=>rfl
  | some v=>rw [q] at h1;cases h1
 rw [lW _ this];unfold j9;rw [av];rfl
structure iC (iR:List jQ) (good:Bool->Nm->Int->Nm->Prop) (st:Nm) (es:List En):Prop where
 fst:es[0]? = some ⟨st,0,0,-1,-1⟩
 Nj:∀k e,es[k+1]? = some e->∃(j:Nat) (f:En) (mk:jQ),j<=k/\e.E1=(j:Int)/\es[j]? = some f/\e.mr=f.mr+1/\1<=e.rm/\iR[(e.rm-1).toNat]? = some mk/\good mk.back f.th e.num e.th
theorem iC.rm {iR:List jQ} {good:Bool->Nm->Int->Nm->Prop} {st:Nm} {es:List En} {k:Nat} {e:En} (b:iC iR good st es) (h:es[k]? = some e):0<=e.rm/\e.rm<=iR.length:=by
 cases k with
 | zero=>
  rw [b.fst] at h
  cases h;exact⟨cW _,Int.natCast_nonneg _⟩
 | succ k=>
  obtain⟨j,f,mk,_,_,_,_,h1,h2,_⟩:=b.Nj k e h;have:=(ag.mp h2).1;lia
theorem iC.one {iR:List jQ} {good:Bool->Nm->Int->Nm->Prop} {st:Nm}:iC iR good st [⟨st,0,0,-1,-1⟩]:=⟨rfl,λ k e h=>by simp at h⟩
theorem iC.push {iR:List jQ} {good:Bool->Nm->Int->Nm->Prop} {st:Nm} {es:List En} {e f:En} {j:Nat} {mk:jQ} (b:iC iR good st es) (hb:e.E1=(j:Int)) (hj:es[j]? = some f) (hf:e.mr=f.mr+1) (h1:1<=e.rm) (hm:iR[(e.rm-1).toNat]? = some mk) (hg:good mk.back f.th e.num e.th) :
  iC iR good st (es ++ [e]):=by
 have jl:=(ag.mp hj).1;refine⟨by rw [aR (Zz jl)];exact b.fst,λ k x hx=> ?_⟩;by_cases hk:k+1<es.length
 .rw [aR hk] at hx;obtain⟨j',f',mk',g1,g2,g3,g4⟩:=b.Nj k x hx;exact⟨j',f',mk',g1,g2,by rwa [aR (Zb g1 (Zb Zk hk))],g4⟩
 .rw [bt (Zi hk)] at hx
  have z:k+1-es.length=0:=by
   have:=(ag.mp hx).1;simp at this;exact this
  rw [z] at hx
  cases hx;exact⟨j,f,mk,Zs (Za jl (Zi hk)),hb,by rwa [aR jl],hf,h1,hm,hg⟩
theorem Fe {es:List En} {ts:List Nm} {n:Nat} (nd:(es.map iN).Nodup) (hs:∀e∈es,e.th∈ts/\0<=e.rm/\e.rm<=n):es.length<=ts.length*(n+1):=by
 have:=qr (es.map iN) (ts.flatMap λ t=>(List.range (n+1)).map λ (r:Nat)=>(t,(r:Int))) nd λ x hx=>by
  obtain⟨e,he,rfl⟩:=aE.mp hx;obtain⟨h1,h2,h3⟩:=hs e he;refine List.mem_flatMap.mpr ⟨e.th,h1,aE.mpr ⟨e.rm.toNat,aU.mpr (by lia),?_⟩⟩;unfold iN;rw [Int.toNat_of_nonneg h2]
 rw [ae,List.length_flatMap] at this;simp only [ae,aI] at this
 have sm:∀l:List Nm,(l.map λ _=>n+1).sum=l.length*(n+1):=by
  intro l
  induction l with
  | nil=>simp
  | cons a l ih=>rw [aD,cj,ih,aF,Nat.succ_mul];exact Nat.add_comm _ _
 rw [sm] at this;exact this
theorem SV {α:Type} {J:It} {H1:Hp} {fr:List Nat} {σ:St} {te:TE} {Q:VK} {cs:List α} {g:α->V} (T:Tells J H1 (cs.map g)) (R:Addr->Hp->α->V->Prop) (mono:∀D c v H H',fh H H'->R D H c v->R D H' c v) (hz:cs.length<=sizeLine)
  (he:∀D c H2 ys Q2,c∈cs->fh H1 H2->H2 D=some (.lst ys)->(∀v H3,fh H2 H3->R D H3 c v->Q2 v H3)->te (lI (g c) fr σ) H2 Q2)
  (off:∀H c v D ys zs,H D=some (.lst ys)->R D H c v->R D (upd H D (.lst zs)) c v)
  (hQ:∀D H2 ys,H1 D=none->fh H1 H2->H2 D=some (.lst ys)->fN (R D H2) cs ys->Q (.ref D) H2):uN J H1 fr σ BH te Q:=by
 intro D hD;have hlen:(cs.map g).length=cs.length:=ae ..;refine⟨λ i m ys H2=>m=cs.length-i/\i<=cs.length/\fN (R D H2) (cs.take i) ys/\fh H1 H2/\H2 D=some (.lst ys),⟨_,rfl,aP _,.nil,fh.new hD,eX⟩,?_⟩;rintro i m ys H2 ⟨rfl,hi,a2,s2,d2⟩;by_cases iJ:i<cs.length
 .refine .inr ⟨T.go i H2 (by rwa [hlen]) s2,λ x H3 y=> ?_⟩;obtain⟨rfl,hx⟩:=T.BE i H2 x H3 s2 (by rwa [hlen]) y;rw [ak] at hx
  cases hc:cs[i]? with
  | none=>rw [hc] at hx;cases hx
  | some c=>
   rw [hc] at hx;obtain rfl:g c=x:=Option.some.inj hx;have hm:c∈cs:=ai hc;unfold BH;dsimp only;rw [if_pos rfl];refine he D c H3 _ _ hm s2 d2 λ v H5 s5 r5=>⟨s5 _ _ d2,?_,_,?_,rfl,iJ,?_,(s2.trans s5).fS hD,eX⟩
   .have:=a2.len;rw [aT] at this;exact Qat hz iJ this
   .exact T6 iJ
   .rw [ic hc];exact fN.snoc (R:=R D _) (off _ _ _ _ _ _ (s5 _ _ d2) r5) ((a2.imp λ a b r=>mono D a b _ _ s5 r).imp λ a b r=>off _ _ _ _ _ _ (s5 _ _ d2) r)
 .obtain rfl:i=cs.length:=by exact Zq hi (Zi iJ)
  exact .inl ⟨by have:=T.stop H2 s2;rw [hlen] at this;exact this,hQ D H2 ys hD s2 d2 (by rw [bh] at a2;exact a2)⟩
theorem xn.off (g:xn Hb H d n m good kvs) (hD:H D=some (.lst ys)) (hb:Hb D≠none):xn Hb (upd H D (.lst zs)) d n m good kvs:=by
 refine⟨by rw [e_ (gN g.at_ hD (λ z=>nomatch z))];exact g.at_,g.len,g.nd,λ p hp=> ?_⟩;obtain⟨k,l,us,e,f,h,z,r⟩:=g.row p hp;refine⟨k,l,us,e,f,by rw [e_ (λ q=>hb (by rwa [<-q]))];exact h,z,λ y hy=> ?_⟩;obtain⟨b,num,to,e1,e2,e3⟩:=r y hy;exact⟨b,num,to,e1,by rwa [e_ (gN e2 hD (λ z=>nomatch z))],e3⟩
structure xt (B H:Hp) (qe qs:Addr) (iR:List jQ) (good:Bool->Nm->Int->Nm->Prop) (st:Nm) (ts:List Nm) (es:List En):Prop where
 old:fh B H
 ents:oW H qe es
 seen:H qs=some (.dT (j9 es))
 ok:iC iR good st es
 nd:(es.map iN).Nodup
 th:∀e∈es,e.th∈ts
section
variable {B H H':Hp} {qe qs:Addr} {iR:List jQ} {good:Bool->Nm->Int->Nm->Prop} {st:Nm} {ts:List Nm} {es:List En}
theorem xt.same (h:xt B H qe qs iR good st ts es) (s:fh H H'):xt B H' qe qs iR good st ts es:=⟨h.old.trans s,h.ents.same s,s _ _ h.seen,h.ok,h.nd,h.th⟩
theorem xt.iD (h:xt B H qe qs iR good st ts es) (lt:ts.length<=100) (lm:iR.length<=24):es.length<=2500:=by
 have h1:=Fe h.nd λ e he=>by
  obtain⟨k,hk⟩:=aL.mp he;exact⟨h.th e he,h.ok.rm hk⟩
 have h2:ts.length*(iR.length+1)<=100*25:=cp lt (by lia);exact Zc h1 h2
theorem xt.put {e f:En} {j:Nat} {mk:jQ} (h:xt B H qe qs iR good st ts es) (new:iN e∉es.map iN) (fe:B qe=none) (fs:B qs=none) (hb:e.E1=(j:Int)) (hj:es[j]? = some f) (hf:e.mr=f.mr+1) (h1:1<=e.rm) (hm:iR[(e.rm-1).toNat]? = some mk) (hg:good mk.back f.th e.num e.th) (ā:e.th∈ts)
  {b:Addr} (U5:upd H qs (.dT (putK (j9 es) (m7 (iN e)) (.bl true))) b=none) :
  ∃xs,upd (upd H qs (.dT (putK (j9 es) (m7 (iN e)) (.bl true)))) b (.tup (J3 e)) qe=some (.lst xs)/\xs.length=es.length/\
   xt B (upd (upd (upd H qs (.dT (putK (j9 es) (m7 (iN e)) (.bl true)))) b (.tup (J3 e))) qe (.lst (xs ++ [.ref b]))) qe qs iR good st ts (es ++ [e]):=by
 rw [K' new] at U5⊢;obtain⟨as,ha,al⟩:=h.ents;have qn:qe≠qs:=gN ha h.seen (λ z=>nomatch z)
 have k1:∀c (o:HO),(∀z,o≠.dT z)->H c=some o->upd (upd H qs (.dT (j9 (es ++ [e])))) b (.tup (J3 e)) c=some o:=λ c o no hc=>by
  have c1:upd H qs (.dT (j9 (es ++ [e]))) c=some o:=by
   rwa [e_ (gN hc h.seen (no _))]
  rwa [e_ (fq c1 U5)]
 have Ę:=k1 qe _ (λ z q=>by cases q) ha;have Ku:fN (λ x e'=>upd (upd H qs (.dT (j9 (es ++ [e])))) b (.tup (J3 e)) x=some (.tup (J3 e'))) as es:=al.imp λ x e' r=>k1 x _ (λ z q=>by cases q) r;have sb:qs≠b:=λ z=>by rw [<-z,eX] at U5;cases U5
 refine⟨_,Ę,by rw [ae,al.len],((h.old.fS fs).trans (fh.new U5)).fS fe,J2 Ę Ku eX,?_,h.ok.push hb hj hf h1 hm hg,?_,λ x hx=> ?_⟩
 .rw [e_ (Ne.symm qn),e_ sb,eX]
 .rw [av,bL];refine⟨h.nd,by simp,λ a ha b hb z=>new ?_⟩;have:b=iN e:=by simpa using hb
  rwa [<-this,<-z]
 .rcases ax.mp hx with hx|hx
  .exact h.th x hx
  .rwa [ao.mp hx]
end
def Xp (σ:St):Nat:=match σ[6]? with
 | some (some (V.int n))=>n.toNat
 | _=>0
theorem BD.get {i:Nat} (h:BD H a fs) (hl:fs[i]? = some l):∃(xs:List V) (b:Addr),H a=some (.lst xs)/\xs[i]? = some (.ref b)/\H b=some (.lst (l.map V.int)):=by
 obtain⟨as,ha,al⟩:=h;obtain⟨b,hb,r⟩:=al.at hl;exact⟨_,b,ha,by rw [ak,hb];rfl,r⟩
theorem Kz (Pv:Nat->St->Hp->Prop) (m0:Nat) (h0:Pv m0 σ H)
  (hs:∀m σ H,Pv m σ H->c σ H λ b H1=>if b=true then tb {D with nx:=λ fT H'=>∃m',m'<m/\Pv m' fT H',ct:=λ fT H'=>∃m',m'<m/\Pv m' fT H',bk:=D.nx} σ H1 else D.nx σ H1)
  (mono:∀σ H Q Q',(∀b H1,Q b H1->Q' b H1)->c σ H Q->c σ H Q'):BI c tb D σ H:=by
 refine⟨Pv,⟨m0,h0⟩,λ m σ H p=>mono σ H _ _ (λ b H1 q=> ?_) (hs m σ H p)⟩
 cases b with
 | true=>exact⟨_,λ fT H' z=>z,q⟩
 | false=>exact q
def jy (es:List En):Nat->Nat->List Nat
 | 0,_=> []
 | n+1,k=>if k=0 then [] else k::jy es n ((es[k]?.map En.E1).getD 0).toNat
theorem lZ (es:List En) (n:Nat):jy es n 0 = []:=by
 cases n with
 | zero=>rfl
 | succ n=>unfold jy;rw [if_pos rfl]
section
variable {iR:List jQ} {good:Bool->Nm->Int->Nm->Prop} {st:Nm} {es:List En}
theorem iC.E1 (b:iC iR good st es) (he:es[k+1]? = some e):∃j:Nat,e.E1=(j:Int)/\j<=k/\((es[k+1]?.map En.E1).getD 0).toNat=j:=by
 obtain⟨j,f,mk,h1,h2,_⟩:=b.Nj k e he;refine⟨j,h2,h1,?_⟩;rw [he];show (e.E1).toNat=j;rw [h2];rfl
theorem qQ (b:iC iR good st es):∀(n m k:Nat),k<=n->k<=m->k<es.length->jy es n k=jy es m k
 | 0,m,k,h1,_,_=>by
  obtain rfl:k=0:=by exact Zq h1 (Nat.zero_le _)
  rw [lZ,lZ]
 | n+1,m,0,_,_,_=>by rw [lZ,lZ]
 | n+1,0,k+1,_,h,_=>absurd h (Zy (Zt (Nat.zero_le _)))
 | n+1,m+1,k+1,h1,h2,h3=>by
  obtain⟨j,_,hj,ej⟩:=b.E1 (show es[k+1]? = some es[k+1] by simp);unfold jy;rw [if_neg (eE k),if_neg (eE k),ej,qQ b n m j (Zs (Zb hj h1)) (Zs (Zb hj h2)) (Zb hj (Zb Zk h3))]
theorem oK (b:iC iR good st es) {k j:Nat} (he:es[k+1]? = some e) (hj:e.E1=(j:Int)):jy es (k+1) (k+1)=(k+1)::jy es j j:=by
 have hk:=(ag.mp he).1;obtain⟨j',h1,h2,h3⟩:=b.E1 he;obtain rfl:j'=j:=by lia
 show (if k+1=0 then [] else (k+1)::jy es k ((es[k+1]?.map En.E1).getD 0).toNat)=_;rw [if_neg (eE k),h3,qQ b k j' j' h2 (ay _) (Zb h2 (Zb Zk hk))]
theorem AI:∀(n k:Nat),(jy es n k).length<=n
 | 0,_=>ay _
 | n+1,k=>by
  unfold jy
  split
  .exact aP _
  .exact dy (AI n _)
end
def rE (iR:List jQ) (es:List En) (k:Nat):Int×Bool:=((es[k]?.map En.num).getD 0,((es[k]?.bind λ e=>iR[(e.rm-1).toNat]?).map jQ.back).getD false)
def iB (H:Hp) (a:Addr) (ws:List (Int×Bool)):Prop:=∃as:List Addr,H a=some (.lst (as.map V.ref))/\fN (λ x w=>H x=some (.tup [.int w.1,.bl w.2])) as ws
theorem IF (hq:H q=some (.lst (as.map V.ref))) (al:fN (λ x w=>H x=some (.tup [.int w.1,.bl w.2])) as ws) (hp:H p=some (.tup [.int w.1,.bl w.2])) :
  iB (upd H q (.lst (as.map V.ref ++ [.ref p]))) q (ws ++ [w]):=by
 have ne:∀x (xs:List V),H x=some (.tup xs)->upd H q (.lst (as.map V.ref ++ [.ref p])) x=some (.tup xs):=λ x xs h=>by
  rwa [e_ (gN h hq (λ z=>nomatch z))]
 exact⟨as ++ [p],by rw [eX,av];rfl,fN.snoc (R:=λ x (w:Int×Bool)=>upd H q (.lst (as.map V.ref ++ [.ref p])) x=some (.tup [.int w.1,.bl w.2])) (ne _ _ hp) (al.imp λ _ _ r=>ne _ _ r)⟩
theorem KA (hq:H q=some (.lst (as.map V.ref))) (al:fN (λ x w=>H x=some (.tup [.int w.1,.bl w.2])) as ws):iB (upd H q (.lst (as.map V.ref).reverse)) q ws.reverse:=by
 refine⟨as.reverse,by rw [eX,List.map_reverse],fN.imp (λ x w r=> ?_) al.rev⟩
 rwa [e_ (gN r hq (λ z=>nomatch z))]
def iH (ends:List Bool):List En->Nat->List (Nm×Int)->List (Nm×Int)
 | [],_,m=>m
 | e::es,k,m=>iH ends es (k+1) (if (ends[e.rm.toNat]?).getD false=true/\e.th∉m.map (·.1) then m ++ [(e.th,(k:Int))] else m)
theorem sU (ends:List Bool) (e:En):∀(es:List En) (k:Nat) (m:List (Nm×Int)),iH ends (es ++ [e]) k m=(if (ends[e.rm.toNat]?).getD false=true/\e.th∉(iH ends es k m).map (·.1) then iH ends es k m ++ [(e.th,((k+es.length:Nat):Int))] else iH ends es k m)
 | [],k,m=>rfl
 | x::es,k,m=>by
  show iH ends (es ++ [e]) (k+1) _=_;rw [sU ends e es];rw [show k+1+es.length=k+(x::es).length by rw [aF];exact Nat.add_right_comm _ _ _];rfl
def Pq (H:Hp) (a:Addr) (m:List (Nm×Int)):Prop:=∃as:List Addr,H a=some (.lst (as.map V.ref))/\fN (λ x y=>H x=some (.tup [.str (tx y.1),.int y.2])) as m
theorem AY (ends:List Bool):∀(es:List En) (k:Nat) (m:List (Nm×Int)),(iH ends es k m).length<=m.length+es.length
 | [],_,m=>ay _
 | e::es,k,m=>by
  have h:=AY ends es (k+1) (if (ends[e.rm.toNat]?).getD false=true/\e.th∉m.map (·.1) then m ++ [(e.th,(k:Int))] else m);show (iH ends es (k+1) _).length<=_;refine bj h ?_
  split
  .rw [aq,aF,aF,aV];lia
  .rw [aF];exact Zw Zk
theorem LV (h:k∉m.map (·.1)):gT (gz m) (.inr (tx k))=none/\putK (gz m) (.inr (tx k)) (.int v)=gz (m ++ [(k,v)]):=by
 have h1:gT (gz m) (.inr (tx k))=none:=by
  have h2:=kK (l:=k) (m:=m);rw [decide_eq_false h] at h2
  cases q:gT (gz m) (.inr (tx k)) with
  | none=>rfl
  | some v=>rw [q] at h2;cases h2
 refine⟨h1,?_⟩;rw [lW _ h1];unfold gz;rw [av];rfl
theorem Iy {α β:Type} {R:α->β->Prop}:∀(as:List α) (bs:List β),as.length=bs.length->(∀(i:Nat) (a:α) (b:β),as[i]? = some a->bs[i]? = some b->R a b)->fN R as bs
 | [],[],_,_=>.nil
 | [],_::_,h,_=>by cases h
 | _::_,[],h,_=>by cases h
 | a::as,b::bs,h,r=>.cons (r 0 a b rfl rfl) (Iy as bs (Nat.succ.inj h) λ i x y hx hy=>r (i+1) x y hx hy)
section
variable {prog:Program} {w:World} {A:Around} {E:Value->Shared->Prop} {s:Shared} {I l S:Addr} {items:Array Value}
end
section
variable {X:Cx}
end
theorem iB.same (h:iB H a m) (s:fh H H'):iB H' a m:=by
 obtain⟨as,e,al⟩:=h;exact⟨as,s _ _ e,al.imp λ _ _ r=>s _ _ r⟩
section
variable {iR:List jQ} {good:Bool->Nm->Int->Nm->Prop} {st:Nm} {es:List En}
theorem iC.mr (b:iC iR good st es):∀(k:Nat) (e:En),es[k]? = some e->e.mr=((jy es k k).length:Int):=by
 intro k
 induction k using Nat.strongRecOn with
 | _ k ih=>
  intro e he
  cases k with
  | zero=>
   rw [b.fst] at he
   cases he;rfl
  | succ k=>
   obtain⟨j,f,mk,h1,h2,h3,h4,_⟩:=b.Nj k e he;rw [oK b he h2,h4,ih j (Zt h1) f h3,aF];exact rfl
end
section
variable {W:WS} {m:jQ} {n:Nat} {H0 H H':Hp} {d:Addr} {kvs:List (Key×V)}
end
section
variable {M:xP} {W:WS} {st:Nm} {es:List En} {pl:Nat} {e e0:En} {mq:jQ}
end
section
variable {X:Cx}
open Classical in
end
theorem Dn (nd:(rs.map (·.1)).Nodup) (jt:(num,tn,fX)∈rs):gT (fR rs) (.inl num)=some (.ref tn):=by
 have h1:(gT (fR rs) (.inl num)).isSome=true:=by
  rw [kC];exact decide_eq_true (aE.mpr ⟨_,jt,rfl⟩)
 obtain⟨v,h2⟩:=Option.isSome_iff_exists.mp h1;have h3:=nC h2;unfold fR at h3;obtain⟨x,hx,ex⟩:=aE.mp h3;injection ex with e1 e2
 injection e1 with e1
 have:x=(num,tn,fX):=yA nd hx jt e1;rw [h2,<-e2,this]
end L2
namespace L2
open PySem PySem.Spec PyProof.Rows PySem.W
section
variable {prog:Program} {w:World} {A:Around} {E:Value->Shared->Prop} {s:Shared} {env:Env}
variable {nm q:Str} {C N a:Addr} {bs bm bmB:List Value} {hdct:Bool} {sn:List Str} {sub:List Value} {ab:Bool} {col:Option Bool} {dd:Option Addr} {k0 k1 k2 k3 k5:Option Value} {B newId X5:String}
end
section
variable {P:Program} {w:World} {K:aj} {mg:Str->Option Value} {base:Heap} {N:List Str} {qual:Str} {scope:Scope} {f:Addr} {cd:Value} {A:Around} {outer:List Env} {s:Shared} {H:Hp} {E:XK}
end
section
variable {X:Cx} {pins:List (Addr×Obj)} {σ:St} {H:Hp} {s:Shared} {a C:Addr} {d:Option Addr}
variable {x:Str} {D0:Addr} {b_0:Stmt} {body Ò:List Stmt} {np aac:Pos} {rest:List ExceptHandler} {th:TS}
end
section
variable {K:Frag} {cs:List Addr} {C D:Addr}
end
end L2
namespace L2
open PySem PySem.Spec PyProof.Rows
def KH (w:Int×Bool):PyData:=.tuple [.int w.1,.bool w.2]
theorem iB.dat {K:aj} {H:Hp} {a:Addr} {ws:List (Int×Bool)} (h:iB H a ws):tE K H (.ref a) (.list (ws.map KH)):=by
 obtain⟨as,e,al⟩:=h;exact .lst (fZ.of e) (Et (f:=KH) (R:=λ x w=>H x=some (.tup [.int w.1,.bl w.2])) (λ x w r=>.tup (oh.of r) (.cons (.int _) (.cons (.bl _) .nil))) al)
theorem KC (ws:List (Int×Bool)):Ny 2 (.list (ws.map KH)):=by
 refine Er (uj λ d hd=> ?_);obtain⟨w,hw,rfl⟩:=aE.mp hd;refine HX (uj λ d hd=> ?_);simp only [aA,bb,or_false] at hd;rcases hd with rfl|rfl
 .exact O3 _
 .exact MA _
end L2
namespace L2
open PySem PySem.Spec PyProof.Rows PySem.W
section
variable {P:Program} {w:World} {K:aj} {mg:Str->Option Value} {base:Heap} {N:List Str} {qual:Str} {scope:Scope} {f:Addr} {cd:Value} {A:Around} {outer:List Env} {s:Shared} {H:Hp} {E:XK}
end
end L2
namespace L2
open PySem PySem.Spec PyProof.Rows
def Kp (v0 v1:V) (fr:List Nat) (σ:St):St:=some v0::some v1::fr.map λ j=>(σ[j]?).join
section
variable {X:Cx} {x y:Str} {px py tp:Pos} {kt:Nat} {elt iter:Expr} {ifs:List Expr} {scope:Scope} {pos:Pos} {N:List Str} {fr:List Nat} {tt:TT} {te:TE} {wi:TI}
end
def Ke (lo:Int) (n:Nat):It:=⟨λ i _=>i<n,λ i H x H'=>H'=H/\x = .int (lo-i),λ i _=>n<=i⟩
theorem IJ {P:Program} {w:World} {K:aj} {tg:Expr} (it:Addr) (lo:Int) (n:Nat):Turn P w K tg (Ke lo n) [it] it (λ i h=>IsRangeIter h it (lo+(i:Nat)*(-1)) ((n:Int)-(i:Nat)) (-1)) where
 mem:=by simp
 obj:=λ i h st b hb=>by
  have e:b=it:=by simpa using hb
  subst e
  exact⟨_,st,λ v z=>by
   have z':Data.fields _=Data.cell v:=z
   cases z'⟩
 keep:=λ i h h' st k=>k it (by simp) _ st
 item:=by
  intro X hP hw hK hc i pins s σ H E I hf st hg;subst hP hw hK;obtain⟨f0,f1,f2,f3,f4,f5⟩:=hf it (by simp);have W:=Walks.range (prog:=X.prog) (w:=X.w) (I.ok.hd hc) it lo (-1) n;refine W.item i s _ _ hg st λ v h' tk hv C9 kk=> ?_;obtain⟨t,rfl⟩:=hv;have I1:Inv X pins σ H {s with heap:=h',toks:=tk}:=I.turned (λ b o hb e=>kk b o (by simpa using hb) e) f0 f1 f3 f4 f5;refine⟨_,rfl,HV (s:= {s with heap:=h',toks:=tk}) (n:="range_iterator") C9 rfl rfl (by decide) ⟨.int (lo-i),H,I1,⟨t,?_⟩,⟨rfl,rfl⟩,C9,λ b hb=>(hf b hb).1⟩⟩;rw [Int.mul_neg_one,<-Int.sub_eq_add_neg]
 done:=by
  intro X hP hw hK hc i pins s σ H E I hf st hg;subst hP hw hK;obtain⟨f0,f1,f2,f3,f4,f5⟩:=hf it (by simp);exact wpAny_pyNext_range_end (I.ok.hd hc) st (by have:n<=i:=hg;exact Qam this) λ h' eb=>⟨rfl,I.turned (t':=s.toks) (λ b o hb e=>eb b o hb e) f0 f1 f3 f4 f5⟩
 self:=λ _ _ _ _ _ st h=>wpAny_pyIter_rangeiter st h
theorem Aw (a b:Int):Builtin.Range.rangeSize a b (-1)=if a>b then a-b else 0:=by
 unfold Builtin.Range.rangeSize;rw [if_neg (by decide),show -(-1:Int)=1 by decide,Int.ediv_one]
 split<;>lia
theorem small_down (ha : -(2 ^ 62)<=a) (OT:a<2 ^ 62) (hb : -(2 ^ 62)<=b) (xI:b<2 ^ 62):Builtin.Range.small a b (-1)=true:=by
 unfold Builtin.Range.small;rw [Aw];simp only [Builtin.Range.rangeFitsLong,bg,eV,decide_eq_true_eq,beq_iff_eq,show ¬((-1:Int)>0) by decide,if_false]
 split<;>lia
section
variable {X:Cx} {tg:Expr}
theorem Pa {lo hi:Int} {tk:Nat} (I:Inv X pins σ H s) (h1 : -(2 ^ 62)<=lo) (h2:lo<2 ^ 62) (h3 : -(2 ^ 62)<=hi) (h4:hi<2 ^ 62)
  (q:R (Ke lo (lo-hi).toNat) H):wpAny (model X.prog X.w) X.A (pyIter (.ref s.heap.objs.size)) (WT X pins σ tg R) E {s with heap:=s.heap.push {cls:=.type "range",data:=.fields #[.int lo t,.int hi u,.int (-1) v]},toks:=tk}:=by
 refine wpAny_pyIter_range (IsRange.new ..) (small_down h1 h2 h3 h4) ?_;have I1:Inv X pins σ H {s with heap:=s.heap.push {cls:=.type "range",data:=.fields #[.int lo t,.int hi u,.int (-1) v]},toks:=tk}:=I.kept λ b o e=>ah _ e
 refine⟨(s.heap.push {cls:=.type "range",data:=.fields #[.int lo t,.int hi u,.int (-1) v]}).objs.size,[(s.heap.push {cls:=.type "range",data:=.fields #[.int lo t,.int hi u,.int (-1) v]}).objs.size],_,_,H,rfl,
  I1.kept (t':=tk) λ b o e=>ah _ e,IJ _ lo (lo-hi).toNat,?_,λ b hb=> ?_,q⟩
 .have e1:lo+((0:Nat):Int)*(-1)=lo:=by simp
  have e2:(((lo-hi).toNat:Nat):Int)-((0:Nat):Int)=Builtin.Range.rangeSize lo hi (-1):=by rw [Aw];split<;>lia
  show IsRangeIter _ _ (lo+((0:Nat):Int)*(-1)) ((((lo-hi).toNat:Nat):Int)-((0:Nat):Int)) (-1);rw [e1,e2];exact aK _ rfl
 .have e:b=(s.heap.push {cls:=.type "range",data:=.fields #[.int lo t,.int hi u,.int (-1) v]}).objs.size:=by simpa using hb
  subst e;exact I1.Ae (ay _) (I1.gJ.fresh (ay _))
def P4 (ta:TA):TI:=λ σ H R=>ta σ H λ vs H1=>∃i j:Int,vs = [.int i,.int j,.int (-1)]/\(-(2 ^ 62)<=i/\i<2 ^ 62/\-(2 ^ 62)<=j/\j<2 ^ 62)/\R (Ke i (i-j).toNat) H1
theorem Jj (hg:Gl X "range") (hm:X.mg "range" = none) (ha:PA X [a,b,c] ta) (hs:starEach [a,b,c] X.env = [(false,eval a X.env),(false,eval b X.env),(false,eval c X.env)]:=by rfl)
  (HS:starEach [b,c] X.env = [(false,eval b X.env),(false,eval c X.env)]:=by rfl):PI X tg (.Call (.Name "range" p) [a,b,c] [] pos) (P4 ta):=by
 intro pins s σ H R I h;refine Call_ (kT I hg hm boot_range (bq (gU (ha pos pins s σ H _ I h) λ us s1 zq=> ?_) (by rw [hs,HS]) (by rw [HS];rfl)));obtain⟨vs,H1,I1,r1,q1⟩:=zq;obtain⟨i,j,e,⟨q1,q2,q3,q4⟩,q⟩:=q1;subst e
 cases r1 with
 | cons r rr=>
  cases rr with
  | cons r' rr=>
   cases rr with
   | cons Ρ rr=>
    cases rr;obtain⟨t,rfl⟩:=r;obtain⟨t',rfl⟩:=r';obtain⟨t'',rfl⟩:=Ρ;exact call_range_3 (by decide) (Pa I1 q1 q2 q3 q4 q) (.inl (PyProof.noPylong_small (by lia)))
theorem GP (hg:Gl X "range") (hm:X.mg "range" = none) (ha:Bx (PA X [a,b,c] ta)) (hs:starEach [a,b,c] X.env = [(false,eval a X.env),(false,eval b X.env),(false,eval c X.env)]:=by rfl)
  (HS:starEach [b,c] X.env = [(false,eval b X.env),(false,eval c X.env)]:=by rfl):Bx (PI X tg (.Call (.Name "range" p) [a,b,c] [] pos) (P4 ta)):=⟨Jj hg hm ha.un hs HS⟩
end
section
variable {X:Cx} {x y:Str} {px py tp:Pos} {kt:Nat} {elt iter:Expr} {ifs:List Expr} {scope:Scope} {pos:Pos} {N:List Str} {fr:List Nat} {tt:TT} {te:TE} {wi:TI}
end
section
variable {X:Cx} {a:Addr} {kvs:List (Key×V)} {o i e:Expr} {pos apos gM:Pos} {td ty:TE}
end
end L2
namespace L2
open PySem PySem.Spec PyProof.Rows PySem.W
def gd (p:Array Nat) (i:Nat):Nat:=p.getD i 0
end L2
namespace L2
open PySem PySem.Spec PyProof.Rows
def KU (ta:TA):TE:=λ σ H Q=>ta σ H λ vs H1=>∃n:Nat,vs = [V.int (n:Int)]/\n<=1000000/\∀l,H1 l=none->Q (.ref l) (upd H1 l (.lst ((List.range n).map λ i:Nat=>V.int (i:Int))))
theorem E_:∀{n:Nat} {xs:List Value},xs.length=n->(∀(i:Nat) (v:Value),xs[i]? = some v->∃t,v=Value.int (0+(i:Int)*1) t)->Vals ((List.range n).map λ i:Nat=>V.int (i:Int)) xs:=by
 intro n xs hl h
 have gen:∀(xs:List Value) (k:Nat),(∀(i:Nat) (v:Value),xs[i]? = some v->∃t,v=Value.int ((k+i:Nat):Int) t)->Vals ((List.range' k xs.length).map λ i:Nat=>V.int (i:Int)) xs:=by
  intro xs
  induction xs with
  | nil=>exact λ k _=>.nil
  | cons x xs ih=>
   intro k h;obtain⟨t,e⟩:=h 0 x rfl;refine .cons ⟨t,e⟩ (ih (k+1) λ i v hi=> ?_);obtain⟨t,e⟩:=h (i+1) v hi;exact⟨t,by rw [e,show k+(i+1)=k+1+i by lia]⟩
 rw [List.range_eq_range',<-hl]
 exact gen xs 0 λ i v hi=>by
  obtain⟨t,e⟩:=h i v hi;exact⟨t,by rw [e,show (0:Int)+(i:Int)*1=((0+i:Nat):Int) from Yw]⟩
section
variable {X:Cx}
theorem LB (hc:X.calm=true) (hg:Gl X "list") (hm:X.mg "list" = none) (OR:Gl X "range") (Mm:X.mg "range" = none) (ha:PA X [a] ta) (hs:starEach [a] X.env = [(false,eval a X.env)]:=by rfl)
  (he:starEach [.Call (.Name "range" p2) [a] [] rh] X.env = [(false,eval (.Call (.Name "range" p2) [a] [] rh) X.env)]:=by rfl) :
  PE X (.Call (.Name "list" p) [.Call (.Name "range" p2) [a] [] rh] [] pos) (KU ta):=by
 intro pins s σ H Q I h;refine Call_ (kT I hg hm boot_list (bq ?_ he rfl));rw [he];refine Calls.spliced_cons (Call_ (kT I OR Mm boot_range (bq (gU (ha rh pins s σ H _ I h) λ us s1 zq=> ?_) hs rfl)));obtain⟨vs,H1,I1,r1,q1⟩:=zq;obtain⟨n,rfl,hn,q⟩:=q1;obtain⟨u,rfl,ru⟩:=r1.one;obtain⟨t,rfl⟩:=ru;refine call_range_1 (Calls.spliced_nil ?_);have kp:∀c o,s1.heap.get? c=some o->(s1.heap.push {cls:=.type "range",data:=.fields #[.int 0 s1.toks,.int (n:Int) t,.int 1 (s1.toks+1)]}).get? c=some o:=λ c o e=>ah _ e;refine call_list_range (n:=n) (I.ok.hd hc) (IsRange.new ..) (small_one (by decide) (by decide) (by lia) (by lia)) (by rw [rangeSize_one];split<;>lia) (by lia) λ h' tk acc c hk hS Ac=> ?_;have sz:(s1.heap.push {cls:=.type "range",data:=.fields #[.int 0 s1.toks,.int (n:Int) t,.int 1 (s1.toks+1)]}).objs.size=s1.heap.objs.size+1:=bX ..;dsimp only at hS⊢;rw [sz] at hS⊢;have fr:H1 (s1.heap.objs.size+1)=none:=I1.gJ.fresh (cf _);refine⟨.ref (s1.heap.objs.size+1),_,I1.laid (t':=tk) (o:=.lst ((List.range n).map λ i:Nat=>V.int (i:Int))) (λ c o e=>hk c o (kp c o e)) (cf _) ⟨?_,acc.toList,c,E_ (by rw [bD];exact Ac.1) (λ i v e=>Ac.2 i v (by rwa [<-bc])),hS⟩,rfl,q _ fr⟩;rw [ae,aI,sizeLine_eq];exact Zc hn (Zd rfl)
theorem Ka (hc:X.calm=true) (hg:Gl X "list") (hm:X.mg "list" = none) (OR:Gl X "range") (Mm:X.mg "range" = none) (ha:Bx (PA X [a] ta)) (hs:starEach [a] X.env = [(false,eval a X.env)]:=by rfl)
  (he:starEach [.Call (.Name (Str.ofString "range") p2) [a] [] rh] X.env = [(false,eval (.Call (.Name (Str.ofString "range") p2) [a] [] rh) X.env)]:=by rfl) :
  Bx (PE X (.Call (.Name (Str.ofString "list") p) [.Call (.Name (Str.ofString "range") p2) [a] [] rh] [] pos) (KU ta)):=⟨LB hc hg hm OR Mm ha.un hs he⟩
end
def condT:List Nm:= [[60],[62],[61],[33]]
end L2
namespace L2
open PySem PySem.Spec PyProof.Rows PySem.W
section
variable {K:Frag} {S:Addr} {cs:List Addr} {C:Addr}
end
section
variable {X:Cx} {S:Addr} {cs:List Addr}
end
end L2
namespace L2
open PySem PySem.Spec PyProof.Rows
def two (l:List Nat):Prop:=(PK 91 (if decide (l.head? = some 60)=true then l.drop 1 else l)).2.2.take 1∈condT->2<=(PK 91 (if decide (l.head? = some 60)=true then l.drop 1 else l)).2.2.length
section
variable {X:Cx}
end
def kindOf (k:Nat):Nm:=if k=42 then i6 else if k=43 then lL else jb
def stop (cs:List Nat) (rest:List Pc):Prop:=rest = []\/∃c r,rest = .sign c::r/\c∉cs
section
variable {prog:Program} {w:World} {A:Around} {E:Value->Shared->Prop} {s:Shared}
end
section
variable {prog:Program} {w:World} {A:Around}
end
inductive Sh where
 | mark (i:Nat)
 | two (k:List Nat) (l r:Sh)
 | one (k:List Nat) (t:Sh)
inductive jr (H:Hp):Addr->Sh->Prop
 | mark {a:Addr} {i:Nat}:H a=some (.tup [.str (tx qt),.int (i:Int)])->jr H a (.mark i)
 | two {a l r:Addr} {k:List Nat} {x y:Sh}:H a=some (.tup [.str (tx k),.ref l,.ref r])->k∈uS->jr H l x->jr H r y->jr H a (.two k x y)
 | one {a i:Addr} {k:List Nat} {x:Sh}:H a=some (.tup [.str (tx k),.ref i])->k∈ones->jr H i x->jr H a (.one k x)
theorem jr.keep (k:∀b xs,H b=some (.tup xs)->H' b=some (.tup xs)) (h:jr H a t):jr H' a t:=by
 induction h with
 | mark e=>exact .mark (k _ _ e)
 | two e hk _ _ i1 i2=>exact .two (k _ _ e) hk i1 i2
 | one e hk _ i1=>exact .one (k _ _ e) hk i1
theorem jr.same (s:fh H H') (h:jr H a t):jr H' a t:=h.keep λ b xs e=>s b _ e
def Sh.deep:Sh->Nat
 | .mark _=>1
 | .two _ l r=>max l.deep r.deep+1
 | .one _ t=>t.deep+1
def Sh.leaves:Sh->List Nat
 | .mark i=> [i]
 | .two _ l r=>l.leaves++r.leaves
 | .one _ t=>t.leaves
def Sh.ones:Sh->Nat
 | .mark _=>0
 | .two _ l r=>l.ones+r.ones
 | .one _ t=>t.ones+1
def jQ.none:jQ:=⟨[],false,[],0⟩
def Sh.real (ms:List jQ):Sh->Tr
 | .mark i=>.mark ((ms[i]?).getD .none)
 | .two k l r=>.two k (l.real ms) (r.real ms)
 | .one k t=>.one k (t.real ms)
theorem Sh.nV (t:Sh):1<=t.deep:=by cases t<;>simp [Sh.deep]
theorem Sh.kj:∀t:Sh,1<=t.leaves.length
 | .mark _=>by simp [Sh.leaves]
 | .two _ l r=>by
  have:=l.kj;simp only [Sh.leaves,aq];exact Zc this Zk
 | .one _ t=>t.kj
theorem Sh.lE (ms:List jQ):∀t:Sh,(t.real ms).deep=t.deep
 | .mark _=>rfl
 | .two _ l r=>by simp only [Sh.real,Tr.deep,Sh.deep,l.lE ms,r.lE ms]
 | .one _ t=>by simp only [Sh.real,Tr.deep,Sh.deep,t.lE ms]
theorem Sh.lV (ms:List jQ):∀t:Sh,(t.real ms).marks=t.leaves.map λ i=>(ms[i]?).getD .none
 | .mark _=>rfl
 | .two _ l r=>by simp only [Sh.real,Tr.marks,Sh.leaves,l.lV ms,r.lV ms,av]
 | .one _ t=>by simp only [Sh.real,Tr.marks,Sh.leaves,t.lV ms]
theorem Sh.yq (ms:List jQ) (t:Sh):(t.real ms).marks.length=t.leaves.length:=by rw [t.lV,ae]
theorem Sh.DG {ms:List jQ} {t:Sh} (h:t.leaves=List.range ms.length):(t.real ms).marks=ms:=by
 rw [t.lV,h];refine List.ext_getElem (by simp) λ i h1 h2=> ?_;simp [h2]
theorem Sh.xM:∀t:Sh,t.deep<=t.leaves.length+t.ones
 | .mark _=>by simp [Sh.deep,Sh.leaves]
 | .two _ l r=>by
  have h1:=l.xM;have h2:=r.xM;have h3:=l.kj;have h4:=r.kj;simp only [Sh.deep,Sh.leaves,Sh.ones,aq];lia
 | .one _ t=>by
  have h1:=t.xM;simp only [Sh.deep,Sh.leaves,Sh.ones];lia
def Tr.nul:Tr->Bool
 | .mark _=>false
 | .two k l r=>if k=sL then l.nul||r.nul else l.nul&&r.nul
 | .one k t=>t.nul || !decide (k=lL)
def Tr.i4:Tr->Nat->List Int
 | .mark _,n=> [(n:Int)]
 | .two k l r,n=>if k=sL\/l.nul=true then l.i4 n++r.i4 (n+l.marks.length) else l.i4 n
 | .one _ t,n=>t.i4 n
def Tr.iU:Tr->Nat->List Int
 | .mark _,n=> [(n:Int)]
 | .two k l r,n=>if k=sL\/r.nul=true then l.iU n++r.iU (n+l.marks.length) else r.iU (n+l.marks.length)
 | .one _ t,n=>t.iU n
def Tr.j8:Tr->Nat->Int->Int->Prop
 | .mark _,_,_,_=>False
 | .two k l r,n,a,b=>l.j8 n a b\/r.j8 (n+l.marks.length) a b\/(k≠sL/\a∈l.iU n/\b∈r.i4 (n+l.marks.length))
 | .one k t,n,a,b=>t.j8 n a b\/(k≠jb/\a∈t.iU n/\b∈t.i4 n)
theorem Tr.jg:∀(t:Tr) (n:Nat),∀x∈t.i4 n,(n:Int)<=x/\x<n+t.marks.length
 | .mark _,n,x,h=>by
  simp only [Tr.i4,ao] at h;simp only [Tr.marks,aF,aV];exact Qau h
 | .two k l r,n,x,h=>by
  have h1:=l.jg n x;have h2:=r.jg (n+l.marks.length) x;simp only [Tr.marks,aq];simp only [Tr.i4] at h
  split at h
  .rcases ax.mp h with h|h
   .have:=h1 h;exact Qag this
   .have:=h2 h;exact Qah this
  .have:=h1 h;exact Qag this
 | .one _ t,n,x,h=>t.jg n x h
theorem Tr.jI:∀(t:Tr) (n:Nat),∀x∈t.iU n,(n:Int)<=x/\x<n+t.marks.length
 | .mark _,n,x,h=>by
  simp only [Tr.iU,ao] at h;simp only [Tr.marks,aF,aV];exact Qau h
 | .two k l r,n,x,h=>by
  have h1:=l.jI n x;have h2:=r.jI (n+l.marks.length) x;simp only [Tr.marks,aq];simp only [Tr.iU] at h
  split at h
  .rcases ax.mp h with h|h
   .have:=h1 h;exact Qag this
   .have:=h2 h;exact Qah this
  .have:=h2 h;exact Qah this
 | .one _ t,n,x,h=>t.jI n x h
theorem Tr.oN:∀(t:Tr) (n:Nat),(t.i4 n).length<=t.marks.length
 | .mark _,n=>by simp [Tr.i4,Tr.marks]
 | .two k l r,n=>by
  have h1:=l.oN n;have h2:=r.oN (n+l.marks.length);simp only [Tr.i4,Tr.marks,aq]
  split
  .rw [aq];exact Nat.add_le_add h1 h2
  .exact Zc h1 Zk
 | .one _ t,n=>t.oN n
theorem Tr.oM:∀(t:Tr) (n:Nat),(t.iU n).length<=t.marks.length
 | .mark _,n=>by simp [Tr.iU,Tr.marks]
 | .two k l r,n=>by
  have h1:=l.oM n;have h2:=r.oM (n+l.marks.length);simp only [Tr.iU,Tr.marks,aq]
  split
  .rw [aq];exact Nat.add_le_add h1 h2
  .exact Zc h2 Zo
 | .one _ t,n=>t.oM n
theorem Tr.kA:∀(t:Tr) (n:Nat) (a b:Int),t.j8 n a b->((n:Int)<=a/\a<n+t.marks.length)/\(n:Int)<=b/\b<n+t.marks.length
 | .mark _,n,a,b,h=>h.elim
 | .two k l r,n,a,b,h=>by
  simp only [Tr.marks,aq];rcases h with h|h | ⟨_,h1,h2⟩
  .have:=l.kA n a b h;omega
  .have:=r.kA _ a b h;omega
  .have:=l.jI n a h1;have:=r.jg _ b h2;omega
 | .one k t,n,a,b,h=>by
  simp only [Tr.marks];rcases h with h | ⟨_,h1,h2⟩
  .exact t.kA n a b h
  .have:=t.jI n a h1;have:=t.jg n b h2;omega
inductive Sh.In:Sh->List Nat->Prop
 | mark (i:Nat):Sh.In (.mark i) [i]
 | row {l r:Sh} {u v:List Nat}:Sh.In l u->Sh.In r v->Sh.In (.two jM l r) (u++v)
 | left {l r:Sh} {u:List Nat}:Sh.In l u->Sh.In (.two sL l r) u
 | right {l r:Sh} {u:List Nat}:Sh.In r u->Sh.In (.two sL l r) u
 | no (t:Sh):Sh.In (.one jb t) []
 | yes {t:Sh} {u:List Nat}:Sh.In t u->Sh.In (.one jb t) u
 | done (t:Sh):Sh.In (.one i6 t) []
 | more {t:Sh} {u v:List Nat}:Sh.In t u->Sh.In (.one i6 t) v->Sh.In (.one i6 t) (u++v)
 | once {t:Sh} {u v:List Nat}:Sh.In t u->Sh.In (.one i6 t) v->Sh.In (.one lL t) (u++v)
def tq (R:Int->Int->Prop):List Nat->Prop
 | []=>True
 | [_]=>True
 | a::b::r=>R ((a:Int)+1) ((b:Int)+1)/\tq R (b::r)
theorem tq.imp (h:∀a b,R a b->S a b):∀{w:List Nat},tq R w->tq S w
 | [],_=>trivial
 | [_],_=>trivial
 | a::b::r,l=>⟨h _ _ l.1,tq.imp h (w:=b::r) l.2⟩
theorem tq.app:∀{u v:List Nat},tq R u->tq R v->(∀a b,u.getLast? = some a->v.head? = some b->R ((a:Int)+1) ((b:Int)+1))->tq R (u++v)
 | [],v,_,h,_=>h
 | [a],[],_,_,_=>trivial
 | [a],b::r,_,h,k=>⟨k a b rfl rfl,h⟩
 | a::b::r,v,h1,h2,k=>⟨h1.1,tq.app (u:=b::r) h1.2 h2 λ x y hx hy=>k x y (by simpa using hx) hy⟩
structure oU (t:Tr) (n:Nat) (w:List Nat):Prop where
 nul:w = []->t.nul=true
 i4:∀a,w.head? = some a->(a:Int)+1∈t.i4 n
 iU:∀a,w.getLast? = some a->(a:Int)+1∈t.iU n
 Ed:tq (t.j8 n) w
theorem yR (h:(u++v).head? = some a):u.head? = some a\/(u = []/\v.head? = some a):=by
 cases u with
 | nil=>exact .inr ⟨rfl,h⟩
 | cons x r=>exact .inl h
theorem yG (h:(u++v).getLast? = some a):v.getLast? = some a\/(v = []/\u.getLast? = some a):=by
 cases v with
 | nil=>exact .inr ⟨rfl,by simpa using h⟩
 | cons x r=>
  refine .inl ?_;rw [List.getLast?_append] at h
  simpa using h
theorem qO (h:l++r=List.range' s c):l=List.range' s l.length/\r=List.range' (s+l.length) r.length:=by
 have hc:c=l.length+r.length:=by
  have:=congrArg List.length h;simp only [aq,List.length_range'] at this;exact this.symm
 subst hc;rw [<-List.range'_append_1] at h;exact List.append_inj h (by simp)
theorem RK:∀{sh:Sh} {w:List Nat},sh.In w->∀s,sh.leaves=List.range' s sh.leaves.length->oU (sh.real ms) (s+1) w:=by
 have o1:¬jM=sL:=by decide
 have o2:¬i6=jb:=by decide
 have o3:¬lL=jb:=by decide
 have o4:¬i6=lL:=by decide
 have o5:¬jb=lL:=by decide
 intro sh w h
 induction h with
 | mark i=>
  intro s hs
  have e:i=s:=by
   simp only [Sh.leaves,aF,aV] at hs
   simpa using hs
  subst e;exact⟨λ z=>(nomatch z),λ a ha=>(by simp at ha;simp [Sh.real,Tr.i4,ha]),λ a ha=>(by simp at ha;simp [Sh.real,Tr.iU,ha]),trivial⟩
 | @row l r u v h1 h2 i1 i2=>
  intro s hs;obtain⟨hl,hr⟩:=qO hs;have a1:=i1 s hl;have a2:=i2 _ hr;rw [df] at a2;have ln:=l.yq ms;refine⟨λ z=> ?_,λ a ha=> ?_,λ a ha=> ?_,?_⟩
  .obtain⟨z1,z2⟩:=List.append_eq_nil_iff.mp z;simp only [Sh.real,Tr.nul,if_neg o1,a1.nul z1,a2.nul z2,Bool.and_self]
  .simp only [Sh.real,Tr.i4,o1,false_or,ln];rcases yR ha with z | ⟨z1,z2⟩
   .split
    .exact aN _ (a1.i4 a z)
    .exact a1.i4 a z
   .rw [if_pos (a1.nul z1)];exact aB _ (a2.i4 a z2)
  .simp only [Sh.real,Tr.iU,o1,false_or,ln];rcases yG ha with z | ⟨z1,z2⟩
   .split
    .exact aB _ (a2.iU a z)
    .exact a2.iU a z
   .rw [if_pos (a2.nul z1)];exact aN _ (a1.iU a z2)
  .refine tq.app (a1.Ed.imp λ a b h=>.inl h) (a2.Ed.imp λ a b h=>.inr (.inl (by rwa [ln]))) λ a b ha hb=>.inr (.inr ⟨o1,a1.iU a ha,?_⟩);rw [ln];exact a2.i4 b hb
 | @left l r u h1 i1=>
  intro s hs;obtain⟨hl,hr⟩:=qO hs;have a1:=i1 s hl;refine⟨λ z=>by simp only [Sh.real,Tr.nul,if_true,a1.nul z,Bool.true_or],λ a ha=> ?_,λ a ha=> ?_,a1.Ed.imp λ a b h=>.inl h⟩
  .simp only [Sh.real,Tr.i4,true_or,if_true];exact aN _ (a1.i4 a ha)
  .simp only [Sh.real,Tr.iU,true_or,if_true];exact aN _ (a1.iU a ha)
 | @right l r u h1 i1=>
  intro s hs;obtain⟨hl,hr⟩:=qO hs;have a1:=i1 _ hr;rw [df] at a1;have ln:=l.yq ms;refine⟨λ z=>by simp only [Sh.real,Tr.nul,if_true,a1.nul z,Bool.or_true],λ a ha=> ?_,λ a ha=> ?_,a1.Ed.imp λ a b h=>.inr (.inl (by rwa [ln]))⟩
  .simp only [Sh.real,Tr.i4,true_or,if_true,ln];exact aB _ (a1.i4 a ha)
  .simp only [Sh.real,Tr.iU,true_or,if_true,ln];exact aB _ (a1.iU a ha)
 | no t=>
  intro s hs;exact⟨λ _=>by simp [Sh.real,Tr.nul,o5],λ a ha=>(nomatch ha),λ a ha=>(nomatch ha),trivial⟩
 | @yes t u h1 i1=>
  intro s hs;have a1:=i1 s hs;exact⟨λ _=>by simp [Sh.real,Tr.nul,o5],a1.i4,a1.iU,a1.Ed.imp λ a b h=>.inl h⟩
 | done t=>
  intro s hs;exact⟨λ _=>by simp [Sh.real,Tr.nul,o4],λ a ha=>(nomatch ha),λ a ha=>(nomatch ha),trivial⟩
 | @more t u v h1 h2 i1 i2=>
  intro s hs;have a1:=i1 s hs;have a2:=i2 s hs;refine⟨λ _=>by simp [Sh.real,Tr.nul,o4],λ a ha=> ?_,λ a ha=> ?_,?_⟩
  .rcases yR ha with z | ⟨_,z⟩
   .exact a1.i4 a z
   .exact a2.i4 a z
  .rcases yG ha with z | ⟨_,z⟩
   .exact a2.iU a z
   .exact a1.iU a z
  .exact tq.app (a1.Ed.imp λ a b h=>.inl h) a2.Ed λ a b ha hb=>.inr ⟨o2,a1.iU a ha,a2.i4 b hb⟩
 | @once t u v h1 h2 i1 i2=>
  intro s hs;have a1:=i1 s hs;have a2:=i2 s hs;refine⟨λ z=> ?_,λ a ha=> ?_,λ a ha=> ?_,?_⟩
  .obtain⟨z1,z2⟩:=List.append_eq_nil_iff.mp z;simp only [Sh.real,Tr.nul,a1.nul z1,Bool.true_or]
  .rcases yR ha with z | ⟨_,z⟩
   .exact a1.i4 a z
   .exact a2.i4 a z
  .rcases yG ha with z | ⟨_,z⟩
   .exact a2.iU a z
   .exact a1.iU a z
  .exact tq.app (a1.Ed.imp λ a b h=>.inl h) (a2.Ed.imp λ a b h=>by
    rcases h with h | ⟨_,h⟩
    .exact .inl h
    .exact .inr ⟨o3,h⟩) λ a b ha hb=>.inr ⟨o3,a1.iU a ha,a2.i4 b hb⟩
def Md (ks:List Int):List (Key×V):=ks.map λ k=>(.inl k,.bl true)
def CY (ks:List Int) (o:Int):List Int:=if o∈ks then ks else ks ++ [o]
theorem QP (ks:List Int) (o:Int):putK (Md ks) (.inl o) (.bl true)=Md (CY ks o):=by
 have e:(((Md ks).any λ kv=>decide (kv.1=Sum.inl o))=true)↔o∈ks:=by
  unfold Md;rw [cv];constructor
  .rintro⟨p,hp,h⟩;obtain⟨x,hx,rfl⟩:=aE.mp hp
   rwa [<-Sum.inl.inj (of_decide_eq_true h)]
  .intro h;exact⟨_,aE.mpr ⟨o,h,rfl⟩,decide_eq_true rfl⟩
 unfold putK CY;by_cases h:o∈ks
 .rw [if_pos (e.mpr h),if_pos h];unfold Md;rw [aQ];refine List.map_congr_left λ p _=> ?_;dsimp only [Function.comp]
  split<;>rfl
 .rw [if_neg (λ z=>h (e.mp z)),if_neg h];unfold Md;rw [av];rfl
theorem D':x∈CY ks o↔x∈ks\/x=o:=by
 unfold CY
 split
 .rename_i h
  exact⟨.inl,λ z=>z.elim id λ e=>e▸h⟩
 .rw [ax,ao]
theorem Pn (h:ks.Nodup):(CY ks o).Nodup:=by
 unfold CY
 split
 .exact h
 .rename_i n
  rw [bL];exact⟨h,by simp,λ a ha b hb z=>n (by rw [ao.mp hb] at z;rwa [<-z])⟩
def nZ (F:List (List Int)) (a:Int):List Int:=(F[a.toNat]?).getD []
structure sv (F:List (List Int)):Prop where
 nd:∀l∈F,l.Nodup
 wQ:∀l∈F,∀x∈l,0<=x/\x<F.length
theorem sv.len (h:sv F):∀l∈F,l.length<=F.length:=by
 intro l hl
 have:=qr l ((List.range F.length).map λ (k:Nat)=>(k:Int)) (h.nd l hl) λ x hx=>by
  obtain⟨h0,h1⟩:=h.wQ l hl x hx;exact aE.mpr ⟨x.toNat,aU.mpr ((Int.toNat_lt h0).2 h1),Int.toNat_of_nonneg h0⟩
 rw [ae,aI] at this;exact this
theorem sv.more (h:sv F):sv (F ++ [[]]):=by
 refine⟨λ l hl=> ?_,λ l hl x hx=> ?_⟩
 .rcases ax.mp hl with z|z
  .exact h.nd l z
  .rw [ao.mp z];exact cq
 .rw [aq];rcases ax.mp hl with z|z
  .have:=h.wQ l z x hx;lia
  .rw [ao.mp z] at hx
   cases hx
def wR (F:List (List Int)) (r o:Int):List (List Int):=F.set r.toNat (CY (nZ F r) o)
theorem DI (F:List (List Int)) (r o:Int):(wR F r o).length=F.length:=by
 unfold wR;rw [bS]
theorem C4 (h0:0<=a) (h:a<F.length):F[a.toNat]? = some (nZ F a):=by
 have:a.toNat<F.length:=by exact (Int.toNat_lt h0).2 h
 unfold nZ;rw [bA this];rfl
theorem sv.put {r o:Int} (h:sv F) (r0:0<=r) (r1:r<F.length) (o0:0<=o) (o1:o<F.length):sv (wR F r o):=by
 have hm:=ai (C4 r0 r1);refine⟨λ l hl=> ?_,λ l hl x hx=> ?_⟩
 .rcases bZ hl with z|z
  .exact h.nd l z
  .rw [z];exact Pn (h.nd _ hm)
 .rw [DI];rcases bZ hl with z|z
  .exact h.wQ l z x hx
  .rw [z] at hx;rcases D'.mp hx with y|rfl
   .exact h.wQ _ hm x y
   .exact⟨o0,o1⟩
theorem L5 (r0:0<=r) (r1:r<F.length) (a0:0<=a):b∈nZ (wR F r o) a↔b∈nZ F a\/(a=r/\b=o):=by
 have rl:r.toNat<F.length:=by exact (Int.toNat_lt r0).2 r1
 by_cases e:a=r
 .subst e
  have:nZ (wR F a o) a=CY (nZ F a) o:=by
   show ((wR F a o)[a.toNat]?).getD []=_;unfold wR;rw [bQ rl];rfl
  rw [this,D'];simp
 .have:nZ (wR F r o) a=nZ F a:=by
   show ((wR F r o)[a.toNat]?).getD []=(F[a.toNat]?).getD [];unfold wR;rw [cg (by lia)]
  rw [this];simp [e]
def mn (F F':List (List Int)) (R:Int->Int->Prop):Prop:=∀a b:Int,0<=a->(b∈nZ F' a↔b∈nZ F a\/R a b)
theorem mn.refl (F:List (List Int)):mn F F λ _ _=>False:=λ a b _=>by simp
theorem mn.trans (h1:mn F F1 R) (h2:mn F1 F2 S):mn F F2 λ a b=>R a b\/S a b:=λ a b h0=>by
 rw [h2 a b h0,h1 a b h0,or_assoc]
theorem mn.iff (h:mn F F' R) (e:∀a b,R a b↔S a b):mn F F' S:=λ a b h0=>by
 rw [h a b h0,e]
theorem mn.more (F:List (List Int)):mn F (F ++ [[]]) λ _ _=>False:=λ a b _=>by
 unfold nZ;by_cases h:a.toNat<F.length
 .rw [aR h];simp
 .rw [bt (Zi h),bC (l:=F) (Zi h)];by_cases z:a.toNat-F.length=0
  .rw [z];simp
  .rw [bC (by simp;exact Nat.pos_of_ne_zero z)];simp
structure qJ (c:Addr) (H:Hp) (b f:Addr) (ds:List Addr) (F:List (List Int)):Prop where
 obj:∃dx,H b=some (.ins c dx [("followers",.ref f)])
 lst:H f=some (.lst (ds.map V.ref))
 al:fN (λ d ks=>H d=some (.dK (Md ks))) ds F
 nd:ds.Nodup
 ok:sv F
theorem qJ.len (h:qJ c H b f ds F):ds.length=F.length:=h.al.len
theorem qJ.same (h:qJ c H b f ds F) (s:fh H H'):qJ c H' b f ds F:=by
 obtain⟨dx,e⟩:=h.obj;exact⟨⟨dx,s _ _ e⟩,s _ _ h.lst,h.al.imp λ _ _ z=>s _ _ z,h.nd,h.ok⟩
theorem qJ.room (h:qJ c H b f ds F) {r:Int} (r0:0<=r) (r1:r<F.length):∃d,ds[r.toNat]? = some d/\H d=some (.dK (Md (nZ F r))):=h.al.at (C4 r0 r1)
theorem fN.Ue {β:Type} {R S:Addr->β->Prop} {a:Addr} {b:β}:∀{as:List Addr} {bs:List β} {i:Nat},fN R as bs->as.Nodup->as[i]? = some a->(∀x y,x≠a->R x y->S x y)->S a b->fN S as (bs.set i b)
 | _,_,0,.cons _ t,n,h,k,r=>by
  simp at h;subst h;have n1:=aY.mp n
  have go:∀{as:List Addr} {bs:List β},fN R as bs->(∀x∈as,¬x=_)->fN S as bs:=λ {as bs} t=>by
   induction t with
   | nil=>exact λ _=>.nil
   | cons r t ih=>exact λ h=>.cons (k _ _ (h _ (by simp)) r) (ih λ x hx=>h x (az _ hx))
  exact .cons r (go t λ x hx z=>n1.1 (z▸hx))
 | _,_,i+1,@fN.cons _ _ _ a0 _ _ _ r0 t,n,h,k,r=>by
  have n1:=aY.mp n;have h':=h;simp at h';have am:=ai h';exact .cons (k _ _ (λ z=>n1.1 (z▸am)) r0) (t.Ue (i:=i) n1.2 (by simpa using h) k r)
 | _,_,i,.nil,_,h,_,_=>by simp at h
theorem qJ.put {c:Addr} {H:Hp} {b f d:Addr} {ds:List Addr} {F:List (List Int)} (h:qJ c H b f ds F) {r o:Int} (r0:0<=r) (r1:r<F.length) (o0:0<=o) (o1:o<F.length) (hd:ds[r.toNat]? = some d) :
  qJ c (upd H d (.dK (Md (CY (nZ F r) o)))) b f ds (wR F r o):=by
 obtain⟨d',TU,ed⟩:=h.room r0 r1;rw [hd] at TU
 cases TU;obtain⟨dx,e⟩:=h.obj;refine⟨⟨dx,(e_ λ z=> ?_).trans e⟩,(e_ λ z=> ?_).trans h.lst,?_,h.nd,h.ok.put r0 r1 o0 o1⟩
 .rw [z,ed] at e
  cases e
 .have:=h.lst;rw [z,ed] at this
  cases this
 .exact h.al.Ue h.nd hd (λ x y hx z=>(e_ hx).trans z) eX
theorem qJ.N1 (h:qJ c H b f ds F) {r:Int} (hd:ds[r.toNat]? = some d) (hx:∃kv,H d=some (.dK kv)):Step H (f::ds) (upd H d o) (f::ds):=by
 have dm:=ai hd;obtain⟨kv,hx⟩:=hx;refine⟨λ x u hn e=>(e_ λ z=>hn (by rw [z];exact az _ dm)).trans e,λ x hx=>.inl hx,λ x xs e=>(e_ λ z=> ?_).trans e⟩;rw [z,hx] at e
 cases e
theorem qJ.out (h:qJ c H b f ds F) (hx:H x=some (.lst xs)) (n:x≠f):x∉f::ds:=λ z=>by
 rcases aA.mp z with z|z
 .exact n z
 .obtain⟨i,hi⟩:=aL.mp z
  have il:i<F.length:=by
   rw [<-h.len];exact(ag.mp hi).1
  have:=h.al.get hi (show F[i]? = some F[i] by simp);rw [hx] at this
  cases this
theorem qJ.more (h:qJ c H b f ds F) (hd:H d=none) :
  qJ c (upd (upd H d (.dK [])) f (.lst (ds.map V.ref ++ [.ref d]))) b f (ds ++ [d]) (F ++ [[]]):=by
 have fd:f≠d:=fq h.lst hd;obtain⟨dx,e⟩:=h.obj;have bf:b≠f:=gN e h.lst (λ z=>nomatch z);have bd:b≠d:=fq e hd;refine⟨⟨dx,by rwa [e_ bf,e_ bd]⟩,by rw [eX,av];rfl,?_,?_,h.ok.more⟩
 .refine fN.snoc (by rw [e_ fd.symm,eX];rfl) (h.al.imp λ x ks e=> ?_)
  rwa [e_ (gN e h.lst (λ z=>nomatch z)),e_ (fq e hd)]
 .rw [bL];refine⟨h.nd,by simp,λ x hx y hy z=> ?_⟩;rw [ao.mp hy] at z;subst z;obtain⟨i,hi⟩:=aL.mp hx
  have il:i<F.length:=by
   rw [<-h.len];exact(ag.mp hi).1
  have:=h.al.get hi (show F[i]? = some F[i] by simp);rw [hd] at this
  cases this
theorem qJ.L1 (h:qJ c H b f ds F) (hd:H d=none) :
  Step H (f::ds) (upd (upd H d (.dK [])) f (.lst xs)) (f::(ds ++ [d])):=by
 refine⟨λ x o hx e=> ?_,λ x hx=> ?_,λ x ys e=> ?_⟩
 .rw [e_ (λ z=>hx (by rw [z];simp)),e_ (fq e hd)];exact e
 .rcases aA.mp hx with rfl|hx
  .exact .inl (by simp)
  .rcases ax.mp hx with hx|hx
   .exact .inl (az _ hx)
   .rw [ao.mp hx];exact .inr hd
 .rwa [e_ (gN e h.lst (λ z=>nomatch z)),e_ (fq e hd)]
def BA (c:Addr) (H:Hp) (b f:Addr) (ds:List Addr) (F:List (List Int)) (tr:Tr) (Q:VK):Prop:=
 ∀p l1 l2 H' T2 F',H p=none->H l1=none->H l2=none->qJ c H' b f (ds++T2) F'->F'.length=F.length+tr.marks.length->mn F F' (tr.j8 F.length)->
  H' p=some (.tup [.bl tr.nul,.ref l1,.ref l2])->H' l1=some (.lst ((tr.i4 F.length).map V.int))->H' l2=some (.lst ((tr.iU F.length).map V.int))->
  Step H (f::ds) H' (f::(ds++T2))->Q (.ref p) H'
theorem Step.free (s:Step H F H' F') (hF:∀y∈F,∃o,H' y=some o) (h:H' x=none):H x=none:=by
 cases q:H x with
 | none=>rfl
 | some o=>
  by_cases hx:x∈F
  .obtain⟨o',e⟩:=hF x hx;rw [h] at e
   cases e
  .rw [s.off x o hx q] at h
   cases h
theorem qJ.live (h:qJ c H b f ds F):∀y∈f::ds,∃o,H y=some o:=λ y hy=>by
 rcases aA.mp hy with rfl|hy
 .exact⟨_,h.lst⟩
 .obtain⟨i,hi⟩:=aL.mp hy
  have il:i<F.length:=by
   rw [<-h.len];exact(ag.mp hi).1
  exact⟨_,h.al.get hi (show F[i]? = some F[i] by simp)⟩
theorem qJ.Ee (h:qJ c H b f (ds++T2) F):∀y∈f::ds,∃o,H y=some o:=λ y hy=>h.live y (by
 rcases aA.mp hy with rfl|hy
 .simp
 .exact az _ (aN _ hy))
theorem BA.fin (k:BA c H b f ds F tr Q) (b2:qJ c H2 b f (ds++T2) F2) (n2:F2.length=F.length+tr.marks.length) (ad:mn F F2 (tr.j8 F.length))
  (s:Step H (f::ds) H2 (f::(ds++T2))) (s3:fh H2 H3) (h1:H y1=none) (h2:H y2=none) (e1:H3 y1=some (.lst ((tr.i4 F.length).map V.int))) (e2:H3 y2=some (.lst ((tr.iU F.length).map V.int))) (hx:H3 x=none) :
  Q (.ref x) (upd H3 x (.tup [.bl tr.nul,.ref y1,.ref y2])):=
 k x y1 y2 _ T2 F2 (s.free b2.Ee (s3.free hx)) h1 h2 ((b2.same s3).same (fh.new hx)) n2 ad eX (fh.new hx _ _ e1) (fh.new hx _ _ e2) (s.trans (Step.same (s3.trans (fh.new hx))))
theorem M9 (a b:Int):b∈nZ [[]] a↔False:=by
 unfold nZ
 cases h:([[]]:List (List Int))[a.toNat]? with
 | none=>simp
 | some l=>
  have:=ai h;rw [ao.mp this];simp
structure j7 (tr:Tr) (M:xP):Prop where
 iR:M.iR=tr.marks
 j8:∀a b:Int,0<=a->(b∈jB M a↔(a=0/\b∈tr.i4 1)\/tr.j8 1 a b)
 up:∀l∈M.j8,l.Pairwise (· < ·)
 ends:M.ends=tr.nul::(List.range tr.marks.length).map λ (j:Nat)=>decide (1+(j:Int)∈tr.iU 1)
theorem OF (ok:sv F) (len:F.length=1+tr.marks.length) (iD:tr.marks.length<=24) (ad:mn [[]] F λ a b=>tr.j8 1 a b\/(a∈[(0:Int)]/\b∈tr.i4 1))
  (al:fN (λ ks (out:List Int)=>out.Perm ks/\out.Pairwise (·<=·)) F outs) :
  pG ⟨tr.marks,outs,tr.nul::(List.range tr.marks.length).map λ (j:Nat)=>decide (1+(j:Int)∈tr.iU 1)⟩/\
  j7 tr ⟨tr.marks,outs,tr.nul::(List.range tr.marks.length).map λ (j:Nat)=>decide (1+(j:Int)∈tr.iU 1)⟩:=by
 have lo:=al.len
 have rel:∀a b:Int,0<=a->(b∈nZ F a↔(a=0/\b∈tr.i4 1)\/tr.j8 1 a b):=λ a b h=>by
  rw [ad a b h,M9];dsimp only;rw [ao];constructor
  .rintro(z|z|z)
   .exact z.elim
   .exact .inr z
   .exact .inl z
  .rintro(z|z)
   .exact .inr (.inr z)
   .exact .inr (.inl z)
 have at_:∀(i:Nat) (l:List Int),outs[i]? = some l->∃ks,F[i]? = some ks/\l.Perm ks/\l.Pairwise (·<=·):=λ i l hl=>by
  obtain⟨ks,h1,h2⟩:=al.at hl;exact⟨ks,h1,h2⟩
 have XG:∀(i:Nat) (l:List Int),outs[i]? = some l->∀r∈l,r∈nZ F (i:Int):=λ i l hl r hr=>by
  obtain⟨ks,h1,h2,_⟩:=at_ i l hl;unfold nZ;rw [au,h1];exact h2.mem_iff.mp hr
 refine⟨⟨by show outs.length=tr.marks.length+1;lia,by simp,λ l hl r hr=> ?_,iD,λ l hl=> ?_⟩,rfl,λ a b ha=> ?_,λ l hl=> ?_,rfl⟩
 .obtain⟨i,hi⟩:=aL.mp hl;rcases (rel _ _ Yt).mp (XG i l hi r hr) with ⟨_,z⟩|z
  .have:=tr.jg 1 r z;show 1<=r/\r<=(tr.marks.length:Int);exact Qav this
  .have:=(tr.kA 1 _ r z).2;show 1<=r/\r<=(tr.marks.length:Int);exact Qav this
 .obtain⟨i,hi⟩:=aL.mp hl;obtain⟨ks,h1,h2,_⟩:=at_ i l hi;have:=ok.len ks (ai h1);rw [h2.length_eq];lia
 .rw [<-rel a b ha];unfold jB nZ;show b∈(outs[a.toNat]?).getD []↔_
  cases h:outs[a.toNat]? with
  | none=>
   have:F[a.toNat]? = none:=by
    rw [List.getElem?_eq_none_iff] at h⊢;exact Zc (Ze lo) h
   rw [this]
  | some l=>
   obtain⟨ks,h1,h2,_⟩:=at_ _ l h;rw [h1];exact h2.mem_iff
 .obtain⟨i,hi⟩:=aL.mp hl;obtain⟨ks,h1,h2,h3⟩:=at_ i l hi;exact P0 (h2.nodup_iff.mpr (ok.nd ks (ai h1))) h3
def ma (M:xP):Int->List Nat->Prop
 | r,[]=>m_ M r=true
 | r,a::w=>(a:Int)+1∈jB M r/\ma M ((a:Int)+1) w
theorem j7.Vr (h:j7 tr M):m_ M 0=tr.nul:=by
 unfold m_;rw [h.ends];rfl
theorem j7.Vq (h:j7 tr M) {r:Int} (r1:1<=r) (r2:r<=tr.marks.length):m_ M r=decide (r∈tr.iU 1):=by
 obtain⟨j,rfl⟩:∃j:Nat,r=1+(j:Int):=⟨(r-1).toNat,by lia⟩
 unfold m_;rw [h.ends,show (1+(j:Int)).toNat=j+1 from Nat.add_comm _ _,dB,ak,cz (by lia)];rfl
theorem j7.led (h:j7 tr M) (l:oU tr 1 w):ma M 0 w:=by
 have go:∀(w:List Nat) (a:Nat),tq (tr.j8 1) (a::w)->(∀x,(a::w).getLast? = some x->(x:Int)+1∈tr.iU 1)->ma M ((a:Int)+1) w:=by
  intro w
  induction w with
  | nil=>
   intro a _ hl;have:=hl a rfl;have r:=tr.jI 1 _ this;show m_ M _=true;rw [h.Vq (by lia) (by lia)];exact decide_eq_true this
  | cons b w ih=>
   intro a hk hl;exact⟨(h.j8 _ _ Qaw).mpr (.inr hk.1),ih b hk.2 λ x hx=>hl x (by rwa [bO])⟩
 cases w with
 | nil=>
  show m_ M 0=true;rw [h.Vr];exact l.nul rfl
 | cons a w=>exact⟨(h.j8 _ _ (by decide)).mpr (.inl ⟨rfl,l.i4 a rfl⟩),go w a l.Ed l.iU⟩
def AH (l:List Sh):List Nat:=l.flatMap Sh.leaves
def C_ (l:List Sh):Nat:=(l.map Sh.ones).sum
theorem oI (l r:List Sh):AH (l++r)=AH l++AH r:=by
 unfold AH;rw [List.flatMap_append]
theorem oF (l r:List Sh):C_ (l++r)=C_ l+C_ r:=by
 unfold C_;rw [av,List.sum_append]
theorem HH:∀l:List Sh,l.length<=(AH l).length
 | []=>aP _
 | s::r=>by
  have:=HH r;have:=s.kj;unfold AH at *;rw [dq,aq,aF];lia
theorem fN.OK {α β:Type} {R S:α->β->Prop}:∀{as:List α} {bs:List β},(∀a b,b∈bs->R a b->S a b)->fN R as bs->fN S as bs
 | _,_,_,.nil=>.nil
 | _,_,h,.cons r t=>.cons (h _ _ (by simp) r) (t.OK λ a b hb r=>h a b (az _ hb) r)
theorem jo {α:Type} {J:It} {H1:Hp} {fr:List Nat} {σ:St} {te:TE} {Q:VK} {cs:List α} {g:α->V} (T:Tells J H1 (cs.map g)) (R:Hp->α->Addr->Prop) (live:∀H c p,R H c p->H p≠none) (mono:∀c p H H',fh H H'->R H c p->R H' c p) (hz:cs.length<=sizeLine)
  (he:∀c H2 Q2,c∈cs->fh H1 H2->(∀p H3,H2 p=none->fh H2 H3->R H3 c p->Q2 (.ref p) H3)->te (lI (g c) fr σ) H2 Q2)
  (off:∀H c p D o,p≠D->R H c p->R (upd H D o) c p)
  (hQ:∀D H2 (as:List Addr),H1 D=none->fh H1 H2->H2 D=some (.lst (as.map V.ref))->fN (R H2) cs as->as.Nodup->(∀a∈as,a≠D/\H1 a=none)->Q (.ref D) H2):uN J H1 fr σ BH te Q:=by
 intro D hD;have hlen:(cs.map g).length=cs.length:=ae ..;refine⟨λ i m ys H2=>m=cs.length-i/\i<=cs.length/\∃as:List Addr,ys=as.map V.ref/\fN (R H2) (cs.take i) as/\as.Nodup/\(∀a∈as,a≠D/\H1 a=none)/\fh H1 H2/\H2 D=some (.lst ys),⟨_,rfl,aP _,[],rfl,.nil,cq,λ a ha=>(nomatch ha),fh.new hD,eX⟩,?_⟩;rintro i m ys H2 ⟨rfl,hi,as,rfl,a2,nd,out,s2,d2⟩;by_cases iJ:i<cs.length
 .refine .inr ⟨T.go i H2 (by rwa [hlen]) s2,λ x H3 y=> ?_⟩;obtain⟨rfl,hx⟩:=T.BE i H2 x H3 s2 (by rwa [hlen]) y;rw [ak] at hx
  cases hc:cs[i]? with
  | none=>rw [hc] at hx;cases hx
  | some c=>
   rw [hc] at hx;obtain rfl:g c=x:=Option.some.inj hx;unfold BH;dsimp only;rw [if_pos rfl];refine he c H3 _ (ai hc) s2 λ p H5 hp s5 r5=>⟨s5 _ _ d2,?_,_,?_,rfl,iJ,as ++ [p],?_,?_,?_,?_,(s2.trans s5).fS hD,eX⟩
   .have:=a2.len;rw [aT] at this;rw [ae];exact Qat hz iJ this
   .exact T6 iJ
   .rw [av];rfl
   .have pD:p≠D:=λ z=>by
     rw [z,d2] at hp
     cases hp
    rw [ic hc];refine fN.snoc (off _ _ _ _ _ pD r5) (fN.OK (λ a b hb r=>off _ _ _ _ _ (out b hb).1 (mono _ _ _ _ s5 r)) a2)
   .rw [bL];refine⟨nd,cF _ _,λ a ha b hb z=> ?_⟩;rw [ao.mp hb] at z;subst z;obtain⟨j,hj⟩:=aL.mp ha
    have jl:j<(cs.take i).length:=by
     rw [a2.len];exact(ag.mp hj).1
    exact live _ _ _ (a2.get (bA jl) hj) hp
   .intro a ha;rcases ax.mp ha with z|z
    .exact out a z
    .rw [ao.mp z];refine⟨λ z=> ?_,s2.free hp⟩;rw [z,d2] at hp
     cases hp
 .obtain rfl:i=cs.length:=by exact Zq hi (Zi iJ)
  exact .inl ⟨by have:=T.stop H2 s2;rw [hlen] at this;exact this,hQ D H2 as hD s2 d2 (by rw [bh] at a2;exact a2) nd out⟩
theorem HB {H:Hp}:∀{ds:List Addr} {F:List (List Int)} {af:List Addr},ds.length=F.length->fN (λ (c:Addr×List Int) (p:Addr)=>∃out:List Int,H p=some (.lst (out.map V.int))/\out.Perm c.2/\out.Pairwise (·<=·)) (ds.zip F) af->
  ∃outs:List (List Int),fN (λ ks (out:List Int)=>out.Perm ks/\out.Pairwise (·<=·)) F outs/\fN (λ x (l:List Int)=>H x=some (.lst (l.map V.int))) af outs
 | [],[],_,_,.nil=>⟨[],.nil,.nil⟩
 | d::ds,k::F,_,hl,.cons ⟨out,e,r⟩ t=>by
  obtain⟨outs,h1,h2⟩:=HB (by simpa using hl) t;exact⟨out::outs,.cons r h1,.cons e h2⟩
theorem fN.XH {α β:Type} {R:α->β->Prop} {as:List α} {bs:List β} (h:fN R as bs) {a:α} (ha:a∈as):∃b∈bs,R a b:=by
 induction h with
 | nil=>cases ha
 | @cons a' b' š bs' r t ih=>
  rcases aA.mp ha with rfl|ha
  .exact⟨_,by simp,r⟩
  .obtain⟨b,hb,r⟩:=ih ha;exact⟨b,az _ hb,r⟩
theorem Cj {t:TS} {D:Ends} {σ:St} {H:Hp} (h:∀N:St->Hp->Prop,(∀fT H',D.nx fT H'->N fT H')->t {D with nx:=N} σ H):t D σ H:=h _ λ _ _ z=>z
theorem Ft (n:Nat):List.range n ++ [n]=List.range (n+1):=(eR).symm
def C1 (l:List Nat):Prop:=l.Pairwise (· < ·)
theorem MZ (up:C1 l) (j:Nat):∀(n lo hi:Nat),hi-lo<=n->lo<=hi->hi<=l.length->(∀(i x:Nat),l[i]? = some x->i<lo->x<j)->(∀(i x:Nat),l[i]? = some x->hi<=i->j<=x)->
  ∃b,SetTable.below.go l.toArray j n lo hi=b/\b<=l.length/\(∀(i x:Nat),l[i]? = some x->i<b->x<j)/\∀(i x:Nat),l[i]? = some x->b<=i->j<=x:=by
 have mono:∀(a b x y:Nat),l[a]? = some x->l[b]? = some y->a<=b->x<=y:=by
  intro a b x y ha hb Y3;obtain⟨a1,rfl⟩:=ag.mp ha;obtain⟨b1,rfl⟩:=ag.mp hb;rcases Nat.lt_or_eq_of_le Y3 with h|h
  .exact dF (dj.mp up a b a1 b1 h)
  .subst h;exact ay _
 intro n
 induction n with
 | zero=>
  intro lo hi h0 h1 h2 h3 h4;have e:lo=hi:=by lia
  subst e;exact⟨lo,rfl,h2,h3,h4⟩
 | succ n ih=>
  intro lo hi h0 h1 h2 h3 h4;unfold SetTable.below.go;by_cases iJ:lo<hi
  .rw [if_pos iJ];dsimp only;have ml:(lo+hi)/2<l.length:=by lia
   have em:l[(lo+hi)/2]? = some (l[(lo+hi)/2]):=by simp
   have eg:l.toArray.getD ((lo+hi)/2) j=l[(lo+hi)/2]:=by
    simp [Array.getD,ml]
   rw [eg];by_cases hx:l[(lo+hi)/2]<j
   .rw [if_pos hx];refine ih _ _ (by lia) (by lia) h2 (λ i x JP hb=> ?_) h4;exact bV (mono i _ x _ JP em (Zs hb)) hx
   .rw [if_neg hx];refine ih _ _ (by lia) (by lia) (Zl ml) h3 λ i x JP hb=> ?_;exact bj (eG hx) (mono _ i _ x em JP hb)
  .rw [if_neg iJ];have e:lo=hi:=by exact Zq h1 (Zi iJ)
   subst e;exact⟨lo,rfl,h2,h3,h4⟩
theorem below_at (up:C1 l) (j:Nat):SetTable.below l.toArray j<=l.length/\(∀(i x:Nat),l[i]? = some x->i<SetTable.below l.toArray j->x<j)/\∀(i x:Nat),l[i]? = some x->SetTable.below l.toArray j<=i->j<=x:=by
 obtain⟨b,e,h⟩:=MZ up j l.toArray.size 0 l.toArray.size Zu (aP _) (by simp) (λ i x _ h=>absurd h (Zx (Nat.zero_le _))) (λ i x h1 h2=>by
  have:=(ag.mp h1).1;simp at h2;lia)
 have:SetTable.below l.toArray j=b:=e
 rwa [this]
theorem Lh (up:C1 l) (free:l[SetTable.below l.toArray j]?≠some j):C1 ((SetTable.insertAt l.toArray (SetTable.below l.toArray j) j).toList):=by
 obtain⟨h1,h2,h3⟩:=below_at up j;generalize SetTable.below l.toArray j=b at *
 have e:(SetTable.insertAt l.toArray b j).toList=l.take b++j::l.drop b:=by
  unfold SetTable.insertAt;simp [List.take_of_length_le]
 rw [e];refine dU.mpr ⟨up.sublist (eC _ _),eh.mpr ⟨λ x hx=> ?_,up.sublist (List.drop_sublist _ _)⟩,λ x hx y hy=> ?_⟩
 .obtain⟨i,hi⟩:=aL.mp hx;rw [List.getElem?_drop] at hi;have:=h3 _ _ hi Zk;rcases Nat.lt_or_eq_of_le this with z|z
  .exact z
  .subst z
   cases i with
   | zero=>exact absurd hi free
   | succ i=>
    have bl:b<l.length:=by
     have:=(ag.mp hi).1;exact Zb Zk this
    have hb:l[b]? = some l[b]:=by simp
    have:=h3 _ _ hb (ay _);obtain⟨q,e⟩:=ag.mp hi;have:=dj.mp up b (b+(i+1)) bl q (by lia);lia
 .obtain⟨i,hi⟩:=aL.mp hx
  have ib:i<b:=by
   have:=(ag.mp hi).1;rw [aT] at this;lia
  rw [List.getElem?_take_of_lt ib] at hi;have xj:=h2 _ _ hi ib;rcases aA.mp hy with rfl|hy
  .exact xj
  .obtain⟨k,hk⟩:=aL.mp hy;rw [List.getElem?_drop] at hk;exact aC xj (h3 _ _ hk Zk)
structure lh (b:Bool) (t:SetTable):Prop where
 up:C1 t.place.toList
 led:t.led=b
theorem I_ {t:SetTable} {h:Int} {j:Nat} {d:Bool} (e:t.freeSlot h=some (j,d)):t.place[SetTable.below t.place j]?≠some j:=by
 have key:∀(n:Nat) (p:SetTable.Probe),(∀d,p.dummy=some d->t.place[SetTable.below t.place d]?≠some d)->∀j dm,SetTable.probe.go t (λ _=>h+1) h n p=some (.empty j dm)->t.place[SetTable.below t.place j]?≠some j/\∀d,dm=some d->t.place[SetTable.below t.place d]?≠some d:=by
  intro n
  induction n with
  | zero=>
   intro p _ j dm z;unfold SetTable.probe.go at z
   cases z
  | succ n ih=>
   intro p hp j dm z;unfold SetTable.probe.go at z
   have ť:∀q:SetTable.Probe,(t.advance q).dummy=q.dummy:=λ q=>by
    unfold SetTable.advance
    split
    .rfl
    .rfl
   cases hs:t.slot p.j with
   | empty=>
    rw [hs] at z
    cases z;refine⟨λ q=> ?_,hp⟩;unfold SetTable.slot at hs;dsimp only at hs;rw [if_pos (by rw [q];exact beq_self_eq_true _)] at hs
    cases hs
   | dummy=>
    rw [hs] at z;refine ih _ (λ d hd=> ?_) j dm z;rw [ť] at hd
    cases hd;intro q;unfold SetTable.slot at hs;dsimp only at hs;rw [if_pos (by rw [q];exact beq_self_eq_true _)] at hs
    cases hs
   | live i=>
    rw [hs] at z
    have nb:(h+1==h)=false:=by
     rw [beq_eq_false_iff_ne];lia
    dsimp only at z;rw [nb] at z;exact ih _ (λ d hd=>hp d (by rw [ť] at hd;exact hd)) j dm z
 unfold SetTable.freeSlot at e
 cases hq:t.probe (λ _=>h+1) h (t.probeStart h) with
 | none=>
  rw [hq] at e
  cases e
 | some m=>
  rw [hq] at e
  cases m with
  | candidate _ _ _=>cases e
  | empty j0 dm=>
   obtain⟨k1,k2⟩:=key _ _ (λ d z=>by cases z) j0 dm hq;dsimp only at e
   cases dm with
   | none=>
    cases e;exact k1
   | some d0=>
    cases e;exact k2 _ rfl
theorem tN (h:lh b t) (n:Nat):lh b (t.standIn n):=⟨by
 unfold SetTable.standIn C1;simp [dH],h.led⟩
theorem RL {b:Bool} {t:SetTable} (h:lh b t) (es:Array (Int×Value)) (hs:Int) (x:Value):lh b (layNew t es hs x).2.1:=by
 unfold layNew
 cases q:t.freeSlot hs with
 | none=>exact tN h _
 | some p=>
  obtain⟨j,d⟩:=p;have fr:=I_ q
  have:lh b (t.put j).1:=⟨by
   have:=Lh (l:=t.place.toList) h.up (j:=j) (by simpa using fr)
   simpa [SetTable.put] using this,h.led⟩
  show lh b ((t.put j).1.orStandIn _);unfold SetTable.orStandIn
  split
  .exact this
  .exact tN this _
theorem Li (h:lh b t) (es:Array (Int×Value)) (n:Nat):lh b (relayAll t es n).2.1:=by
 unfold relayAll
 cases q:t.relaid (es.map (·.1)) n with
 | none=>exact tN h _
 | some p=>
  obtain⟨t',ord⟩:=p;dsimp only
  split
  .unfold SetTable.relaid SetTable.laid at q
   cases hc:SetTable.layClean (SetTable.sizeAbove n-1) (es.map (·.1)) with
   | none=>
    rw [hc] at q
    cases q
   | some ow=>
    rw [hc] at q
    cases q;refine⟨?_,h.led⟩;unfold C1;dsimp only;rw [List.pairwise_map];refine List.Pairwise.filterMap _ (R:=(· < ·)) (λ a a' ha b hb b' xI=> ?_) dH;simp only [Option.map_eq_some_iff] at hb xI;obtain⟨_,_,rfl⟩:=hb;obtain⟨_,_,rfl⟩:=xI;exact ha
  .exact tN h _
section
variable {prog:Program} {w:World} {K:Type} [DecidableEq K] {knd:KeyKind prog w K} {A:Around} {E:Value->Shared->Prop} {s:Shared}
def xi (knd:KeyKind prog w K) (h:Heap) (a:Addr) (S:K->Bool) (n:Nat):Prop:=
 ∃es ep t,h.get? a=some {cls:=.type "set",dict:=none,data:=.set es ep t,slots:= #[]}/\ElemsOf knd es.toList/\(∀k,S k=true↔∃e∈es.toList,knd.is k e.2=true)/\es.size<scanBound/\t.fits es.size=true/\es.size=n/\lh (!w.params.followText "set-order") t
theorem xi.at (x:xi knd h a S n) (k:∀o,h.get? a=some o->h'.get? a=some o):xi knd h' a S n:=by
 obtain⟨es,ep,t,e,r⟩:=x;exact⟨es,ep,t,k _ e,r⟩
theorem xi.congr (x:xi knd h a S n) (e:∀k,S k=S' k) (en:n=n'):xi knd h a S' n':=by
 have:S=S':=funext e
 rwa [<-this,<-en]
theorem IT (h:lh b t):lh b (if c=true then t else {t with plain:=false}):=by
 split
 .exact h
 .exact⟨h.up,h.led⟩
theorem GF {c:Bool} {t:SetTable} {n:Nat} (h:t.fits n=true):(if c=true then t else {t with plain:=false}).fits n=true:=by
 split
 .exact h
 .exact h
theorem Ax (e:s.heap.get? a=some {cls:=.type "set",dict:=none,data:=.set es ep t,slots:= #[]}) (iD:EZ.size<scanBound)
  (h:∀h',Heap.SameBut a s.heap h'->h'.get? a=some {cls:=.type "set",dict:=none,data:=.set EZ (ep+1) t',slots:= #[]}->Q () {s with heap:=h'}):wpAny (model prog w) A (storeSet a EZ t') Q E s:=by
 refine wpAny_storeSet_of e rfl (h _ (Heap.SameBut.update s.heap a _) ?_) (fits_of_scanBound iD);rw [bY (Obj.putSet EZ t') e rfl];rfl
theorem set_tail {g:Bool->Sem Unit} (hg:∀(b:Bool) (jL:Shared) (Q':Unit->Shared->Prop),Q' () jL->wpAny (model prog w) A (g b) Q' E jL) {a:Addr} {es xb:Array (Int×Value)} {ep:Nat} {t t2:SetTable} {S':K->Bool} {Œ:Bool} {R:Option Bool->Shared->Prop}
  (e:s.heap.get? a=some {cls:=.type "set",dict:=none,data:=.set es ep t,slots:= #[]}) (el:ElemsOf knd xb.toList) (mem:∀k',S' k'=true↔∃e∈xb.toList,knd.is k' e.2=true) (iD:xb.size<scanBound) (fit:t2.fits xb.size=true) (tab:lh (!w.params.followText "set-order") t2)
  (h:∀h',Heap.SameBut a s.heap h'->xi knd h' a S' xb.size->R (some true) {s with heap:=h'}) :
  wpAny (model prog w) A (storeSet a xb t2 >>= λ _=>
    if (!Œ&&t2.tooFull)=true then
     g (relayAll t2 xb (SetTable.grown xb.size)).2.2 >>= λ _=>storeSet a (relayAll t2 xb (SetTable.grown xb.size)).1 (relayAll t2 xb (SetTable.grown xb.size)).2.1 >>= λ _=>pure (some true)
    else pure (some true)) R E s:=by
 refine wpAny_bind (Ax e iD λ h1 Nc e1=> ?_)
 split
 .have rp:=relayAll_perm t2 xb (SetTable.grown xb.size);have rf:=relayAll_fits t2 xb (SetTable.grown xb.size);have rt:=Li tab xb (SetTable.grown xb.size);generalize relayAll t2 xb (SetTable.grown xb.size)=r at rp rf rt⊢;obtain⟨SH,t3,gv⟩:=r;dsimp only at rp rf rt⊢
  have sz:SH.size=xb.size:=by
   have:=rp.length_eq
   simpa using this
  refine wpAny_bind (hg _ _ _ (wpAny_bind (Ax (s:= {s with heap:=h1}) e1 (by rwa [sz]) λ h2 Px e2=>wpAny_pure (h h2 (Nc.trans Px) ?_))));exact⟨SH,_,t3,e2,el.perm rp,λ k'=>(mem k').trans ⟨λ ⟨x,hx,q⟩=>⟨x,rp.mem_iff.mpr hx,q⟩,λ ⟨x,hx,q⟩=>⟨x,rp.mem_iff.mp hx,q⟩⟩,by rwa [sz],rf,sz,rt⟩
 .exact wpAny_pure (h h1 Nc ⟨xb,_,t2,e1,el,mem,iD,fit,rfl,tab⟩)
theorem NU {a:Addr} {S:K->Bool} {n:Nat} {k:K} {x:Value} {Q:Bool->Shared->Prop} (hk:knd.is k x=true) (hx:x.scannable=true) (hS:xi knd s.heap a S n) (room:n+1<scanBound)
  (h:∀h' b,Heap.SameBut a s.heap h'->xi knd h' a (λ k'=>S k'||decide (k'=k)) (if S k then n else n+1)->Q b {s with heap:=h'}):wpAny (model prog w) A (setAddHashed a x (knd.hash k)) Q E s:=by
 obtain⟨es,ep,t,e,el,mem,iD,fit,rfl,tab⟩:=hS;unfold setAddHashed setAddHashedIn;refine wpAny_holding (wpAny_bind (wpAny_setState_of e rfl fit ?_));dsimp only;rw [if_pos (byScan_of hx iD el)];unfold setAddByScan;refine wpAny_bind (wpAny_bind (wpAny_rule (wpAny_bind (wpAny_setScan_of hk e rfl fit el ?_))))
 cases q:es.toList.findIdx? (λ e=>knd.is k e.2) with
 | some j=>
  obtain⟨jl,hj,_⟩:=List.findIdx?_eq_some_iff_getElem.mp q;have sk:S k=true:=(mem k).mpr ⟨_,dA jl,hj⟩;refine wpAny_pure (wpAny_pure (h s.heap _ (Heap.SameBut.refl _ _) ?_));rw [if_pos sk];refine⟨es,ep,t,e,el,λ k'=> ?_,iD,fit,rfl,tab⟩;rw [eV,decide_eq_true_eq,<-mem k'];exact⟨λ z=>z.elim id λ y=>by rwa [y],.inl⟩
 | none=>
  have sk:S k=false:=by
   cases z:S k with
   | false=>rfl
   | true=>
    obtain⟨y,hy,hp⟩:=(mem k).mp z;have:=List.findIdx?_eq_none_iff.mp q y hy;rw [hp] at this
    cases this
  dsimp only;have lp:=layNew_perm t es (knd.hash k) x;have lf:=layNew_fits t es (knd.hash k) x;have lt:=RL tab es (knd.hash k) x;generalize layNew t es (knd.hash k) x=L at lp lf lt⊢;obtain⟨xb,t1,Œ,gv⟩:=L;dsimp only at lp lf lt⊢;rw [Array.toList_push] at lp
  have sz:xb.size=es.size+1:=by
   have:=lp.length_eq
   simpa using this
  have fin:∀h',Heap.SameBut a s.heap h'->xi knd h' a (λ k'=>S k'||decide (k'=k)) xb.size->Q true {s with heap:=h'}:=λ h' sb z=>h h' _ sb (by rwa [sk,<-sz])
  have ZF:∀(b:Bool) (jL:Shared) (Q':Unit->Shared->Prop),Q' () jL->wpAny (model prog w) A (match b with
    | true=>rule "set.scan.the-table-gave-way"
    | false=>pure ()) Q' E jL:=λ b jL Q' hq=>by
   cases b with
   | true=>exact wpAny_rule hq
   | false=>exact wpAny_pure hq
  refine wpAny_bind (ZF _ _ _ ?_)
  split
  .rw [hashByValue_scannable 8 hx];refine wpAny_bind (wpAny_pure ?_);refine set_tail ?_ e ((el.push hk hx).perm lp) (mem_push_iff hk mem lp) (by rwa [sz]) (GF lf) (IT lt) λ h' sb z=>wpAny_pure (fin h' sb z);intro b jL Q' hq
   cases b<;>first|exact wpAny_pure hq|exact wpAny_rule hq
  .refine wpAny_bind (wpAny_pure ?_);refine set_tail ?_ e ((el.push hk hx).perm lp) (mem_push_iff hk mem lp) (by rwa [sz]) lf lt λ h' sb z=>wpAny_pure (fin h' sb z);intro b jL Q' hq
   cases b<;>first|exact wpAny_pure hq|exact wpAny_rule hq
end
section
variable {prog:Program} {w:World} {A:Around} {R:Result->Shared->Prop} {I:Addr} {fp wr:List Addr} {G:Array GenState->Array GenState->Prop} {n:Nat} {P:Nat->Value->Prop} {St:Nat->Shared->Prop}
def Ai (prog:Program) (w:World) (h:Heap) (a:Addr) (ns:List Int):Prop:=xi (intKind prog w) h a (λ k=>ns.any (· == k)) ns.length
theorem Ai.at (x:Ai prog w h a ns) (k:∀o,h.get? a=some o->h'.get? a=some o):Ai prog w h' a ns:=xi.at x k
theorem K8 (W:WalksS prog w A.in1 I fp wr G n P St) (S:Addr) (off:S∉fp) (val:Nat->Int) (hv:∀i v,P i v->∃t,v = .int (val i) t) (iD:n+1<scanBound) :
  ∀(k i:Nat) (s:Shared),n-i=k->i<=n->St i s->Ai prog w s.heap S (firstMet val i)->
   (∀s',Moved (S::wr) G s s'->Ai prog w s'.heap S (firstMet val n)->R (.ok (.ret .none)) s')->
   codeAny (model prog w) A (.builtin "set.update.loop" ⟨[.ref S,.ref I],[]⟩) R s:=by
 have UC:S∉wr:=λ z=>off (W.sub _ z);have more:∀b∈wr,b∈S::wr:=λ b z=>az _ z;intro k
 induction k with
 | zero=>
  intro i s e0 e1 st hS hR;obtain rfl:i=n:=by lia
  refine codeAny_builtin PyProof.Rows.F.entry_set_update_loop ?_;rw [Around.under_plainId PyProof.Rows.F.plain_set_update_loop _];refine wpAny_bind (W.done s _ _ st λ s1 mv=>wpAny_pure (hR s1 (mv.mono more) (hS.at λ o z=>mv.heap S o UC z)))
 | succ k ih=>
  intro i s e0 e1 st hS hR;have lt:i<n:=by lia
  refine codeAny_builtin PyProof.Rows.F.entry_set_update_loop ?_;rw [Around.under_plainId PyProof.Rows.F.plain_set_update_loop _];refine wpAny_bind (W.item i s _ _ lt st λ v s1 hP W9 mv=> ?_);obtain⟨t,rfl⟩:=hv i v hP;have hS1:=hS.at (h':=s1.heap) λ o z=>mv.heap S o UC z;refine wpAny_bind (wpAny_holding ?_);unfold setAdd;refine wpAny_holding (wpAny_bind ((intKind prog w).pyHash (k:=val i) (intKind_is _ _ _ _) ?_))
  have room:(firstMet val i).length+1<scanBound:=by
   have:=firstMet_length_le val i;lia
  refine NU (knd:=intKind prog w) (s:= {s1 with toks:=s1.toks+1}) (intKind_is _ _ _ _) rfl hS1 room λ h2 b sb hS2=> ?_;have Y4:Ai prog w h2 S (firstMet val (i+1)):=hS2.congr (λ k'=>by rw [firstMet_succ,step_any]) (by rw [firstMet_succ,step_length]);refine wpAny_pure ⟨plainId_quiet PyProof.Rows.F.plain_set_update_loop _,ih (i+1) _ (by lia) lt (W.frame _ s1 _ _ W9 (cf _) λ c hc o z=> ?_) Y4 λ s2 ο hS4=> ?_⟩
  .rw [sb.2 c (λ q:c=S=>off (by rwa [<-q]))];exact z
  .refine hR s2 (Moved.trans W.gtrans ((mv.mono more).then_heap (cf _) λ c o hc z=> ?_) ο) hS4;rw [sb.2 c (λ q:c=S=>hc (by rw [q];exact aZ))];exact z
end
section
variable {prog:Program} {w:World} {A:Around} {E:Value->Shared->Prop} {s:Shared}
abbrev mR (b:Bool):Obj:= {cls:=.type "set",dict:=none,data:=.set #[] 0 (.fresh 0 0 b)}
theorem K7 (a:Value) (h:Q1 (.ref s.heap.objs.size) {s with heap:=s.heap.push (mR (!w.params.followText "set-order"))}) :
  codeAny (model prog w) A (.call (.builtin "set.__new__") ⟨[.type "set",a],[]⟩) (wants Q1 E) s:=by
 refine codeAny_of_tree (wpAny_bind (wpAny_of_eq (PySem.F.newCall_set_1 a) (wpAny_pure ⟨plainId_quiet PySem.F.plain_set_new _,codeAny_builtin PySem.F.entry_set_new ?_⟩)));rw [Around.under_plainId PySem.F.plain_set_new _];unfold Builtin.«set.__new__» Builtin.Frozenset.newClass;have z:=PySem.sub_set_self;obtain⟨h0,h1,h2,h3,h4⟩:=s;dsimp only
 wp_walk
 refine wpAny_askSetting (wpAny_pure ?_);dsimp only;simp only [newObj];exact wpAny_bind (wpAny_alloc (wpAny_pure (wpAny_pure h)))
set_option maxHeartbeats 3200000 in
theorem Dx (calm:A.handled=none) (hl:s.heap.IsList l its) (hi:IntsAre its.toList ns) (iD:its.size+1<scanBound)
  (h:∀(h':Heap) (tk:Nat),Ai prog w h' s.heap.objs.size (firstMet (λ i=>ns.getD i 0) its.size)->(∀b o,b<s.heap.objs.size->s.heap.get? b=some o->h'.get? b=some o)->Q (.ref s.heap.objs.size) {s with heap:=h',toks:=tk}) :
  wpAny (model prog w) A (call (.type "set") [.ref l]) Q E s:=by
 obtain⟨z1,z2,z3⟩:=bR.mro;have z4:=bR.made;have z5:=bR.sub;refine wpAny_call (codeAny_of_tree ?_);show wpAny _ _ (callAny (.type "set") _) _ _ _;refine wpAny_pure ⟨Code.quiet_builtin _ (by decide +kernel),codeAny_builtin PySem.F.entry_type_call ?_⟩;rw [Around.under_plain (weight_type_call_type "set" [.ref l] []) rfl];have z6:=bR.notType;have z7:=bR.canCreate;have z8:=PySem.F.typeCall_set_1 (.ref l)
 repeat (any_goals (first|assumption|wp_step))
 refine codeAny_mono (K7 (E:=E) (.ref l) (Q1:=λ obj s1=>obj = .ref s.heap.objs.size/\s1 = {s with heap:=s.heap.push (mR (!w.params.followText "set-order"))}) ⟨rfl,rfl⟩) λ r s1 hr=> ?_
 cases r with
 | error e=>exact hr
 | ok fl=>
  cases fl with
  | ret obj=>
   obtain⟨rfl,rfl⟩:=hr;have y1:(s.heap.push (mR (!w.params.followText "set-order"))).get? s.heap.objs.size=some (mR (!w.params.followText "set-order")):=aK _ rfl;have y2:Shared.TypeIs {s with heap:=s.heap.push (mR (!w.params.followText "set-order"))} (.ref s.heap.objs.size) "set" := ⟨_,y1,rfl⟩
   have y3:=bR.init.lookup;have y4:=bR.init.bind (.ref s.heap.objs.size)
   repeat (any_goals (first|assumption|wp_step))
   refine codeAny_mono (codeAny_call_builtin (R:=wants (λ r s2=>r = .none/\∃h' tk,s2 = {s with heap:=h',toks:=tk}/\Ai prog w h' s.heap.objs.size (firstMet (λ i=>ns.getD i 0) its.size)/\
     (∀b o,b<s.heap.objs.size->s.heap.get? b=some o->h'.get? b=some o)) E) bR.init.plain PySem.F.entry_set_init (PySem.check_set_init_1 y2 ?_)) λ r2 s2 sR=> ?_
   .obtain⟨ol,e1,e2,nl,e3⟩:=hl;obtain⟨c1,c2,c3,c4⟩:=ol;simp only at e2 e3;subst e2;subst e3;have e4:=ah (mR (!w.params.followText "set-order")) e1;have y5:=PySem.F.sub_list_set;have y6:=PySem.F.sub_list_frozenset;have y7:(Value.type "list" == Value.type "dict")=false:=by decide
    have y8:(s.heap.push (mR (!w.params.followText "set-order"))).IsList l its:=⟨_,e4,rfl,nl,rfl⟩
    unfold Builtin.«set.__init__» noKeywords Builtin.Frozenset.updateFrom;generalize hPI:pyIter=PI
    wp_walk
    subst hPI;refine wpAny_pyIter_list y8 (wpAny_bind (wpAny_runValue ?_));have ls:l<s.heap.objs.size:=aG e1;have VC:A.in1.in1.in1.handled=none:=by simp [calm]
    have sz:(s.heap.push (mR (!w.params.followText "set-order"))).objs.size=s.heap.objs.size+1:=bX _ _
    have ne1:l≠(s.heap.push (mR (!w.params.followText "set-order"))).objs.size:=by
     rw [sz];exact aO (cI ls)
    have out:s.heap.objs.size∉[(s.heap.push (mR (!w.params.followText "set-order"))).objs.size,l]:=by
     rw [sz];intro z;rcases aA.mp z with z|z
     .exact absurd z (aO (cQ _))
     .exact absurd (ao.mp z) (dc ls)
    refine K8 ((Walks.list VC _ l ne1 its).toS) s.heap.objs.size out (λ i=>ns.getD i 0) (λ i v hv=>IntsAre.int_at hi i v (by rwa [bc])) iD (its.size-0) 0 _ rfl (aP _)
     ⟨⟨_,aK _ rfl,rfl,rfl⟩,y8.push _⟩ ?_ ?_
    .exact⟨#[],0,_,ah _ y1,λ e he=>by simp at he,λ k=>by simp [firstMet],by unfold scanBound;decide,by rfl,rfl,⟨.nil,rfl⟩⟩
    .intro s3 mv Y4;obtain⟨h3,g3,d3,t3,o3⟩:=s3;have q1:g3=s.gens:=mv.gens;have q2:d3=s.drawn:=mv.drawn;have q3:o3=s.os:=mv.os;subst q1;subst q2;subst q3;refine wpAny_pure ?_;show wpAny _ _ (ret Value.none) _ _ _;refine wpAny_pure ⟨rfl,h3,t3,rfl,Y4,λ b o bl z=> ?_⟩;refine mv.heap b o (λ q=> ?_) (ah _ (ah _ z));rcases aA.mp q with q|q
     .exact absurd q (aO bl)
     .have:=ao.mp q;rw [sz] at this;exact absurd this (aO (cI bl))
   .cases r2 with
    | error e=>exact sR
    | ok f2=>
     cases f2 with
     | ret r=>
      obtain⟨rfl,h',tk,rfl,x1,x2⟩:=sR
      repeat (any_goals (first|assumption|wp_step))
      exact h _ _ x1 x2
     | _=>exact sR.elim
  | _=>exact hr.elim
end
theorem jR:Slot "set_iterator" "__next__" "set_iterator.__next__" := .of (owner:="set_iterator") (n:="__next__") (by rw [typeLookup_type,builtinLookup_eq_fast];kernel_rfl)
 (by decide +kernel) (by decide +kernel) (by decide +kernel)
 (by first|exact .inl (by decide +kernel)|exact .inr (by decide +kernel))
 (by rw [isSubtype_type];kernel_rfl)
theorem tW:entryFor table "set_iterator.__next__" = some Builtin.«set_iterator.__next__» := entryFor_of_tree (by kernel_rfl)
theorem Dw:Manifest.owners.lookup (String.ofList ['r','o','t','a','r','e','t','i','_','t','e','s'].reverse)=some Manifest.sig_set_iterator:=by kernel_rfl
theorem xx (a:Value):argsOk "set_iterator.__next__" ⟨[a],[]⟩:=by
 unfold argsOk;rw [signature?_of (id:="set_iterator.__next__") (n:= ['_','_','t','x','e','n','_','_']) (o:= ['r','o','t','a','r','e','t','i','_','t','e','s']) (by kernel_rfl) Dw]
 kernel_rfl
theorem yh:entryFor table "set.__iter__" = some Builtin.«frozenset.__iter__» := entryFor_alias (id':="frozenset.__iter__") (by kernel_rfl)
 rfl (by decide +kernel) (by kernel_rfl)
theorem sT {α:Type}:∀{l:List α} {i:Nat} (h:i<l.length),(l[i]::l.eraseIdx i).Perm l
 | _::_,0,_=>.refl _
 | x::r,i+1,h=>by
  have:=sT (l:=r) (i:=i) (by simpa using h);rw [List.getElem_cons_succ,List.eraseIdx_cons_succ];exact(List.Perm.swap _ _ _).trans (this.cons x)
section
variable {prog:Program} {w:World} {A:Around} {E:Value->Shared->Prop} {s:Shared}
theorem GV (h0:n≠0) (h:∀i d,i<n->Q i {s with drawn:=d}):wpAny (model prog w) A (choose src n) Q E s:=by
 have:=h ((model prog w).w.draws src (s.drawn.get src)%n) (s.drawn.bump src) (Nat.mod_lt _ (Nat.pos_of_ne_zero h0));unfold choose;intro Γ p _;rw [Sem.wp_choose];refine⟨h0,?_⟩
 rwa [Sem.wp_pure]
theorem Bm {α:Type}:∀(n:Nat) (xs:List α) (s:Shared) (Q:List α->Shared->Prop),xs.length=n->(∀ys d,ys.Perm xs->Q ys {s with drawn:=d})->wpAny (model prog w) A (drawOrder n xs) Q E s
 | 0,xs,s,Q,hn,h=>by
  have e:xs = []:=cG.mp hn;subst e;unfold drawOrder;exact wpAny_pure (h [] s.drawn (.refl _))
 | n+1,[],s,Q,hn,h=>by cases hn
 | n+1,x::r,s,Q,hn,h=>by
  unfold drawOrder;refine wpAny_bind (GV (by simp) λ i d hi=> ?_);have e:(x::r)[i]? = some (x::r)[i]:=bA hi;rw [e];dsimp only;refine wpAny_bind (Bm n _ _ _ (by rw [List.length_eraseIdx_of_lt hi];exact Nat.succ_inj.1 hn) λ ys d2 p=>wpAny_pure (h _ d2 ?_));exact(List.Perm.cons _ p).trans (sT hi)
end
theorem Ji {α:Type} (f:Nat->Nat) (es:Array α):(pickOrder f es).toList.Perm es.toList:=by
 have go:∀(n k:Nat) (l:List α) (out:Array α),l.length=n->(pickOrder.go f n k l out).toList.Perm (out.toList++l):=by
  intro n
  induction n with
  | zero=>
   intro k l out hn;have e:l = []:=cG.mp hn;subst e;unfold pickOrder.go;simp
  | succ n ih=>
   intro k l out hn;unfold pickOrder.go;have hi:f k%l.length<l.length:=Nat.mod_lt _ (Qai hn);have e:l[f k%l.length]? = some (l[f k%l.length]):=bA hi;rw [e];dsimp only;refine(ih (k+1) _ _ (by rw [List.length_eraseIdx_of_lt hi];exact Nat.sub_eq_of_eq_add hn)).trans ?_;rw [Array.toList_push,bH];exact List.Perm.append_left _ (sT hi)
 have:=go es.size 0 es.toList #[] (by simp)
 simpa [pickOrder] using this
abbrev lN (es:Array (Int×Value)) (ep:Nat) (t:SetTable):Obj:= {cls:=.type "set",dict:=none,data:=.set es ep t,slots:= #[]}
abbrev kM (first:Value) (i:Nat) (a:Addr) (n ep:Nat):Obj:= {cls:=.type "set_iterator",dict:=none,data:=.fields #[first,.int i 0,.ref a,.int n 0,.int ep 0],slots:= #[]}
section
variable {prog:Program} {w:World} {A:Around} {E:Value->Shared->Prop} {s:Shared}
theorem GS (up:C1 l):SetTable.below l.toArray 0=0:=by
 obtain⟨h1,h2,h3⟩:=below_at up 0
 cases hb:SetTable.below l.toArray 0 with
 | zero=>rfl
 | succ b=>
  rw [hb] at h1 h2;have:l[0]? = some l[0]:=by simp
  exact absurd (h2 0 _ this (Zt (Nat.zero_le _))) (Zx (Nat.zero_le _))
theorem GU (up:C1 l) (h:l[i]? = some j):SetTable.below l.toArray (j+1)=i+1:=by
 obtain⟨h1,h2,h3⟩:=below_at up (j+1);obtain⟨il,ej⟩:=ag.mp h
 have a1:¬SetTable.below l.toArray (j+1)<=i:=λ z=>by
  have:=h3 i j h z;exact Zf (Nat.lt_succ_self _) this
 have a2:¬i+1<SetTable.below l.toArray (j+1):=λ z=>by
  have il2:i+1<l.length:=by exact Za z h1
  have e2:l[i+1]? = some l[i+1]:=by simp
  have:=h2 _ _ e2 z;have:=dj.mp up i (i+1) il il2 (Nat.lt_succ_self _);lia
 exact Zq (Zi a2) (Zj a1)
def orderOf (w:World) (a:Addr) (ep:Nat) (es:Array (Int×Value)):List (Int×Value):=if w.params.followText "set-order" = true then (pickOrder (w.params.setOrder a ep) es).toList else es.toList
theorem oE (w:World) (a:Addr) (ep:Nat) (es:Array (Int×Value)):(orderOf w a ep es).Perm es.toList:=by
 unfold orderOf
 split
 .exact Ji _ _
 .exact .refl _
structure Plain (w:World) (es:Array (Int×Value)) (t:SetTable):Prop where
 fit:t.fits es.size=true
 tab:lh (!w.params.followText "set-order") t
 calm:w.params.followText "set-order" = true\/t.plain=true\/es.size<=1
theorem Dy (P:Plain w es t) (ea:s.heap.get? a=some (lN es ep t))
  (at_:w.params.followText "set-order" = false->SetTable.below t.place slot=i)
  (h0:(orderOf w a ep es)[i]? = none->Q none s)
  (h1:∀e rM,(orderOf w a ep es)[i]? = some e->(w.params.followText "set-order" = false->SetTable.below t.place rM=i+1)->Q (some (e.2,rM)) s) :
  wpAny (model prog w) A (setNext a slot i ep) Q E s:=by
 unfold setNext;refine wpAny_bind (wpAny_setState_of ea rfl P.fit ?_);dsimp only;unfold setsByText;refine wpAny_bind (wpAny_bind (wpAny_askSetting (wpAny_pure ?_)));dsimp only
 cases hb:w.params.followText "set-order" with
 | true=>
  have eo:orderOf w a ep es=(pickOrder (w.params.setOrder a ep) es).toList:=by
   unfold orderOf;rw [if_pos hb]
  rw [if_pos (by exact hb),if_neg (by simp)];unfold setWalk;refine wpAny_bind (wpAny_bind (wpAny_setState_of ea rfl P.fit ?_));dsimp only;unfold setsByText;refine wpAny_bind (wpAny_bind (wpAny_askSetting (wpAny_pure ?_)));dsimp only;rw [if_pos (by exact hb)];refine wpAny_bind (wpAny_askSetting (wpAny_pure (wpAny_pure ?_)));rw [eo] at h0 h1
  cases hx:(pickOrder (w.params.setOrder a ep) es).toList[i]? with
  | none=>
   rw [bc] at hx;have:Q none s:=h0 (by rwa [bc]);show Q (((pickOrder (w.params.setOrder a ep) es)[i]?).map _) s
   rwa [hx]
  | some e=>
   have:Q (some (e.2,slot)) s:=h1 e slot hx (λ z=>by rw [hb] at z;cases z);rw [bc] at hx;show Q (((pickOrder (w.params.setOrder a ep) es)[i]?).map _) s
   rwa [hx]
 | false=>
  have eo:orderOf w a ep es=es.toList:=by
   unfold orderOf;rw [if_neg (by rw [hb];exact aJ)]
  have nb:¬(model prog w).w.params.followText "set-order" = true:=λ z=>by
   have z:w.params.followText "set-order" = true:=z;rw [hb] at z
   cases z
  rw [if_neg nb]
  have nd:(!t.plain&&decide (es.size>1))=false:=by
   rcases P.calm with z|z|z
   .rw [hb] at z
    cases z
   .rw [z];rfl
   .have:¬es.size>1:=by lia
    rw [decide_eq_false this,Bool.and_false]
  have led:t.led=true:=by
   have:=P.tab.led;rw [hb] at this;exact this
  have e1:SetTable.below t.place slot=i:=at_ hb;have fit:=P.fit;simp only [SetTable.fits,bg,beq_iff_eq,decide_eq_true_eq] at fit;show wpAny _ _ (if (!t.plain&&decide (es.size>1))=true then _ else _) _ _ _;rw [nd,if_neg aJ];refine wpAny_bind ?_;show wpAny _ _ (if (!t.led && !es.isEmpty)=true then _ else _) _ _ _;rw [led];show wpAny _ _ (pure ()) _ _ _;refine wpAny_pure (wpAny_pure ?_);rw [e1];rw [eo] at h0 h1;by_cases hi:i<es.size
  .have p1:es[i]? = some es[i]:=by simp [hi]
   have p2:t.place[i]? = some (t.place[i]'(Za hi (Zg fit.1))):=by
    rw [Array.getElem?_eq_getElem]
   rw [p1,p2];refine h1 es[i] _ (by rwa [bc]) λ _=> ?_;have:=GU (l:=t.place.toList) P.tab.up (i:=i) (j:=t.place[i]'(Za hi (Zg fit.1))) (by rwa [bc])
   simpa using this
  .have p1:es[i]? = none:=by simp;exact Zi hi
   rw [p1];exact h0 (by rwa [bc])
end
section
variable {prog:Program} {w:World} {A:Around} {E:Value->Shared->Prop} {s:Shared}
theorem j3 (e:s.heap.get? I=some o) (h:o.cls = .type "set_iterator"):s.TypeIs (.ref I) "set_iterator" := ⟨o,e,h⟩
theorem Dt (hh:A.handled=none) (h:∀h',(∀b o,s.heap.get? b=some o->h'.get? b=some o)->Q none {s with heap:=h'}) :
  wpAny (model prog w) A.in1 (newExc (.type "StopIteration") [] >>= λ e=>(raiseNew e:Sem Fin)) (λ fin s'=>∃v,fin=Fin.done (Flow.ret v)/\wpAny (model prog w) A (pure (some v)) Q E s')
   (λ e s'=>wpAny (model prog w) A (do let y <-isInstance e (Value.type "StopIteration");if y=true then pure none else throw e) Q E s') s:=by
 refine wpAny_bind ?_;simp only [newExc,newTuple]
 have fa:firstArgMember (.type "StopIteration") []=pure Value.none:=by
  first|rfl|(simp only [firstArgMember];rfl)
 refine wpAny_bind (wpAny_newObj_type (wpAny_bind (m:=firstArgMember _ _) (wpAny_of_eq fa (wpAny_newObj_type ?_ (by size_fits)))) (by size_fits));simp only [raiseNew];refine wpAny_bind (wpAny_handled ?_);have h1:A.in1.handled=none:=hh;rw [h1];refine wpAny_bind (wpAny_pure (wpAny_throw ?_));refine wpAny_bind (wpAny_isInstance (b:=true) (T:="StopIteration") ⟨_,aK _ rfl,rfl⟩ isSubtype_stop (wpAny_pure (h _ λ b o z=> ?_)));exact ah _ (ah _ z)
theorem Jw {ep:Nat} {slot i:Nat} (P:Plain w es t) (ea:s.heap.get? a=some (lN es ep t)) (ei:s.heap.get? I=some (kM (.int slot 0) i a es.size ep))
  (at_:w.params.followText "set-order" = false->SetTable.below t.place slot=i) (he:(orderOf w a ep es)[i]? = some e)
  (h:∀h' (rM:Nat),h'.get? I=some (kM (.int rM 0) (i+1) a es.size ep)->(w.params.followText "set-order" = false->SetTable.below t.place rM=i+1)->Heap.SameBut I s.heap h'->Q (some e.2) {s with heap:=h'}) :
  wpAny (model prog w) A (pyNext (.ref I)) Q E s:=by
 unfold pyNext;refine wpAny_bind (wpAny_attempt (wpAny_callSpecial?_slot (name:=Str.ofString "__next__") (j3 ei rfl) jR (wpAny_call_entry jR (j3 ei rfl) tW ?_ (xx _))));unfold Builtin.«set_iterator.__next__»;refine wpAny_bind (wpAny_pure ?_);refine wpAny_bind (wpAny_fieldsOf ei rfl ?_);dsimp only;refine wpAny_bind (wpAny_setEntries_of ea rfl P.fit ?_);rw [if_neg (by simp)];simp only [au];refine wpAny_bind (Dy P ea at_ (λ z=>by rw [he] at z;cases z) λ e' rM h1 h2=> ?_);rw [he] at h1
 cases h1;dsimp only;refine wpAny_bind (wpAny_setField_rec ei (by simp) λ h1 e1 Nc=> ?_);refine wpAny_bind (wpAny_setField_rec e1 (by simp) λ WD e2 Px=> ?_);refine wpAny_pure ⟨_,rfl,wpAny_pure ?_⟩;exact h WD rM e2 h2 (Nc.trans Px)
theorem Jx {ep:Nat} {slot i:Nat} (hh:A.handled=none) (P:Plain w es t) (ea:s.heap.get? a=some (lN es ep t)) (ei:s.heap.get? I=some (kM (.int slot 0) i a es.size ep))
  (at_:w.params.followText "set-order" = false->SetTable.below t.place slot=i) (he:(orderOf w a ep es)[i]? = none)
  (h:∀h',Heap.ExtBut I s.heap h'->Q none {s with heap:=h'}) :
  wpAny (model prog w) A (pyNext (.ref I)) Q E s:=by
 unfold pyNext;refine wpAny_bind (wpAny_attempt (wpAny_callSpecial?_slot (name:=Str.ofString "__next__") (j3 ei rfl) jR (wpAny_call_entry jR (j3 ei rfl) tW ?_ (xx _))));unfold Builtin.«set_iterator.__next__»;refine wpAny_bind (wpAny_pure ?_);refine wpAny_bind (wpAny_fieldsOf ei rfl ?_);dsimp only;refine wpAny_bind (wpAny_setEntries_of ea rfl P.fit ?_);rw [if_neg (by simp)];simp only [au];refine wpAny_bind (Dy P ea at_ (λ _=> ?_) λ e' rM h1 h2=>by rw [he] at h1;cases h1);dsimp only;refine wpAny_bind (wpAny_setField_rec ei (by simp) λ h1 e1 Nc=> ?_);exact Dt (s:= {s with heap:=h1}) hh λ h2 k2=>h h2 λ b o hb z=>k2 b o (Nc.extBut b o hb z)
end
theorem Hn:Slot "set_iterator" "__iter__" "set_iterator.__iter__" := .of (owner:="set_iterator") (n:="__iter__") (by rw [typeLookup_type,builtinLookup_eq_fast];kernel_rfl)
 (by decide +kernel) (by decide +kernel) (by decide +kernel)
 (by first|exact .inl (by decide +kernel)|exact .inr (by decide +kernel))
 (by rw [isSubtype_type];kernel_rfl)
theorem zU:entryFor table "set_iterator.__iter__" = some Builtin.«dict_keyiterator.__iter__» := entryFor_alias (id':="dict_keyiterator.__iter__") (by kernel_rfl)
 rfl (by decide +kernel) (by kernel_rfl)
theorem BV (a:Value):argsOk "set_iterator.__iter__" ⟨[a],[]⟩:=by
 unfold argsOk;rw [signature?_of (id:="set_iterator.__iter__") (n:= ['_','_','r','e','t','i','_','_']) (o:= ['r','o','t','a','r','e','t','i','_','t','e','s']) (by kernel_rfl) Dw]
 kernel_rfl
section
variable {prog:Program} {w:World} {A:Around} {E:Value->Shared->Prop} {s:Shared}
theorem AN (e:s.heap.get? I=some o) (h:o.cls = .type "set_iterator") (q:Q (.ref I) s):wpAny (model prog w) A (pyIter (.ref I)) Q E s:=by
 refine wpAny_pyIter_slot (j3 e h) Hn (wpAny_call_entry Hn (j3 e h) zU ?_ (BV _));exact wpAny_pure ⟨_,rfl,"set_iterator",_,j3 e h,jR.lookup,q⟩
end
abbrev iP (ps:List Nat):Obj:= {cls:=.type "tuple",dict:=none,data:=.seq ((ps.map λ (i:Nat)=>rawInt i).toArray) 0,slots:= #[]}
section
variable {prog:Program} {w:World} {A:Around} {E:Value->Shared->Prop} {s:Shared}
theorem GJ (fit:t.fits es.size=true) (ea:s.heap.get? a=some (lN es ep t)) (eq:s.heap.get? q=some (iP ps)) (ei:s.heap.get? I=some (kM (.ref q) i a es.size ep))
  (hp:ps[i]? = some p) (he:es[p]? = some e)
  (h:∀h',h'.get? I=some (kM (.ref q) (i+1) a es.size ep)->Heap.SameBut I s.heap h'->Q (some e.2) {s with heap:=h'}) :
  wpAny (model prog w) A (pyNext (.ref I)) Q E s:=by
 unfold pyNext;refine wpAny_bind (wpAny_attempt (wpAny_callSpecial?_slot (name:=Str.ofString "__next__") (j3 ei rfl) jR (wpAny_call_entry jR (j3 ei rfl) tW ?_ (xx _))));unfold Builtin.«set_iterator.__next__»;refine wpAny_bind (wpAny_pure (wpAny_bind (wpAny_fieldsOf ei rfl ?_)));dsimp only;refine wpAny_bind (wpAny_setEntries_of ea rfl fit ?_);rw [if_neg (by simp)];refine wpAny_bind (wpAny_seqItems eq rfl ?_)
 have hx:((ps.map λ (i:Nat)=>rawInt i).toArray)[i]? = some (.int p 0):=by
  rw [cP,ak,hp];rfl
 simp only [au,hx];unfold setNextDrawn;refine wpAny_bind (wpAny_bind (wpAny_setState_of ea rfl fit ?_));dsimp only;rw [if_neg (by simp),he];refine wpAny_pure ?_;refine wpAny_bind (wpAny_setField_rec ei (by simp) λ h1 e1 Nc=> ?_);exact wpAny_pure ⟨_,rfl,wpAny_pure (h h1 e1 Nc)⟩
theorem GK (hh:A.handled=none) (fit:t.fits es.size=true) (ea:s.heap.get? a=some (lN es ep t)) (eq:s.heap.get? q=some (iP ps)) (ei:s.heap.get? I=some (kM (.ref q) i a es.size ep))
  (hp:ps[i]? = none) (h:∀h',Heap.ExtBut I s.heap h'->Q none {s with heap:=h'}) :
  wpAny (model prog w) A (pyNext (.ref I)) Q E s:=by
 unfold pyNext;refine wpAny_bind (wpAny_attempt (wpAny_callSpecial?_slot (name:=Str.ofString "__next__") (j3 ei rfl) jR (wpAny_call_entry jR (j3 ei rfl) tW ?_ (xx _))));unfold Builtin.«set_iterator.__next__»;refine wpAny_bind (wpAny_pure (wpAny_bind (wpAny_fieldsOf ei rfl ?_)));dsimp only;refine wpAny_bind (wpAny_setEntries_of ea rfl fit ?_);rw [if_neg (by simp)];refine wpAny_bind (wpAny_seqItems eq rfl ?_)
 have hx:((ps.map λ (i:Nat)=>rawInt i).toArray)[i]? = none:=by
  rw [cP,ak,hp];rfl
 simp only [au,hx];refine wpAny_bind (wpAny_setField_rec ei (by simp) λ h1 e1 Nc=> ?_);refine wpAny_bind (wpAny_setField_rec e1 (by simp) λ h2 e2 Px=> ?_);exact Dt (s:= {s with heap:=h2}) hh λ h3 k3=>h h3 λ b o hb z=>k3 b o ((Nc.trans Px).extBut b o hb z)
theorem E7 (hh:A.handled=none) (ne:a≠I) (P:Plain w es t) :
  Walks prog w A I [I,a] [I] es.size (λ i v=>∃e,(orderOf w a ep es)[i]? = some e/\v=e.2) (λ i h=>h.get? a=some (lN es ep t)/\∃slot:Nat,h.get? I=some (kM (.int slot 0) i a es.size ep)/\(w.params.followText "set-order" = false->SetTable.below t.place slot=i)) where
 sub:=λ b hb=>by
  rw [ao.mp hb];simp
 frame:=λ i h h' ⟨e1,slot,e2,e3⟩ k=>⟨k a (by simp) _ e1,slot,k I (by simp) _ e2,e3⟩
 item:=λ i s Q E hi ⟨e1,slot,e2,e3⟩ q=>by
  have ln:(orderOf w a ep es).length=es.size:=by
   have:=(oE w a ep es).length_eq
   simpa using this
  have he:(orderOf w a ep es)[i]? = some ((orderOf w a ep es)[i]'(Za hi (Zg ln))):=by simp
  refine Jw P e1 e2 e3 he λ h' rM z1 z2 sb=>q _ h' s.toks ⟨_,he,rfl⟩ ⟨?_,rM,z1,z2⟩ λ b o hb z=>sb.extBut b o (λ y=>hb (by rw [y];simp)) z;exact sb.extBut a _ ne e1
 done:=λ s Q E ⟨e1,slot,e2,e3⟩ q=>by
  have ln:(orderOf w a ep es).length=es.size:=by
   have:=(oE w a ep es).length_eq
   simpa using this
  exact Jx hh P e1 e2 e3 (bC (Ze ln)) λ h' k=>q h' s.toks λ b o hb z=>k b o (λ y=>hb (by rw [y];simp)) z
 self:=λ i s Q E ⟨e1,slot,e2,e3⟩ q=>AN e2 rfl q
theorem E9 (hh:A.handled=none) (ne:a≠I) (nq:q0≠I) (fit:t.fits es.size=true) (hp:ps.Perm (List.range es.size)) :
  Walks prog w A I [I,a,q0] [I] es.size (λ i v=>∃(p:Nat) (e:Int×Value),ps[i]? = some p/\es[p]? = some e/\v=e.2) (λ i h=>h.get? a=some (lN es ep t)/\h.get? q0=some (iP ps)/\h.get? I=some (kM (.ref q0) i a es.size ep)) where
 sub:=λ b hb=>by
  rw [ao.mp hb];simp
 frame:=λ i h h' ⟨e1,e2,e3⟩ k=>⟨k a (by simp) _ e1,k q0 (by simp) _ e2,k I (by simp) _ e3⟩
 item:=λ i s Q E hi ⟨e1,e2,e3⟩ q=>by
  have ln:ps.length=es.size:=by
   have:=hp.length_eq
   simpa using this
  have h1:ps[i]? = some (ps[i]'(Za hi (Zg ln))):=by simp
  have pl:ps[i]'(Za hi (Zg ln))<es.size:=aU.mp (hp.mem_iff.mp (dA _));have h2:es[ps[i]'(Za hi (Zg ln))]? = some (es[ps[i]'(Za hi (Zg ln))]'pl):=by simp [pl]
  refine GJ fit e1 e2 e3 h1 h2 λ h' z1 sb=>q _ h' s.toks ⟨_,_,h1,h2,rfl⟩ ⟨?_,?_,z1⟩ λ b o hb z=>sb.extBut b o (λ y=>hb (by rw [y];simp)) z
  .exact sb.extBut a _ ne e1
  .exact sb.extBut q0 _ nq e2
 done:=λ s Q E ⟨e1,e2,e3⟩ q=>by
  have ln:ps.length=es.size:=by
   have:=hp.length_eq
   simpa using this
  exact GK hh fit e1 e2 e3 (bC (Ze ln)) λ h' k=>q h' s.toks λ b o hb z=>k b o (λ y=>hb (by rw [y];simp)) z
 self:=λ i s Q E ⟨e1,e2,e3⟩ q=>AN e3 rfl q
end
section
variable {prog:Program} {w:World} {A:Around} {E:Value->Shared->Prop} {s:Shared}
theorem Mo (hT:s.TypeIs (.ref r) "set") (h:Q false s):wpAny (model prog w) A (Builtin.List.listLengthHint (.ref r)) Q E s:=by
 unfold Builtin.List.listLengthHint;refine wpAny_bind (wpAny_specialOf hT PySem.F.slot_set_len.lookup ?_);generalize č:("set.__len__" : String)=id1
 wp_delta
 have sp:splitId id1=some ("set","__len__"):=by
  subst č
  decide +kernel
 rw [sp];subst č;refine wpAny_bind (wpAny_isInstance (b:=true) (T:="set") hT (by rw [isSubtype_type];kernel_rfl) ?_);refine wpAny_ite_split (λ z=>absurd z (by decide)) λ _=>wpAny_ite_split (λ _=> ?_) λ z=>absurd (by decide +kernel) z;exact wpAny_bind (wpAny_typeOf hT (wpAny_pure h))
end
section
variable {prog:Program} {w:World} {A:Around} {E:Value->Shared->Prop} {s:Shared}
theorem K9 (fit:t.fits es.size=true) (tab:lh (!w.params.followText "set-order") t) (iD:es.size<scanBound) (ea:s.heap.get? a=some (lN es ep t))
  (h1:Plain w es t->Q (.ref s.heap.objs.size) {s with heap:=s.heap.push (kM (.int 0 0) 0 a es.size ep)})
  (h2:∀(ps:List Nat) d,ps.Perm (List.range es.size)->Q (.ref (s.heap.objs.size+1)) {s with heap:=(s.heap.push (iP ps)).push (kM (.ref s.heap.objs.size) 0 a es.size ep),drawn:=d}) :
  wpAny (model prog w) A (pyIter (.ref a)) Q E s:=by
 have hT:s.TypeIs (.ref a) "set" := ⟨_,ea,rfl⟩
 refine wpAny_pyIter_slot hT PySem.F.slot_set_iter (wpAny_call_entry PySem.F.slot_set_iter hT yh ?_ (PySem.F.args_set_iter_1 _));unfold Builtin.«frozenset.__iter__» Builtin.Frozenset.slot0;refine wpAny_bind (wpAny_bind (wpAny_pure (wpAny_pure ?_)));unfold Builtin.Frozenset.sizeOf;refine wpAny_bind (wpAny_bind (wpAny_setEntries_of ea rfl fit (wpAny_pure ?_)));unfold setDrawn;refine wpAny_bind (wpAny_bind (wpAny_setState_of ea rfl fit ?_));dsimp only;unfold setsByText;refine wpAny_bind (wpAny_bind (wpAny_askSetting (wpAny_pure (wpAny_pure ?_))))
 have plain:(!w.params.followText "set-order" && (!t.plain&&decide (es.size>1)))=false->Plain w es t:=λ z=>by
  refine⟨fit,tab,?_⟩
  cases h1:w.params.followText "set-order" with
  | true=>exact .inl rfl
  | false=>
   rw [h1] at z
   cases h2:t.plain with
   | true=>exact .inr (.inl rfl)
   | false=>
    rw [h2] at z;have z:decide (es.size>1)=false:=z;have:=of_decide_eq_false z;exact .inr (.inr (by lia))
 show wpAny _ _ (if (!w.params.followText "set-order" && (!t.plain&&decide (es.size>1)))=true then _ else _) _ _ _
 have tail:∀(s1:Shared) (first:Value) (Q':Value->Shared->Prop),s1.heap.get? a=some (lN es ep t)->Q' (.ref s1.heap.objs.size) {s1 with heap:=s1.heap.push (kM first 0 a es.size ep)}->
   wpAny (model prog w) A.in1 (setEpoch a >>= λ e=>(newFields "set_iterator" [first,rawInt 0,.ref a,rawInt es.size,rawInt e]:Sem Value) >>= λ v=>(ret v:Sem Fin)) (λ fin s'=>∃v,fin=Fin.done (Flow.ret v)/\Q' v s') E s1:=by
  intro s1 first Q' e1 q
  refine wpAny_bind (wpAny_setEpoch_of e1 rfl fit ?_);refine wpAny_bind (wpAny_newObj_type (wpAny_pure ⟨_,rfl,?_⟩));exact q
 cases hb:(!w.params.followText "set-order" && (!t.plain&&decide (es.size>1))) with
 | false=>
  rw [if_neg aJ];refine wpAny_bind (wpAny_pure ?_);refine tail s _ _ ea ⟨"set_iterator",_,⟨_,aK _ rfl,rfl⟩,jR.lookup,h1 (plain hb)⟩
 | true=>
  rw [if_pos rfl];refine wpAny_bind (Bm es.size (List.range es.size) _ _ (aI) λ ps d pp=> ?_)
  have lp:ps.length=es.size:=by
   have:=pp.length_eq
   simpa using this
  refine wpAny_bind (wpAny_newTuple ?_ (by rw [ae,lp];exact fits_of_scanBound iD));refine tail _ _ _ (ah _ ea) ⟨"set_iterator",_,⟨_,aK _ rfl,rfl⟩,jR.lookup,?_⟩;have sz:(s.heap.push (iP ps)).objs.size=s.heap.objs.size+1:=bX _ _;have:=h2 ps d pp;rw [<-sz] at this;exact this
end
section
variable {prog:Program} {w:World} {A:Around} {E:Value->Shared->Prop} {s:Shared}
abbrev oJ (xs:Array Value) (c:Nat):Obj:= {cls:=.type "list",dict:=none,data:=.seq xs c,slots:= #[]}
theorem AX {S I a:Addr} {res:Value} {n:Nat} {P:Nat->Value->Prop} {St:Nat->Heap->Prop} {fp:List Addr} {R:Result->Shared->Prop} {b:Bool} (W:Walks prog w A.in1 I fp [I] n P St) (hn:n<=sizeLine) (out:S∉fp) (hT:s.TypeIs (.ref a) "set") (st:St 0 s.heap) (hS:s.heap.get? S=some (oJ #[] 0))
  (hR:∀h' tk acc c,(∀b o,b≠S->b≠I->s.heap.get? b=some o->h'.get? b=some o)->h'.get? S=some (oJ acc c)->ItemsOf P acc n->R (.ok (.ret res)) {s with heap:=h',toks:=tk}) :
  wpAny (model prog w) A.in1 (holding [Value.ref I] (Builtin.List.listLengthHint (.ref a)) >>= λ room=>if (room||b)=true then (rule "list.extend.makes-room" >>= λ _=>Builtin.List.listTouch (.ref S) >>= λ _=>(again (.builtin "list.extend.loop" ⟨[.ref S,.ref I,res],[]⟩):Sem Fin)) else again (.builtin "list.extend.loop" ⟨[.ref S,.ref I,res],[]⟩))
   (λ fin s'=>match fin with | .done f=>R (.ok f) s' | .again c'=>c'.quiet=true/\codeAny (model prog w) A c' R s') (λ e s'=>R (.error e) s') s:=by
 have loop:∀(h:Heap) (c tk:Nat),St 0 h->(∀b o,b≠S->s.heap.get? b=some o->h.get? b=some o)->h.get? S=some (oJ #[] c)->codeAny (model prog w) A (.builtin "list.extend.loop" ⟨[.ref S,.ref I,res],[]⟩) R {s with heap:=h,toks:=tk}:=by
  intro h c tk W9 k1 e1;refine codeAny_extend_loopS W.toS hn S out res n 0 _ #[] c rfl (aP _) W9 e1 (ItemsOf.nil _) λ s2 acc c2 mv e2 it=> ?_;rw [Moved.eq_with mv];refine hR s2.heap s2.toks acc c2 (λ b o hb hi z=>mv.heap b o (λ q=> ?_) (k1 b o hb z)) e2 it;rcases aA.mp q with q|q
  .exact hb q
  .exact hi (ao.mp q)
 refine wpAny_bind (wpAny_holding (Mo hT ?_));refine wpAny_ite_split (λ _=> ?_) λ _=>wpAny_pure ⟨plainId_quiet PySem.F.plain_extend_loop _,loop s.heap 0 s.toks st (λ _ _ _ z=>z) hS⟩;refine wpAny_bind (wpAny_rule (wpAny_bind ?_));show wpAny _ _ (updateSeq S (·.push .none) >>= λ _=>updateSeq S (·.pop)) _ _ _;refine wpAny_bind (wpAny_updateSeq hS rfl ?_);have e1:=bY (Obj.mapSeq (·.push Value.none)) hS rfl;refine wpAny_updateSeq (hz:=by seq_fits) e1 rfl ?_;have e2:=bY (Obj.mapSeq (·.pop)) e1 rfl;have k2:∀b o,b≠S->s.heap.get? b=some o->((s.heap.update S (Obj.mapSeq (·.push Value.none))).update S (Obj.mapSeq (·.pop))).get? b=some o:=λ b o hb z=>(bT _ _ (Ne.symm hb)).trans ((bT _ _ (Ne.symm hb)).trans z);exact wpAny_pure ⟨plainId_quiet PySem.F.plain_extend_loop _,loop _ _ _ (W.frame 0 _ _ st λ b hb o z=>k2 b o (λ q=>out (q▸hb)) z) k2 e2⟩
theorem K_ (hh:A.handled=none) (fit:t.fits es.size=true) (tab:lh (!w.params.followText "set-order") t) (iD:es.size<scanBound) (ea:s.heap.get? a=some (lN es ep t)) (ne:S≠a) (hS:s.heap.get? S=some (oJ #[] 0))
  (hR:∀h' tk d acc c (vs:List (Int×Value)),(∀b o,b≠S->s.heap.get? b=some o->h'.get? b=some o)->h'.get? S=some (oJ acc c)->vs.Perm es.toList->acc.toList=vs.map (·.2)->R (.ok (.ret (.ref S))) {s with heap:=h',toks:=tk,drawn:=d}) :
  wpAny (model prog w) A.in1 (Builtin.List.listExtendWith (.ref S) (.ref a) (.ref S)) (λ fin s'=>match fin with | .done f=>R (.ok f) s' | .again c'=>c'.quiet=true/\codeAny (model prog w) A c' R s') (λ e s'=>R (.error e) s') s:=by
 have hT:s.TypeIs (.ref a) "set" := ⟨_,ea,rfl⟩
 have ď:A.in1.handled=none:=hh;have sa:S<s.heap.objs.size:=aG hS;have aa:a<s.heap.objs.size:=aG ea;have nz:es.size<=sizeLine:=fits_of_scanBound iD;unfold Builtin.List.listExtendWith;refine wpAny_bind (wpAny_typeOf (T:="set") hT ?_);have x1:Builtin.List.listSameRef (.ref S) (.ref a)=false:=by simp [Builtin.List.listSameRef,ne]
 have x2:(Value.type "set" == Value.type "list")=false:=by decide
 have x3:(Value.type "set" == Value.type "tuple")=false:=by decide
 simp only [x1,x2,x3,Bool.or_false,cB,if_false];refine wpAny_bind (K9 fit tab iD ea (λ P=> ?_) λ ps d pp=> ?_)
 .refine AX (s:= {s with heap:=s.heap.push (kM (.int 0 0) 0 a es.size ep)}) (E7 (ep:=ep) ď (aO aa) P) nz (λ q=> ?_) ⟨_,ah _ ea,rfl⟩ ⟨ah _ ea,0,aK _ rfl,λ _=> ?_⟩ (ah _ hS) λ h' tk acc c k e it=> ?_
  .rcases aA.mp q with q|q
   .exact absurd q (aO sa)
   .exact ne (ao.mp q)
  .have:=GS (l:=t.place.toList) tab.up
   simpa using this
  .refine hR h' tk s.drawn acc c (orderOf w a ep es) (λ b o hb z=>k b o hb (aO (aG z)) (ah _ z)) e (oE w a ep es) ?_
   have ln:(orderOf w a ep es).length=es.size:=by
    have:=(oE w a ep es).length_eq
    simpa using this
   refine List.ext_getElem? λ i=> ?_;by_cases hi:i<es.size
   .have h1:acc[i]? = some (acc[i]'(by rwa [it.1])):=by simp
    obtain⟨x,hx,hv⟩:=it.2 i _ h1;rw [bc,h1,ak,hx,hv];rfl
   .rw [bC (by rw [bD,it.1];exact Zi hi),bC (by rw [ae];exact Zc (Ze ln) (Zi hi))]
 .have Qy:(s.heap.push (iP ps)).objs.size=s.heap.objs.size+1:=bX _ _
  have i1:((s.heap.push (iP ps)).push (kM (.ref s.heap.objs.size) 0 a es.size ep)).get? (s.heap.objs.size+1)=some (kM (.ref s.heap.objs.size) 0 a es.size ep):=by
   rw [<-Qy];exact aK _ rfl
  have a1:=ah (kM (.ref s.heap.objs.size) 0 a es.size ep) (ah (iP ps) ea);have q1:((s.heap.push (iP ps)).push (kM (.ref s.heap.objs.size) 0 a es.size ep)).get? s.heap.objs.size=some (iP ps):=ah _ (aK _ rfl);refine AX (s:= {s with heap:=(s.heap.push (iP ps)).push (kM (.ref s.heap.objs.size) 0 a es.size ep),drawn:=d}) (E9 (ep:=ep) (t:=t) ď (aO (cI aa)) (aO (cQ _)) fit pp) nz (λ q=> ?_) ⟨_,a1,rfl⟩ ⟨a1,q1,i1⟩ (ah _ (ah _ hS)) λ h' tk acc c k e it=> ?_
  .rcases aA.mp q with q|q
   .exact absurd q (aO (cI sa))
   .rcases aA.mp q with q|q
    .exact ne q
    .exact absurd (ao.mp q) (aO sa)
  .have lp:ps.length=es.size:=by
    have:=pp.length_eq
    simpa using this
   refine hR h' tk d acc c (ps.filterMap λ p=>es[p]?) (λ b o hb z=>k b o hb (aO (cI (aG z))) (ah _ (ah _ z))) e ?_ ?_
   .exact(pp.filterMap _).trans (by rw [filterMap_getElem?_range])
   .have all:∀p∈ps,p<es.size:=λ p hp=>aU.mp (pp.mem_iff.mp hp)
    have fm:(ps.filterMap λ p=>es[p]?)=ps.pmap (λ p (hp:p<es.size)=>es[p]) all:=by
     clear it pp lp k e hR i1 a1 q1 Qy
     induction ps with
     | nil=>rfl
     | cons p r ih=>
      have hp:=all p (by simp);rw [c9,show es[p]? = some es[p] by simp [hp]];simp only [List.pmap];rw [ih λ q hq=>all q (az _ hq)]
    rw [fm];refine List.ext_getElem? λ i=> ?_;by_cases hi:i<es.size
    .have h1:acc[i]? = some (acc[i]'(by rwa [it.1])):=by simp
     obtain⟨p,x,hp,hx,hv⟩:=it.2 i _ h1;rw [bc,h1,ak,List.getElem?_pmap];obtain⟨pl,px⟩:=Array.getElem?_eq_some_iff.mp hx;simp only [hp,Option.pmap_some,Option.map_some,px,hv]
    .rw [bC (by rw [bD,it.1];exact Zi hi),bC (by rw [ae,List.length_pmap];exact Zc (Ze lp) (Zi hi))]
end
section
variable {prog:Program} {w:World} {A:Around} {E:Value->Shared->Prop} {s:Shared}
theorem AG (val:Nat->Int):∀i,(firstMet val i).Nodup
 | 0=>by
  rw [firstMet_zero];exact cq
 | i+1=>by
  rw [firstMet_succ];unfold step_dedup;have ih:=AG val i
  split
  .exact ih
  .rename_i h
   rw [bL];refine⟨ih,cF _ _,λ a ha b hb z=>h ?_⟩;rw [ao.mp hb] at z;rw [cv];exact⟨a,ha,by rw [z];exact beq_self_eq_true _⟩
theorem OC (ns:List Int) (k:Int):k∈firstMet (λ i=>ns.getD i 0) ns.length↔k∈ns:=by
 have h:=firstMet_any (λ i=>ns.getD i 0) ns.length k
 have e:(List.range ns.length).map (λ i=>ns.getD i 0)=ns:=by
  refine List.ext_getElem (by simp) λ i h1 h2=> ?_;simp [h2]
 rw [e] at h
 have m:∀l:List Int,l.any (· == k)=true↔k∈l:=λ l=>by
  rw [cv];constructor
  .rintro⟨x,hx,hk⟩
   rwa [<-eq_of_beq hk]
  .exact λ hk=>⟨k,hk,beq_self_eq_true _⟩
 rw [<-m,h,m]
theorem Hx:∀{ns ms:List Int},ns.Nodup->(∀k∈ns,k∈ms)->ms.length=ns.length->ms.Perm ns
 | [],ms,_,_,hl=>by
  have:ms = []:=cG.mp hl;rw [this]
 | k::r,ms,nd,sub,hl=>by
  obtain⟨n1,n2⟩:=aY.mp nd;have hk:=sub k (by simp);have pe:=List.perm_cons_erase hk
  have:=Hx (ns:=r) (ms:=ms.erase k) n2 (λ j hj=>by
   have jm:=sub j (az _ hj);have jk:j≠k:=λ z=>n1 (z▸hj);exact(List.mem_erase_of_ne jk).mpr jm) (by rw [List.length_erase_of_mem hk,hl];simp)
  exact pe.trans (this.cons k)
theorem Jb (nd:ns.Nodup) (hS:Ai prog w h a ns):∃es ep t,h.get? a=some (lN es ep t)/\es.size<scanBound/\t.fits es.size=true/\lh (!w.params.followText "set-order") t/\
  ∀vs:List (Int×Value),vs.Perm es.toList->∃ms:List Int,IntsAre (vs.map (·.2)) ms/\ms.Perm ns:=by
 obtain⟨es,ep,t,e,el,mem,iD,fit,len,tab⟩:=hS;refine⟨es,ep,t,e,iD,fit,tab,λ vs pv=> ?_⟩
 have go:∀l:List (Int×Value),(∀x∈l,∃k tk,x.2=Value.int k tk)->∃ms:List Int,IntsAre (l.map (·.2)) ms/\ms.length=l.length/\∀k:Int,k∈ms↔∃x∈l,(intKind prog w).is k x.2=true:=by
  intro l
  induction l with
  | nil=>exact λ _=>⟨[],.nil,rfl,λ k=>by simp⟩
  | cons x r ih=>
   intro hx;obtain⟨ms,h1,h2,h3⟩:=ih λ y hy=>hx y (az _ hy);obtain⟨k,tk,ek⟩:=hx x (by simp);refine⟨k::ms,?_,by rw [aF,h2];rfl,λ j=> ?_⟩
   .rw [aD,ek];exact .cons k tk h1
   .rw [aA,h3];constructor
    .rintro(rfl | ⟨y,hy,q⟩)
     .exact⟨x,by simp,by rw [ek];exact intKind_is _ _ _ _⟩
     .exact⟨y,az _ hy,q⟩
    .rintro⟨y,hy,q⟩;rcases aA.mp hy with rfl|hy
     .rw [ek] at q;have q:Value.isInt j (Value.int k tk)=true:=q;obtain⟨t',z⟩:=Value.isInt_shape q
      cases z;exact .inl rfl
     .exact .inr ⟨y,hy,q⟩
 have Μ:∀x∈vs,∃k tk,x.2=Value.int k tk:=λ x hx=>by
  obtain⟨⟨k,hk,_⟩,_⟩:=el x (pv.mem_iff.mp hx);have hk:Value.isInt k x.2=true:=hk;obtain⟨t',z⟩:=Value.isInt_shape hk;exact⟨k,t',z⟩
 obtain⟨ms,h1,h2,h3⟩:=go vs Μ;refine⟨ms,h1,?_⟩
 have l2:ms.length=ns.length:=by
  rw [h2,pv.length_eq,bD,len]
 have sub:∀k∈ns,k∈ms:=λ k hk=>by
  rw [h3];obtain⟨x,hx,q⟩:=(mem k).mp (cv.mpr ⟨k,hk,beq_self_eq_true _⟩);exact⟨x,pv.mem_iff.mpr hx,q⟩
 exact Hx nd sub l2
theorem Dz (hh:A.handled=none) (nd:ns.Nodup) (hS:Ai prog w s.heap a ns)
  (h:∀h' tk d (acc:List Value) (ms:List Int),(∀b o,s.heap.get? b=some o->h'.get? b=some o)->IntsAre acc ms->ms.Perm ns->R acc {s with heap:=h',toks:=tk,drawn:=d}) :
  wpAny (model prog w) A (collect (.ref a)) R E s:=by
 obtain⟨es,ep,t,ea,iD,fit,tab,items⟩:=Jb nd hS;have al:a<s.heap.objs.size:=aG ea;unfold collect;refine wpAny_bind (wpAny_runValue ?_);refine codeAny_builtin entry_proto_collect' ?_;rw [Around.under_plainId PySem.F.plain_proto_collect _];refine wpAny_bind (wpAny_newObj_type (wpAny_pure ⟨plainId_quiet PySem.F.plain_list_iadd _,codeAny_builtin entry_list_iadd' ?_⟩));rw [Around.under_plainId PySem.F.plain_list_iadd _];have e1:(s.heap.push (oJ #[] 0)).get? s.heap.objs.size=some (oJ #[] 0):=aK _ rfl
 have key:=K_ (prog:=prog) (A:=A) (s:= {s with heap:=s.heap.push (oJ #[] 0)}) (S:=s.heap.objs.size)
  (R:=λ (q:Result) (s':Shared)=>∃(h':Heap) (tk:Nat) (d:Drawn) (acc:Array Value) (c:Nat) (ms:List Int),q = .ok (.ret (.ref s.heap.objs.size))/\s' = {s with heap:=h',toks:=tk,drawn:=d}/\(∀b o,s.heap.get? b=some o->h'.get? b=some o)/\h'.get? s.heap.objs.size=some (oJ acc c)/\IntsAre acc.toList ms/\ms.Perm ns)
  hh fit tab iD (ah _ ea) (dc al) e1 λ h' tk d acc c vs k e pv ev=>by
   obtain⟨ms,m1,m2⟩:=items vs pv;exact⟨h',tk,d,acc,c,ms,rfl,rfl,λ b o z=>k b o (aO (aG z)) (ah _ z),e,by rwa [ev],m2⟩
 refine wpAny_mono key (λ fin s' x=> ?_) λ e s' x=> ?_
 .cases fin with
  | done f=>
   obtain⟨h',tk,d,acc,c,ms,q,rfl,k,e,m1,m2⟩:=x
   cases q;exact wpAny_bind (wpAny_load e (wpAny_pure (h h' tk d _ ms k m1 m2)))
  | again c1=>
   refine⟨x.1,codeAny_mono x.2 λ q s2 y=> ?_⟩;obtain⟨h',tk,d,acc,c,ms,rfl,rfl,k,e,m1,m2⟩:=y;exact wpAny_bind (wpAny_load e (wpAny_pure (h h' tk d _ ms k m1 m2)))
 .obtain⟨_,_,_,_,_,_,q,_⟩:=x
  cases q
theorem Inv.drawn (I:Inv X pins σ H s) (d:Drawn):Inv X pins σ H {s with drawn:=d}:=⟨I.ok,I.os,I.bare,I.base,I.loc,I.cell,I.free,I.mC,I.pin,I.gJ,I.len⟩
end
def xT (K:aj) (ta:TA):TE:=λ σ H Q=>ta σ H λ vs H1=>∃(a:Addr) (ns:List Int),vs = [.ref a]/\fZ K H1 a (ns.map V.int)/\ns.length<=4000/\(∃D:List Int,D.length<64/\∀x∈ns,x∈D)/\∀(l:Addr) (out:List Int),H1 l=none->out.Pairwise (· < ·)->(∀x,x∈out↔x∈ns)->Q (.ref l) (upd H1 l (.lst (out.map V.int)))
section
variable {X:Cx}
theorem DJ (hc:X.calm=true) (hg:Gl X "sorted") (hm:X.mg "sorted" = none) (OR:Gl X "set") (Mm:X.mg "set" = none) (ha:PA X [a] ta) (hs:starEach [a] X.env = [(false,eval a X.env)]:=by rfl)
  (he:starEach [.Call (.Name "set" p2) [a] [] rh] X.env = [(false,eval (.Call (.Name "set" p2) [a] [] rh) X.env)]:=by rfl) :
  PE X (.Call (.Name "sorted" p) [.Call (.Name "set" p2) [a] [] rh] [] pos) (xT X.K ta):=by
 intro pins s σ H Q I h;refine Call_ (kT I hg hm boot_sorted (eD ?_ he rfl));rw [he];refine Calls.spliced_cons (Call_ (kT I OR Mm boot_set (bq (gU (ha rh pins s σ H _ I h) λ us s1 zq=> ?_) hs rfl)));obtain⟨vs,H1,I1,r1,q1⟩:=zq;obtain⟨b,ns,rfl,hq,iD,⟨D,dl,dm⟩,q⟩:=q1;obtain⟨u,rfl,ru⟩:=r1.one
 cases ru;obtain⟨its,rv,pl,hz⟩:=I1.list hq;have û:=intsAre_of rv;have il:=û.length;have hsz:its.toArray.size=ns.length:=by rw [aM,il]
 refine Dx (its:=its.toArray) (ns:=ns) (I.ok.hd hc) pl.isList (by simpa using û) (by rw [hsz];unfold scanBound;lia) λ h1 t1 hS k1=>Calls.spliced_nil ?_;rw [hsz] at hS;have nd:=AG (λ i=>ns.getD i 0) ns.length;have mem:=OC ns
 have f64:(firstMet (λ i=>ns.getD i 0) ns.length).length<64:=by
  have:=qr _ D nd λ x hx=>dm x ((mem x).mp hx);exact Zb this dl
 generalize firstMet (λ i=>ns.getD i 0) ns.length=ks at hS nd mem f64;refine Calls.call_function_entry kind_sorted plain_sorted entry_sorted (args_sorted1 _) ?_;unfold Builtin.«sorted»;refine wpAny_bind (m:=checkCount "sorted" 1 1 _) (wpAny_pure ?_);refine wpAny_bind (Dz (s:= {s1 with heap:=h1,toks:=t1}) (I.ok.hd hc) nd hS λ h2 t2 d2 as ms k2 ia pm=> ?_);have ml:ms.length=ks.length:=pm.length_eq;have hlen:as.length=ms.length:=ia.length
 have z0:as.length<=sizeLine:=by
  rw [hlen,ml];exact bj (show _<=3000 from Zl (Za f64 (Zd rfl))) (fW (by decide))
 refine wpAny_bind (wpAny_newList ?_ z0);have R':(h2.push (seqObj "list" as.toArray 0)).get? h2.objs.size=some (seqObj "list" as.toArray 0):=aK _ rfl;refine wpAny_bind (wpAny_holding (wpAny_call_entry slot_list_sort ⟨_,R',rfl⟩ entry_list_sort (yd (R:=λ out=>∃z_,IntsAre out.toList z_/\z_.Perm ms/\z_.Pairwise (·<=·)) R' z0 (λ out ⟨z_,i1,i2,_⟩=> ?_) (λ iD=>⟨ms,ia,.refl _,?_⟩) (λ h2 z _=> ?_) λ out h3 c e XY g2=>⟨_,rfl,?_⟩) (args_list_sort _)))
 .have:=i1.length;rw [bD] at this;rw [this,i2.length_eq,hlen]
 .match ms,hlen with
  | [],_=>exact .nil
  | [x],_=>simp
  | x::y::r,h=>simp only [aF] at h;lia
 .have ps:(pairsOf as).size=as.length:=pairsOf_size as;refine⟨oneType',?_,?_⟩
  .match as,h2,ia with
   | v1::v2::r2,_,ia=>
    rw [keyKind_ints ia];exact wpAny_pure ⟨rfl,rfl⟩
  .refine wpS_sortRuns (a₀:=pairsOf as) ia.intKeys ⟨.refl _,rfl,rfl,rfl⟩ (by rwa [ps]) (by rwa [ps,hlen,ml]) λ C9 a1 a2 a3=>⟨a2,?_⟩
   obtain⟨z_,b1,b2,b3⟩:=sorted_out ia a1 a3;exact⟨z_,b1,b2,b3⟩
 .obtain⟨z_,i1,i2,i3⟩:=e;have k12:∀c o,s1.heap.get? c=some o->h2.get? c=some o:=λ c o z=>k2 c o (k1 c o (aG z) z);have I':=(I1.kept (t':=t2) k12).drawn d2;have sub:∀x,x∈z_↔x∈ns:=λ x=>by rw [i2.mem_iff,pm.mem_iff,mem]
  have up:z_.Pairwise (· < ·):=P0 ((i2.trans pm).nodup_iff.mpr nd) i3;refine wpAny_pure ⟨_,rfl,.ref h2.objs.size,_,I'.laid (a:=h2.objs.size) (o:=.lst (z_.map V.int)) (t':=t2) (λ b u e=>XY b u (aO (aG e)) (ah _ e)) (ay _) ?_,rfl,q _ z_ (I'.gJ.fresh (ay _)) up sub⟩;refine⟨by rwa [ae,i2.length_eq,<-hlen],out.toList,c,oj i1,by simpa using g2⟩
theorem Be (hc:X.calm=true) (hg:Gl X "sorted") (hm:X.mg "sorted" = none) (OR:Gl X "set") (Mm:X.mg "set" = none) (ha:Bx (PA X [a] ta)) (hs:starEach [a] X.env = [(false,eval a X.env)]:=by rfl)
  (he:starEach [.Call (.Name (Str.ofString "set") p2) [a] [] rh] X.env = [(false,eval (.Call (.Name (Str.ofString "set") p2) [a] [] rh) X.env)]:=by rfl) :
  Bx (PE X (.Call (.Name (Str.ofString "sorted") p) [.Call (.Name (Str.ofString "set") p2) [a] [] rh] [] pos) (xT X.K ta)):=⟨DJ hc hg hm OR Mm ha.un hs he⟩
theorem zr (K:aj) (hc:X.calm=true) (hg:Gl X "sorted") (hm:X.mg "sorted" = none) (OR:Gl X "set") (Mm:X.mg "set" = none) (ha:Bx (PA X [a] ta)) (hK:X.K=K:=by rfl) (hs:starEach [a] X.env = [(false,eval a X.env)]:=by rfl)
  (he:starEach [.Call (.Name (Str.ofString "set") p2) [a] [] rh] X.env = [(false,eval (.Call (.Name (Str.ofString "set") p2) [a] [] rh) X.env)]:=by rfl) :
  Bx (PE X (.Call (.Name (Str.ofString "sorted") p) [.Call (.Name (Str.ofString "set") p2) [a] [] rh] [] pos) (xT K ta)):=hK▸⟨DJ hc hg hm OR Mm ha.un hs he⟩
end
inductive ku (fit:Nat->Nat->Prop):Sh->Nat->Nat->Prop
 | mark {i a:Nat}:fit i a->ku fit (.mark i) a (a+1)
 | row {l r:Sh} {a b c:Nat}:ku fit l a b->ku fit r b c->ku fit (.two jM l r) a c
 | left {l r:Sh} {a b:Nat}:ku fit l a b->ku fit (.two sL l r) a b
 | right {l r:Sh} {a b:Nat}:ku fit r a b->ku fit (.two sL l r) a b
 | no {t:Sh} {a:Nat}:ku fit (.one jb t) a a
 | yes {t:Sh} {a b:Nat}:ku fit t a b->ku fit (.one jb t) a b
 | done {t:Sh} {a:Nat}:ku fit (.one i6 t) a a
 | more {t:Sh} {a b c:Nat}:ku fit t a b->ku fit (.one i6 t) b c->ku fit (.one i6 t) a c
 | once {t:Sh} {a b c:Nat}:ku fit t a b->ku fit (.one i6 t) b c->ku fit (.one lL t) a c
theorem ku.word (h:ku fit sh a b):∃u:List Nat,sh.In u/\b=a+u.length/\∀j i,u[j]? = some i->fit i (a+j):=by
 have app:∀{u v:List Nat} {a b:Nat},b=a+u.length->(∀j i,u[j]? = some i->fit i (a+j))->(∀j i,v[j]? = some i->fit i (b+j))->∀j i,(u++v)[j]? = some i->fit i (a+j):=by
  intro u v a b e h1 h2 j i hj;by_cases jl:j<u.length
  .rw [aR jl] at hj;exact h1 j i hj
  .rw [bt (Zi jl)] at hj;have:=h2 _ i hj;rw [e,show a+u.length+(j-u.length)=a+j by lia] at this;exact this
 induction h with
 | @mark i a h=>
  refine⟨[i],.mark i,rfl,λ j k hj=> ?_⟩
  cases j with
  | zero=>
   simp at hj;subst hj;exact h
  | succ j=>simp at hj
 | row _ _ i1 i2=>
  obtain⟨u,h1,h2,h3⟩:=i1;obtain⟨v,k1,k2,k3⟩:=i2;exact⟨u++v,.row h1 k1,by rw [aq,k2,h2];exact Nat.add_assoc _ _ _,app h2 h3 k3⟩
 | left _ i1=>
  obtain⟨u,h1,h2,h3⟩:=i1;exact⟨u,.left h1,h2,h3⟩
 | right _ i1=>
  obtain⟨u,h1,h2,h3⟩:=i1;exact⟨u,.right h1,h2,h3⟩
 | no=>exact⟨[],.no _,rfl,λ j i hj=>by simp at hj⟩
 | yes _ i1=>
  obtain⟨u,h1,h2,h3⟩:=i1;exact⟨u,.yes h1,h2,h3⟩
 | done=>exact⟨[],.done _,rfl,λ j i hj=>by simp at hj⟩
 | more _ _ i1 i2=>
  obtain⟨u,h1,h2,h3⟩:=i1;obtain⟨v,k1,k2,k3⟩:=i2;exact⟨u++v,.more h1 k1,by rw [aq,k2,h2];exact Nat.add_assoc _ _ _,app h2 h3 k3⟩
 | once _ _ i1 i2=>
  obtain⟨u,h1,h2,h3⟩:=i1;obtain⟨v,k1,k2,k3⟩:=i2;exact⟨u++v,.once h1 k1,by rw [aq,k2,h2];exact Nat.add_assoc _ _ _,app h2 h3 k3⟩
theorem ku.of (h:sh.In u):∀a,(∀j i,u[j]? = some i->fit i (a+j))->ku fit sh a (a+u.length):=by
 have fst:∀{u v:List Nat} {a:Nat},(∀j i,(u++v)[j]? = some i->fit i (a+j))->∀j i,u[j]? = some i->fit i (a+j):=λ {u v a} h j i hj=>h j i (by
  rw [aR (ag.mp hj).1];exact hj)
 have snd:∀{u v:List Nat} {a:Nat},(∀j i,(u++v)[j]? = some i->fit i (a+j))->∀j i,v[j]? = some i->fit i (a+u.length+j):=λ {u v a} h j i hj=>by
  have:=h (u.length+j) i (by
   rw [bt Zk,show u.length+j-u.length=j by lia];exact hj)
  rw [<-cT] at this;exact this
 induction h with
 | mark i=>
  intro a h;exact .mark (h 0 i rfl)
 | @row l r u v _ _ i1 i2=>
  intro a h;rw [aq,<-cT];exact .row (i1 a (fst h)) (i2 _ (snd h))
 | left _ i1=>exact λ a h=>.left (i1 a h)
 | right _ i1=>exact λ a h=>.right (i1 a h)
 | no t=>exact λ a h=>.no
 | yes _ i1=>exact λ a h=>.yes (i1 a h)
 | done t=>exact λ a h=>.done
 | @more t u v _ _ i1 i2=>
  intro a h;rw [aq,<-cT];exact .more (i1 a (fst h)) (i2 _ (snd h))
 | @once t u v _ _ i1 i2=>
  intro a h;rw [aq,<-cT];exact .once (i1 a (fst h)) (i2 _ (snd h))
theorem ku.le (h:ku fit sh a b):a<=b:=by
 obtain⟨u,_,e,_⟩:=h.word;exact Zc Zk (Zg e)
theorem ku.most (hf:∀i p,fit i p->p<n) (h:ku fit sh a b):a<=n->b<=n:=by
 induction h with
 | mark h=>
  intro _;have:=hf _ _ h;exact this
 | row _ _ i1 i2=>exact λ h=>i2 (i1 h)
 | left _ i1=>exact i1
 | right _ i1=>exact i1
 | no=>exact id
 | yes _ i1=>exact i1
 | done=>exact id
 | more _ _ i1 i2=>exact λ h=>i2 (i1 h)
 | once _ _ i1 i2=>exact λ h=>i2 (i1 h)
theorem Jy:ku fit (.one i6 t) a c↔c=a\/∃b,a<b/\ku fit t a b/\ku fit (.one i6 t) b c:=by
 constructor
 .intro h;generalize e:Sh.one i6 t=s at h
  induction h with
  | mark _=>cases e
  | row _ _ _ _=>cases e
  | left _ _=>cases e
  | right _ _=>cases e
  | no=>injection e with e1;exact absurd e1 (by decide)
  | yes _ _=>injection e with e1;exact absurd e1 (by decide)
  | done=>exact .inl rfl
  | @more t' a b c h1 h2 _ i2=>
   injection e with _ e
   subst e;by_cases Y3:a<b
   .exact .inr ⟨b,Y3,h1,h2⟩
   .have:a=b:=by
     have:=h1.le;exact Zq this (Zi Y3)
    subst this;exact i2 rfl
  | once _ _ _ _=>injection e with e1;exact absurd e1 (by decide)
 .rintro(rfl | ⟨b,_,h1,h2⟩)
  .exact .done
  .exact .more h1 h2
theorem IZ:ku fit (.one lL t) a c↔∃b,ku fit t a b/\ku fit (.one i6 t) b c:=by
 constructor
 .intro h
  cases h with
  | once h1 h2=>exact⟨_,h1,h2⟩
 .rintro⟨b,h1,h2⟩;exact .once h1 h2
theorem Gd:ku fit (.one jb t) a c↔c=a\/ku fit t a c:=by
 constructor
 .intro h
  cases h with
  | no=>exact .inl rfl
  | yes h=>exact .inr h
 .rintro(rfl|h)
  .exact .no
  .exact .yes h
theorem Le:ku fit (.two jM l r) a c↔∃b,ku fit l a b/\ku fit r b c:=by
 constructor
 .intro h
  cases h with
  | row h1 h2=>exact⟨_,h1,h2⟩
 .rintro⟨b,h1,h2⟩;exact .row h1 h2
theorem Ox:ku fit (.two sL l r) a c↔ku fit l a c\/ku fit r a c:=by
 constructor
 .intro h
  cases h with
  | left h=>exact .inl h
  | right h=>exact .inr h
 .rintro(h|h)
  .exact .left h
  .exact .right h
theorem vp:ku fit (.mark i) a c↔fit i a/\c=a+1:=by
 constructor
 .intro h
  cases h with
  | mark h=>exact⟨h,rfl⟩
 .rintro⟨h,rfl⟩;exact .mark h
theorem My {lo:Int} {n:Nat} {g:TG} {tb:TS} {D:Ends} {σ:St} {H:Hp} (Pv:Nat->St->Hp->Prop) (h0:Pv 0 σ H)
  (hs:∀i σ H,i<n->Pv i σ H->g (.int (lo-(i:Int))) σ H λ lM H2=>tb {D with nx:=Pv (i+1),ct:=Pv (i+1),bk:=D.nx} lM H2) (hd:∀σ H,Pv n σ H->D.nx σ H) :
  ∃W:Nat->Nat->St->Hp->Prop,(∃m,W 0 m σ H)/\∀i m σ H,W i m σ H->
   ((Ke lo n).stop i H/\D.nx σ H)\/((Ke lo n).go i H/\∃N:St->Hp->Prop,(∀fT H',N fT H'->∃m',m'<m/\W (i+1) m' fT H')/\∀x H',(Ke lo n).BE i H x H'->g x σ H' λ lM H2=>tb {D with nx:=N,ct:=N,bk:=D.nx} lM H2):=by
 refine⟨λ i m σ H=>m=n-i/\i<=n/\Pv i σ H,⟨n,by simp,aP _,h0⟩,?_⟩;rintro i m σ H ⟨rfl,hi,p⟩;by_cases iJ:i<n
 .refine .inr ⟨iJ,Pv (i+1),λ fT H' p'=>⟨n-(i+1),T6 iJ,rfl,iJ,p'⟩,λ x H' y=> ?_⟩;obtain⟨rfl,rfl⟩:=y;exact hs i σ _ iJ p
 .have e:i=n:=by exact Zq hi (Zi iJ)
  subst e;exact .inl ⟨ay _,hd σ H p⟩
structure pF (rows:List (List Int)) (R:Nat->Nat->Prop) (n:Nat):Prop where
 len:rows.length=n+1
 up:∀l∈rows,l.Pairwise (· < ·)
 mem:∀(a:Nat) (l:List Int),rows[a]? = some l->∀x:Int,x∈l↔∃b:Nat,x=(b:Int)/\R a b
 wQ:∀a b:Nat,a<=n->R a b->a<=b/\b<=n
def jF (H:Hp) (q:Addr) (rows:List (List Int)):Prop:=∃as:List Addr,H q=some (.lst (as.map V.ref))/\fN (λ x l=>H x=some (.lst (l.map V.int))) as rows
theorem jF.same (h:jF H q rows) (s:fh H H'):jF H' q rows:=by
 obtain⟨as,e,al⟩:=h;exact⟨as,s _ _ e,al.imp λ _ _ r=>s _ _ r⟩
theorem pF.row {n:Nat} (h:pF rows R n) {a:Nat} (hl:rows[a]? = some l):(∀x∈l,(a:Int)<=x/\x<=n)/\l.length<=n+1:=by
 have al:a<rows.length:=(ag.mp hl).1
 have h1:∀x∈l,(a:Int)<=x/\x<=n:=λ x hx=>by
  obtain⟨b,rfl,hb⟩:=(h.mem a l hl x).mp hx;have:=h.wQ a b (by have:=h.len;exact Zs (Za al (Ze this))) hb;lia
 refine⟨h1,?_⟩
 have:=qr l ((List.range (n+1)).map λ (k:Nat)=>(k:Int)) ((h.up l (ai hl)).imp λ z=>Int.ne_of_lt z) λ x hx=>by
  have:=h1 x hx;exact aE.mpr ⟨x.toNat,aU.mpr (by lia),by lia⟩
 rw [ae,aI] at this;exact this
theorem pF.iff (h:pF rows R n) (e:∀a b,R a b↔S a b):pF rows S n:=
 ⟨h.len,h.up,λ a l hl x=>by rw [h.mem a l hl x];exact⟨λ ⟨b,p,q⟩=>⟨b,p,(e a b).mp q⟩,λ ⟨b,p,q⟩=>⟨b,p,(e a b).mpr q⟩⟩,λ a b ha hs=>h.wQ a b ha ((e a b).mpr hs)⟩
theorem xJ {n:Nat} (h:n<=62) {ns:List Int} (hn:∀x∈ns,0<=x/\x<=n):∃D:List Int,D.length<64/\∀x∈ns,x∈D:=by
 refine⟨(List.range (n+1)).map λ (k:Nat)=>(k:Int),by rw [ae,aI];lia,λ x hx=> ?_⟩;have:=hn x hx;exact aE.mpr ⟨x.toNat,aU.mpr (Qax this),Int.toNat_of_nonneg this.1⟩
theorem K5 (K:aj) (h:X.K=K:=by rfl):VN X (Uo K):=h▸lq
theorem fN.Ug {α β:Type} {R:α->β->Prop} {a:α} {b:β} (r:R a b):∀{as:List α} {bs:List β} (i:Nat),fN R as bs->fN R (as.set i a) (bs.set i b)
 | _,_,_,.nil=>.nil
 | _,_,0,.cons _ t=>.cons r t
 | _,_,i+1,.cons r0 t=>.cons r0 (t.Ug r i)
theorem Qu {l:List Int} {n:Nat} (up:l.Pairwise (· < ·)) (h:∀x∈l,0<=x/\x<=n):l.length<=n+1:=by
 have:=qr l ((List.range (n+1)).map λ (k:Nat)=>(k:Int)) (up.imp λ z=>Int.ne_of_lt z) λ x hx=>by
  have:=h x hx;exact aE.mpr ⟨x.toNat,aU.mpr (Qax this),Int.toNat_of_nonneg this.1⟩
 rw [ae,aI] at this;exact this
theorem Hr {H:Hp} {P:Nat->List Int->Prop}:∀{cs:List Nat} {as:List Addr},fN (λ (c:Nat) p=>∃l:List Int,H p=some (.lst (l.map V.int))/\P c l) cs as->∃rows:List (List Int),fN (λ x (l:List Int)=>H x=some (.lst (l.map V.int))) as rows/\fN P cs rows
 | _,_,.nil=>⟨[],.nil,.nil⟩
 | _,_,.cons ⟨l,e,r⟩ t=>by
  obtain⟨rows,h1,h2⟩:=Hr t;exact⟨l::rows,.cons e h1,.cons r h2⟩
theorem BS {H:Hp} {q:Addr} {as:List Addr} {R:Nat->Nat->Prop} {n:Nat} (e:H q=some (.lst (as.map V.ref))) (al:fN (λ (c:Nat) p=>∃l:List Int,H p=some (.lst (l.map V.int))/\(l.Pairwise (· < ·)/\∀x:Int,x∈l↔∃b:Nat,x=(b:Int)/\R c b)) (List.range (n+1)) as)
  (wQ:∀a b,a<=n->R a b->a<=b/\b<=n):∃rows,jF H q rows/\pF rows R n:=by
 obtain⟨rows,h1,h2⟩:=Hr al
 have ln:rows.length=n+1:=by
  rw [<-h2.len,aI]
 have at_:∀(a:Nat) (l:List Int),rows[a]? = some l->l.Pairwise (· < ·)/\∀x:Int,x∈l↔∃b:Nat,x=(b:Int)/\R a b:=λ a l hl=>by
  have al:=(ag.mp hl).1;exact h2.get (cz (Za al (Ze ln))) hl
 refine⟨rows,⟨as,e,h1⟩,ln,λ l hl=> ?_,λ a l hl=>(at_ a l hl).2,wQ⟩;obtain⟨i,hi⟩:=aL.mp hl;exact(at_ i l hi).1
theorem GL (l:List Int) (x:Int):(l.map V.int).countP (λ y=>xK y (V.int x))=l.count x:=by
 induction l with
 | nil=>rfl
 | cons y r ih=>
  rw [aD,eK,List.count_cons,ih]
  congr 1
def S8:Sh->Prop
 | .mark _=>True
 | .two k l r=>k∈uS/\S8 l/\S8 r
 | .one k t=>k∈ones/\S8 t
theorem jr.kinds (h:jr H a sh):S8 sh:=by
 induction h with
 | mark _=>exact trivial
 | two _ hk _ _ i1 i2=>exact⟨hk,i1,i2⟩
 | one _ hk _ i1=>exact⟨hk,i1⟩
theorem tq.tM {R S:Int->Int->Prop} {In:Int->Prop} (h:∀x y,In x->R x y->S x y/\In y):∀{w:List Nat} {a:Nat},tq R (a::w)->In ((a:Int)+1)->tq S (a::w)/\∀b,(a::w).getLast? = some b->In ((b:Int)+1)
 | [],a,_,ha=>⟨trivial,λ b hb=>by
  simp at hb;rw [<-hb];exact ha⟩
 | c::w,a,l,ha=>by
  obtain⟨h1,h2⟩:=h _ _ ha l.1;obtain⟨k1,k2⟩:=tq.tM h (w:=w) (a:=c) l.2 h2;exact⟨⟨h1,k1⟩,λ b hb=>k2 b (by rw [bO] at hb;exact hb)⟩
theorem oU.nil (h:t.nul=true):oU t n []:=⟨λ _=>h,λ a ha=>(nomatch ha),λ a ha=>(nomatch ha),trivial⟩
theorem oU.or {l r:Tr} {n:Nat} {w:List Nat} (h:oU (.two sL l r) n w):oU l n w\/oU r (n+l.marks.length) w:=by
 cases w with
 | nil=>
  have:=h.nul rfl;simp only [Tr.nul,if_true,eV] at this;rcases this with z|z
  .exact .inl (.nil z)
  .exact .inr (.nil z)
 | cons a w=>
  have hf:=h.i4 a rfl;have hl:=h.iU;simp only [Tr.i4,Tr.iU,true_or,if_true] at hf hl;have fl:=λ (x y:Int)=>l.kA n x y;have fr:=λ (x y:Int)=>r.kA (n+l.marks.length) x y;rcases ax.mp hf with z|z
  .have ra:=l.jg n _ z
   obtain⟨k1,k2⟩:=tq.tM (S:=l.j8 n) (In:=λ x=>(n:Int)<=x/\x<n+l.marks.length) (λ x y hx hr=>by
    rcases hr with q|q|q
    .exact⟨q,(fl x y q).2⟩
    .have:=(fr x y q).1;omega
    .exact absurd rfl q.1) h.Ed ra
   refine .inl ⟨λ q=>(nomatch q),λ b hb=> ?_,λ b hb=> ?_,k1⟩
   .simp at hb
    rwa [<-hb]
   .rcases ax.mp (hl b hb) with q|q
    .exact q
    .have:=r.jI _ _ q;have:=k2 b hb;omega
  .have ra:=r.jg _ _ z
   obtain⟨k1,k2⟩:=tq.tM (S:=r.j8 (n+l.marks.length)) (In:=λ x=>((n+l.marks.length:Nat):Int)<=x/\x<((n+l.marks.length:Nat):Int)+r.marks.length) (λ x y hx hr=>by
    rcases hr with q|q|q
    .have:=(fl x y q).1;omega
    .exact⟨q,(fr x y q).2⟩
    .exact absurd rfl q.1) h.Ed ra
   refine .inr ⟨λ q=>(nomatch q),λ b hb=> ?_,λ b hb=> ?_,k1⟩
   .simp at hb
    rwa [<-hb]
   .rcases ax.mp (hl b hb) with q|q
    .have:=l.jI _ _ q;have:=k2 b hb;omega
    .exact q
theorem oU.row {l r:Tr} {n:Nat} {w:List Nat} (h:oU (.two jM l r) n w):∃u v:List Nat,w=u++v/\oU l n u/\oU r (n+l.marks.length) v:=by
 have o1:¬jM=sL:=by decide
 have fl:=λ (x y:Int)=>l.kA n x y;have fr:=λ (x y:Int)=>r.kA (n+l.marks.length) x y;have lr:=λ (x:Int)=>l.jI n x;have rr:=λ (x:Int)=>r.jg (n+l.marks.length) x;have rl:=λ (x:Int)=>r.jI (n+l.marks.length) x
 have Pw:∀{w:List Nat} {a:Nat},tq ((Tr.two jM l r).j8 n) (a::w)->(((n+l.marks.length:Nat):Int)<=(a:Int)+1/\(a:Int)+1<((n+l.marks.length:Nat):Int)+r.marks.length)->tq (r.j8 (n+l.marks.length)) (a::w)/\∀b,(a::w).getLast? = some b->(((n+l.marks.length:Nat):Int)<=(b:Int)+1/\(b:Int)+1<((n+l.marks.length:Nat):Int)+r.marks.length):=λ {w a} hk ha=>
  tq.tM (In:=λ x=>((n+l.marks.length:Nat):Int)<=x/\x<((n+l.marks.length:Nat):Int)+r.marks.length) (λ x y hx hr=>by
   rcases hr with q|q | ⟨_,q,_⟩
   .have:=(fl x y q).1;omega
   .exact⟨q,(fr x y q).2⟩
   .have:=lr x q;omega) hk ha
 have split:∀{w:List Nat} {a:Nat},tq ((Tr.two jM l r).j8 n) (a::w)->((n:Int)<=(a:Int)+1/\(a:Int)+1<n+l.marks.length)->
   (tq (l.j8 n) (a::w)/\∀b,(a::w).getLast? = some b->((n:Int)<=(b:Int)+1/\(b:Int)+1<n+l.marks.length))\/
   ∃(u:List Nat) (c:Nat) (v:List Nat),a::w=(a::u)++(c::v)/\tq (l.j8 n) (a::u)/\(∀b,(a::u).getLast? = some b->(b:Int)+1∈l.iU n)/\(c:Int)+1∈r.i4 (n+l.marks.length)/\tq (r.j8 (n+l.marks.length)) (c::v)/\∀b,(c::v).getLast? = some b->(((n+l.marks.length:Nat):Int)<=(b:Int)+1/\(b:Int)+1<((n+l.marks.length:Nat):Int)+r.marks.length):=by
  intro w
  induction w with
  | nil=>
   intro a _ ha;refine .inl ⟨trivial,λ b hb=> ?_⟩;simp at hb
   rwa [<-hb]
  | cons c w ih=>
   intro a hk ha;rcases hk.1 with q|q | ⟨_,q1,q2⟩
   .have rc:=(fl _ _ q).2;rcases ih hk.2 rc with ⟨h1,h2⟩ | ⟨u,d,v,e,h1,h2,h3,h4,h5⟩
    .exact .inl ⟨⟨q,h1⟩,λ b hb=>h2 b (by rw [bO] at hb;exact hb)⟩
    .refine .inr ⟨c::u,d,v,by rw [e];rfl,⟨q,h1⟩,λ b hb=>h2 b (by rw [bO] at hb;exact hb),h3,h4,h5⟩
   .have:=(fr _ _ q).1;omega
   .obtain⟨k1,k2⟩:=Pw hk.2 (rr _ q2);refine .inr ⟨[],c,w,rfl,trivial,λ b hb=> ?_,q2,k1,k2⟩;simp at hb
    rwa [<-hb]
 cases w with
 | nil=>
  have:=h.nul rfl;simp only [Tr.nul,if_neg o1,bg] at this;exact⟨[],[],rfl,.nil this.1,.nil this.2⟩
 | cons a w=>
  have hf:=h.i4 a rfl;have hl:=h.iU;simp only [Tr.i4,Tr.iU,o1,false_or] at hf hl
  have first:(a:Int)+1∈l.i4 n\/(l.nul=true/\(a:Int)+1∈r.i4 (n+l.marks.length)):=by
   split at hf
   .rename_i hn
    rcases ax.mp hf with z|z
    .exact .inl z
    .exact .inr ⟨hn,z⟩
   .exact .inl hf
  rcases first with z | ⟨hn,z⟩
  .rcases split h.Ed (l.jg n _ z) with ⟨h1,h2⟩ | ⟨u,c,v,e,h1,h2,h3,h4,h5⟩
   .obtain⟨b,hb⟩:∃b,(a::w).getLast? = some b:=⟨_,List.getLast?_eq_getLast (by simp)⟩
    have OS:=h2 b hb;have Mn:=hl b hb
    have rn:r.nul=true/\(b:Int)+1∈l.iU n:=by
     split at Mn
     .rename_i hn
      rcases ax.mp Mn with q|q
      .exact⟨hn,q⟩
      .have:=rl _ q;omega
     .have:=rl _ Mn;omega
    refine⟨a::w,[],by simp,⟨λ q=>(nomatch q),λ c hc=> ?_,λ c hc=> ?_,h1⟩,.nil rn.1⟩
    .simp at hc
     rwa [<-hc]
    .rw [hb] at hc
     cases hc;exact rn.2
   .refine⟨a::u,c::v,e,⟨λ q=>(nomatch q),λ b hb=> ?_,h2,h1⟩,⟨λ q=>(nomatch q),λ b hb=> ?_,λ b hb=> ?_,h4⟩⟩
    .simp at hb
     rwa [<-hb]
    .simp at hb
     rwa [<-hb]
    .have Wx:=h5 b hb
     have Mn:=hl b (by
      rw [e,List.getLast?_append,hb];rfl)
     split at Mn
     .rcases ax.mp Mn with q|q
      .have:=lr _ q;omega
      .exact q
     .exact Mn
  .obtain⟨k1,k2⟩:=Pw h.Ed (rr _ z);refine⟨[],a::w,rfl,.nil hn,⟨λ q=>(nomatch q),λ b hb=> ?_,λ b hb=> ?_,k1⟩⟩
   .simp at hb
    rwa [<-hb]
   .have Wx:=k2 b hb;have Mn:=hl b hb
    split at Mn
    .rcases ax.mp Mn with q|q
     .have:=lr _ q;omega
     .exact q
    .exact Mn
theorem Uh:∀{w:List Nat} {a:Nat},tq (λ x y=>t.j8 n x y\/(x∈t.iU n/\y∈t.i4 n)) (a::w)->(∀b,(a::w).getLast? = some b->(b:Int)+1∈t.iU n)->
  ∃(u:List Nat) (ws:List (List Nat)),a::w=(a::u)++ws.flatten/\tq (t.j8 n) (a::u)/\(∀b,(a::u).getLast? = some b->(b:Int)+1∈t.iU n)/\∀v∈ws,oU t n v
 | [],a,_,h=>⟨[],[],rfl,trivial,h,λ v hv=>(nomatch hv)⟩
 | c::w,a,hk,h=>by
  obtain⟨u,ws,e,h1,h2,h3⟩:=Uh hk.2 λ b hb=>h b (by rwa [bO]);rcases hk.1 with q | ⟨q1,q2⟩
  .exact⟨c::u,ws,by rw [e];rfl,⟨q,h1⟩,λ b hb=>h2 b (by rw [bO] at hb;exact hb),h3⟩
  .refine⟨[],(c::u)::ws,by rw [e];rfl,trivial,λ b hb=> ?_,λ v hv=> ?_⟩
   .simp at hb
    rwa [<-hb]
   .rcases aA.mp hv with rfl|hv
    .exact⟨λ q=>(nomatch q),λ b hb=>by simp at hb;rwa [<-hb],h2,h1⟩
    .exact h3 v hv
theorem Cm:∀{ws:List (List Nat)},(∀v∈ws,t.In v)->(Sh.one i6 t).In ws.flatten
 | [],_=>.done t
 | v::ws,h=>.more (h v (by simp)) (Cm λ u hu=>h u (az _ hu))
theorem vy:∀{sh:Sh} {w:List Nat},S8 sh->∀s,sh.leaves=List.range' s sh.leaves.length->oU (sh.real ms) (s+1) w->sh.In w
 | .mark i,w,_,s,hs,h=>by
  have e:i=s:=by
   simp only [Sh.leaves,aF,aV] at hs
   simpa using hs
  subst e
  cases w with
  | nil=>cases h.nul rfl
  | cons a w=>
   have hf:=h.i4 a rfl;simp only [Sh.real,Tr.i4,ao] at hf
   cases w with
   | nil=>
    have:a=i:=by lia
    rw [this];exact .mark i
   | cons b w=>exact h.Ed.1.elim
 | .two k l r,w,hk,s,hs,h=>by
  obtain⟨hl,hr⟩:=qO hs;have ln:=l.yq ms;obtain⟨k1,k2,k3⟩:=hk;simp only [uS,aA,bb,or_false] at k1;rcases k1 with rfl|rfl
  .obtain⟨u,v,rfl,h1,h2⟩:=oU.row h;rw [ln,df] at h2;exact .row (vy k2 s hl h1) (vy k3 _ hr h2)
  .rcases oU.or h with h1|h1
   .exact .left (vy k2 s hl h1)
   .rw [ln,df] at h1;exact .right (vy k3 _ hr h1)
 | .one k t,w,hk,s,hs,h=>by
  obtain⟨k1,k2⟩:=hk;have inr:∀{w},oU (t.real ms) (s+1) w->t.In w:=λ h=>vy k2 s hs h;simp only [ones,aA,bb,or_false] at k1
  have sg:k≠jb->∀(a:Nat) (w:List Nat),oU ((Sh.one k t).real ms) (s+1) (a::w)->∃u ws,a::w=u++List.flatten ws/\t.In u/\∀v∈ws,t.In v:=by
   intro nk a w h;obtain⟨u,ws,e,h1,h2,h3⟩:=Uh (t:=t.real ms) (n:=s+1) (h.Ed.imp λ x y q=>q.elim .inl λ q=>.inr q.2) h.iU;exact⟨a::u,ws,e,inr ⟨λ q=>(nomatch q),λ b hb=>by simp at hb;rw [<-hb];exact h.i4 a rfl,h2,h1⟩,λ v hv=>inr (h3 v hv)⟩
  rcases k1 with rfl|rfl|rfl
  .cases w with
   | nil=>exact .done t
   | cons a w=>
    obtain⟨u,ws,e,h1,h2⟩:=sg (by decide) a w h;rw [e];exact .more h1 (Cm h2)
  .cases w with
   | nil=>
    have:=h.nul rfl
    have z:(t.real ms).nul=true:=by
     simpa [Sh.real,Tr.nul] using this
    have:=Sh.In.once (inr (.nil z)) (Sh.In.done t)
    simpa using this
   | cons a w=>
    obtain⟨u,ws,e,h1,h2⟩:=sg (by decide) a w h;rw [e];exact .once h1 (Cm h2)
  .cases w with
   | nil=>exact .no t
   | cons a w=>
    refine .yes (inr ⟨λ q=>(nomatch q),h.i4,h.iU,h.Ed.imp λ x y q=> ?_⟩);rcases q with q|q
    .exact q
    .exact absurd rfl q.1
theorem ku.imp (h:∀i p,f i p->g i p) (s:ku f sh a b):ku g sh a b:=by
 induction s with
 | mark q=>exact .mark (h _ _ q)
 | row _ _ i1 i2=>exact .row i1 i2
 | left _ i1=>exact .left i1
 | right _ i1=>exact .right i1
 | no=>exact .no
 | yes _ i1=>exact .yes i1
 | done=>exact .done
 | more _ _ i1 i2=>exact .more i1 i2
 | once _ _ i1 i2=>exact .once i1 i2
theorem j7.back (h:j7 tr M) (r:ma M 0 w):oU tr 1 w:=by
 have go:∀(w:List Nat) (a:Nat),((1:Int)<=(a:Int)+1/\(a:Int)+1<=tr.marks.length)->ma M ((a:Int)+1) w->tq (tr.j8 1) (a::w)/\∀x,(a::w).getLast? = some x->(x:Int)+1∈tr.iU 1:=by
  intro w
  induction w with
  | nil=>
   intro a ha r;have r:m_ M ((a:Int)+1)=true:=r;refine⟨trivial,λ x hx=> ?_⟩;simp at hx;rw [<-hx];rw [h.Vq ha.1 ha.2] at r;exact of_decide_eq_true r
  | cons b w ih=>
   intro a ha r;obtain⟨r1,r2⟩:=r;rcases (h.j8 _ _ (Yc (by decide) ha.1)).mp r1 with ⟨z,_⟩|z
   .lia
   .have rb:=(tr.kA 1 _ _ z).2;obtain⟨k1,k2⟩:=ih b (Qay rb) r2;exact⟨⟨z,k1⟩,λ x hx=>k2 x (by rw [bO] at hx;exact hx)⟩
 cases w with
 | nil=>
  have r:m_ M 0=true:=r;rw [h.Vr] at r;exact .nil r
 | cons a w=>
  obtain⟨r1,r2⟩:=r;rcases (h.j8 _ _ (by decide)).mp r1 with ⟨_,z⟩|z
  .have ra:=tr.jg 1 _ z;obtain⟨k1,k2⟩:=go w a (Qay ra) r2;exact⟨λ q=>(nomatch q),λ b hb=>by simp at hb;rwa [<-hb],k2,k1⟩
  .have:=(tr.kA 1 _ _ z).1;omega
abbrev Cx.pK (X:Cx) (scope:Scope) (x:Str) (cl:List (Str×Addr)) (C:Addr) (N:List Str) (jj:Shared) (kZ:Hp) (ex:List Addr):Cx:=
 {X with env:=compEnvC scope cl C X.env,N:=N,jj:=jj,kZ:=kZ,outer:=X.stack,stack:=X.stack,ex:=ex,fn:=λ y=>decide (y=x),pn:= [],xe:=λ _ _=>False}
structure vK (sc so:Scope) (x:Str) (N XN:List Str) (fr:List Nat):Prop where
 kind:sc.kind = .function
 cells:sc.names.filter (λ y=>y.2 == .cell) = [(x,.cell)]
 names:∀y∈sc.names,y.2 = .local->sc.names.lookup y.1=some .local
 hx:sc.names.lookup x=some .cell
 nd:N.Nodup
 SI:N=x::fr.map (λ j=>XN.getD j "")
 X6:∀j∈fr,j<XN.length
 Vj:∀y∈sc.names,y.2 = .free->so.names.lookup y.1=some .cell\/so.names.lookup y.1=some .free
 X4:∀j∈fr,sc.names.lookup (XN.getD j "")=some .free
 pN:∀j∈fr,so.names.lookup (XN.getD j "")≠some .local
 apart:∀y∈sc.names,y.2 = .free->y.1≠x
theorem vK.one (S:vK sc so x N XN fr):∀z∈sc.names,z.2 = .cell->z.1=x:=λ z hz hc=>by
 have:z∈sc.names.filter (λ y=>y.2 == .cell):=bG.mpr ⟨hz,by rw [hc];rfl⟩;rw [S.cells] at this;rw [ao.mp this]
def MQ (sc so:Scope) (x:Str) (N XN:List Str) (fr:List Nat):Bool:=
 decide (sc.kind = .function)&&decide (sc.names.filter (λ y=>y.2 == .cell) = [(x,.cell)])&&sc.names.all (λ y=>decide (y.2 = .local->sc.names.lookup y.1=some .local))&&decide (sc.names.lookup x=some .cell)&&decide N.Nodup &&
 decide (N=x::fr.map (λ j=>XN.getD j ""))&&fr.all (λ j=>decide (j<XN.length))&&sc.names.all (λ y=>decide (y.2 = .free->so.names.lookup y.1=some .cell\/so.names.lookup y.1=some .free)) &&
 fr.all (λ j=>decide (sc.names.lookup (XN.getD j "")=some .free))&&fr.all (λ j=>decide (so.names.lookup (XN.getD j "")≠some .local))&&sc.names.all (λ y=>decide (y.2 = .free->y.1≠x))
theorem vK.of (h:MQ sc so x N XN fr=true):vK sc so x N XN fr:=by
 unfold MQ at h;simp only [bg,cS,decide_eq_true_eq] at h;obtain⟨⟨⟨⟨⟨⟨⟨⟨⟨⟨h1,h2⟩,h3⟩,h4⟩,h5⟩,h6⟩,h7⟩,h8⟩,h9⟩,Y'⟩,h11⟩:=h;exact⟨h1,h2,h3,h4,h5,h6,h7,h8,h9,Y',h11⟩
theorem yp (hf:M6 f):∀{names:List (Str×NameKind)} {y:Str} {k:NameKind},(names.map f).lookup y=some k->(k = .cell\/k = .free)->(∀z∈names,z.2 = .cell->z.1=x)->y=x\/(y,NameKind.free)∈names
 | [],_,_,h,_,_=>by simp at h
 | (n,j)::r,y,k,h,hk,hc=>by
  rw [aD] at h;have go:(r.map f).lookup y=some k->y=x\/(y,NameKind.free)∈(n,j)::r:=λ h'=>(yp hf h' hk λ z hz=>hc z (az _ hz)).imp id λ q=>az _ q;rcases hf (n,j) with e | ⟨e1,e⟩
  .rw [e,i8] at h;by_cases hy:y=n
   .rw [if_pos hy] at h
    cases h;rcases hk with rfl|rfl
    .exact .inl (by rw [hy];exact hc (n,.cell) aZ rfl)
    .exact .inr (by rw [hy];exact aZ)
   .rw [if_neg hy] at h;exact go h
  .rw [e,i8] at h;by_cases hy:y=n
   .exact .inr (by rw [hy,show j=NameKind.free from e1];exact aZ)
   .rw [if_neg hy] at h;exact go h
theorem rN (h:(relabel sc env).names.lookup y=some k) (hk:k = .cell\/k = .free) (hc:∀z∈sc.names,z.2 = .cell->z.1=x):y=x\/(y,NameKind.free)∈sc.names:=
 yp (t4 env) h hk hc
theorem vg (hf:M6 f):∀{names:List (Str×NameKind)} {y:Str},names.lookup y=some .cell->(names.map f).lookup y=some .cell
 | [],_,h=>by simp at h
 | (n,j)::r,y,h=>by
  rw [i8] at h;rw [aD];rcases hf (n,j) with e | ⟨e1,e⟩
  .rw [e,i8];by_cases hy:y=n
   .rw [if_pos hy] at h⊢;exact h
   .rw [if_neg hy] at h⊢;exact vg hf h
  .rw [e,i8];by_cases hy:y=n
   .rw [if_pos hy]
   .rw [if_neg hy] at h⊢;exact vg hf h
theorem rk (h:sc.names.lookup y=some .cell):(relabel sc env).names.lookup y=some .cell:=vg (t4 env) h
theorem Mb:∀{names:List (Str×NameKind)} {n:Nat} {acc:List (Str×Addr)} {h:Heap},names.filter (λ y=>y.2 == .cell) = []->cellsFrom n names acc=acc/\pushCells h names=h
 | [],_,_,_,_=>⟨rfl,rfl⟩
 | (m,k)::r,n,acc,h,e=>by
  rw [dC] at e;unfold cellsFrom pushCells
  cases hk:k==NameKind.cell with
  | true=>
   dsimp only at e;rw [if_pos hk] at e
   cases e
  | false=>
   dsimp only at e;rw [if_neg (by rw [hk];exact aJ)] at e;simp only [cB,if_false];exact Mb e
theorem HI:∀{names:List (Str×NameKind)} {n:Nat} {acc:List (Str×Addr)} {h:Heap},names.filter (λ y=>y.2 == .cell) = [(x,.cell)]->cellsFrom n names acc=(x,n)::acc/\pushCells h names=h.push {cls:=.type "cell",data:=.cell none}
 | [],_,_,_,e=>by cases e
 | (m,k)::r,n,acc,h,e=>by
  rw [dC] at e;unfold cellsFrom pushCells
  cases hk:k==NameKind.cell with
  | true=>
   dsimp only at e;rw [if_pos hk] at e;injection e with e1 e2
   cases e1;simp only [if_true];exact Mb e2
  | false=>
   dsimp only at e;rw [if_neg (by rw [hk];exact aJ)] at e;simp only [cB,if_false];exact HI e
theorem MC (hc:scope.names.filter (λ y=>y.2 == .cell) = [(x,.cell)])
  (h:∀h',h'.Ns s.heap.objs.size (λ _=>none)->(∀b o,s.heap.get? b=some o->h'.get? b=some o)->h'.IsCell (s.heap.objs.size+1) none->Q {scope:=scope,locals:=s.heap.objs.size,globals:=env.globals,cells:=(x,s.heap.objs.size+1)::cl,qual:=env.qual,func:=none,code:=env.code,frame:=env.frame,builtins:=env.builtins} {s with heap:=h'}) :
  wpAny M A (newFunctionEnv scope env.globals cl [] env.qual none .none (some env)) Q E s:=by
 simp only [newFunctionEnv,Option.isSome_some,if_true];refine wpAny_bind (wpAny_alloc (wpAny_bind (wpAny_layCells _ (λ name kind cells=>by cases hkc:kind==NameKind.cell<;>simp [hkc]) _ _ _ _ ?_)));have sz:(s.heap.push {cls:=.type "dict",data:=.dict #[]}).objs.size=s.heap.objs.size+1:=bX _ _;obtain⟨e1,e2⟩:=HI (n:=(s.heap.push {cls:=.type "dict",data:=.dict #[]}).objs.size) (acc:=cl) (h:=s.heap.push {cls:=.type "dict",data:=.dict #[]}) hc;show wpAny _ _ _ _ _ {s with heap:=pushCells (s.heap.push {cls:=.type "dict",data:=.dict #[]}) scope.names};rw [e1,e2,sz];refine wpAny_bind (wpAny_pure (wpAny_pure (h _ ?_ (λ b o z=>ah _ (ah _ z)) ?_)))
 .exact(Heap.Ns.new s.heap (.type "dict")).keeps λ b o z=>ah _ z
 .refine⟨{cls:=.type "cell",data:=.cell none},?_,rfl⟩;rw [<-sz];exact aK _ rfl
section
variable {X:Cx} {x:Str} {px:Pos} {elt iter:Expr} {ifs:List Expr} {scope:Scope} {pos:Pos} {N:List Str} {fr:List Nat} {tt:TT} {te:TE} {wi:TI}
theorem zg (S:vK scope X.env.scope x N X.N fr) (I:Inv X pins σ H s):∀y∈scope.names,y.2 = .free->∃c,X.env.cells.lookup y.1=some c:=
 λ y hy hf=>I.ok.has y.1 (S.Vj y hy hf)
theorem wu {pins:List (Addr×Obj)} {σ:St} {H:Hp} {ji:Shared} {J:It} {fp:List Addr} {it:Addr} {tn:Nat->Heap->Prop} {Q:VK} {RR:Value->Addr->Result->Shared->Prop} {E:Value->Shared->Prop}
  (hc:X.calm=true) (S:vK scope X.env.scope x N X.N fr) (ht:∀cl C jj kZ ex,IB (X.pK scope x cl C N jj kZ ex) ifs tt) (he:∀cl C jj kZ ex,PE (X.pK scope x cl C N jj kZ ex) elt te)
  (I:Inv X pins σ H ji) (T:Turn X.prog X.w X.K (.Name x px) J fp it tn) (st:tn 0 ji.heap) (f2:∀b∈fp,rC X pins H b) (R:uN J H fr σ tt te Q)
  (Y5:∀(D C:Addr) (s':Shared) (m:Str->Option Value) (H':Hp),Inv X pins σ H' s'->s'.heap.Ns C m->rC X pins H' C->Q (.ref D) H'->RR (.ref D) C (.ok .next) s') :
  wpAny (model X.prog X.w) X.A (newList []) (λ acc Nd=>wpAny (model X.prog X.w) X.A (newFunctionEnv scope X.env.globals (gk X.env scope.names []) [] X.env.qual none .none (some X.env)) (λ MR Tu=>
   codeAny (model X.prog X.w) X.A (.compStart (.ListComp elt [⟨.Name x px,iter,ifs,0⟩] scope pos) 0 (.ref it) acc {MR with scope:=relabel scope X.env}) (RR acc MR.locals) Tu) E Nd) E ji:=by
 refine wpAny_newObj_type (MC S.cells λ EY yQ LR MS=> ?_);dsimp only at yQ LR MS⊢;have hD:H ji.heap.objs.size=none:=I.fresh;have I0:Inv X pins σ (upd H ji.heap.objs.size (.lst [])) {ji with heap:=ji.heap.push {cls:=.type "list",dict:=none,data:=.seq ([]:List Value).toArray}}:=I.RI (t':=ji.toks) (its:= []) .nil (aP _);have Kr:∀b o,ji.heap.get? b=some o->(ji.heap.push {cls:=.type "list",dict:=none,data:=.seq ([]:List Value).toArray}).get? b=some o:=λ b o e=>ah _ e;have Ss:(ji.heap.push {cls:=.type "list",dict:=none,data:=.seq ([]:List Value).toArray}).objs.size=ji.heap.objs.size+1:=bX ..;generalize hG:ji.heap.push {cls:=.type "list",dict:=none,data:=.seq ([]:List Value).toArray}=G at yQ LR MS I0 Kr Ss⊢;generalize Ve:ji.heap.objs.size=D at hD I0 Ss⊢;obtain⟨W,⟨m0,w0⟩,turn⟩:=R D hD;have old:∀b o,G.get? b=some o->EY.get? b=some o:=LR;have sub:=l8 X.env scope.names [] (λ y c z=>by simp at z)
 have low:∀y c,(gk X.env scope.names []).lookup y=some c->@LT.lt Nat _ c G.objs.size:=λ y c z=>by
  obtain⟨v,o,ho,_⟩:=I.cell y c (sub y c z);exact aG (Kr _ _ ho)
 have both:∀y c,((x,G.objs.size+1)::gk X.env scope.names []).lookup y=some c->(y=x/\@Eq Nat c (G.objs.size+1))\/(y≠x/\(gk X.env scope.names []).lookup y=some c):=λ y c z=>by
  rw [cu] at z
  cases hy:y==x with
  | true=>
   rw [hy] at z
   cases z;exact .inl ⟨by simpa using hy,rfl⟩
  | false=>
   rw [hy] at z;exact .inr ⟨by simpa using hy,z⟩
 have skip:∀y,y≠x->((x,G.objs.size+1)::gk X.env scope.names []).lookup y=(gk X.env scope.names []).lookup y:=λ y hy=>by
  rw [cu,show (y==x)=false by simpa using hy]
 have hD0:@LT.lt Nat _ ji.heap.objs.size (ji.heap.objs.size+1):=cQ _
 have IY:Inv (X.pK scope x ((x,G.objs.size+1)::gk X.env scope.names []) G.objs.size N {ji with heap:=G} (upd H D (.lst [])) fp) [] (Ar fr σ) (upd H D (.lst [])) {ji with heap:=EY,toks:=ji.toks}:=by
  refine⟨⟨I.ok.mod,S.kind,I.ok.glob,I.ok.blt,ay _,λ y z c e1 e2=> ?_,λ y hy=> ?_,λ y c hf z=> ?_,I.ok.hd,I.ok.frames,.inl rfl,λ b hb=>⟨?_,λ y c e=> ?_⟩,
   I0.bs,bj I.ok.MV I0.sz,λ b o e hb=> ?_,λ b hb z=> ?_,I0.stack,I0.xw⟩,rfl,I.bare,Un.kept old,⟨_,yQ,λ i y v e1 e2 e3=> ?_⟩,λ y c e=> ?_,I0.gJ.fresh (ay _),λ y c e=> ?_,λ p hp=>absurd (show p∈([]:List (Addr×Obj)) from hp) (by simp),I0.gJ.kept old,?_⟩
  .rcases both y c e1 with ⟨h1,h2⟩ | ⟨h1,h2⟩<;>rcases both z c e2 with ⟨k1,k2⟩ | ⟨k1,k2⟩
   .rw [h1,k1]
   .have:=low z c k2;lia
   .have:=low y c h2;lia
   .exact I.ok.inj y z c (sub y c h2) (sub z c k2)
  .by_cases Wg:y=x
   .exact⟨G.objs.size+1,by show ((x,G.objs.size+1)::gk X.env scope.names []).lookup y=_;rw [Wg,cu,beq_self_eq_true]⟩
   .have hm:(y,NameKind.free)∈scope.names:=by
     rcases hy with hy|hy
     .exact(rN hy (.inl rfl) S.one).resolve_left Wg
     .exact(rN hy (.inr rfl) S.one).resolve_left Wg
    obtain⟨c,ec⟩:=jN X.env scope.names [] y hm (zg S I _ hm rfl);exact⟨c,(skip y Wg).trans ec⟩
  .have hf:decide (y=x)=true:=hf;have z:((x,G.objs.size+1)::gk X.env scope.names []).lookup y=some c:=z;show @LE.le Nat _ G.objs.size c;rcases both y c z with ⟨_,h2⟩ | ⟨h1,_⟩
   .exact Zc Zk (Zg h2)
   .exact absurd (of_decide_eq_true hf) h1
  .obtain⟨o,e,_⟩:=T.obj 0 _ st b hb;have h1:@LT.lt Nat _ b ji.heap.objs.size:=aG e;show b≠G.objs.size;intro z;have z':@Eq Nat b G.objs.size:=z;rw [Ss] at z';exact Zf h1 (Zc (Ze Ve) (Zc Zk (Zg z')))
  .obtain⟨o,e',_⟩:=T.obj 0 _ st b hb;have h1:@LT.lt Nat _ b ji.heap.objs.size:=aG e';rcases both y c e with ⟨_,h2⟩ | ⟨_,h2⟩
   .intro z;have z':@Eq Nat c b:=z;exact Zf h1 (Zc (Ze Ve) (Zc Zk (Zc (Zg Ss) (Zc Zk (Zc (Zg h2) (Ze z'))))))
   .exact(f2 b hb).2.2.2.2.1 y c (sub y c h2)
  .rcases (f2 b hb).2.2.2.1 with z|z
   .exact I.ok.t_ b o e z
   .have h1:@LT.lt Nat _ b X.base.objs.size:=aG e;have h2:@LE.le Nat _ X.base.objs.size X.jj.heap.objs.size:=I.ok.MV;have z':@LE.le Nat _ X.jj.heap.objs.size b:=z;exact Zf h1 (Zc h2 z)
  .rcases aA.mp (I.BR b z) with e|e
   .exact(f2 b hb).2.1 e
   .exact(f2 b hb).2.2.1 e
  .cases i with
   | zero=>simp [Ar] at e2
   | succ k=>
    have MG:(fr.map λ j=>X.N.getD j "")[k]? = some y:=by
     have z:N[k+1]? = some y:=e1;rw [S.SI] at z
     simpa using z
    have Nx:(fr.map λ j=>(σ[j]?).join)[k]? = some (some v):=by simpa [Ar] using e2
    rw [ak] at MG Nx
    cases hj:fr[k]? with
    | none=>rw [hj] at MG;cases MG
    | some j=>
     rw [hj] at MG Nx;have ey:X.N.getD j "" = y:=Option.some.inj MG;have ev:(σ[j]?).join=some v:=Option.some.inj Nx;have Sm:j∈fr:=ai hj;have TQ:=S.X6 j Sm;have eN:X.N[j]? = some y:=by rw [<-ey];simp [List.getD,TQ]
     have eσ:σ[j]? = some (some v):=by
      cases q:σ[j]? with
      | none=>rw [q] at ev;cases ev
      | some w=>rw [q] at ev;rw [show w=some v from ev]
     have vX:scope.names.lookup y=some .free:=by rw [<-ey];exact S.X4 j Sm
     have hm:(y,NameKind.free)∈scope.names:=PySem.mem_of_lookup vX;obtain⟨m,hn,hl⟩:=I.loc;obtain⟨u,r,l⟩:=hl j y v eN eσ (by rcases S.Vj _ hm rfl with z|z;exact .inr (.inl z);exact .inr (.inr z));refine⟨u,r,?_⟩;rcases l with ⟨k1,_⟩ | ⟨_,c,ec,o,ho,hd⟩
     .exact absurd k1 (by rw [<-ey];exact S.pN j Sm)
     .obtain⟨c',e'⟩:=jN X.env scope.names [] y hm ⟨c,ec⟩;have e2:=sub y c' e';rw [ec] at e2
      cases e2;exact .inr ⟨qd vX,c,(skip y (S.apart _ hm rfl)).trans e',o,old _ _ (Kr _ _ ho),hd⟩
  .rcases both y c e with ⟨_,h2⟩ | ⟨_,h2⟩
   .exact⟨none,by rw [h2];exact MS⟩
   .obtain⟨v,o,ho,hd⟩:=I.cell y c (sub y c h2);exact⟨v,o,old _ _ (Kr _ _ ho),hd⟩
  .rcases both y c e with ⟨_,h2⟩ | ⟨_,h2⟩
   .exact I0.gJ.fresh (by rw [h2];exact cf _)
   .exact I0.mC y c (sub y c h2)
  .show (Ar fr σ).length=N.length;rw [S.SI];simp [Ar]
 have WG:∀b∈fp,(upd H D (.lst [])) b=none:=λ b hb=>by
  obtain⟨o,e,_⟩:=T.obj 0 _ st b hb;rw [e_ (by intro z;rw [z,<-Ve] at e;exact absurd (aG e) (bU _))];exact(f2 b hb).1
 have K2:tn 0 EY:=T.keep _ _ _ st λ b _ o e=>old _ _ (Kr _ _ e)
 have stat:∀{H':Hp},(∀b∈fp,H' b=none)->∀b∈fp,rC (X.pK scope x ((x,G.objs.size+1)::gk X.env scope.names []) G.objs.size N {ji with heap:=G} (upd H D (.lst [])) fp) [] H' b:=λ hn b hb=>
  ⟨hn b hb,(IY.ok.TZ b hb).1,IY.ok.J0 b hb,.inl hb,(IY.ok.TZ b hb).2,λ p hp=>absurd (show p∈([]:List (Addr×Obj)) from hp) (by simp)⟩
 have loop:codeAny (model X.prog X.w) X.A (.compLoop (.ListComp elt [⟨.Name x px,iter,ifs,0⟩] scope pos) 0 (.ref it) (.ref D) (compEnvC scope ((x,G.objs.size+1)::gk X.env scope.names []) G.objs.size X.env)) (RR (.ref D) G.objs.size)
   {ji with heap:=EY,toks:=ji.toks}:=by
  refine Bc (λ n s'=>∃i ys H',Inv (X.pK scope x ((x,G.objs.size+1)::gk X.env scope.names []) G.objs.size N {ji with heap:=G} (upd H D (.lst [])) fp) [] (Ar fr σ) H' s'/\tn i s'.heap/\(∀b∈fp,H' b=none)/\W i n ys H') ?_ m0 ⟨0,[],_,IY,K2,WG,w0⟩;rintro n s3 ⟨i,ys,H3,I3,Ko,Qd,w3⟩;rcases turn i n ys H3 w3 with ⟨stop,q⟩ | ⟨go,step⟩
  .refine gU (T.done (X.pK scope x ((x,G.objs.size+1)::gk X.env scope.names []) G.objs.size N {ji with heap:=G} (upd H D (.lst [])) fp) rfl rfl rfl hc i [] s3 _ H3 _ I3 (stat Qd) Ko stop) λ r s4 zq=> ?_;obtain⟨hr,I4⟩:=zq;subst hr;obtain⟨m',Sd,_⟩:=I4.loc;have u:Un (uP X.stack) fp H H3 ji.heap s4.heap:=Un.trans (Un.laid Kr (eB Ve) hD) I4.base;refine Y5 D G.objs.size s4 m' H3 (I.Ql I4.os u I4.gJ I4.bare λ b hb=>⟨(f2 b hb).2.2.2.1,(f2 b hb).2.1,(f2 b hb).2.2.2.2.1,(f2 b hb).2.2.2.2.2⟩) Sd (I.Ae (Zc (Ze Ve) (Zc Zk (Zg Ss))) I4.free) q
  .refine gU (T.item (X.pK scope x ((x,G.objs.size+1)::gk X.env scope.names []) G.objs.size N {ji with heap:=G} (upd H D (.lst [])) fp) rfl rfl rfl hc i [] s3 _ H3 _ I3 (stat Qd) Ko go) λ r s4 zq=> ?_;obtain⟨u,hr,h4⟩:=zq;subst hr;refine gU h4 λ _ s5 zq=> ?_;obtain⟨x',H5,I5,r5,y5,K3,Vk⟩:=zq;have VR:=I5.pinned (stat Vk) (T.obj _ _ K3);refine wpAny_assign_Name (tL (i:=0) VR S.nd (by show N[0]? = some x;rw [S.SI];rfl) (.inr (rk S.hx)) r5 (λ s6 I6=> ?_) (.inl (decide_eq_true rfl)));have Ã:Inv (X.pK scope x ((x,G.objs.size+1)::gk X.env scope.names []) G.objs.size N {ji with heap:=G} (upd H D (.lst [])) fp) ([]++qh fp s5.heap) (lI x' fr σ) H5 s6:=I6
   have again:∀{H8:Hp} {s8:Shared} {E5:List V},Inv (X.pK scope x ((x,G.objs.size+1)::gk X.env scope.names []) G.objs.size N {ji with heap:=G} (upd H D (.lst [])) fp) ([]++qh fp s5.heap) (lI x' fr σ) H8 s8->(∃m',m'<n/\W (i+1) m' E5 H8)->
     ∃m,m<n/\∃i ys H',Inv (X.pK scope x ((x,G.objs.size+1)::gk X.env scope.names []) G.objs.size N {ji with heap:=G} (upd H D (.lst [])) fp) [] (Ar fr σ) H' s8/\tn i s8.heap/\(∀b∈fp,H' b=none)/\W i m ys H':=λ {H8 s8 E5} I8 ⟨m',hm,w8⟩=>by
    refine⟨m',hm,i+1,E5,H8,I8.pQ.weak (by simp [Ar,lI]) (λ j v e=> ?_),T.keep _ _ _ K3 λ b hb o e=>(I8.pin (b,o) (aB _ (aB _ (ki hb e)))).1,λ b hb=> ?_,w8⟩
    .cases j with
     | zero=>simp [Ar] at e
     | succ k=>simpa [Ar,lI] using e
    .obtain⟨o,e,d⟩:=T.obj _ _ K3 b hb;exact(I8.pin (b,o) (aB _ (aB _ (ki hb e)))).2.1
   refine gU (ht _ _ _ _ _ _ s6 (lI x' fr σ) H5 _ Ã (step x' H5 y5)) λ b s7 zq=> ?_;obtain⟨H7,I7,q7⟩:=zq
   cases b with
   | false=>exact again I7 q7
   | true=>
    refine gU (he _ _ _ _ _ _ s7 _ H7 _ I7 q7) λ yv s8 zq=> ?_;obtain⟨y,H8,I8,r8,Y7,hz,q8⟩:=zq;refine gU (gR _ s8 _ H8 (.ref D) [y] (.ref D) [yv] (λ _ H9=>H9=upd H8 D (.lst (ys ++ [y]))) I8 rfl (.cons r8 .nil) ⟨D,ys,y,rfl,rfl,Y7,hz,rfl⟩) λ _ s9 zq=> ?_;obtain⟨_,H9,I9,_,e9⟩:=zq;subst e9;exact again I9 q8
 exact codeAny_compStart_list loop (T.self _ 0 _ _ _ K2 loop)
theorem LM (hc:X.calm=true) (S:vK scope X.env.scope x N X.N fr) (hi:PI X (.Name x px) iter wi) (ht:∀cl C jj kZ ex,IB (X.pK scope x cl C N jj kZ ex) ifs tt) (he:∀cl C jj kZ ex,PE (X.pK scope x cl C N jj kZ ex) elt te)
  (hs:∀v,foldedSetIterable iter X.env v=pure v:=by intro _;rfl):PE X (.ListComp elt [⟨.Name x px,iter,ifs,0⟩] scope pos) (tK wi fr tt te):=by
 intro pins s σ H Q I h;rw [eval_ListComp];refine wpAny_comprehension_free (use:=none) rfl hs (xN X.env scope (zg S I)) S.kind S.names (gU (hi pins s σ H _ I h) λ v s1 h1=>gU h1 λ TK s2 h2=> ?_);obtain⟨it,fp,tn,J,H2,e,I2,T,Kp,f2,R⟩:=h2;subst e;refine wu (RR:=λ acc C=>compPost (model X.prog X.w) X.A X.xe none (EP X pins σ Q) acc C) hc S ht he I2 T Kp f2 R λ D C s' m H' I' hn hf q=> ?_;exact⟨m,hn,λ h' R5=>⟨.ref D,H',I'.turned (t':=s'.toks) (λ b o hb e=>R5.extBut b o hb e) hf.1 hf.2.1 hf.2.2.2.1 hf.2.2.2.2.1 hf.2.2.2.2.2,rfl,q⟩⟩
theorem Lp (hN:X.N.Nodup) (JP:X.N[i]? = some y) (hy:Loc X.env.scope y) (hc:X.calm=true) (S:vK scope X.env.scope x N X.N fr) (hi:PI X (.Name x px) iter wi)
  (ht:∀cl C jj kZ ex,IB (X.pK scope x cl C N jj kZ ex) ifs tt) (he:∀cl C jj kZ ex,PE (X.pK scope x cl C N jj kZ ex) elt te)
  (R1:swapsWith (.ListComp elt [⟨.Name x px,iter,ifs,0⟩] scope pos) (some (.Name y py)) Ff.line X.env=pure true:=by rfl)
  (hs:∀v,foldedSetIterable iter X.env v=pure v:=by intro _;rfl) (hf:X.fn y=true\/X.env.scope.names.lookup y=some .local:=by first|exact .inl rfl|exact .inr rfl|assumption) :
  PS X (.Assign [.Name y py] (.ListComp elt [⟨.Name x px,iter,ifs,0⟩] scope pos) Ff) (zS (tK wi fr tt te) (pj i)):=by
 intro pins s σ H D I h;rw [exec_Assign_Name_used _ _ _ _ R1];refine wpAny_bind (wpAny_standAt (wpAny_bind ?_));show wpAny (model X.prog X.w) X.A (comprehension (.ListComp elt [⟨.Name x px,iter,ifs,0⟩] scope pos) scope X.env _ (newList []) false (eval iter X.env) (some (assign (.Name y py) X.env)) >>= λ _=>pure ()) _ _ s
 refine wpAny_bind (wpAny_mono (wpAny_comprehension_free (use:=some (assign (.Name y py) X.env)) (Q:=λ _ s'=>SP X pins D .next s') rfl hs (xN X.env scope (zg S I)) S.kind S.names
  (gU (hi pins s σ H _ I h) λ v s1 h1=>gU h1 λ TK s2 h2=> ?_)) (λ _ s' hq=>wpAny_pure (wpAny_pure hq)) λ _ _ e=>e)
 obtain⟨it,fp,tn,J,H2,e,I2,T,Kp,f2,R⟩:=h2;subst e;refine wu (RR:=λ acc C=>compPost (model X.prog X.w) X.A X.xe (some (assign (.Name y py) X.env)) (λ _ s'=>SP X pins D .next s') acc C) hc S ht he I2 T Kp f2 R λ Dl C s' m H' I' hn Gw q=> ?_;show wpAny (model X.prog X.w) X.A (assign (.Name y py) X.env (.ref Dl)) _ _ _;refine wpAny_assign_Name (uT I' hN JP hy (show RelV (.ref Dl) (.ref Dl) from rfl) (λ QE Ä zq=> ?_) hf);obtain⟨a,sb,ha⟩:=zq
 have Y8:C≠a:=by
  rcases ha with z|z
  .rw [z];exact Gw.2.1
  .exact λ w=>Gw.2.2.2.2.1 y a z w.symm
 exact⟨m,hn.sameBut sb Y8,λ h' R5=>⟨_,H',Ä.turned (t':=QE.toks) (λ b o hb e=>R5.extBut b o hb e) Gw.1 Gw.2.1 Gw.2.2.2.1 Gw.2.2.2.2.1 Gw.2.2.2.2.2,q⟩⟩
theorem Bh (hc:X.calm=true) (S:vK scope X.env.scope x N X.N fr) (hi:Bx (PI X (.Name x px) iter wi)) (ht:∀cl C jj kZ ex,Bx (IB (X.pK scope x cl C N jj kZ ex) ifs tt)) (he:∀cl C jj kZ ex,Bx (PE (X.pK scope x cl C N jj kZ ex) elt te))
  (hs:∀v,foldedSetIterable iter X.env v=pure v:=by intro _;rfl):Bx (PE X (.ListComp elt [⟨.Name x px,iter,ifs,0⟩] scope pos) (tK wi fr tt te)):=⟨LM hc S hi.un (λ a b c d e=>(ht a b c d e).un) (λ a b c d e=>(he a b c d e).un) hs⟩
theorem J_ (hN:X.N.Nodup) (JP:X.N[i]? = some y) (hy:Loc X.env.scope y) (hc:X.calm=true) (S:vK scope X.env.scope x N X.N fr) (hi:Bx (PI X (.Name x px) iter wi))
  (ht:∀cl C jj kZ ex,Bx (IB (X.pK scope x cl C N jj kZ ex) ifs tt)) (he:∀cl C jj kZ ex,Bx (PE (X.pK scope x cl C N jj kZ ex) elt te))
  (R1:swapsWith (.ListComp elt [⟨.Name x px,iter,ifs,0⟩] scope pos) (some (.Name y py)) Ff.line X.env=pure true:=by rfl)
  (hs:∀v,foldedSetIterable iter X.env v=pure v:=by intro _;rfl) (hf:X.fn y=true\/X.env.scope.names.lookup y=some .local:=by first|exact .inl rfl|exact .inr rfl|assumption) :
  Bx (PS X (.Assign [.Name y py] (.ListComp elt [⟨.Name x px,iter,ifs,0⟩] scope pos) Ff) (zS (tK wi fr tt te) (pj i))):=⟨Lp hN JP hy hc S hi.un (λ a b c d e=>(ht a b c d e).un) (λ a b c d e=>(he a b c d e).un) R1 hs hf⟩
end
def vf (ss:List EK) (m:jQ):List Int:=((List.range ss.length).filter λ j=>match ss[j]? with|some s=>nU m s|none=>false).map λ (j:Nat)=>(j:Int)
theorem L4 {p:Nat}:(p:Int)∈vf ss m↔∃s,ss[p]? = some s/\nU m s=true:=by
 unfold vf;rw [aE];constructor
 .rintro⟨j,hj,e⟩;have e:j=p:=by exact Int.ofNat.inj e
  subst e;have:=(bG.mp hj).2
  cases q:ss[j]? with
  | none=>
   rw [q] at this
   cases this
  | some s=>
   rw [q] at this;exact⟨s,rfl,this⟩
 .rintro⟨s,hs,hf⟩;have pl:=(ag.mp hs).1;exact⟨p,bG.mpr ⟨aU.mpr pl,by rwa [hs]⟩,rfl⟩
theorem Lf:∀x∈vf ss m,0<=x/\x<ss.length:=λ x hx=>by
 unfold vf at hx;obtain⟨j,hj,rfl⟩:=aE.mp hx;have:=aU.mp (bG.mp hj).1;lia
theorem Lg (ss:List EK) (m:jQ):(vf ss m).length<=ss.length:=by
 unfold vf;rw [ae];exact bj (bB _ _) (by rw [aI];exact ay _)
theorem MB {ms:List jQ} {ss:List EK} {i p:Nat}:(p:Int)∈((ms.map (vf ss))[i]?).getD []↔∃m s,ms[i]? = some m/\ss[p]? = some s/\nU m s=true:=by
 rw [ak]
 cases q:ms[i]? with
 | none=>simp
 | some m=>
  show (p:Int)∈vf ss m↔_;rw [L4];constructor
  .rintro⟨s,h1,h2⟩;exact⟨m,s,rfl,h1,h2⟩
  .rintro⟨m',s,e,h1,h2⟩
   cases e;exact⟨s,h1,h2⟩
theorem fN.P2 {β:Type} {R S:Addr->β->Prop} {a:Addr} {b:β}:∀{as:List Addr} {bs:List β} {i:Nat},fN R as bs->as.Nodup->as[i]? = some a->(∀x y,x∈as->x≠a->R x y->S x y)->S a b->fN S as (bs.set i b)
 | _,_,0,.cons _ t,n,h,k,r=>by
  simp at h;subst h;have n1:=aY.mp n
  have go:∀{as:List Addr} {bs:List β},fN R as bs->(∀x y,x∈as->R x y->S x y)->fN S as bs:=λ {as bs} t=>by
   induction t with
   | nil=>exact λ _=>.nil
   | cons r t ih=>exact λ h=>.cons (h _ _ (by simp) r) (ih λ x y hx=>h x y (az _ hx))
  exact .cons r (go t λ x y hx=>k x y (az _ hx) λ z=>n1.1 (z▸hx))
 | _,_,i+1,@fN.cons _ _ _ a0 _ _ _ r0 t,n,h,k,r=>by
  have n1:=aY.mp n;have h':=h;simp at h';have am:=ai h';exact .cons (k _ _ (by simp) (λ z=>n1.1 (z▸am)) r0) (t.P2 (i:=i) n1.2 (by simpa using h) (λ x y hx=>k x y (az _ hx)) r)
 | _,_,i,.nil,_,h,_,_=>by simp at h
abbrev Wy:=Nat->Nat->Nat->Prop
structure nA (W:Wy) (a b:Nat) (e:Int):Prop where
 lo:0<=e
 hi:e<=1000000
 le:∀k,W k a b->e<=(k:Int)
 wit:e<1000000->W e.toNat a b
theorem nA.one (h:nA W a b e) (g:nA W a b f):e=f:=by
 by_cases h1:e<1000000
 .have:=g.le _ (h.wit h1);have h2:=h.lo;by_cases h3:f<1000000
  .have:=h.le _ (g.wit h3);have:=g.lo;lia
  .lia
 .by_cases h3:f<1000000
  .have:=h.le _ (g.wit h3);have:=g.lo;have:=h.hi;lia
  .have:=h.hi;have:=g.hi;lia
theorem nA.iff (h:nA W a b e) (i:∀k,W k a b↔W' k a b):nA W' a b e:=
 ⟨h.lo,h.hi,λ k q=>h.le k ((i k).mpr q),λ q=>(i _).mp (h.wit q)⟩
theorem nA.none (h:∀k,¬W k a b):nA W a b 1000000:=⟨by decide,by decide,λ k q=>(h k q).elim,λ q=>by lia⟩
def Kn (U W:Wy):Wy:=λ k a b=>U k a b\/W k a b
def An (n:Nat) (U W:Wy):Wy:=λ k a b=>∃i j m,m<n/\i+j=k/\U i a m/\W j m b
def xQ:Wy:=λ k a b=>k=0/\a=b
theorem nA.or (h:nA U a b e) (g:nA W a b f):nA (Kn U W) a b (min e f):=by
 have:=h.lo;have:=h.hi;have:=g.lo;have:=g.hi;refine⟨by lia,by lia,λ k q=> ?_,λ q=> ?_⟩
 .rcases q with q|q
  .have:=h.le k q;lia
  .have:=g.le k q;lia
 .by_cases c:e<=f
  .rw [eU c] at q⊢;exact .inl (h.wit q)
  .rw [eL (Yl (Yj c))] at q⊢;exact .inr (g.wit q)
theorem nA.K0:nA (Kn xQ W) a a 0:=⟨by decide,by decide,λ k _=>Yt,λ _=>.inl ⟨rfl,rfl⟩⟩
theorem nA.other (h:nA W a b e) (n:a≠b):nA (Kn xQ W) a b e:=
 h.iff λ k=>⟨.inr,λ q=>q.elim (λ z=>(n z.2).elim) id⟩
theorem nA.then {n:Nat} {U W:Wy} {a b:Nat} {f g:Nat->Int} (hf:∀m,m<n->nA U a m (f m)) (hg:∀m,m<n->nA W m b (g m)) {e:Int} (hi:e<=1000000) (le:∀m,m<n->e<=f m+g m) (at_:e=1000000\/∃m,m<n/\e=f m+g m):nA (An n U W) a b e:=by
 refine⟨?_,hi,?_,λ q=> ?_⟩
 .rcases at_ with z | ⟨m,hm,z⟩
  .exact Yc (by decide) (Yg z)
  .have:=(hf m hm).lo;have:=(hg m hm).lo;lia
 .rintro k ⟨i,j,m,hm,ek,u,w⟩;have:=(hf m hm).le i u;have:=(hg m hm).le j w;have:=le m hm;lia
 .rcases at_ with z | ⟨m,hm,z⟩
  .lia
  .have h1:=(hf m hm).lo;have h2:=(hg m hm).lo;refine⟨(f m).toNat,(g m).toNat,m,hm,by lia,(hf m hm).wit (by omega),(hg m hm).wit (by omega)⟩
inductive xk (W:Wy) (t:Nat):Nat->Nat->Nat->Prop
 | one {k a b:Nat}:W k a b->xk W t k a b
 | step {i j a c b:Nat}:W i a c->c<t->xk W t j c b->xk W t (i+j) a b
theorem xk.up (h:t<=s) (p:xk W t k a b):xk W s k a b:=by
 induction p with
 | one w=>exact .one w
 | step w c _ ih=>exact .step w (Za c h) ih
theorem xk.app (p:xk W t i a c) (hc:c<t) (q:xk W t j c b):xk W t (i+j) a b:=by
 induction p with
 | one w=>exact .step w hc q
 | step w c' _ ih=>
  rw [cT];exact .step w c' (ih hc q)
theorem xk.zero (p:xk W 0 k a b):W k a b:=by
 cases p with
 | one w=>exact w
 | step _ c _=>lia
theorem xk.cut (p:xk W (t+1) k a b):xk W t k a b\/∃i j,i+j<=k/\xk W t i a t/\xk W t j t b:=by
 induction p with
 | one w=>exact .inl (.one w)
 | @step i j a c b w hc _ ih=>
  by_cases e:c=t
  .subst e;rcases ih with h | ⟨i',j',l,h1,h2⟩
   .exact .inr ⟨i,j,ay _,.one w,h⟩
   .exact .inr ⟨i,j',Zw (Zc Zo l),.one w,h2⟩
  .rcases ih with h | ⟨i',j',l,h1,h2⟩
   .exact .inl (.step w (Nat.lt_of_le_of_ne (Zs hc) e) h)
   .exact .inr ⟨i+i',j',Qaz l,.step w (Nat.lt_of_le_of_ne (Zs hc) e) h1,h2⟩
structure rq (W:Wy) (n t a b:Nat) (e:Int):Prop where
 lo:0<=e
 hi:e<=1000000
 le:∀k,xk W t k a b->e<=(k:Int)
 wit:e<1000000->xk W n e.toNat a b
theorem nA.half (h:nA W a b e):rq W n 0 a b e:=⟨h.lo,h.hi,λ k q=>h.le k q.zero,λ q=>.one (h.wit q)⟩
theorem rq.all (h:rq W n n a b e):nA (λ k a b=>xk W n k a b) a b e:=⟨h.lo,h.hi,h.le,h.wit⟩
theorem rq.put (ht:t<n) (h:rq W n t a b e) (hf:rq W n t a t f) (hg:rq W n t t b g):rq W n (t+1) a b (min e (f+g)):=by
 have h1:=h.lo;have h2:=h.hi;have h3:=hf.lo;have h4:=hg.lo;refine⟨by lia,by lia,λ k q=> ?_,λ q=> ?_⟩
 .rcases q.cut with z | ⟨i,j,l,z1,z2⟩
  .have:=h.le k z;lia
  .have:=hf.le i z1;have:=hg.le j z2;lia
 .by_cases c:e<=f+g
  .rw [eU c] at q⊢;exact h.wit q
  .rw [eL (Yl (Yj c))] at q⊢;rw [Int.toNat_add h3 h4];exact(hf.wit (by lia)).app ht (hg.wit (by lia))
theorem rq.low (h:rq W n (t+1) a b e):rq W n t a b e:=⟨h.lo,h.hi,λ k q=>h.le k (q.up Zk),h.wit⟩
def lA (one:Nat->Nat->Nat->Prop):List Nat->Nat->Nat->Prop
 | [],a,b=>a=b
 | i::w,a,b=>∃c,one i a c/\lA one w c b
theorem lA.app:∀{u v:List Nat} {a b:Nat},lA one (u++v) a b↔∃c,lA one u a c/\lA one v c b
 | [],v,a,b=>⟨λ h=>⟨a,rfl,h⟩,λ ⟨c,e,h⟩=>by cases e;exact h⟩
 | i::u,v,a,b=>by
  constructor
  .rintro⟨c,h1,h2⟩;obtain⟨d,h3,h4⟩:=lA.app.mp h2;exact⟨d,⟨c,h1,h3⟩,h4⟩
  .rintro⟨d,⟨c,h1,h3⟩,h4⟩;exact⟨c,h1,lA.app.mpr ⟨d,h3,h4⟩⟩
theorem lA.lt (hn:∀i a c,one i a c->c<n):∀{w:List Nat} {a b:Nat},a<n->lA one w a b->b<n
 | [],a,b,h,e=>by cases e;exact h
 | i::w,a,b,_,⟨c,h1,h2⟩=>lA.lt hn (hn _ _ _ h1) h2
def oi (one:Nat->Nat->Nat->Prop) (sh:Sh):Wy:=λ k a b=>∃w,sh.In w/\w.length=k/\lA one w a b
theorem KJ:oi one (.mark i) k a b↔k=1/\one i a b:=by
 constructor
 .rintro⟨w,h,e,t⟩
  cases h with
  | mark=>
   obtain⟨c,h1,h2⟩:=t
   cases h2;exact⟨e.symm,h1⟩
 .rintro⟨rfl,h⟩;exact⟨[i],.mark i,rfl,b,h,rfl⟩
theorem NC (hn:∀i a c,one i a c->c<n) (ha:a<n):oi one (.two jM l r) k a b↔An n (oi one l) (oi one r) k a b:=by
 constructor
 .rintro⟨w,h,e,t⟩;generalize hs:Sh.two jM l r=s at h
  cases h with
  | row h1 h2=>
   cases hs;obtain⟨c,t1,t2⟩:=lA.app.mp t;rw [aq] at e;exact⟨_,_,c,lA.lt hn ha t1,e,⟨_,h1,rfl,t1⟩,⟨_,h2,rfl,t2⟩⟩
  | left _=>exact absurd (Sh.two.inj hs).1 (by decide)
  | right _=>exact absurd (Sh.two.inj hs).1 (by decide)
  | _=>cases hs
 .rintro⟨i,j,m,_,rfl,⟨u,h1,rfl,t1⟩,⟨v,h2,rfl,t2⟩⟩;exact⟨u++v,.row h1 h2,aq,lA.app.mpr ⟨m,t1,t2⟩⟩
theorem Qt:oi one (.two sL l r) k a b↔Kn (oi one l) (oi one r) k a b:=by
 constructor
 .rintro⟨w,h,e,t⟩;generalize hs:Sh.two sL l r=s at h
  cases h with
  | row _ _=>exact absurd (Sh.two.inj hs).1 (by decide)
  | left h=>
   cases hs;exact .inl ⟨w,h,e,t⟩
  | right h=>
   cases hs;exact .inr ⟨w,h,e,t⟩
  | _=>cases hs
 .rintro(⟨w,h,e,t⟩ | ⟨w,h,e,t⟩)
  .exact⟨w,.left h,e,t⟩
  .exact⟨w,.right h,e,t⟩
theorem IG:oi one (.one jb s) k a b↔Kn xQ (oi one s) k a b:=by
 constructor
 .rintro⟨w,h,e,t⟩;generalize hs:Sh.one jb s=s' at h
  cases h with
  | no _=>exact .inl ⟨e.symm,t⟩
  | yes h=>
   cases hs;exact .inr ⟨w,h,e,t⟩
  | done _=>exact absurd (Sh.one.inj hs).1 (by decide)
  | more _ _=>exact absurd (Sh.one.inj hs).1 (by decide)
  | once _ _=>exact absurd (Sh.one.inj hs).1 (by decide)
  | _=>cases hs
 .rintro(⟨rfl,rfl⟩ | ⟨w,h,e,t⟩)
  .exact⟨[],.no _,rfl,rfl⟩
  .exact⟨w,.yes h,e,t⟩
theorem HF {one:Nat->Nat->Nat->Prop} {n:Nat} (hn:∀i a c,one i a c->c<n) {s t:Sh} {w:List Nat} (h:t.In w):t = .one i6 s->∀{a b:Nat},a<n->lA one w a b->Kn xQ (xk (oi one s) n) w.length a b:=by
 induction h with
 | done _=>exact λ _ a b _ e=>.inl ⟨rfl,e⟩
 | @more t u v h1 h2 i1 i2=>
  intro e a b ha tr
  cases e;obtain⟨c,t1,t2⟩:=lA.app.mp tr;have hc:=lA.lt hn ha t1;rw [aq];rcases i2 rfl hc t2 with ⟨z,rfl⟩|p
  .rw [z];exact .inr (.one ⟨u,h1,rfl,t1⟩)
  .exact .inr (.step ⟨u,h1,rfl,t1⟩ hc p)
 | no _=>exact λ e=>absurd (Sh.one.inj e).1 (by decide)
 | yes _ _=>exact λ e=>absurd (Sh.one.inj e).1 (by decide)
 | once _ _ _ _=>exact λ e=>absurd (Sh.one.inj e).1 (by decide)
 | _=>intro e;cases e
theorem HG (p:xk (oi one s) n k a b):∃u v,s.In u/\(Sh.one i6 s).In v/\(u++v).length=k/\lA one (u++v) a b:=by
 induction p with
 | one w=>
  obtain⟨u,h,e,t⟩:=w;exact⟨u,[],h,.done _,by rwa [bK],by rwa [bK]⟩
 | step w hc _ ih=>
  obtain⟨u,h,e,t⟩:=w;obtain⟨u2,v2,h1,h2,e2,t2⟩:=ih;exact⟨u,u2++v2,h,.more h1 h2,by rw [aq,e,e2],lA.app.mpr ⟨_,t,t2⟩⟩
theorem KL (hn:∀i a c,one i a c->c<n) (ha:a<n):oi one (.one i6 s) k a b↔Kn xQ (xk (oi one s) n) k a b:=by
 constructor
 .rintro⟨w,h,rfl,t⟩;exact HF hn h rfl ha t
 .rintro(⟨rfl,rfl⟩|p)
  .exact⟨[],.done _,rfl,rfl⟩
  .obtain⟨u,v,h1,h2,e,t⟩:=HG p;exact⟨u++v,.more h1 h2,e,t⟩
theorem KI {one:Nat->Nat->Nat->Prop} {n:Nat} (hn:∀i a c,one i a c->c<n) {s:Sh} {k a b:Nat} (ha:a<n):oi one (.one lL s) k a b↔xk (oi one s) n k a b:=by
 constructor
 .rintro⟨w,h,rfl,tr⟩;generalize hs:Sh.one lL s=s' at h
  cases h with
  | @once t u v h1 h2=>
   cases hs;obtain⟨c,t1,t2⟩:=lA.app.mp tr;have hc:=lA.lt hn ha t1;rw [aq];rcases HF hn h2 rfl hc t2 with ⟨z,rfl⟩|p
   .rw [z];exact .one ⟨u,h1,rfl,t1⟩
   .exact .step ⟨u,h1,rfl,t1⟩ hc p
  | no _=>exact absurd (Sh.one.inj hs).1 (by decide)
  | yes _=>exact absurd (Sh.one.inj hs).1 (by decide)
  | done _=>exact absurd (Sh.one.inj hs).1 (by decide)
  | more _ _=>exact absurd (Sh.one.inj hs).1 (by decide)
  | _=>cases hs
 .intro p;obtain⟨u,v,h1,h2,e,t⟩:=HG p;exact⟨u++v,.once h1 h2,e,t⟩
structure gQ (j8:Int->List Int) (xB:Int->Nm->Int->Nm->Prop) (es:List En) (pl:Nat):Prop where
 up:∀(i j:Nat) (e f:En),es[i]? = some e->es[j]? = some f->i<=j->e.mr<=f.mr
 near:∀(e f:En),es[pl]? = some e->f∈es->f.mr<=e.mr+1
 links:∀(k:Nat) (e:En),es[k+1]? = some e->∃(j:Nat) (f:En),j<=k/\e.E1=(j:Int)/\es[j]? = some f/\e.mr=f.mr+1/\e.rm∈j8 f.rm/\xB e.rm f.th e.num e.th
 done:∀(j:Nat) (e:En),j<pl->es[j]? = some e->∀r∈j8 e.rm,∀num to,xB r e.th num to->∃f∈es,iN f=(to,r)/\f.mr<=e.mr+1
section
variable {j8:Int->List Int} {xB:Int->Nm->Int->Nm->Prop} {es:List En} {pl:Nat}
theorem gQ.one:gQ j8 xB [e] 0:=by
 refine⟨λ i j x y hx hy _=> ?_,λ x y hx hy=> ?_,λ k x h=> ?_,λ j x h=>by lia⟩
 .have hi:i=0:=by
   have:=(ag.mp hx).1;simp at this;exact this
  have hj:j=0:=by
   have:=(ag.mp hy).1;simp at this;exact this
  subst hi;subst hj
  cases hx
  cases hy;exact cW _
 .cases hx;rw [ao.mp hy];lia
 .simp at h
theorem gQ.push (h:gQ j8 xB es pl) (he:es[pl]? = some e) (hf:f.mr=e.mr+1) (hb:f.E1=(pl:Int)) (hr:f.rm∈j8 e.rm) (hm:xB f.rm e.th f.num f.th):gQ j8 xB (es ++ [f]) pl:=by
 have ß:=(ag.mp he).1
 have last:∀{j:Nat} {y:En},(es ++ [f])[j]? = some y->es[j]? = some y\/(j=es.length/\y=f):=λ {j y} hy=>by
  by_cases hj:j<es.length
  .rw [aR hj] at hy;exact .inl hy
  .rw [bt (Zi hj)] at hy
   have z:j-es.length=0:=by
    have:=(ag.mp hy).1;simp at this;exact this
   rw [z] at hy
   cases hy;exact .inr ⟨by lia,rfl⟩
 have old:∀{j:Nat} {y:En},es[j]? = some y->(es ++ [f])[j]? = some y:=λ {j y} hy=>by
  rwa [aR (ag.mp hy).1]
 refine⟨λ i j x y hx hy l=> ?_,λ x y hx hy=> ?_,λ k x hx=> ?_,λ j x hj hx r sR num to Mm=> ?_⟩
 .rcases last hx with UY | ⟨ei,ex⟩<;>rcases last hy with Wh | ⟨ej,ey⟩
  .exact h.up i j x y UY Wh l
  .rw [ey,hf];exact h.near e x he (ai UY)
  .have:=(ag.mp Wh).1;lia
  .rw [ex,ey];exact cW _
 .have ex:x=e:=by
   rw [old he] at hx;exact(Option.some.inj hx).symm
  subst ex;rcases ax.mp hy with z|z
  .exact h.near x y he z
  .rw [ao.mp z,hf];exact cW _
 .rcases last hx with hx | ⟨ek,rfl⟩
  .obtain⟨j,g,h1,h2,h3,h4⟩:=h.links k x hx;exact⟨j,g,h1,h2,old h3,h4⟩
  .exact⟨pl,e,Zs (Za ß (Zg ek)),hb,old he,hf,hr,hm⟩
 .rcases last hx with hx | ⟨ej,_⟩
  .obtain⟨g,h1,h2⟩:=h.done j x hj hx r sR num to Mm;exact⟨g,aN _ h1,h2⟩
  .lia
theorem gQ.next (h:gQ j8 xB es pl) (he:es[pl]? = some e) (all:∀r∈j8 e.rm,∀num to,xB r e.th num to->(to,r)∈es.map iN):gQ j8 xB es (pl+1):=by
 refine⟨h.up,λ x y hx hy=> ?_,h.links,λ j x hj hx r hr num to hm=> ?_⟩
 .have h1:=h.near e y he hy;have h2:=h.up pl (pl+1) e x he hx Zk;lia
 .by_cases c:j<pl
  .exact h.done j x c hx r hr num to hm
  .have ej:j=pl:=by exact Zq (Zs hj) (Zi c)
   subst ej;rw [he] at hx
   cases hx;obtain⟨f,hf,ef⟩:=aE.mp (all r hr num to hm);exact⟨f,hf,ef,h.near e f he hf⟩
end
def Jp (ts:List Nm) (xB:Int->Nm->Int->Nm->Prop) (i a c:Nat):Prop:=∃k to num,ts[a]? = some k/\ts[c]? = some to/\xB ((i:Int)+1) k num to
section
variable {M:xP} {xB:Int->Nm->Int->Nm->Prop} {es:List En} {pl:Nat} {ts:List Nm}
theorem gQ.reach (h:gQ (jB M) xB es pl) (hp:es.length<=pl):∀{w:List Nat} {r:Int} {a b:Nat} {k t:Nm} {f:En},f∈es->iN f=(k,r)->ts[a]? = some k->ts[b]? = some t->ma M r w->lA (Jp ts xB) w a b->∃g∈es,g.th=t/\m_ M g.rm=true/\g.mr<=f.mr+(w.length:Int)
 | [],r,a,b,k,t,f,hf,ef,ha,hb,run,tr=>by
  cases tr;rw [ha] at hb
  cases hb;have e1:f.th=k:=congrArg Prod.fst ef;have e2:f.rm=r:=congrArg Prod.snd ef;exact⟨f,hf,e1,by rwa [e2],by simp⟩
 | i::w,r,a,b,k,t,f,hf,ef,ha,hb,⟨r1,r2⟩,⟨c,⟨k',to,num,h1,h2,h3⟩,tr⟩=>by
  rw [ha] at h1
  cases h1;obtain⟨j,hj⟩:=aL.mp hf;have e1:f.th=k:=congrArg Prod.fst ef;have e2:f.rm=r:=congrArg Prod.snd ef;obtain⟨g,hg,eg,fg⟩:=h.done j f (aC (ag.mp hj).1 hp) hj ((i:Int)+1) (by rwa [e2]) num to (by rwa [e1]);obtain⟨x,hx,x1,x2,x3⟩:=h.reach hp hg eg h2 hb r2 tr;exact⟨x,hx,x1,x2,by rw [aF];lia⟩
theorem gQ.back (h:gQ (jB M) xB es pl) (ok:pG M) {st:Nm} {a:Nat} (h0:∃e0,es[0]? = some e0/\e0.th=st/\e0.rm=0/\e0.mr=0) (ha:ts[a]? = some st) (Nr:∀e∈es,e.th∈ts):∀(n k:Nat) (e:En),k<n->es[k]? = some e->∃(w:List Nat) (b:Nat),ts[b]? = some e.th/\(w.length:Int)=e.mr/\lA (Jp ts xB) w a b/\∀v,ma M e.rm v->ma M 0 (w++v)
 | 0,_,_,hk,_=>by lia
 | n+1,0,e,_,he=>by
  obtain⟨e0,q,q1,q2,q3⟩:=h0;rw [q] at he
  cases he;exact⟨[],a,by rwa [q1],q3.symm,rfl,λ v hv=>by rw [q2] at hv;exact hv⟩
 | n+1,k+1,e,hk,he=>by
  obtain⟨j,f,jk,_,hj,ff,hr,hm⟩:=h.links k e he;obtain⟨w,b,hb,lw,tr,run⟩:=gQ.back h ok h0 ha Nr n j f (Qab jk hk) hj;obtain⟨c,hc⟩:=aL.mp (Nr e (ai he));have rg:=AV ok hr;have er:((((e.rm-1).toNat:Nat):Int)+1)=e.rm:=by exact QaA rg
  refine⟨w ++ [(e.rm-1).toNat],c,hc,by rw [aq,bx];lia,lA.app.mpr ⟨b,tr,c,⟨f.th,e.th,e.num,hb,hc,by rwa [er]⟩,rfl⟩,λ v hv=> ?_⟩;rw [bH];refine run _ ⟨by rwa [er],?_⟩
  rwa [er]
theorem gQ.least (h:gQ (jB M) xB es pl) (hp:es.length<=pl) (ok:pG M) {sh:Sh} (fits:∀w,ma M 0 w↔sh.In w) {st:Nm} {a b:Nat} (h0:∃e0,es[0]? = some e0/\e0.th=st/\e0.rm=0/\e0.mr=0) (nd:ts.Nodup) (ha:ts[a]? = some st) (Nr:∀e∈es,e.th∈ts) (iD:es.length<=2500)
  {p:Nat} {g:En} (hg:es[p]? = some g) (hb:ts[b]? = some g.th) (he:m_ M g.rm=true) (first:∀q f,q<p->es[q]? = some f->f.th=g.th->m_ M f.rm=false):nA (oi (Jp ts xB) sh) a b g.mr:=by
 obtain⟨w,b',xI,lw,tr,run⟩:=h.back (ts:=ts) ok h0 ha Nr (p+1) p g (Nat.lt_succ_self _) hg;have eb:b'=b:=(cw (ag.mp xI).1 nd).mp (xI.trans hb.symm);subst eb
 have r0:ma M 0 w:=by
  have:=run [] he;rw [bK] at this;exact this
 have le:∀k,oi (Jp ts xB) sh k a b'->g.mr<=(k:Int):=by
  rintro k ⟨u,hu,rfl,tu⟩;obtain⟨e0,q,q1,q2,q3⟩:=h0;obtain⟨x,hx,x1,x2,x3⟩:=h.reach (ts:=ts) hp (ai q) (show iN e0=(st,0) by unfold iN;rw [q1,q2]) ha hb ((fits u).mpr hu) tu;obtain⟨j,hj⟩:=aL.mp hx;by_cases c:j<p
  .have:=first j x c hj x1
   rw [x2] at this
   cases this
  .have:=h.up p j g x hg hj (Zi c);lia
 have mr:∀(n k:Nat) (e:En),k<n->es[k]? = some e->e.mr<=(k:Int):=by
  intro n
  induction n with
  | zero=>intro k e hk;lia
  | succ n ih=>
   intro k e hk Sk
   cases k with
   | zero=>
    obtain⟨e0,q,_,_,q3⟩:=h0;rw [q] at Sk
    cases Sk;exact Yc (Ye q3) Yt
   | succ k=>
    obtain⟨j,f,jk,_,hj,ff,_,_⟩:=h.links k e Sk;have:=ih j f (Qab jk hk) hj;exact QaB ff jk this
 have:=mr (p+1) p g (Nat.lt_succ_self _) hg;have:=(ag.mp hg).1;exact⟨by lia,by lia,le,λ _=>⟨w,(fits w).mp r0,by lia,tr⟩⟩
theorem gQ.UH (h:gQ (jB M) xB es pl) (hp:es.length<=pl) {sh:Sh} (fits:∀w,ma M 0 w↔sh.In w) {st:Nm} {a b:Nat} {t:Nm} (h0:∃e0,es[0]? = some e0/\e0.th=st/\e0.rm=0/\e0.mr=0) (ha:ts[a]? = some st) (hb:ts[b]? = some t) (no:∀f∈es,f.th=t->m_ M f.rm=false):nA (oi (Jp ts xB) sh) a b 1000000:=by
 refine nA.none ?_;rintro k ⟨u,hu,rfl,tu⟩;obtain⟨e0,q,q1,q2,q3⟩:=h0;obtain⟨x,hx,x1,x2,x3⟩:=h.reach (ts:=ts) hp (ai q) (show iN e0=(st,0) by unfold iN;rw [q1,q2]) ha hb ((fits u).mpr hu) tu;have:=no x hx x1;rw [x2] at this
 cases this
end
def me (fL:List (Int×Addr×ni)) (m:jQ) (k:Nm) (num:Int) (to:Nm):Prop:=∃a fX,(num,a,fX)∈fL/\nU m ⟨fX.name,fX.weight,m.back⟩=true/\j_ fX m.back=k/\i7 fX m.back=to
def jh (fL:List (Int×Addr×ni)) (m:jQ) (H:Hp) (kvs:List (Key×V)):Prop:=∀num a fX,(num,a,fX)∈fL->nU m ⟨fX.name,fX.weight,m.back⟩=true->∃(l:Addr) (ys:List V) (b:Addr),gT kvs (.inr (tx (j_ fX m.back)))=some (.ref l)/\H l=some (.lst ys)/\V.ref b∈ys/\H b=some (.tup [.int num,.str (tx (i7 fX m.back))])
section
variable {fL:List (Int×Addr×ni)} {m:jQ} {H H':Hp} {kvs:List (Key×V)}
theorem jh.none:jh [] m H kvs:=λ _ _ _ h=>nomatch h
theorem jh.same (h:jh fL m H kvs) (s:fh H H'):jh fL m H' kvs:=λ num a fX hm hf=>
 let ⟨l,ys,b,e1,e2,e3,e4⟩:=h num a fX hm hf
 ⟨l,ys,b,e1,s _ _ e2,e3,s _ _ e4⟩
theorem jh.skip (h:jh fL m H kvs) (hf:nU m ⟨x.2.2.name,x.2.2.weight,m.back⟩=false):jh (fL ++ [x]) m H kvs:=λ num a fX hm YX=>by
 rcases ax.mp hm with z|z
 .exact h num a fX z YX
 .rw [<-ao.mp z] at hf;rw [hf] at YX
  cases YX
theorem jh.grow (h:jh fL m H kvs) (hv:gT kvs (.inr (tx (j_ fX m.back)))=some (.ref l)) (hl:H l=some (.lst ys)) (hb:H b=some (.tup [.int num,.str (tx (i7 fX m.back))])):jh (fL ++ [(num,a,fX)]) m (upd H l (.lst (ys ++ [.ref b]))) kvs:=λ RB a' NI hm hf=>by
 have sO:∀c (xs:List V),H c=some (.tup xs)->upd H l (.lst (ys ++ [.ref b])) c=some (.tup xs):=λ c xs e=>by
  rwa [e_ (gN e hl (λ z=>nomatch z))]
 rcases ax.mp hm with z|z
 .obtain⟨l',E5,b',e1,e2,e3,e4⟩:=h RB a' NI z hf;by_cases c:l'=l
  .subst c;rw [hl] at e2
   cases e2;exact⟨l',_,b',e1,eX,aN _ e3,sO _ _ e4⟩
  .exact⟨l',E5,b',e1,(e_ c).trans e2,e3,sO _ _ e4⟩
 .cases ao.mp z;exact⟨l,_,b,hv,eX,aB _ (by simp),sO _ _ hb⟩
theorem jh.put (h:jh fL m H kvs) (hd:H d=some (.dK kvs)) (hv:gT kvs (.inr (tx k))=Option.none):jh fL m (upd H d (.dK (putK kvs (.inr (tx k)) (.ref l)))) (putK kvs (.inr (tx k)) (.ref l)):=λ num a fX hm hf=>by
 obtain⟨l',E5,b',e1,e2,e3,e4⟩:=h num a fX hm hf;refine⟨l',E5,b',?_,?_,e3,?_⟩
 .rw [Dj,if_neg (λ z=>by rw [z,hv] at e1;cases e1)];exact e1
 .rwa [e_ (gN e2 hd (λ z=>nomatch z))]
 .rwa [e_ (gN e4 hd (λ z=>nomatch z))]
end
theorem jh.off (f:jh fL mk H kvs) (g:xn Hb H d n m good kvs) (hD:H D=some (.lst ys)) (hb:Hb D≠Option.none):jh fL mk (upd H D (.lst zs)) kvs:=λ num a fX hm hf=>by
 obtain⟨l,us,b,e1,e2,e3,e4⟩:=f num a fX hm hf;obtain⟨l',_,e,fr,_⟩:=g.there e1
 cases e;exact⟨l,us,b,e1,by rw [e_ (λ q=>hb (by rwa [<-q]))];exact e2,e3,by rwa [e_ (gN e4 hD (λ z=>nomatch z))]⟩
theorem gQ.Xc (h:gQ j8 xB es pl) (hp:es.length<=pl):gQ j8 xB es es.length:=
 ⟨h.up,(λ e f he _=>by rw [bC (ay _)] at he;cases he),h.links,λ j e hj he=>h.done j e (Za hj hp) he⟩
structure nj (B H:Hp) (q:Addr) (as:List Addr) (rows:List (List Int)):Prop where
 at_:H q=some (.lst (as.map V.ref))
 all:fN (λ x (l:List Int)=>H x=some (.lst (l.map V.int))) as rows
 nd:as.Nodup
 new:∀x∈as,x≠q/\B x=none
 own:B q=none
def Sq (n:Nat) (rows:List (List Int)):Prop:=rows.length=n/\∀l∈rows,l.length=n
def pN (rows:List (List Int)) (a b:Nat):Int:=((rows[a]?).getD []).getD b 0
def vJ (W:Wy) (n:Nat) (rows:List (List Int)):Prop:=Sq n rows/\∀a b,a<n->b<n->nA W a b (pN rows a b)
theorem Sq.row (h:Sq n rows) (ha:a<n):∃l,rows[a]? = some l/\l.length=n:=by
 have la:a<rows.length:=by rwa [h.1]
 exact⟨rows[a],by simp,h.2 _ (dA la)⟩
theorem GN (h:rows[a]? = some l) (g:l[b]? = some e):pN rows a b=e:=by
 unfold pN;rw [h,Option.getD_some,bW,g];rfl
theorem Sq.at (h:Sq n rows) (hl:rows[a]? = some l) (hb:b<n):l[b]? = some (pN rows a b):=by
 have ll:=h.2 l (ai hl);have:l[b]? = some (l[b]'(Za hb (Zg ll))):=by simp
 rw [this,GN hl this]
theorem Sq.put (h:Sq n rows) (hl:rows[a]? = some l):Sq n (rows.set a (l.set b e)):=by
 refine⟨by rw [bS];exact h.1,λ x hx=> ?_⟩;rcases bZ hx with z|z
 .exact h.2 x z
 .rw [z,bS];exact h.2 l (ai hl)
theorem CN (h:Sq n rows) (hl:rows[a]? = some l) (hb:b<n) (a' b':Nat):pN (rows.set a (l.set b e)) a' b'=if a'=a/\b'=b then e else pN rows a' b':=by
 have al:=(ag.mp hl).1;have ll:=h.2 l (ai hl);by_cases ea:a'=a
 .subst ea;unfold pN;rw [bQ al,Option.getD_some,hl,Option.getD_some,bW,bW];by_cases eb:b'=b
  .subst eb;rw [bQ (Za hb (Zg ll)),if_pos ⟨rfl,rfl⟩];rfl
  .rw [cg (λ z=>eb z.symm),if_neg (λ z=>eb z.2)]
 .unfold pN;rw [cg (λ z=>ea z.symm),if_neg (λ z=>ea z.1)]
theorem nj.rows {B H:Hp} {q:Addr} {as:List Addr} {rows:List (List Int)} (h:nj B H q as rows):jF H q rows:=⟨as,h.at_,h.all⟩
theorem nj.get {B H:Hp} {q:Addr} {as:List Addr} {rows:List (List Int)} (h:nj B H q as rows) {a:Nat} {l:List Int} (hl:rows[a]? = some l):∃x,as[a]? = some x/\H x=some (.lst (l.map V.int)):=h.all.at hl
theorem nj.put {B H:Hp} {q:Addr} {as:List Addr} {rows:List (List Int)} (h:nj B H q as rows) {a:Nat} {x:Addr} {l:List Int} (hx:as[a]? = some x):nj B (upd H x (.lst (l.map V.int))) q as (rows.set a l):=by
 have hm:=ai hx;exact⟨(e_ (λ z=>(h.new x hm).1 z.symm)).trans h.at_,h.all.P2 h.nd hx (λ y l' _ hy e=>(e_ hy).trans e) eX,h.nd,h.new,h.own⟩
theorem nj.of {B H:Hp} {q:Addr} {ar ks:List Addr} {rows:List (List Int)} (hl:ar.length=rows.length) (d:H q=some (.lst (ks.map V.ref))) (al:fN (λ (c:Addr×List Int) p=>H p=some (.lst (c.2.map V.int))) (ar.zip rows) ks) (nd:ks.Nodup) (out:∀a∈ks,a≠q/\B a=none) (hq:B q=none):nj B H q ks rows:=by
 have go:∀{as:List Addr} {fs:List (List Int)} {bs:List Addr},as.length=fs.length->fN (λ (c:Addr×List Int) p=>H p=some (.lst (c.2.map V.int))) (as.zip fs) bs->fN (λ y (l:List Int)=>H y=some (.lst (l.map V.int))) bs fs:=by
  intro as
  induction as with
  | nil=>
   intro fs bs hl h
   cases fs with
   | nil=>cases h;exact .nil
   | cons _ _=>cases hl
  | cons a as ih=>
   intro fs bs hl h
   cases fs with
   | nil=>cases hl
   | cons m fs=>
    cases h with
    | cons r t=>exact .cons r (ih (by simpa using hl) t)
 exact⟨d,go hl al,nd,out,hq⟩
theorem vJ.K0 (h:vJ W n rows) (sq:Sq n gg) (c:∀a b,a<n->b<n->pN gg a b=if a=b then 0 else pN rows a b):vJ (Kn xQ W) n gg:=by
 refine⟨sq,λ a b ha hb=> ?_⟩;rw [c a b ha hb];by_cases e:a=b
 .subst e;rw [if_pos rfl];exact nA.K0
 .rw [if_neg e];exact(h.2 a b ha hb).other e
theorem J6 (K:aj) (hc:X.calm=true) (hK:X.K=K:=by rfl):kg X (.builtin "min") (λ xs H Q=>∃(p:Addr) (ns:List Int),xs = [.ref p]/\fZ K H p (ns.map V.int)/\ns≠[]/\∀m∈ns,(∀a∈ns,m<=a)->Q (.int m) H):=by
 subst hK;intro pins s σ H xs us Q I r h;obtain⟨p,ns,rfl,hq,hn,q⟩:=h;obtain⟨u,rfl,ru⟩:=r.one
 cases ru;obtain⟨its,rv,pl,_⟩:=I.list hq;obtain⟨zs,rfl,rfl⟩:=yO rv
 have hl:s.heap.IsList p (intItems zs.toArray):=by
  have:=pl.isList
  simpa [intItems] using this
 have z0:0<zs.length:=cZ.mpr λ z=>hn (by rw [z];rfl);refine min_intList (I.ok.hd hc) hl (by simpa using z0) λ v h' tk hv hk=> ?_;obtain⟨t,rfl⟩:=intItems_at hv;obtain⟨h1,h2⟩:=argBest_lt (numAt zs.toArray) (zs.toArray.size-1);have e:zs.toArray.size=zs.length:=by simp
 have ix:∀j,j<zs.length->numAt zs.toArray j∈zs.map (·.1):=λ j hj=>by
  refine aE.mpr ⟨zs[j],dA hj,?_⟩;simp [numAt,hj]
 refine⟨.int _,H,I.kept hk,⟨t,rfl⟩,q _ (ix _ (by lia)) λ a ha=> ?_⟩;obtain⟨y,hy,rfl⟩:=aE.mp ha;obtain⟨j,hj,rfl⟩:=List.getElem_of_mem hy;have:=h2 j (by lia);have e2:numAt zs.toArray j=(zs[j]).1:=by simp [numAt,hj]
 rw [e2] at this;exact this
theorem vD (K:aj) (hl:Bx (PE X l tl)) (h:X.K=K:=by rfl):Bx (PI X tg l (Mj K tl)):=⟨h▸Hw hl.un⟩
noncomputable def jA (W:Wy) (a b:Nat):Int:=by
 classical
 exact if h:∃e,nA W a b e then Classical.choose h else 0
theorem lu (h:nA W a b e):jA W a b=e:=by
 have h2:∃e,nA W a b e:=⟨e,h⟩
 unfold jA;rw [dif_pos h2];exact(Classical.choose_spec h2).one h
noncomputable def tab (W:Wy) (n:Nat):List (List Int):=(List.range n).map λ a=>(List.range n).map λ b=>jA W a b
theorem G_ (h:∀a b,a<n->b<n->∃e,nA W a b e):vJ W n (tab W n):=by
 refine⟨⟨by simp [tab],λ l hl=> ?_⟩,λ a b ha hb=> ?_⟩
 .obtain⟨a,_,rfl⟩:=aE.mp hl;simp
 .obtain⟨e,he⟩:=h a b ha hb
  have:pN (tab W n) a b=jA W a b:=by
   refine GN (l:=(List.range n).map λ b=>jA W a b) ?_ ?_
   .unfold tab;rw [ak,cz ha];rfl
   .rw [ak,cz hb];rfl
  rwa [this,lu he]
theorem Dp (d:H D=some (.lst (ks.map V.ref))) (al:fN (λ (c:Nat) p=>H p=some (.lst (((List.range n).map λ b=>jA W c b).map V.int))) (List.range n) ks):jF H D (tab W n):=by
 refine⟨ks,d,?_⟩
 have go:∀{cs:List Nat} {bs:List Addr},fN (λ (c:Nat) p=>H p=some (.lst (((List.range n).map λ b=>jA W c b).map V.int))) cs bs->fN (λ x (l:List Int)=>H x=some (.lst (l.map V.int))) bs (cs.map λ a=>(List.range n).map λ b=>jA W a b):=by
  intro cs bs h
  induction h with
  | nil=>exact .nil
  | cons r _ ih=>exact .cons r ih
 exact go al
theorem vJ.iff (h:vJ W n rows) (i:∀k a b,a<n->(W k a b↔W' k a b)):vJ W' n rows:=⟨h.1,λ a b ha hb=>(h.2 a b ha hb).iff λ k=>i k a b ha⟩
theorem fN.UW {α β:Type} {R S:α->β->Prop}:∀{as:List α} {bs:List β},fN R as bs->(∀a b,a∈as->R a b->S a b)->fN S as bs
 | _,_,.nil,_=>.nil
 | _,_,.cons r t,h=>.cons (h _ _ (by simp) r) (t.UW λ a b ha r=>h a b (az _ ha) r)
theorem sS (l:List Nm):(l.map λ x=>V.str (tx x)).all kb=true:=by
 rw [cS];intro v hv;obtain⟨x,_,rfl⟩:=aE.mp hv;rfl
theorem Ck {ts:List Nm} (nd:ts.Nodup) {t:Nm} (h:t∈ts):∃j:Nat,ts[j]? = some t/\(ts.map λ x=>V.str (tx x))[j]? = some (V.str (tx t))/\xK (V.str (tx t)) (V.str (tx t))=true/\∀(m:Nat) (z:V),m<j->(ts.map λ x=>V.str (tx x))[m]? = some z->xK z (V.str (tx t))=false:=by
 obtain⟨j,hj⟩:=aL.mp h;refine⟨j,hj,by rw [ak,hj];rfl,by simp [xK],λ m z hm hz=> ?_⟩;rw [ak] at hz;obtain⟨u,hu,rfl⟩:=Option.map_eq_some_iff.mp hz
 have ne:¬tx u=tx t:=λ q=>by
  have q:=iK.mp q;subst q;have:=(cw (ag.mp hu).1 nd).mp (hu.trans hj.symm);exact Zf hm (Zg this)
 show (tx u==tx t)=false;exact beq_eq_false_iff_ne.mpr ne
structure VS (M:xP) (es:List En) (m:List (Nm×Int)):Prop where
 nd:(m.map (·.1)).Nodup
 hit:∀(t:Nm) (k:Int),(t,k)∈m->∃(j:Nat) (e:En),k=(j:Int)/\es[j]? = some e/\e.th=t/\m_ M e.rm=true/\∀(q:Nat) (f:En),q<j->es[q]? = some f->f.th=t->m_ M f.rm=false
 all:∀f∈es,m_ M f.rm=true->f.th∈m.map (·.1)
theorem Ic (M:xP):∀(n:Nat) (es:List En),es.length=n->VS M es (iH M.ends es 0 [])
 | 0,es,h=>by
  have e:es = []:=cG.mp h;subst e;exact⟨cq,λ t k h=>(by cases h),λ f h=>(by cases h)⟩
 | n+1,es,h=>by
  have ne:es≠[]:=λ z=>by rw [z] at h;cases h
  have SH:=List.dropLast_concat_getLast ne;generalize es.dropLast=init at SH;generalize es.getLast ne=e at SH;subst SH;rw [aq,bx] at h;have ih:=Ic M n init (Zq (Zs (Ze h)) (Zs (Zg h)))
  have old:∀{j:Nat} {y:En},init[j]? = some y->(init ++ [e])[j]? = some y:=λ {j y} hy=>by
   rwa [aR (ag.mp hy).1]
  have back:∀{j:Nat} {y:En},j<init.length->(init ++ [e])[j]? = some y->init[j]? = some y:=λ {j y} hj hy=>by
   rw [aR hj] at hy;exact hy
  rw [sU];generalize iH M.ends init 0 []=m at ih
  have hold:∀(t:Nm) (k:Int),(t,k)∈m->∃(j:Nat) (f:En),k=(j:Int)/\(init ++ [e])[j]? = some f/\f.th=t/\m_ M f.rm=true/\∀(q:Nat) (g:En),q<j->(init ++ [e])[q]? = some g->g.th=t->m_ M g.rm=false:=λ t k hm=>by
   obtain⟨j,f,h1,h2,h3,h4,h5⟩:=ih.hit t k hm;have jl:=(ag.mp h2).1;exact⟨j,f,h1,old h2,h3,h4,λ q g hq hg=>h5 q g hq (back (Za hq (Zl jl)) hg)⟩
  by_cases c:(M.ends[e.rm.toNat]?).getD false=true/\e.th∉m.map (·.1)
  .rw [if_pos c];refine⟨?_,λ t k hm=> ?_,λ f hf he=> ?_⟩
   .rw [av,bL];refine⟨ih.nd,by simp,λ a ha b hb z=> ?_⟩;have hb:b=e.th:=by simpa using hb
    exact c.2 (by rwa [<-hb,<-z])
   .rcases ax.mp hm with z|z
    .exact hold t k z
    .cases ao.mp z;refine⟨init.length,e,by simp,by simp,rfl,c.1,λ q g hq hg ht=> ?_⟩
     cases b:m_ M g.rm with
     | false=>rfl
     | true=>
      have:=ih.all g (ai (back hq hg)) b;rw [ht] at this;exact(c.2 this).elim
   .rw [av];rcases ax.mp hf with z|z
    .exact aN _ (ih.all f z he)
    .rw [ao.mp z];exact aB _ (by simp)
  .rw [if_neg c];refine⟨ih.nd,hold,λ f hf he=> ?_⟩;rcases ax.mp hf with z|z
   .exact ih.all f z he
   .rw [ao.mp z] at he⊢;by_cases q:e.th∈m.map (·.1)
    .exact q
    .exact(c ⟨he,q⟩).elim
def mX (m:List (Nm×Int)) (t:Nm):Int:=((m.find? λ y=>decide (y.1=t)).map (·.2)).getD 0
theorem qP:∀{m:List (Nm×Int)} {t:Nm},t∈m.map (·.1)->(t,mX m t)∈m
 | [],t,h=>by cases h
 | y::m,t,h=>by
  by_cases c:y.1=t
  .have:mX (y::m) t=y.2:=by
    unfold mX;simp [bJ,c]
   rw [this,<-c];exact aZ
  .have e:mX (y::m) t=mX m t:=by
    unfold mX;simp [bJ,c]
   rw [e];rw [aD] at h;rcases aA.mp h with z|z
   .exact(c z.symm).elim
   .exact az _ (qP z)
theorem Jh (nd:(m.map (·.1)).Nodup) (h:t∈m.map (·.1)):gT (gz m) (.inr (tx t))=some (.int (mX m t)):=by
 have h2:=kK (l:=t) (m:=m);rw [decide_eq_true h] at h2
 cases q:gT (gz m) (.inr (tx t)) with
 | none=>
  rw [q] at h2
  cases h2
 | some v=>
  have hm:=nC q;unfold gz at hm;obtain⟨y,hy,e⟩:=aE.mp hm;injection e with e1 e2
  injection e1 with e1
  have e1:=iK.mp e1;have:=yA nd hy (qP h) e1;rw [<-e2,this]
theorem MD {M:xP} {es:List En} {ts:List Nm} (h:∀e∈es,e.th∈ts):(iH M.ends es 0 []).length<=ts.length:=by
 have p:=Ic M es.length es rfl
 have:=qr _ ts p.nd λ x hx=>by
  obtain⟨y,hy,rfl⟩:=aE.mp hx;obtain⟨j,e,_,he,et,_⟩:=p.hit y.1 y.2 hy;rw [<-et];exact h e (ai he)
 rw [ae] at this;exact this
theorem Bb {α:Type} {J:It} {H1:Hp} {fr:List Nat} {σ:St} {tt:TT} {te:TE} {Q:VK} {cs:List α} {g:α->V} (T:Tells J H1 (cs.map g)) (p:α->Bool) (R:Hp->α->Addr×Addr->Prop) (live:∀H c x,R H c x->H x.2≠none) (mono:∀c x H H',fh H H'->R H c x->R H' c x) (hz:cs.length<=sizeLine)
  (ht:∀c H2 Q2,c∈cs->fh H1 H2->(∀H3,fh H2 H3->Q2 (p c) H3)->tt (lI (g c) fr σ) H2 Q2)
  (he:∀c H2 Q2,c∈cs->p c=true->fh H1 H2->(∀x H3,H2 x.1=none->H2 x.2=none->fh H2 H3->R H3 c x->Q2 (.ref x.1) H3)->te (lI (g c) fr σ) H2 Q2)
  (off:∀H c x D ys zs,H D=some (.lst ys)->x.1≠D->x.2≠D->R H c x->R (upd H D (.lst zs)) c x)
  (hQ:∀D H2 (as:List (Addr×Addr)),H1 D=none->fh H1 H2->H2 D=some (.lst (as.map λ x=>V.ref x.1))->fN (R H2) (cs.filter p) as->(as.map (·.2)).Nodup->(∀a∈as,a.1≠D/\a.2≠D/\H1 a.2=none)->Q (.ref D) H2):uN J H1 fr σ tt te Q:=by
 intro D hD;have hlen:(cs.map g).length=cs.length:=ae ..;refine⟨λ i m ys H2=>m=cs.length-i/\i<=cs.length/\∃as:List (Addr×Addr),ys=as.map (λ x=>V.ref x.1)/\fN (R H2) ((cs.take i).filter p) as/\(as.map (·.2)).Nodup/\(∀a∈as,a.1≠D/\a.2≠D/\H1 a.2=none)/\fh H1 H2/\H2 D=some (.lst ys),⟨_,rfl,aP _,[],rfl,.nil,cq,λ a ha=>(nomatch ha),fh.new hD,eX⟩,?_⟩;rintro i m ys H2 ⟨rfl,hi,as,rfl,a2,nd,out,s2,d2⟩;by_cases iJ:i<cs.length
 .refine .inr ⟨T.go i H2 (by rwa [hlen]) s2,λ x H3 y=> ?_⟩;obtain⟨rfl,hx⟩:=T.BE i H2 x H3 s2 (by rwa [hlen]) y;rw [ak] at hx
  cases hc:cs[i]? with
  | none=>rw [hc] at hx;cases hx
  | some c=>
   rw [hc] at hx;obtain rfl:g c=x:=Option.some.inj hx;have hm:c∈cs:=ai hc;have tk:(cs.take (i+1)).filter p=(cs.take i).filter p++(if p c then [c] else []):=take_succ_filter p cs i c hc;refine ht c H3 _ hm s2 λ H4 s4=> ?_
   cases hp:p c with
   | false=>
    rw [hp] at tk;refine⟨_,?_,rfl,iJ,as,rfl,by rw [tk];simpa using a2.imp λ a b r=>mono _ _ _ _ s4 r,nd,out,s2.trans s4,s4 _ _ d2⟩;exact T6 iJ
   | true=>
    rw [hp] at tk;have d4:=s4 _ _ d2;have Ng:=s2.trans s4;refine he c H4 _ hm hp Ng λ x H5 qT rS s5 r5=>⟨s5 _ _ d4,?_,_,?_,rfl,iJ,as ++ [x],?_,?_,?_,?_,(Ng.trans s5).fS hD,eX⟩
    .have h1:=a2.len;have h2:=bB p (cs.take i);rw [aT] at h2;rw [ae];lia
    .exact T6 iJ
    .rw [av];rfl
    .have p1:x.1≠D:=λ z=>by
      rw [z,d4] at qT
      cases qT
     have p2:x.2≠D:=λ z=>by
      rw [z,d4] at rS
      cases rS
     rw [tk,if_pos rfl];refine fN.snoc (off _ _ _ _ _ _ (s5 _ _ d4) p1 p2 r5) (fN.OK (λ a b hb r=>off _ _ _ _ _ _ (s5 _ _ d4) (out b hb).1 (out b hb).2.1 (mono _ _ _ _ (s4.trans s5) r)) a2)
    .rw [av,bL];refine⟨nd,cF _ _,λ a ha b hb z=> ?_⟩;have hb:b=x.2:=by simpa using hb
     rw [hb] at z;obtain⟨y,hy,rfl⟩:=aE.mp ha;obtain⟨j,hj⟩:=aL.mp hy
     have jl:j<((cs.take i).filter p).length:=by
      rw [a2.len];exact(ag.mp hj).1
     have:=live _ _ _ (mono _ _ _ _ s4 (a2.get (bA jl) hj));rw [z] at this;exact this rS
    .intro a ha;rcases ax.mp ha with z|z
     .exact out a z
     .rw [ao.mp z];refine⟨λ z=> ?_,λ z=> ?_,Ng.free rS⟩
      .rw [z,d4] at qT
       cases qT
      .rw [z,d4] at rS
       cases rS
 .obtain rfl:i=cs.length:=by exact Zq hi (Zi iJ)
  exact .inl ⟨by have:=T.stop H2 s2;rw [hlen] at this;exact this,hQ D H2 as hD s2 d2 (by rw [bh] at a2;exact a2) nd out⟩
def qq (n:Int):Prop:=n.natAbs<=500000000000000000000000000000000000000000000000000000000001
theorem qq.lt (h:qq n):n.natAbs<10 ^ 60:=by
 have big:(10:Nat) ^ 60=1000000000000000000000000000000000000000000000000000000000000:=by decide
 unfold qq at h;rw [big];exact Zb h (Zd rfl)
def wU (ts:List Nm) (rs:List (Int×Addr×ni)) (m:jQ) (a b:Nat):Prop:=∃k to num,ts[a]? = some k/\ts[b]? = some to/\me rs m k num to
def zE (rs:List (Int×Addr×ni)):Nm->List (Int×Bool)->Nm->List EK->Prop
 | h,[],e,ss=>h=e/\ss = []
 | h,w::ws,e,ss=>∃ad fX V3,(w.1,ad,fX)∈rs/\j_ fX w.2=h/\ss=⟨fX.name,fX.weight,w.2⟩::V3/\zE rs (i7 fX w.2) ws e V3
def zQ (M:xP) (es:List En) (t:Nm):List (Int×Bool):=((jy es es.length (mX (iH M.ends es 0 []) t).toNat).map (rE M.iR es)).reverse
def yV (ts:List Nm) (M:xP) (es:List En):List (Nm×List (Int×Bool)):=(ts.filter λ t=>decide (t∈(iH M.ends es 0 []).map (·.1))).map λ t=>(t,zQ M es t)
structure ID (ts:List Nm) (rs:List (Int×Addr×ni)) (ms:List jQ) (sh:Sh) (a:Nat) (st:Nm) (fs:List (Nm×List (Int×Bool))):Prop where
 Vu:fs.map (·.1)=((List.range ts.length).filter λ b=>decide (jA (oi (λ i a b=>∃m,ms[i]? = some m/\wU ts rs m a b) sh) a b<1000000)).map λ b=>(ts[b]?).getD []
 way:∀t ws,(t,ws)∈fs->∃(b:Nat) (ss:List EK),ts[b]? = some t/\jA (oi (λ i a b=>∃m,ms[i]? = some m/\wU ts rs m a b) sh) a b=(ws.length:Int)/\ws.length<=62/\zE rs st ws t ss/\ss.length=ws.length/\ku (λ i p=>∃m s,ms[i]? = some m/\ss[p]? = some s/\nU m s=true) sh 0 ws.length
theorem zE.snoc {rs:List (Int×Addr×ni)} {num:Int} {ad:Addr} {fX:ni} {b:Bool} (hm:(num,ad,fX)∈rs):∀{ws:List (Int×Bool)} {h:Nm} {ss:List EK},zE rs h ws (j_ fX b) ss->zE rs h (ws ++ [(num,b)]) (i7 fX b) (ss ++ [⟨fX.name,fX.weight,b⟩])
 | [],h,ss,⟨e1,e2⟩=>by
  subst e2;exact⟨ad,fX,[],hm,e1.symm,rfl,rfl,rfl⟩
 | w::ws,h,ss,⟨ad',NI,V3,h1,h2,h3,h4⟩=>by
  subst h3;exact⟨ad',NI,V3 ++ [⟨fX.name,fX.weight,b⟩],h1,h2,rfl,zE.snoc hm h4⟩
theorem vh (h:plain rs=plain V8) (hm:(num,a,fX)∈rs):∃a',(num,a',fX)∈V8:=by
 have:(num,fX)∈plain V8:=by
  rw [<-h];exact aE.mpr ⟨_,hm,rfl⟩
 obtain⟨⟨n,a',t⟩,h1,h2⟩:=aE.mp this
 cases h2;exact⟨a',h1⟩
theorem yT (h:plain rs=plain V8):me rs m k num to↔me V8 m k num to:=by
 constructor
 .rintro⟨a,fX,h1,h2⟩;obtain⟨a',h3⟩:=vh h h1;exact⟨a',fX,h3,h2⟩
 .rintro⟨a,fX,h1,h2⟩;obtain⟨a',h3⟩:=vh h.symm h1;exact⟨a',fX,h3,h2⟩
def M8 (fL:List (Int×Addr×ni)) (iR:List jQ) (r:Int) (k:Nm) (num:Int) (to:Nm):Prop:=∃mk,iR[(r-1).toNat]? = some mk/\me fL mk k num to
theorem LQ (h:plain rs=plain fL):Jp ts (M8 fL ms)=λ i a b=>∃m,ms[i]? = some m/\wU ts rs m a b:=by
 funext i a c
 refine propext ⟨?_,?_⟩
 .rintro⟨k,to,num,h1,h2,mk,h3,h4⟩;rw [show ((i:Int)+1-1).toNat=i from QaC] at h3;exact⟨mk,h3,k,to,num,h1,h2,(yT h).mpr h4⟩
 .rintro⟨mk,h3,k,to,num,h1,h2,h4⟩;exact⟨k,to,num,h1,h2,mk,by rwa [show ((i:Int)+1-1).toNat=i from QaC],(yT h).mp h4⟩
theorem Mz (kn:S8 sh) (lv:sh.leaves=List.range ms.length) (md:j7 (sh.real ms) M) (w:List Nat):ma M 0 w↔sh.In w:=by
 have í:sh.leaves=List.range' 0 sh.leaves.length:=by
  rw [lv,aI];exact List.range_eq_range'
 exact⟨λ h=>vy (ms:=ms) kn 0 í (md.back h),λ h=>md.led (RK h 0 í)⟩
theorem Du {es:List En} {ts:List Nm} {n:Nat} (nd:(es.map iN).Nodup) (hs:∀e∈es,e.th∈ts/\1<=e.rm/\e.rm<=n):es.length<=ts.length*n:=by
 have:=qr (es.map iN) (ts.flatMap λ t=>(List.range n).map λ (r:Nat)=>(t,(r:Int)+1)) nd λ x hx=>by
  obtain⟨e,he,rfl⟩:=aE.mp hx;obtain⟨h1,h2,h3⟩:=hs e he;refine List.mem_flatMap.mpr ⟨e.th,h1,aE.mpr ⟨(e.rm-1).toNat,aU.mpr (QaD h2 h3),?_⟩⟩;unfold iN;rw [show (((e.rm-1).toNat:Nat):Int)+1=e.rm by lia]
 rw [ae,List.length_flatMap] at this;simp only [ae,aI] at this
 have sm:∀l:List Nm,(l.map λ _=>n).sum=l.length*n:=by
  intro l
  induction l with
  | nil=>simp
  | cons a l ih=>rw [aD,cj,ih,aF,Nat.succ_mul];exact Nat.add_comm _ _
 rw [sm] at this;exact this
theorem JZ {α:Type} {d:α} {ts:List α} {p:α->Bool} {q:Nat->Bool} (h:∀b t,ts[b]? = some t->p t=q b):ts.filter p=((List.range ts.length).filter q).map λ b=>(ts[b]?).getD d:=by
 have key:∀j,j<=ts.length->(ts.take j).filter p=((List.range j).filter q).map λ b=>(ts[b]?).getD d:=by
  intro j
  induction j with
  | zero=>intro _;rfl
  | succ j ih=>
   intro hj;have ht:ts[j]? = some (ts[j]' hj):=by simp
   rw [ic ht,eR,List.filter_append,List.filter_append,av,ih (Zc Zk hj)]
   congr 1
   have:=h j _ ht;generalize ts[j]' hj=t at ht this
   cases c:q j with
   | true=>
    rw [c] at this;simp [this,c,ht]
   | false=>
    rw [c] at this;simp [this,c]
 have:=key ts.length (ay _);rw [bh] at this;exact this
def GD (fs:List (Nm×List (Int×Bool))):PyData:=.list (fs.map λ f=>.tuple [.str (tx f.1),.list (f.2.map KH)])
theorem JX (o:∀f∈fs,LU f.1):Ny 4 (GD fs):=by
 refine Er (uj λ d hd=> ?_);obtain⟨f,hf,rfl⟩:=aE.mp hd;refine HX (uj λ d hd=> ?_);simp only [aA,bb,or_false] at hd;rcases hd with rfl|rfl
 .exact⟨(HY (o f hf)).1,bj (HY (o f hf)).2 (aP _)⟩
 .exact KC f.2
structure iZ (B H:Hp) (q:Addr) (ps:List (Addr×Addr)) (fs:List (Nm×List (Int×Bool))):Prop where
 at_:H q=some (.lst (ps.map λ x=>V.ref x.1))
 rows:fN (λ f (x:Addr×Addr)=>H x.1=some (.tup [.str (tx f.1),.ref x.2])/\iB H x.2 f.2) fs ps
 nd:(ps.map (·.2)).Nodup
 new:∀x∈ps,x.2≠q/\B x.2=none
 own:B q=none
theorem iZ.dat {K:aj} {B H:Hp} {q:Addr} {ps:List (Addr×Addr)} {fs:List (Nm×List (Int×Bool))} (h:iZ B H q ps fs):tE K H (.ref q) (GD fs):=by
 refine .lst (fZ.of h.at_) ?_
 have go:∀{fs:List (Nm×List (Int×Bool))} {ps:List (Addr×Addr)},fN (λ f (x:Addr×Addr)=>H x.1=some (.tup [.str (tx f.1),.ref x.2])/\iB H x.2 f.2) fs ps->pH K H (ps.map λ x=>V.ref x.1) (fs.map λ f=>.tuple [.str (tx f.1),.list (f.2.map KH)]):=by
  intro fs ps h
  induction h with
  | nil=>exact .nil
  | cons r _ ih=>exact .cons (.tup (oh.of r.1) (.cons (.str _) (.cons r.2.dat .nil))) ih
 exact go h.rows
theorem iZ.keep (h:iZ B H q ps fs) (kt:∀b xs,H b=some (.tup xs)->H' b=some (.tup xs)) (kl:∀b ys,B b=none->H b=some (.lst ys)->H' b=some (.lst ys)):iZ B H' q ps fs:=by
 refine⟨kl _ _ h.own h.at_,?_,h.nd,h.new,h.own⟩
 have go:∀{fs:List (Nm×List (Int×Bool))} {ps:List (Addr×Addr)},(∀x∈ps,B x.2=none)->fN (λ f (x:Addr×Addr)=>H x.1=some (.tup [.str (tx f.1),.ref x.2])/\iB H x.2 f.2) fs ps->fN (λ f (x:Addr×Addr)=>H' x.1=some (.tup [.str (tx f.1),.ref x.2])/\iB H' x.2 f.2) fs ps:=by
  intro fs ps hn h
  induction h with
  | nil=>exact .nil
  | cons r _ ih=>
   obtain⟨r1,as,r2,r3⟩:=r;exact .cons ⟨kt _ _ r1,as,kl _ _ (hn _ aZ) r2,r3.imp λ _ _ z=>kt _ _ z⟩ (ih λ x hx=>hn x (az _ hx))
 exact go (λ x hx=>(h.new x hx).2) h.rows
theorem iZ.same (h:iZ B H q ps fs) (s:fh H H'):iZ B H' q ps fs:=h.keep (λ _ _ e=>s _ _ e) λ _ _ _ e=>s _ _ e
structure uJ (B H:Hp) (q:Addr) (ps:List (Addr×Addr)) (n:Nat):Prop where
 at_:H q=some (.lst (ps.map λ x=>V.ref x.1))
 rows:∀x∈ps,∃(z:V) (ys:List V),H x.1=some (.tup [z,.ref x.2])/\H x.2=some (.lst ys)/\ys.length<=n
 new:∀x∈ps,x.2≠q/\B x.2=none
 old:fh B H
theorem iZ.vS (h:iZ B H q ps fs) (s:fh B H) (hn:∀f∈fs,f.2.length<=n):uJ B H q ps n:=by
 refine⟨h.at_,λ x hx=> ?_,h.new,s⟩;obtain⟨i,hi⟩:=aL.mp hx;have il:=(ag.mp hi).1;have hf:fs[i]? = some (fs[i]'(by rwa [h.rows.len])):=by simp
 obtain⟨r1,as,r2,r3⟩:=h.rows.get hf hi;exact⟨_,_,r1,r2,by rw [ae,r3.len];exact hn _ (ai hf)⟩
theorem uJ.same (h:uJ B H q ps n) (s:fh H H'):uJ B H' q ps n:=⟨s _ _ h.at_,λ x hx=>let ⟨z,ys,h1,h2,h3⟩:=h.rows x hx;⟨z,ys,s _ _ h1,s _ _ h2,h3⟩,h.new,h.old.trans s⟩
theorem uJ.put (h:uJ B H q ps n) (hx:x∈ps) (hy:H x.2=some (.lst ys)) (hl:ys.length<=n):uJ B (upd H x.2 (.lst (ys ++ [v]))) q ps (n+1):=by
 refine⟨(e_ (h.new x hx).1.symm).trans h.at_,λ y hy2=> ?_,h.new,h.old.fS (h.new x hx).2⟩;obtain⟨z,us,h1,h2,h3⟩:=h.rows y hy2;by_cases c:y.2=x.2
 .exact⟨z,_,(e_ (gN h1 hy (λ q=>nomatch q))).trans h1,by rw [c];exact eX,by rw [aq,bx];exact Zp hl⟩
 .exact⟨z,us,(e_ (gN h1 hy (λ q=>nomatch q))).trans h1,(e_ c).trans h2,Zc h3 Zk⟩
section
variable {M:xP} {ts:List Nm} {rs fL:List (Int×Addr×ni)} {st:Nm} {es:List En} {good:Bool->Nm->Int->Nm->Prop}
theorem KD (pe:plain rs=plain fL) (ok:pG M) (bk:iC M.iR good st es) (full:gQ (jB M) (M8 fL M.iR) es es.length):∀(n k:Nat) (e:En),k<n->es[k]? = some e->∃(ss:List EK) (w:List Nat),zE rs st ((jy es k k).map (rE M.iR es)).reverse e.th ss/\ss.length=(jy es k k).length/\w.length=ss.length/\(∀(p i:Nat),w[p]? = some i->∃m s,M.iR[i]? = some m/\ss[p]? = some s/\nU m s=true)/\∀v,ma M e.rm v->ma M 0 (w++v)
 | 0,_,_,hk,_=>by lia
 | n+1,0,e,_,he=>by
  rw [bk.fst] at he
  cases he;exact⟨[],[],⟨rfl,rfl⟩,rfl,rfl,λ p i h=>by simp at h,λ v hv=>hv⟩
 | n+1,k+1,e,hk,he=>by
  obtain⟨j,f,jk,hb,hj,ff,hr,mk,El,a,fX,tm,fit,gf,gt⟩:=full.links k e he;obtain⟨ss,w,h1,h2,h3,h4,h5⟩:=KD pe ok bk full n j f (Qab jk hk) hj;obtain⟨a',ż⟩:=vh pe.symm tm;have rg:=AV ok hr;have er:((((e.rm-1).toNat:Nat):Int)+1)=e.rm:=by exact QaA rg
  have est:rE M.iR es (k+1)=(e.num,mk.back):=by
   unfold rE;rw [he];show (e.num,((M.iR[(e.rm-1).toNat]?).map jQ.back).getD false)=_;rw [El];rfl
  refine⟨ss ++ [⟨fX.name,fX.weight,mk.back⟩],w ++ [(e.rm-1).toNat],?_,?_,by simp [h3],λ p i hp=> ?_,λ v hv=> ?_⟩
  .rw [oK bk he hb,aD,cK,est,<-gt];refine zE.snoc ż ?_
   rwa [gf]
  .rw [oK bk he hb];simp [h2]
  .by_cases c:p<w.length
   .rw [aR c] at hp;obtain⟨m,s,q1,q2,q3⟩:=h4 p i hp;exact⟨m,s,q1,by rwa [aR (Za c (Ze h3))],q3⟩
   .rw [bt (Zi c)] at hp
    have z:p-w.length=0:=by
     have:=(ag.mp hp).1;simp at this;exact this
    rw [z] at hp
    cases hp;exact⟨mk,_,El,by rw [bt (Zc (Zg h3) (Zi c)),show p-ss.length=0 by lia];rfl,fit⟩
  .rw [bH];refine h5 _ ⟨by rwa [er],?_⟩
   rwa [er]
theorem Gy {sh:Sh} {ms:List jQ} {a:Nat} (pe:plain rs=plain fL) (ok:pG M) (kn:S8 sh) (lv:sh.leaves=List.range ms.length) (md:j7 (sh.real ms) M) (bk:iC M.iR good st es) (iD:es.length<=2500) (Nr:∀e∈es,e.th∈ts) (LY:(es.map iN).Nodup) (full:gQ (jB M) (M8 fL M.iR) es es.length) (nd:ts.Nodup) (ha:ts[a]? = some st) (sm:ts.length*ms.length<=62):ID ts rs ms sh a st (yV ts M es):=by
 have WJ:M.iR=ms:=by rw [md.iR,Sh.DG lv]
 have fits:=Mz kn lv md;have EP:=Ic M es.length es rfl;have h0:∃e0,es[0]? = some e0/\e0.th=st/\e0.rm=0/\e0.mr=0:=⟨_,bk.fst,rfl,rfl,rfl⟩
 have small:es.length<=63:=by
  cases es with
  | nil=>simp
  | cons e0 EZ=>
   have:=Du (es:=EZ) (ts:=ts) (n:=ms.length) (aY.mp LY).2 λ e he=>by
    obtain⟨k,hk⟩:=aL.mp he;have hk':(e0::EZ)[k+1]? = some e:=by simpa using hk
    obtain⟨j,f,mk,_,_,_,_,r1,r2,_⟩:=bk.Nj k e hk';have:=(ag.mp r2).1;rw [WJ] at this;exact⟨Nr e (az _ he),r1,by lia⟩
   rw [aF];lia
 have mr:∀(n k:Nat) (e:En),k<n->es[k]? = some e->e.mr<=(k:Int):=by
  intro n
  induction n with
  | zero=>intro k e hk;lia
  | succ n ih=>
   intro k e hk Sk
   cases k with
   | zero=>
    rw [bk.fst] at Sk
    cases Sk;exact cW _
   | succ k=>
    obtain⟨j,f,jk,_,hj,ff,_,_⟩:=full.links k e Sk;have:=ih j f (Qab jk hk) hj;exact QaB ff jk this
 have hit:∀(b:Nat) (t:Nm),ts[b]? = some t->t∈(iH M.ends es 0 []).map (·.1)->∃(j:Nat) (e:En),(mX (iH M.ends es 0 []) t)=(j:Int)/\es[j]? = some e/\e.th=t/\m_ M e.rm=true/\e.mr<=62/\nA (oi (λ i a b=>∃m,ms[i]? = some m/\wU ts rs m a b) sh) a b e.mr:=by
  intro b t hb hm;obtain⟨j,e,ej,hj,et,ee,first⟩:=EP.hit t _ (qP hm);have jl:=(ag.mp hj).1;have fj:=mr (j+1) j e (Nat.lt_succ_self _) hj;refine⟨j,e,ej,hj,et,ee,by lia,?_⟩;have:=full.least (ts:=ts) (ay _) ok fits h0 nd ha Nr iD hj (by rwa [et]) ee (λ q f hq hf h=>first q f hq hf (h.trans et));rw [LQ pe,WJ] at this;exact this
 refine⟨?_,?_⟩
 .unfold yV;rw [aQ];refine Eq.trans (Eq.trans ?_ (List.map_id _)) (JZ (d:= []) (p:=λ t=>decide (t∈(iH M.ends es 0 []).map (·.1))) (q:=λ b=>decide (jA (oi (λ i a b=>∃m,ms[i]? = some m/\wU ts rs m a b) sh) a b<1000000)) λ b t hb=> ?_)
  .rfl
  .by_cases c:t∈(iH M.ends es 0 []).map (·.1)
   .obtain⟨j,e,_,_,_,_,f62,fs⟩:=hit b t hb c;rw [decide_eq_true c,lu fs,decide_eq_true (Yb f62 (by decide))]
   .have:=full.UH (ts:=ts) (ay _) fits h0 ha hb λ f hf ht=>by
     cases q:m_ M f.rm with
     | false=>rfl
     | true=>exact(c (by rw [<-ht];exact EP.all f hf q)).elim
    rw [LQ pe,WJ] at this;rw [decide_eq_false c,lu this,decide_eq_false (Yx (by decide))]
 .intro t ws hm;obtain⟨t',ht',e⟩:=aE.mp hm
  cases e;obtain⟨h1,h2⟩:=bG.mp ht';obtain⟨b,hb⟩:=aL.mp h1;obtain⟨j,e,ej,hj,et,ee,f62,fs⟩:=hit b t hb (of_decide_eq_true h2);have jl:=(ag.mp hj).1;obtain⟨ss,w,w1,w2,w3,w4,w5⟩:=KD pe ok bk full (j+1) j e (Nat.lt_succ_self _) hj
  have hw:zQ M es t=((jy es j j).map (rE M.iR es)).reverse:=by
   unfold zQ;rw [ej,au,qQ bk es.length j j (Zl jl) (ay _) jl]
  have lw:(zQ M es t).length=(jy es j j).length:=by rw [hw,List.length_reverse,ae]
  have fe:=bk.mr j e hj
  have r0:ma M 0 w:=by
   have:=w5 [] ee;rw [bK] at this;exact this
  refine⟨b,ss,hb,by rwa [lu fs,lw],by lia,by rwa [hw,<-et],w2.trans lw.symm,?_⟩
  have:=ku.of (fit:=λ i p=>∃m s,ms[i]? = some m/\ss[p]? = some s/\nU m s=true) ((fits w).mp r0) 0 λ p i hp=>by
   rw [eA];rw [<-WJ];exact w4 p i hp
  rw [eA,show w.length=(zQ M es t).length from Zq (Zc (Ze w3) (Zc (Ze w2) (Zg lw))) (Zc (Ze lw) (Zc (Zg w2) (Zg w3)))] at this;exact this
end
structure qG (no:List Addr) (H H':Hp):Prop where
 tup:∀b xs,H b=some (.tup xs)->H' b=some (.tup xs)
 lst:∀b ys,b∉no->H b=some (.lst ys)->H' b=some (.lst ys)
section
variable {no no':List Addr} {H H' H2:Hp}
theorem fh.Eh (s:fh H H'):qG no H H':=⟨λ _ _ e=>s _ _ e,λ _ _ _ e=>s _ _ e⟩
theorem qG.trans (a:qG no H H') (b:qG no H' H2):qG no H H2:=⟨λ c xs e=>b.tup c xs (a.tup c xs e),λ c ys n e=>b.lst c ys n (a.lst c ys n e)⟩
theorem qG.Ŕ (h:H p=some (.dK kvs)):qG no H (upd H p o):=
 ⟨λ b xs e=>(e_ (gN e h (λ z=>nomatch z))).trans e,λ b zs n e=>(e_ (gN e h (λ z=>nomatch z))).trans e⟩
theorem gy.Eh (w:gy C H p W) (s:Step H (W.own p) H' F'):qG no H H':=by
 refine⟨s.tup,λ b ys _ e=>s.off b _ (λ z=> ?_) e⟩;simp only [WS.own,aA,aE] at z;rcases z with rfl|rfl|rfl | ⟨x,hx,rfl⟩
 .rw [w.obj] at e;cases e
 .rw [w.val] at e;cases e
 .rw [w.fX] at e;cases e
 .rw [w.each x hx] at e;cases e
end
structure gF (K:aj) (x:Str) (st:Stmt) (f:Addr) (d:FuncData):Prop where
 at_:aS K mainGlobals x=some (some (.ref f))
 fn:M' K x x st f d
structure je (K:aj) (C:Addr) (m q:Str) (st:Stmt) (f:Addr) (d:FuncData):Prop where
 at_:bp K (.ref C) m=some (some (.ref f))
 n:dE K (.ref f)=true
 fn:M' K m q st f d
section
variable {K:aj} {st:Stmt} {f:Addr} {d:FuncData} {ps:List Str}
theorem gF.ok (D:gF K x st f d) (X:K.In h) (G:h.Ns mainGlobals mg) (b:∀(kV doc pm:Value) (an:Option Addr) (ik ct:Value) (us:List Value),us.length=ps.length->bindArgs (cb x x (mD st) (j5 st) (fw st) .none kV doc pm an ik ct) ⟨us,[]⟩=pure (ps.zip us):=by intro _ _ _ _ _ _;first|exact RJ λ _=>rfl|exact ln2 λ _ _=>rfl|exact XQ λ _ _ _=>rfl|exact PZ λ _ _ _ _=>rfl|exact We λ _ _ _ _ _=>rfl|exact ð λ _ _ _ _ _ _=>rfl):gE K mg x st ps f d:=⟨D.fn,D.fn.binds b,br X G D.at_⟩
theorem je.ok (D:je K C m q st f d) (b:∀(kV doc pm:Value) (an:Option Addr) (ik ct:Value) (us:List Value),us.length=ps.length->bindArgs (cb m q (mD st) (j5 st) (fw st) .none kV doc pm an ik ct) ⟨us,[]⟩=pure (ps.zip us):=by intro _ _ _ _ _ _;first|exact RJ λ _=>rfl|exact ln2 λ _ _=>rfl|exact XQ λ _ _ _=>rfl|exact PZ λ _ _ _ _=>rfl|exact We λ _ _ _ _ _=>rfl|exact ð λ _ _ _ _ _ _=>rfl):iM K C m q st ps f d:=⟨⟨D.at_,D.n,D.fn.kp⟩,D.fn,D.fn.binds b⟩
end
section
variable {α:Type} {P:List α->Prop}
theorem ln0 (h:P []):∀us,us.length=0->P us
 | [],_=>h
theorem TC (h:∀a,∀us:List α,us.length=n->P (a::us)):∀us,us.length=n+1->P us
 | a::us,e=>h a us (Nat.succ.inj e)
end
theorem RJ {α:Type} {P:List α->Prop} (h:∀a,P [a]):∀us,us.length=1->P us:=TC λ a=>ln0 (P:=λ us=>P (a::us)) (h a)
theorem ln2 {α:Type} {P:List α->Prop} (h:∀a b,P [a,b]):∀us,us.length=2->P us:=TC λ a=>RJ (P:=λ us=>P (a::us)) (h a)
theorem XQ {α:Type} {P:List α->Prop} (h:∀a b c,P [a,b,c]):∀us,us.length=3->P us:=TC λ a=>ln2 (P:=λ us=>P (a::us)) (h a)
theorem PZ {α:Type} {P:List α->Prop} (h:∀a b c d,P [a,b,c,d]):∀us,us.length=4->P us:=TC λ a=>XQ (P:=λ us=>P (a::us)) (h a)
theorem We {α:Type} {P:List α->Prop} (h:∀a b c d e,P [a,b,c,d,e]):∀us,us.length=5->P us:=TC λ a=>PZ (P:=λ us=>P (a::us)) (h a)
theorem ð {α:Type} {P:List α->Prop} (h:∀a b c d e f,P [a,b,c,d,e,f]):∀us,us.length=6->P us:=TC λ a=>We (P:=λ us=>P (a::us)) (h a)
theorem exV {a:V} {P:V->Prop}:(∃v,(some (some a):Option (Option V))=some (some v)/\P v)=P a:=propext ⟨λ ⟨_,e,h⟩=>by cases e;exact h,λ h=>⟨a,rfl,h⟩⟩
theorem exI {n:Int} {P:Int->Prop}:(∃i,V.int n=V.int i/\P i)=P n:=propext ⟨λ ⟨_,e,h⟩=>by cases e;exact h,λ h=>⟨n,rfl,h⟩⟩
theorem exB {n:Bool} {P:Bool->Prop}:(∃i,V.bl n=V.bl i/\P i)=P n:=propext ⟨λ ⟨_,e,h⟩=>by cases e;exact h,λ h=>⟨n,rfl,h⟩⟩
theorem exR {n:Addr} {P:Addr->Prop}:(∃i,V.ref n=V.ref i/\P i)=P n:=propext ⟨λ ⟨_,e,h⟩=>by cases e;exact h,λ h=>⟨n,rfl,h⟩⟩
theorem ZP {m n:Int} {P:Int->Int->Prop}:(∃i j,V.int m=V.int i/\V.int n=V.int j/\P i j)=P m n:=propext ⟨λ ⟨_,_,e,f,h⟩=>by cases e;cases f;exact h,λ h=>⟨m,n,rfl,rfl,h⟩⟩
theorem exL {a:Addr} {α:Type} {P:Addr->α->Prop}:(∃p y,[V.ref a] = [V.ref p]/\P p y)=∃y,P a y:=propext ⟨λ ⟨_,y,e,h⟩=>by cases e;exact⟨y,h⟩,λ ⟨y,h⟩=>⟨a,y,rfl,h⟩⟩
theorem jf (h:∀A B:St->Hp->Prop,(∀σ H,t1 D σ H->A σ H)->(∀σ H,t2 D σ H->B σ H)->IV c (λ _=>A) (λ _=>B) D σ H):IV c t1 t2 D σ H:=
 h (λ σ H=>t1 D σ H) (λ σ H=>t2 D σ H) (λ _ _ x=>x) λ _ _ x=>x
end L2
namespace Á
open PySem L2
def top (i:Nat):Stmt:=PySem.Challenge.pw_tieseek_k31_whole_reached_by_least_ways.main.body.getD i (.Pass ⟨0,0,0,0⟩)
abbrev qa:Stmt:=top 12
abbrev mV:Stmt:=top 13
abbrev sD:Stmt:=top 16
abbrev uZ:Stmt:=top 22
abbrev lQ:Stmt:=top 23
abbrev Fo:Stmt:=top 24
abbrev qb:Stmt:=top 26
abbrev qc:Stmt:=top 27
abbrev vc:Stmt:=top 28
abbrev sC:Stmt:=top 30
abbrev Fp:Stmt:=top 31
abbrev yl:Stmt:=top 32
abbrev vd:Stmt:=top 33
abbrev uY:Stmt:=top 34
abbrev oz:Stmt:=top 38
abbrev lR:Stmt:=top 39
abbrev p8:Stmt:=top 42
abbrev u6:Stmt:=top 43
abbrev u5:Stmt:=top 44
abbrev u0:Stmt:=top 45
abbrev yo:Stmt:=top 46
abbrev sG:Stmt:=top 47
abbrev pY:Stmt:=top 48
abbrev B0:Stmt:=top 49
abbrev u9:Stmt:=top 50
abbrev ym:Stmt:=top 51
abbrev pZ:Stmt:=top 52
abbrev sH:Stmt:=top 53
abbrev u4:Stmt:=top 54
abbrev sF:Stmt:=top 55
abbrev ox:Stmt:=top 56
abbrev sE:Stmt:=top 57
abbrev u7:Stmt:=top 58
abbrev u_:Stmt:=top 59
abbrev u3:Stmt:=top 60
abbrev p_:Stmt:=top 61
abbrev B1:Stmt:=top 62
abbrev mU:Stmt:=top 63
abbrev oy:Stmt:=top 64
abbrev yn:Stmt:=top 65
abbrev La:Stmt:=top 66
abbrev lU:Stmt:=inClass (top 21) 0
abbrev lT:Stmt:=inClass (top 21) 1
abbrev lS:Stmt:=inClass (top 21) 2
abbrev jz:Stmt:=inClass (top 21) 3
abbrev jY:Stmt:=inClass (top 21) 4
abbrev jK:Stmt:=inClass (top 21) 5
abbrev i_:Stmt:=inClass (top 21) 6
abbrev sJ:Stmt:=inClass (top 40) 0
abbrev jX:Stmt:=inClass (top 40) 1
abbrev kQ:Stmt:=inClass (top 40) 2
abbrev kR:Stmt:=inClass (top 40) 3
abbrev gx:Stmt:=inClass (top 40) 7
abbrev mW:Stmt:=inClass (top 40) 8
abbrev kP:Stmt:=inClass (top 40) 9
abbrev oA:Stmt:=inClass (top 40) 10
abbrev sI:Stmt:=inClass (top 40) 13
abbrev ve:Stmt:=inClass (top 40) 14
def uR:Str:="abcdefghijklmnopqrstuvwxyz"
def sx:Str:="_"
theorem Ş:Str.ofString "mark" = tx [109,97,114,107]:=by decide +kernel
theorem Qk:Str.ofString "or" = tx [111,114]:=by decide +kernel
theorem ŝ:Str.ofString "row" = tx [114,111,119]:=by decide +kernel
theorem Ŝ:Str.ofString "maybe" = tx [109,97,121,98,101]:=by decide +kernel
theorem ś:Str.ofString "some" = tx [115,111,109,101]:=by decide +kernel
theorem Ś:Str.ofString "<" = tx [60]:=by decide +kernel
theorem ř:Str.ofString ">" = tx [62]:=by decide +kernel
theorem Ř:Str.ofString "=" = tx [61]:=by decide +kernel
theorem ŗ:Str.ofString "!" = tx [33]:=by decide +kernel
theorem Ŗ:Str.ofString "abcdefghijklmnopqrstuvwxyz" = tx [97,98,99,100,101,102,103,104,105,106,107,108,109,110,111,112,113,114,115,116,117,118,119,120,121,122]:=by decide +kernel
theorem VB:Str.ofString "" = tx []:=by decide +kernel
theorem VA:Str.ofString "_" = tx [95]:=by decide +kernel
theorem Vz:Str.ofString "many" = tx [109,97,110,121]:=by decide +kernel
theorem zf:uR=tx [97,98,99,100,101,102,103,104,105,106,107,108,109,110,111,112,113,114,115,116,117,118,119,120,121,122]:=by decide +kernel
theorem wo:sx=tx [95]:=by decide +kernel
local macro_rules | `(tactic| walk_at "rd")=> `(tactic| ((try dsimp only [L2.start,IU,tC,KS,VX,Tt,Dr,zR,NK,Hg,KR,Hd,IV,G',tB,NQ,VZ,NM,Hi,NL,Hc,V0,Ds,rD,He,NJ,NN,zS,pj,VY,Ha,xu,Ub,NP,rI,Nh,rU,aD,bu,aF,aV,List.replicate,cR,eS,List.getElem?_cons_zero,dB,dh,di,Nat.reduceSub,Nat.reduceAdd,lI,Option.join,Option.bind_some,id_eq,Xo,Xn,NV,Hh,dZ,Bool.not_false,BK,Ti,Tg,Int.reduceLT,Int.reduceLE,Int.reducePow,Nat.reduceLT,Nat.reduceLeDiff,Int.reduceToNat,Int.reduceNeg,Nat.reducePow,BJ,KY,NY,Dq,NO,xv,Ho,BP,BO,B2,Fx,Fv,QL,ES,Hf,QN,Fw,OZ,HW,O1,BQ,BN,BM,BL,Kp,yr,Ş,Qk,ŝ,Ŝ,ś,Ś,ř,Ř,ŗ,Ŗ,VB,VA,Vz,zf,wo,O0,Lk,xT]);(try simp only [↓exV,↓exI,↓exB,↓exR,↓ZP,↓exL,↓exists_eq_left',L2.start,IU,tC,KS,VX,Tt,Dr,zR,NK,Hg,KR,Hd,IV,G',tB,NQ,VZ,NM,Hi,NL,Hc,V0,Ds,rD,He,NJ,NN,zS,pj,VY,Ha,xu,Ub,NP,rI,Nh,rU,aD,bu,aF,aV,List.replicate,cR,eS,bK,List.getElem?_cons_zero,dB,dh,di,Option.some.injEq,V.int.injEq,V.str.injEq,V.bl.injEq,V.ref.injEq,V.ty.injEq,List.cons.injEq,and_true,true_and,exists_and_left,exists_eq_left',exists_eq_left,decide_eq_true_eq,Nat.sub_self,Nat.reduceSub,Nat.reduceAdd,xR,reduceCtorEq,false_and,exists_false,if_false,if_true,cB,and_assoc,lI,Option.join,Option.bind_some,id_eq,Xo,Xn,NV,Hh,Bool.not_eq_true',decide_eq_false_iff_not,dZ,Bool.not_false,not_true_eq_false,not_false_eq_true,BK,decide_true,decide_false,qL,BG,iK,Ti,Tg,ND,Int.reduceLT,Int.reduceLE,Int.reducePow,Nat.reduceLT,Nat.reduceLeDiff,Int.reduceToNat,Int.reduceNeg,Nat.reducePow,BJ,KY,NY,Dq,NO,xv,Ho,BP,BO,B2,Fx,Fv,QL,ES,Hf,QN,Fw,OZ,HW,O1,BQ,BN,BM,BL,Kp,yr,Ş,Qk,ŝ,Ŝ,ś,Ś,ř,Ř,ŗ,Ŗ,VB,VA,Vz,zf,wo,O0,Lk,xT])))
local macro_rules | `(tactic| walk_at "o")=> `(tactic| first|exact Or.inl rfl|exact Or.inr rfl)
local macro_rules | `(tactic| walk_at "sc")=> `(tactic| exact⟨rfl,rfl,rfl,by decide +kernel,rfl,by decide +kernel,by decide +kernel⟩)
local macro_rules | `(tactic| walk_at "rs")=> `(tactic| simp only [L2.start,aD,bu,aF,aV,List.replicate,cR,eS,bK,Nat.sub_self,Nat.reduceSub,Nat.reduceAdd])
local macro_rules | `(tactic| walk_at "rg")=> `(tactic| simp only [pj,dh,di])
set_option genInjectivity false in
set_option genSizeOf false in
structure Ad where
 wF:Addr
 we:FuncData
 r9:Addr
 rW:FuncData
 s_:Addr
 sX:FuncData
 Bo:Addr
 A0:FuncData
 qz:Addr
 qu:FuncData
 M3:Addr
 MN:FuncData
 wG:Addr
 wg:FuncData
 wH:Addr
 wj:FuncData
 Bw:Addr
 A8:FuncData
 zv:Addr
 yY:FuncData
 M4:Addr
 MO:FuncData
 EF:Addr
 Eu:FuncData
 By:Addr
 A9:FuncData
 Bn:Addr
 AZ:FuncData
 uH:Addr
 uu:FuncData
 qA:Addr
 qv:FuncData
 wC:Addr
 wb:FuncData
 Bs:Addr
 A4:FuncData
 Br:Addr
 A3:FuncData
 Bp:Addr
 A1:FuncData
 EH:Addr
 Ex:FuncData
 zz:Addr
 za:FuncData
 wA:Addr
 v_:FuncData
 Iz:Addr
 Ii:FuncData
 Bu:Addr
 A6:FuncData
 zy:Addr
 y_:FuncData
 wB:Addr
 wa:FuncData
 zA:Addr
 zb:FuncData
 vG:Addr
 vz:FuncData
 zx:Addr
 y9:FuncData
 uF:Addr
 uq:FuncData
 zw:Addr
 yZ:FuncData
 Bt:Addr
 A5:FuncData
 Bv:Addr
 A7:FuncData
 Bq:Addr
 A2:FuncData
 wD:Addr
 wd:FuncData
 CZ:Addr
 CJ:FuncData
 rZ:Addr
 rV:FuncData
 uG:Addr
 ur:FuncData
 EG:Addr
 Ew:FuncData
 l_:Addr
 qx:FuncData
 qB:Addr
 qw:FuncData
 hV:Addr
 hI:FuncData
 lg:Addr
 k_:FuncData
 mL:Addr
 mG:FuncData
 l9:Addr
 l7:FuncData
 ke:Addr
 kc:FuncData
 tf:Addr
 zd:FuncData
 mK:Addr
 mE:FuncData
 pC:Addr
 pz:FuncData
 pE:Addr
 pA:FuncData
 sf:Addr
 rY:FuncData
 r_:Addr
 rX:FuncData
 pB:Addr
 pq:FuncData
 uI:Addr
 uv:FuncData
 zB:Addr
 zc:FuncData
 Bz:Addr
 A_:FuncData
 mH:Addr
 nW:Addr
 ko:Addr
 lG:Addr
 oP:Addr
 uz:Addr
 zk:Addr
 fV:Addr
 hX:Addr
abbrev Ad.cs (t:Ad):List Addr:= [t.nW,t.ko,t.lG,t.oP,t.uz,t.zk]
structure Txt (K:aj) (mg:Str->Option Value) (t:Ad):Prop where
 AR:gE K mg "good_name" qa ["text"] t.wF t.we
 vZ:gE K mg "few_figures" mV ["number"] t.r9 t.rW
 ub:gE K mg "marks_of" sD ["tree"] t.s_ t.sX
 machine:gE K mg "machine" uZ ["tree"] t.Bo t.A0
 tJ:gE K mg "weight_meets" lQ ["weight","sign","number"] t.qz t.qu
 fits:gE K mg "fits" Fo ["mark","step"] t.M3 t.MN
 AS:gE K mg "gone_step" qb ["tie","back"] t.wG t.wg
 AU:gE K mg "gone_from" qc ["tie","back"] t.wH t.wj
 HU:gE K mg "gone_to" vc ["tie","back"] t.Bw t.A8
 DX:gE K mg "moves_by" sC ["web","mark"] t.zv t.yY
 book:gE K mg "book" Fp ["web","made","start"] t.M4 t.MO
 KG:gE K mg "way_in" yl ["made","entries","place"] t.EF t.Eu
 Ib:gE K mg "ends_in" vd ["made","entries"] t.By t.A9
 xy:gE K mg "reached" uY ["web","tree","start"] t.Bn t.AZ
 sY:gE K mg "check_name" oz ["name"] t.uH t.uu
 ux:gE K mg "check_number" lR ["number"] t.qA t.qv
 nP:gE K mg "_law_cell_at" p8 ["script","k"] t.wC t.wb
 uf:gE K mg "_law_mixed" u6 ["cell"] t.Bs t.A4
 HK:gE K mg "_law_names" u5 ["cell"] t.Br t.A3
 HJ:gE K mg "_law_whole" u0 ["found"] t.Bp t.A1
 Gm:gE K mg "_law_base" yo ["cell"] t.EH t.Ex
 ue:gE K mg "_law_number" sG ["cell","turn","base"] t.zz t.za
 AJ:gE K mg "_law_mark_by" pY ["cell","names","base"] t.wA t.v_
 l_fit:gE K mg "_law_fit" B0 ["mark","step"] t.Iz t.Ii
 HM:gE K mg "_law_grown" u9 ["cells","names","base","most"] t.Bu t.A6
 vt:gE K mg "_law_real" ym ["shape","marks"] t.zy t.y_
 vw:gE K mg "_law_closure" pZ ["inner"] t.wB t.wa
 yJ:gE K mg "_law_behind" sH ["left","right"] t.zA t.zb
 qR:gE K mg "_law_spans" u4 ["shape","fitted","size"] t.vG t.vz
 Eg:gE K mg "_law_things" sF ["cell","many"] t.zx t.y9
 yH:gE K mg "_law_step_for" ox ["cell","mark","names","base"] t.uF t.uq
 Ef:gE K mg "_law_web_by" sE ["cells","things","names","base","marks"] t.zw t.yZ
 HL:gE K mg "_law_least" u7 ["row","right","b"] t.Bt t.A5
 Cs:gE K mg "_law_again" u_ ["far"] t.Bv t.A7
 Cq:gE K mg "_law_still" u3 ["far"] t.Bq t.A2
 AL:gE K mg "_law_by_mark" p_ ["mark","things","ties"] t.wD t.wd
 AK:gE K mg "_law_far" B1 ["shape","marks","things","ties"] t.CZ t.CJ
 vV:gE K mg "_law_way_steps" mU ["way","ties","start","end"] t.rZ t.rV
 yI:gE K mg "_law_good_way" oy ["way","far","grown","ties","start","end"] t.uG t.ur
 Cr:gE K mg "_law_good" yn ["found","grown","things","ties","start"] t.EG t.Ew
 uO:iM K t.fV "__init__" "Builder.__init__" lU ["self"] t.l_ t.qx
 lC:iM K t.fV "link" "Builder.link" lT ["self","lasts","firsts"] t.qB t.qw
 iI:iM K t.fV "part" "Builder.part" lS ["self","tree"] t.hV t.hI
 mP:iM K t.fV "mark_part" "Builder.mark_part" jz ["self"] t.lg t.k_
 pI:iM K t.fV "or_part" "Builder.or_part" jY ["self","left_tree","right_tree"] t.mL t.mG
 oe:iM K t.fV "row_part" "Builder.row_part" jK ["self","left_tree","right_tree"] t.l9 t.l7
 lj:iM K t.fV "repeat_part" "Builder.repeat_part" i_ ["self","kind","inner_tree"] t.ke t.kc
 EJ:iM K t.hX "__init__" "Web.__init__" sJ ["self"] t.tf t.zd
 kY:iM K t.hX "check_thing" "Web.check_thing" jX ["self","name"] t.mK t.mE
 nh:iM K t.hX "check_tie" "Web.check_tie" kQ ["self","number"] t.pC t.pz
 su:iM K t.hX "add_thing" "Web.add_thing" kR ["self","name"] t.pE t.pA
 qD:C3 K t.hX "add_tie" "Web.add_tie" gx ["self","start","name","end","weight"] [.int 0] t.sf t.rY
 qC:iM K t.hX "cut_tie" "Web.cut_tie" mW ["self","number"] t.r_ t.rX
 sj:iM K t.hX "has_thing" "Web.has_thing" kP ["self","name"] t.pB t.pq
 zD:iM K t.hX "things" "Web.things" oA ["self"] t.uI t.uv
 EI:iM K t.hX "ties" "Web.ties" sI ["self"] t.zB t.zc
 IA:iM K t.hX "tie" "Web.tie" ve ["self","number"] t.Bz t.A_
 J7:∃u,mg "LETTERS" = some u/\RelV (.str uR) u
 zj:∃u,mg "MOST_LETTERS" = some u/\RelV (.int 12) u
 GO:∃u,mg "ANY_NAME" = some u/\RelV (.str sx) u
 Ik:∃u,mg "MARKS" = some u/\RelV (.int 0) u
 J8:∃u,mg "FOLLOWS" = some u/\RelV (.int 1) u
 SX:∃u,mg "ENDS" = some u/\RelV (.int 2) u
 Ag:∃u,mg "MOST_THINGS" = some u/\RelV (.int 100) u
 EB:∃u,mg "MOST_TIES" = some u/\RelV (.int 400) u
 gW:mg "len" = none
 iY:mg "isinstance" = none
 M0:mg "bool" = none
 Iw:mg "int" = none
 iz:mg "range" = none
 kW:mg "list" = none
 Iv:mg "min" = none
 Ir:mg "tuple" = none
 qy:mg "sorted" = none
 Iu:mg "set" = none
 S0:mg "reversed" = none
 ş:mg "str" = none
 Pj:mg "ValueError" = none
 VF:mg "abs" = none
 EC:mg "enumerate" = none
 S1:mg "dict" = none
 VE:mg "all" = none
 Qc:mg "SeekError" = some (.ref t.mH)
 Mw:mg "NoName" = some (.ref t.nW)
 GC:mg "NoNumber" = some (.ref t.ko)
 JU:mg "NoThing" = some (.ref t.lG)
 OY:mg "NoTie" = some (.ref t.oP)
 OX:mg "Twice" = some (.ref t.uz)
 Sv:mg "Full" = some (.ref t.zk)
 JV:mg "Builder" = some (.ref t.fV)
 Vi:mg "Web" = some (.ref t.hX)
 xs:GX K t.mH t.cs
 gB:Df K t.fV
 Gb:Mk K t.fV t.l_
 iX:nr K t.fV "followers"
 iA:Df K t.hX
 RD:Mk K t.hX t.tf
 gO:nr K t.hX "kept_values"
 ij:nr K t.hX "kept_ties"
 iQ:nr K t.hX "coming_number"
theorem Txt.JJ (_:Txt K mg t):t.nW∈t.cs:=by simp [Ad.cs]
theorem Txt.IE (T:Txt K mg t):zC K mg "NoName" t.nW:=T.xs.cls T.JJ T.Mw
theorem Txt.Ej (_:Txt K mg t):t.ko∈t.cs:=by simp [Ad.cs]
theorem Txt.Dg (T:Txt K mg t):zC K mg "NoNumber" t.ko:=T.xs.cls T.Ej T.GC
theorem Txt.Gv (_:Txt K mg t):t.lG∈t.cs:=by simp [Ad.cs]
theorem Txt.E6 (T:Txt K mg t):zC K mg "NoThing" t.lG:=T.xs.cls T.Gv T.JU
theorem Txt.Mi (_:Txt K mg t):t.oP∈t.cs:=by simp [Ad.cs]
theorem Txt.Kw (T:Txt K mg t):zC K mg "NoTie" t.oP:=T.xs.cls T.Mi T.OY
theorem Txt.Mh (_:Txt K mg t):t.uz∈t.cs:=by simp [Ad.cs]
theorem Txt.Kv (T:Txt K mg t):zC K mg "Twice" t.uz:=T.xs.cls T.Mh T.OX
theorem Txt.OJ (_:Txt K mg t):t.zk∈t.cs:=by simp [Ad.cs]
theorem Txt.G7 (T:Txt K mg t):zC K mg "Full" t.zk:=T.xs.cls T.OJ T.Sv
def Ad.cl (t:Ad):Rf->Addr
 | .noName=>t.nW | .DW=>t.ko | .HC=>t.lG | .UI=>t.mH | .PN=>t.oP | .twice=>t.uz | .IW=>t.mH | .full=>t.zk
inductive tT (vs:List V) (H:Hp) (Q:VK) (_E:XK):Prop
 | mk (l):vs = [.str (tx l)]->l.length<=sizeLine->(∀H',fh H H'->Q (.bl (nT l)) H')->tT vs H Q _E
inductive rK (t:Ad) (vs:List V) (H:Hp) (Q:VK) (E:XK):Prop
 | mk (l):vs = [.str (tx l)]->l.length<=sizeLine->(∀H',fh H H'->if nT l=false then E (.ref t.nW) none H' else Q .jv H')->rK t vs H Q E
inductive vR (t:Ad) (vs:List V) (H:Hp) (Q:VK) (_E:XK):Prop
 | mk (p dx):vs = [.ref p]->H p=some (.ins t.hX dx [])->(∀H' W,gy t.hX H' p W->W.vals = []->W.fL = []->W.next=0->(∀b o,b≠p->H b=some o->H' b=some o)->(∀b∈W.own p,b=p\/H b=none)->Q .jv H')->vR t vs H Q _E
inductive lJ (t:Ad) (vs:List V) (H:Hp) (Q:VK) (E:XK):Prop
 | mk (p W l):vs = [.ref p,.str (tx l)]->gy t.hX H p W->(if l∈W.vals.map (·.1) then Q .jv H else E (.ref t.lG) none H)->lJ t vs H Q E
def told (t:Ad) (p:Addr) (W:WS) (H:Hp) (Q:VK) (E:XK) (v:V):Except Rf WA->Prop
 | .error r=>∀H',fh H H'->E (.ref (t.cl r)) none H'
 | .ok A=>∀H' W',gy t.hX H' p W'->W'.abs=A->Step H (W.own p) H' (W'.own p)->Q v H'
inductive nH (t:Ad) (vs:List V) (H:Hp) (Q:VK) (E:XK):Prop
 | mk (p W l):vs = [.ref p,.str (tx l)]->gy t.hX H p W->l.length<=sizeLine->told t p W H Q E .jv (W.abs.zu l)->nH t vs H Q E
inductive nF (t:Ad) (vs:List V) (H:Hp) (Q:VK) (_E:XK):Prop
 | mk (p W l):vs = [.ref p,.str (tx l)]->gy t.hX H p W->Q (.bl (decide (l∈W.vals.map (·.1)))) H->nF t vs H Q _E
inductive rL (t:Ad) (vs:List V) (H:Hp) (Q:VK) (_E:XK):Prop
 | mk (p W):vs = [.ref p]->gy t.hX H p W->(∀a,H a=none->Q (.ref a) (upd H a (.lst ((W.vals.map (·.1)).map λ z=>.str (tx z)))))->rL t vs H Q _E
inductive pT (vs:List V) (H:Hp) (Q:VK) (_E:XK):Prop
 | mk (n:Int):vs = [.int n]->Q (.bl (decide (n.natAbs<10 ^ 60))) H->pT vs H Q _E
inductive o6 (t:Ad) (vs:List V) (H:Hp) (Q:VK) (E:XK):Prop
 | mk (n:Int):vs = [.int n]->(if n.natAbs<10 ^ 60 then Q .jv H else E (.ref t.ko) none H)->o6 t vs H Q E
inductive nG (t:Ad) (vs:List V) (H:Hp) (Q:VK) (E:XK):Prop
 | mk (p W n):vs = [.ref p,.int n]->gy t.hX H p W->(if n∈W.fL.map (·.1) then Q .jv H else E (.ref t.oP) none H)->nG t vs H Q E
inductive pU (t:Ad) (vs:List V) (H:Hp) (Q:VK) (E:XK):Prop
 | mk (p W n):vs = [.ref p,.int n]->gy t.hX H p W->told t p W H Q E .jv (W.abs.CK n)->pU t vs H Q E
inductive pV (t:Ad) (vs:List V) (H:Hp) (Q:VK) (E:XK):Prop
 | mk (p W s n e w):vs = [.ref p,.str (tx s),.str (tx n),.str (tx e),.int w]->gy t.hX H p W->((∀x∈W.fL.map (·.1),x<W.next))->n.length<=sizeLine->told t p W H Q E (.int W.next) (W.abs.CW s n e w)->pV t vs H Q E
inductive vQ (t:Ad) (vs:List V) (H:Hp) (Q:VK) (_E:XK):Prop
 | mk (p W):vs = [.ref p]->gy t.hX H p W->(∀a,H a=none->Q (.ref a) (upd H a (.lst ((W.fL.map (·.1)).map V.int))))->vQ t vs H Q _E
inductive yc (t:Ad) (vs:List V) (H:Hp) (Q:VK) (E:XK):Prop
 | mk (p W n):vs = [.ref p,.int n]->gy t.hX H p W->(if n∈W.fL.map (·.1) then ∀a fX,(n,a,fX)∈W.fL->Q (.ref a) H else E (.ref t.oP) none H)->yc t vs H Q E
def wI (l:List Nat):Prop:=1<=l.length/\l.length<=12/\∀x∈l,x∈EE
def kB (H:Hp) (p:Addr) (ns:List (List Nat)):Prop:=H p=some (.lst (ns.map λ l=>.str (tx l)))/\ns.length=4/\∀l∈ns,wI l
def rT (n:Int):Prop:=n.natAbs<=500000000000000000000000000000000000000000000000000000000000
structure À (s:EK):Prop where
 nm:wI s.nm
 wt:s.wt.natAbs<10 ^ 60
inductive tR (K:aj) (vs:List V) (H:Hp) (Q:VK) (_E:XK):Prop
 | mk (a:Addr) (ns:List Int) (k:Int):vs = [.ref a,.int k]->fZ K H a (ns.map V.int)->0<=k->(∀c,Q (.int c) H)->tR K vs H Q _E
inductive x5 (vs:List V) (H:Hp) (Q:VK) (_E:XK):Prop
 | mk (c):vs = [.int c]->(∀m:Int,0<=m->m<2147483629->Q (.int m) H)->x5 vs H Q _E
inductive x4 (vs:List V) (H:Hp) (Q:VK) (_E:XK):Prop
 | mk (c):vs = [.int c]->(∀p H' ns,H p=none->fh H H'->kB H' p ns->Q (.ref p) H')->x4 vs H Q _E
inductive Av (vs:List V) (H:Hp) (Q:VK) (_E:XK):Prop
 | mk (c):vs = [.int c]->(∀n:Int,rT n->Q (.int n) H)->Av vs H Q _E
inductive vO (vs:List V) (H:Hp) (Q:VK) (_E:XK):Prop
 | mk (c t b):vs = [.int c,.int t,.int b]->rT b->(∀n:Int,qq n->Q (.int n) H)->vO vs H Q _E
inductive tO (vs:List V) (H:Hp) (Q:VK) (_E:XK):Prop
 | mk (c a ns b):vs = [.int c,.ref a,.int b]->kB H a ns->rT b->(∀m p H',tj m->qq m.num->H p=none->fh H H'->H' p=some (.tup (EW m))->Q (.ref p) H')->tO vs H Q _E
inductive kN (vs:List V) (H:Hp) (Q:VK) (_E:XK):Prop
 | mk (w sg n):vs = [.int w,.str (tx sg),.int n]->Q (.bl (Ea w sg n)) H->kN vs H Q _E
inductive Hk (vs:List V) (H:Hp) (Q:VK) (_E:XK):Prop
 | mk (a b m sp):vs = [.ref a,.ref b]->H a=some (.tup (EW m))->H b=some (.tup (Hj sp))->Q (.bl (nU m sp)) H->Hk vs H Q _E
inductive Dv (vs:List V) (H:Hp) (Q:VK) (_E:XK):Prop
 | mk (a b m sp):vs = [.ref a,.ref b]->H a=some (.tup (EW m))->H b=some (.tup (Hj sp))->tj m->(∀H',fh H H'->Q (.bl (nU m sp)) H')->Dv vs H Q _E
inductive xY (vs:List V) (H:Hp) (Q:VK) (_E:XK):Prop
 | mk (n:Int):vs = [.int n]->Q (.bl true) H->xY vs H Q _E
theorem CA (h:wI l):nT l=true:=by
 unfold nT;rw [bg,decide_eq_true_eq,cS];exact⟨⟨h.1,h.2.1⟩,λ x hx=>decide_eq_true (h.2.2 x hx)⟩
inductive vN (vs:List V) (H:Hp) (Q:VK) (_E:XK):Prop
 | mk (c n:Int):vs = [.int c,.int n]->0<=n->n<=12->(∀q H' (ls:List Nm),H q=none->fh H H'->H' q=some (.lst (ls.map λ l=>.str (tx l)))->ls.length=n.toNat->ls.Nodup->(∀l∈ls,wI l)->Q (.ref q) H')->vN vs H Q _E
structure Made (t:Ad) (H0 H:Hp) (pw pt:Addr) (W:WS) (rs:List (Int×Addr×ni)) (ts:List Nm):Prop where
 G8:gy t.hX H pw W
 rows:oS H pt rs
 own:∀b∈W.own pw,H0 b=none
 pn:H0 pt=none
 po:pt∉W.own pw
 old:fh H0 H
 Dc:W.abs.names=ts
 eq:plain rs=W.abs.fL
 PB:(rs.map (·.1)).Pairwise (· < ·)
 low:∀x∈rs.map (·.1),0<=x/\x<W.next
 fX:∀x∈rs,x.2.2.start∈ts/\x.2.2.stop∈ts/\Qn x.2.2
 iD:rs.length<=63
theorem Made.same (n:Made t H0 H pw pt W rs ts) (s:fh H H'):Made t H0 H' pw pt W rs ts:=⟨n.G8.same s,n.rows.same s,n.own,n.pn,n.po,n.old.trans s,n.Dc,n.eq,n.PB,n.low,n.fX,n.iD⟩
theorem Made.OU (n:Made t H0 H pw pt W rs ts) (s:L2.Step H (W.own pw) H2 (W2.own pw)) (w2:gy t.hX H2 pw W2) (i5:∀x∈QF,H2 x.2.1=some (.tup (wK x.2.2))) (Dc:W2.abs.names=ts) (eq:L2.plain QF=W2.abs.fL) (PB:(QF.map (·.1)).Pairwise (· < ·)) (low:∀x∈QF.map (·.1),0<=x/\x<W2.next)
  (fX:∀x∈QF,x.2.2.start∈ts/\x.2.2.stop∈ts/\Qn x.2.2) (iD:QF.length<=63):Made t H0 (upd H2 pt (.dK (fR QF))) pw pt W2 QF ts:=by
 have p2:H2 pt=some (.dK (fR rs)):=s.off _ _ n.po n.rows.at_;have Þ:pt∉W2.own pw:=s.apart n.po n.rows.at_
 have sO:∀b (xs:List V),H2 b=some (.tup xs)->b≠pt:=λ b xs e z=>by
  rw [z,p2] at e
  cases e
 refine⟨w2.keep (λ b o hb e=> ?_) (λ b xs e=>(e_ (sO b xs e)).trans e),⟨eX,λ x hx=>(e_ (sO _ _ (i5 x hx))).trans (i5 x hx)⟩,λ b hb=> ?_,n.pn,Þ,λ b o e=> ?_,Dc,eq,PB,low,fX,iD⟩
 .rw [e_ (λ z=>Þ (by rwa [<-z]))];exact e
 .rcases s.own b hb with z|z
  .exact n.own b z
  .exact n.old.free z
 .rw [e_ (fq e n.pn)];exact s.off b o (λ z=>(by rw [n.own b z] at e;cases e)) (n.old _ _ e)
theorem Made.names (n:Made t H0 H pw pt W rs ts):W.vals.map (·.1)=ts:=by rw [<-vn];exact n.Dc
theorem Made.SA (n:Made t H0 H pw pt W rs ts):W.fL.length=rs.length:=by
 have h1:=congrArg List.length n.eq;unfold L2.plain WS.abs at h1;simp only [ae] at h1;exact h1.symm
theorem Made.ends (n:Made t H0 H pw pt W rs ts):∀x∈W.fL,x.2.2.start∈W.vals.map (·.1)/\x.2.2.stop∈W.vals.map (·.1):=λ x hx=>by
 have h1:(x.1,x.2.2)∈W.abs.fL:=aE.mpr ⟨x,hx,rfl⟩;rw [<-n.eq] at h1;unfold L2.plain at h1;obtain⟨y,hy,e⟩:=aE.mp h1;injection e with e1 e2
 have:=n.fX y hy;rw [<-e2,n.names];exact⟨this.1,this.2.1⟩
theorem Made.nd (n:Made t H0 H pw pt W rs ts):(rs.map (·.1)).Nodup:=n.PB.imp λ h=>Int.ne_of_lt h
inductive tU (vs:List V) (H:Hp) (Q:VK) (_E:XK):Prop
 | mk (a:Addr) (t:ni) (b:Bool):vs = [.ref a,.bl b]->H a=some (.tup (wK t))->(∀p,H p=none->Q (.ref p) (upd H p (.tup (Hj ⟨t.name,t.weight,b⟩))))->tU vs H Q _E
inductive tV (vs:List V) (H:Hp) (Q:VK) (_E:XK):Prop
 | mk (a:Addr) (t:ni) (b:Bool):vs = [.ref a,.bl b]->H a=some (.tup (wK t))->Q (.str (tx (j_ t b))) H->tV vs H Q _E
inductive ya (vs:List V) (H:Hp) (Q:VK) (_E:XK):Prop
 | mk (a:Addr) (t:ni) (b:Bool):vs = [.ref a,.bl b]->H a=some (.tup (wK t))->Q (.str (tx (i7 t b))) H->ya vs H Q _E
def Goes (W:WS) (b:Bool) (k:Nm) (num:Int) (to:Nm):Prop:=∃a fX,(num,a,fX)∈W.fL/\j_ fX b=k/\i7 fX b=to
inductive vL (t:Ad) (vs:List V) (H:Hp) (Q:VK) (_E:XK):Prop
 | mk (p mk:Addr) (W:WS) (m:jQ):vs = [.ref p,.ref mk]->gy t.hX H p W->W.fL.length<=63->H mk=some (.tup (EW m))->(∀d H' kvs,H d=none->fh H H'->xn H H' d 63 63 (me W.fL m) kvs->jh W.fL m H' kvs->Q (.ref d) H')->vL t vs H Q _E
def uK (W:WS) (M:xP) (r:Int) (k:Nm) (num:Int) (to:Nm):Prop:=∃mk,M.iR[(r-1).toNat]? = some mk/\me W.fL mk k num to
inductive Hl (t:Ad) (vs:List V) (H:Hp) (Q:VK) (_E:XK):Prop
 | mk (p a:Addr) (W:WS) (M:xP) (st:Nm):vs = [.ref p,.ref a,.str (tx st)]->gy t.hX H p W->st∈W.vals.map (·.1)->W.fL.length<=63->((∀x∈W.fL,x.2.2.start∈W.vals.map (·.1)/\x.2.2.stop∈W.vals.map (·.1)))->zG H a M->pG M->(∀q H' es,H q=none->fh H H'->oW H' q es->iC M.iR (Goes W) st es->es.length<=2500->(∀e∈es,e.th∈W.vals.map (·.1))->(es.map iN).Nodup->gQ (jB M) (uK W M) es es.length->Q (.ref q) H')->Hl t vs H Q _E
inductive As (vs:List V) (H:Hp) (Q:VK) (_E:XK):Prop
 | mk (a q:Addr) (M:xP) (st:Nm) (good:Bool->Nm->Int->Nm->Prop) (es:List En) (k:Nat):vs = [.ref a,.ref q,.int k]->zG H a M->pG M->oW H q es->iC M.iR good st es->es.length<=2500->k<es.length->(∀l H',H l=none->fh H H'->iB H' l ((jy es es.length k).map (rE M.iR es)).reverse->Q (.ref l) H')->As vs H Q _E
inductive yb (vs:List V) (H:Hp) (Q:VK) (_E:XK):Prop
 | mk (a q:Addr) (M:xP) (st:Nm) (good:Bool->Nm->Int->Nm->Prop) (es:List En):vs = [.ref a,.ref q]->zG H a M->pG M->oW H q es->iC M.iR good st es->es.length<=2500->(∀l H',H l=none->fh H H'->Pq H' l (iH M.ends es 0 [])->Q (.ref l) H')->yb vs H Q _E
def qF (H:Hp) (r:Addr) (m:jQ):Prop:=H r=some (.tup (EW m))/\IC m
theorem qF.keep (k:∀b xs,H b=some (.tup xs)->H' b=some (.tup xs)) (h:qF H r m):qF H' r m:=⟨k _ _ h.1,h.2⟩
theorem qF.same (s:fh H H') (h:qF H r m):qF H' r m:=⟨s _ _ h.1,h.2⟩
inductive mw (d:Nat) (vs:List V) (H:Hp) (Q:VK) (_E:XK):Prop
 | mk (a tr):vs = [.ref a]->gZ H a tr->tr.deep<=d->tr.marks.length<=100->(∀p H' rs,H p=none->fh H H'->H' p=some (.lst (rs.map V.ref))->fN (qF H') rs tr.marks->Q (.ref p) H')->mw d vs H Q _E
theorem nE (h:mw 0 vs H Q E):False:=by
 obtain⟨a,tr,_,_,hd,_⟩:=h;have:=tr.nV;exact Zf (Za (Zd rfl) this) hd
theorem JY {l:List Tr} {i:Nat} {z:Tr} (h:l[i]? = some z):((l.take i).flatMap Tr.marks).length+z.marks.length<=(l.flatMap Tr.marks).length:=by
 induction l generalizing i with
 | nil=>cases h
 | cons a r ih=>
  cases i with
  | zero=>
   simp at h;subst h;simp
  | succ i=>
   have:=ih (i:=i) (by simpa using h);simp only [List.take_succ_cons,dq,aq];exact Qaz this
theorem yK {tr:Tr} (h:tr.kind≠qt):tr.marks=tr.kids.flatMap Tr.marks:=by
 cases tr with
 | mark m=>exact absurd rfl h
 | two k l r=>simp [Tr.marks,Tr.kids]
 | one k t=>simp [Tr.marks,Tr.kids]
inductive pb (t:Ad) (vs:List V) (H:Hp) (Q:VK) (_E:XK):Prop
 | mk (p dx):vs = [.ref p]->H p=some (.ins t.fV dx [])->(∀H' f d,qJ t.fV H' p f [d] [[]]->H f=none->H d=none->(∀b o,b≠p->H b=some o->H' b=some o)->Q .jv H')->pb t vs H Q _E
inductive o_ (t:Ad) (vs:List V) (H:Hp) (Q:VK) (_E:XK):Prop
 | mk (b f la lb:Addr) (ds:List Addr) (F:List (List Int)) (ls fs:List Int):vs = [.ref b,.ref la,.ref lb]->qJ t.fV H b f ds F->H la=some (.lst (ls.map V.int))->H lb=some (.lst (fs.map V.int))->la≠f->lb≠f->((∀x∈ls,0<=x/\x<F.length))->((∀x∈fs,0<=x/\x<F.length))->F.length<=200->(∀H' F',qJ t.fV H' b f ds F'->F'.length=F.length->mn F F' (λ a o=>a∈ls/\o∈fs)->L2.Step H (f::ds) H' (f::ds)->Q .jv H')->o_ t vs H Q _E
inductive gG (t:Ad) (n:Nat) (vs:List V) (H:Hp) (Q:VK) (_E:XK):Prop
 | mk (b a f:Addr) (ds:List Addr) (F:List (List Int)) (tr:Tr):vs = [.ref b,.ref a]->qJ t.fV H b f ds F->gZ H a tr->tr.deep<=n->F.length+tr.marks.length<=200->BA t.fV H b f ds F tr Q->gG t n vs H Q _E
theorem kD (h:gG t 0 vs H Q E):False:=by
 obtain⟨b,a,f,ds,F,tr,_,_,_,hd,_⟩:=h;have:=tr.nV;exact Zf (Za (Zd rfl) this) hd
inductive kE (t:Ad) (vs:List V) (H:Hp) (Q:VK) (_E:XK):Prop
 | mk (b f:Addr) (ds:List Addr) (F:List (List Int)) (m:jQ):vs = [.ref b]->qJ t.fV H b f ds F->F.length<=200->BA t.fV H b f ds F (.mark m) Q->kE t vs H Q _E
inductive lK (t:Ad) (kd:List Nat) (n:Nat) (vs:List V) (H:Hp) (Q:VK) (_E:XK):Prop
 | mk (b al ar f:Addr) (ds:List Addr) (F:List (List Int)) (l r:Tr):vs = [.ref b,.ref al,.ref ar]->qJ t.fV H b f ds F->gZ H al l->gZ H ar r->(Tr.two kd l r).deep<=n->F.length+(Tr.two kd l r).marks.length<=200->BA t.fV H b f ds F (.two kd l r) Q->lK t kd n vs H Q _E
inductive pW (t:Ad) (n:Nat) (vs:List V) (H:Hp) (Q:VK) (_E:XK):Prop
 | mk (b a f:Addr) (kd:List Nat) (ds:List Addr) (F:List (List Int)) (x:Tr):vs = [.ref b,.str (tx kd),.ref a]->kd∈ones->qJ t.fV H b f ds F->gZ H a x->(Tr.one kd x).deep<=n->F.length+x.marks.length<=200->BA t.fV H b f ds F (.one kd x) Q->pW t n vs H Q _E
structure S_ (H H':Hp) (p:Addr) (M:xP):Prop where
 at_:∃(lm lf le:Addr) (am af:List Addr),H' p=some (.tup [.ref lm,.ref lf,.ref le])/\H' lm=some (.lst (am.map V.ref))/\fN (λ x k=>H' x=some (.tup (EW k))/\tj k) am M.iR/\H' lf=some (.lst (af.map V.ref))/\fN (λ x l=>H' x=some (.lst (l.map V.int))) af M.j8/\H' le=some (.lst (M.ends.map V.bl))/\
  af.Nodup/\(∀x∈af,H x=none/\x≠lm/\x≠lf/\x≠le)/\H lm=none/\H lf=none/\H le=none/\lm≠lf/\lm≠le/\lf≠le
theorem S_.XM (h:S_ H H' p M):zG H' p M:=by
 obtain⟨lm,lf,le,am,af,e,e1,a1,e2,a2,e3,_⟩:=h.at_;exact⟨lm,lf,le,e,⟨am,e1,a1⟩,⟨af,e2,a2⟩,e3⟩
inductive xX (vs:List V) (H:Hp) (Q:VK) (_E:XK):Prop
 | mk (a:Addr) (tr:Tr):vs = [.ref a]->gZ H a tr->tr.deep<=40->tr.marks.length<=24->((∀m∈tr.marks,tj m))->(∀p H' M,H p=none->fh H H'->S_ H H' p M->pG M->j7 tr M->Q (.ref p) H')->xX vs H Q _E
inductive x9 (vs:List V) (H:Hp) (Q:VK) (_E:XK):Prop
 | mk (lc nm:Addr) (b:Int) (mo:Nat) (cs:List Int) (ns:List (List Nat)):vs = [.ref lc,.ref nm,.int b,.int (mo:Int)]->H lc=some (.lst (cs.map V.int))->cs.length<=63->kB H nm ns->rT b->1<=mo->mo<=16->(∀p sa ml H' sh ms,H p=none->H ml=none->fh H H'->H' p=some (.tup [.ref sa,.ref ml])->jr H' sa sh->qE H' ml ms->sh.leaves=List.range ms.length->ms.length<=mo->ms.length<=max 1 cs.length->sh.ones<=mo->(∀m∈ms,qq m.num)->Q (.ref p) H')->x9 vs H Q _E
inductive qM (d:Nat) (vs:List V) (H:Hp) (Q:VK) (_E:XK):Prop
 | mk (sa ml:Addr) (sh:Sh) (ms:List jQ):vs = [.ref sa,.ref ml]->jr H sa sh->sh.deep<=d->qE H ml ms->((∀i∈sh.leaves,i<ms.length))->(∀p H',fh H H'->gZ H' p (sh.real ms)->Q (.ref p) H')->qM d vs H Q _E
theorem pS (h:qM 0 vs H Q E):False:=by
 obtain⟨sa,ml,sh,ms,_,_,hd,_⟩:=h;have:=sh.nV;exact Zf (Za (Zd rfl) this) hd
inductive tQ (vs:List V) (H:Hp) (Q:VK) (_E:XK):Prop
 | mk (q:Addr) (rows:List (List Int)) (R S:Nat->Nat->Prop) (n:Nat):vs = [.ref q]->jF H q rows->pF rows R n->n<=62->((∀a c,S a c↔c=a\/∃b,a<b/\R a b/\S b c))->((∀a b,a<=n->S a b->a<=b/\b<=n))->(∀q' H' gg,H q'=none->fh H H'->jF H' q' gg->pF gg S n->Q (.ref q') H')->tQ vs H Q _E
inductive vP (vs:List V) (H:Hp) (Q:VK) (_E:XK):Prop
 | mk (p q:Addr) (vS pf:List (List Int)) (R S:Nat->Nat->Prop) (n:Nat):vs = [.ref p,.ref q]->jF H p vS->pF vS R n->jF H q pf->pF pf S n->n<=62->(∀q' H' gg,H q'=none->fh H H'->jF H' q' gg->pF gg (λ a c=>∃b,R a b/\S b c) n->Q (.ref q') H')->vP vs H Q _E
inductive oo (d:Nat) (vs:List V) (H:Hp) (Q:VK) (_E:XK):Prop
 | mk (sa fl:Addr) (n:Nat) (sh:Sh) (F:List (List Int)):vs = [.ref sa,.ref fl,.int (n:Int)]->jr H sa sh->sh.deep<=d->jF H fl F->((∀i∈sh.leaves,i<F.length))->((∀l∈F,∀x∈l,0<=x/\x<n))->((∀l∈F,l.length<=100))->n<=62->(∀q H' rows,H q=none->fh H H'->jF H' q rows->pF rows (ku (λ i p=>(p:Int)∈(F[i]?).getD []) sh) n->Q (.ref q) H')->oo d vs H Q _E
theorem oZ (h:oo 0 vs H Q E):False:=by
 obtain⟨sa,fl,n,sh,F,_,_,hd,_⟩:=h;have:=sh.nV;exact Zf (Za (Zd rfl) this) hd
inductive x6 (vs:List V) (H:Hp) (Q:VK) (_E:XK):Prop
 | mk (x q:Addr) (b n:Nat) (row:List Int) (rows:List (List Int)):vs = [.ref x,.ref q,.int (b:Int)]->H x=some (.lst (row.map V.int))->jF H q rows->Sq n rows->row.length=n->b<n->n<=100->(∀(e:Int) H',fh H H'->e<=1000000->(∀m,m<n->e<=row.getD m 0+pN rows m b)->(e=1000000\/∃m,m<n/\e=row.getD m 0+pN rows m b)->Q (.int e) H')->x6 vs H Q _E
inductive x_ (vs:List V) (H:Hp) (Q:VK) (_E:XK):Prop
 | mk (q:Addr) (n:Nat) (W:Wy) (rows:List (List Int)):vs = [.ref q]->jF H q rows->n<=100->vJ W n rows->(∀q' H' gg,H q'=none->fh H H'->jF H' q' gg->vJ (xk W n) n gg->Q (.ref q') H')->x_ vs H Q _E
inductive xZ (vs:List V) (H:Hp) (Q:VK) (_E:XK):Prop
 | mk (q:Addr) (n:Nat) (W:Wy) (rows:List (List Int)):vs = [.ref q]->jF H q rows->n<=100->vJ W n rows->(∀q' H' gg,H q'=none->fh H H'->jF H' q' gg->vJ (Kn xQ W) n gg->Q (.ref q') H')->xZ vs H Q _E
def C0 (ts:List Nm) (rs:List (Int×Addr×ni)):Prop:=∀x∈rs,x.2.2.start∈ts/\x.2.2.stop∈ts
inductive tS (vs:List V) (H:Hp) (Q:VK) (_E:XK):Prop
 | mk (mk lt pt:Addr) (m:jQ) (ts:List Nm) (rs:List (Int×Addr×ni)):vs = [.ref mk,.ref lt,.ref pt]->H mk=some (.tup (EW m))->tj m->H lt=some (.lst (ts.map λ l=>.str (tx l)))->ts.Nodup->ts.length<=12->oS H pt rs->(rs.map (·.1)).Nodup->rs.length<=63->C0 ts rs->(∀q H' rows,H q=none->fh H H'->jF H' q rows->vJ (λ k a b=>k=1/\wU ts rs m a b) ts.length rows->Q (.ref q) H')->tS vs H Q _E
inductive tP (d:Nat) (vs:List V) (H:Hp) (Q:VK) (_E:XK):Prop
 | mk (sa ml lt pt:Addr) (sh:Sh) (ms:List jQ) (ts:List Nm) (rs:List (Int×Addr×ni)):vs = [.ref sa,.ref ml,.ref lt,.ref pt]->jr H sa sh->sh.deep<=d->qE H ml ms->((∀i∈sh.leaves,i<ms.length))->H lt=some (.lst (ts.map λ l=>.str (tx l)))->ts.Nodup->ts.length<=12->oS H pt rs->(rs.map (·.1)).Nodup->rs.length<=63->C0 ts rs->(∀q H' rows,H q=none->fh H H'->jF H' q rows->vJ (oi (λ i a b=>∃m,ms[i]? = some m/\wU ts rs m a b) sh) ts.length rows->Q (.ref q) H')->tP d vs H Q _E
theorem rJ (h:tP 0 vs H Q E):False:=by
 obtain⟨_,_,_,_,sh,_,_,_,_,_,hd,_⟩:=h;have:=sh.nV;exact Zf (Za (Zd rfl) this) hd
inductive xV (t:Ad) (vs:List V) (H:Hp) (Q:VK) (_E:XK):Prop
 | mk (p a:Addr) (W:WS) (tr:Tr) (st:Nm):vs = [.ref p,.ref a,.str (tx st)]->gy t.hX H p W->st∈W.vals.map (·.1)->W.fL.length<=63->((∀x∈W.fL,x.2.2.start∈W.vals.map (·.1)/\x.2.2.stop∈W.vals.map (·.1)))->gZ H a tr->tr.deep<=40->tr.marks.length<=24->((∀m∈tr.marks,tj m))->(∀q H' ps M es,fh H H'->pG M->j7 tr M->iC M.iR (Goes W) st es->es.length<=2500->(∀e∈es,e.th∈W.vals.map (·.1))->(es.map iN).Nodup->gQ (jB M) (uK W M) es es.length->iZ H H' q ps (yV (W.vals.map (·.1)) M es)->Q (.ref q) H')->xV t vs H Q _E
theorem nodup_keys {m:List (Nm×Int)} (h:(m.map (·.1)).Nodup):(m.map ((λ (x:Key×V)=>x.1)∘λ y=>((.inr (tx y.1):Key),V.int y.2))).Nodup:=by
 induction m with
 | nil=>exact cq
 | cons y m ih=>
  rw [aD,aY] at h;rw [aD,aY];refine⟨λ z=> ?_,ih h.2⟩;obtain⟨x,hx,e⟩:=aE.mp z;have e:(Sum.inr (tx x.1):Key) = .inr (tx y.1):=e;injection e with e
  exact h.1 (aE.mpr ⟨x,hx,iK.mp e⟩)
def M5 (H:Hp) (q:Addr) (ss:List EK):Prop:=∃as:List Addr,H q=some (.lst (as.map V.ref))/\fN (λ x s=>H x=some (.tup (Hj s))) as ss
inductive pR (vs:List V) (H:Hp) (Q:VK) (_E:XK):Prop
 | mk (wl pt:Addr) (st en:Nm) (ws:List (Int×Bool)) (rs:List (Int×Addr×ni)) (ss:List EK):vs = [.ref wl,.ref pt,.str (tx st),.str (tx en)]->iB H wl ws->oS H pt rs->(rs.map (·.1)).Nodup->zE rs st ws en ss->ws.length<=100->(∀q H',H q=none->fh H H'->M5 H' q ss->Q (.ref q) H')->pR vs H Q _E
inductive rH (vs:List V) (H:Hp) (Q:VK) (_E:XK):Prop
 | mk (wl gr sa ml pt:Addr) (n:Nat) (st en:Nm) (sh:Sh) (ms:List jQ) (ws:List (Int×Bool)) (rs:List (Int×Addr×ni)) (ss:List EK):vs = [.ref wl,.int (n:Int),.ref gr,.ref pt,.str (tx st),.str (tx en)]->H gr=some (.tup [.ref sa,.ref ml])->jr H sa sh->sh.deep<=40->qE H ml ms->((∀i∈sh.leaves,i<ms.length))->ms.length<=100->iB H wl ws->ws.length=n->n<=62->oS H pt rs->(rs.map (·.1)).Nodup->zE rs st ws en ss->ss.length=n->(ku (λ i p=>∃m s,ms[i]? = some m/\ss[p]? = some s/\nU m s=true) sh 0 n)->(∀H',fh H H'->Q (.bl true) H')->rH vs H Q _E
inductive Au (vs:List V) (H:Hp) (Q:VK) (_E:XK):Prop
 | mk (q gr sa ml lt pt:Addr) (B:Hp) (ps:List (Addr×Addr)) (fs:List (Nm×List (Int×Bool))) (ts:List Nm) (rs:List (Int×Addr×ni)) (sh:Sh) (ms:List jQ) (a:Nat) (st:Nm):vs = [.ref q,.ref gr,.ref lt,.ref pt,.str (tx st)]->iZ B H q ps fs->H gr=some (.tup [.ref sa,.ref ml])->jr H sa sh->sh.deep<=40->qE H ml ms->((∀i∈sh.leaves,i<ms.length))->ms.length<=100->H lt=some (.lst (ts.map λ l=>.str (tx l)))->ts.Nodup->ts.length<=12->oS H pt rs->(rs.map (·.1)).Nodup->rs.length<=63->C0 ts rs->ts[a]? = some st->ID ts rs ms sh a st fs->(∀H',fh H H'->Q (.bl true) H')->Au vs H Q _E
theorem IP (hf:∀m,m<n->∃e,nA U a m e) (hg:∀m,m<n->∃e,nA W m b e):∃e,nA (An n U W) a b e:=by
 have key:∀j,j<=n->∃e:Int,e<=1000000/\(∀m,m<j->e<=jA U a m+jA W m b)/\(e=1000000\/∃m,m<j/\e=jA U a m+jA W m b):=by
  intro j
  induction j with
  | zero=>exact λ _=>⟨1000000,cW _,λ m hm=>by lia,.inl rfl⟩
  | succ j ih=>
   intro hj;obtain⟨e,h1,h2,h3⟩:=ih (Zc Zk hj);by_cases c:e<=jA U a j+jA W j b
   .refine⟨e,h1,λ m hm=> ?_,h3.imp id λ ⟨m,hm,q⟩=>⟨m,Zt (Zl hm),q⟩⟩;by_cases z:m=j
    .rwa [z]
    .exact h2 m (Nat.lt_of_le_of_ne (Zs hm) z)
   .refine⟨jA U a j+jA W j b,Yl (Ya (Yj c) h1),λ m hm=> ?_,.inr ⟨j,Nat.lt_succ_self _,rfl⟩⟩;by_cases z:m=j
    .rw [z];exact cW _
    .have:=h2 m (Nat.lt_of_le_of_ne (Zs hm) z);exact Yl (Ya (Yj c) this)
 obtain⟨e,h1,h2,h3⟩:=key n (ay _);exact⟨e,nA.then (λ m hm=>let ⟨e,h⟩:=hf m hm;by rwa [lu h]) (λ m hm=>let ⟨e,h⟩:=hg m hm;by rwa [lu h]) h1 h2 h3⟩
theorem L3 (x y:Int):(if y<x then y else x)=min x y:=by
 by_cases h:y<x
 .rw [if_pos h,eL (Yl h)]
 .rw [if_neg h,eU (Yi h)]
inductive rG (vs:List V) (H:Hp) (Q:VK) (_E:XK):Prop
 | mk (c:Int) (mk nm:Addr) (b:Int) (m:jQ) (ns:List (List Nat)):vs = [.int c,.ref mk,.ref nm,.int b]->H mk=some (.tup (EW m))->tj m->qq m.num->kB H nm ns->rT b->(∀s p H',À s->H p=none->fh H H'->H' p=some (.tup (Hj s))->Q (.ref p) H')->rG vs H Q _E
inductive vM (t:Ad) (vs:List V) (H:Hp) (Q:VK) (_E:XK):Prop
 | mk (lc lt ln lm:Addr) (b:Int) (cs:List Int) (ts:List Nm) (ns:List (List Nat)) (ms:List jQ):vs = [.ref lc,.ref lt,.ref ln,.int b,.ref lm]->H lc=some (.lst (cs.map V.int))->cs.length<=63->H lt=some (.lst (ts.map λ l=>.str (tx l)))->ts≠[]->ts.length<=12->ts.Nodup->((∀l∈ts,wI l))->kB H ln ns->rT b->qE H lm ms->ms≠[]->ms.length<=24->((∀m∈ms,qq m.num))->(∀p pw pt H' W rs,Made t H H' pw pt W rs ts->rs.length<=cs.length->0<=W.next->H' p=some (.tup [.ref pw,.ref pt])->H p=none->Q (.ref p) H')->vM t vs H Q _E
section
variable {P:Program} {w:World} {K:aj} {mg:Str->Option Value} {base:Heap} {t:Ad}
theorem BX:fG ["text"] ["text"] (fw qa):=by walk_at "sc"
theorem Cf (T:Txt K mg t):f_ P w K mg base (ir P w) 1 t.wF t.we ["text"] (tT):=by
 refine T.AR.fn.okN BX (λ ik A outer s H vs Q E hr h=> ?_)
 .obtain⟨l,rfl,hz,k⟩:=h
  refine⟨_,Bx.un (eZ (fA (uD (MY b_ (fD CO (by rfl) T.gW PySem.boot_len (a_ (fb 0) d_)) (jx T.zj)) (mJ (fD (MT rfl) (by rfl) T.VE PyProof.Rows.boot_all (a_ (iS rfl (N:= ["sign"]) (fr:= []) (tG.of (by kernel_rfl)) (Pf (fb 0)) (λ _ _ _ _ _=>gu)
    (λ _ _ _ _ _=>(iT Rq (fb 0) (jx T.J7) (by with_unfolding_all rfl)))) d_)))))),?_⟩
  walk_at "rd";refine⟨hz,?_⟩
  split
  .rename_i h1
   have WE:1<=l.length/\l.length<=12:=by
    simp only [bg,decide_eq_true_eq] at h1;lia
   refine QJ (cs:=EE) l rfl hz (λ c H2 Q2 _ h=>⟨_,rfl,c,rfl,_,rfl,by rwa [qL]⟩) λ H2 s2=> ?_
   have e:nT l=l.all λ c=>decide (c∈EE):=by
    unfold nT;rw [decide_eq_true WE,Bool.true_and]
   rw [<-e];exact k H2 s2
  .rename_i h1
   have e:nT l=false:=by
    unfold nT;rw [decide_eq_false (λ z=>h1 (by simp only [bg,decide_eq_true_eq];lia)),Bool.false_and]
   rw [<-e];exact k H (fh.refl _)
theorem zV:fG ["name"] ["name"] (fw oz):=by walk_at "sc"
theorem rO (T:Txt K mg t):f_ P w K mg base (ir P w) 2 t.uH t.uu ["name"] (rK t):=by
 have EN:=Cf (P:=P) (w:=w) (base:=base) T;refine T.sY.fn.Ni zV (λ ik A outer s H vs Q E hr h=> ?_)
 .obtain⟨l,rfl,hz,k⟩:=h
  refine⟨_,Bx.un (eZ (fM (jw (hZ (fF T.AR EN hr t9 (a_ (fb 0) d_))))
   (eZ (kr (T.IE) oB rfl fP))
   fC)),?_⟩
  walk_at "rd";exact⟨l,rfl,hz,λ H2 s2=>⟨_,rfl,k H2 s2⟩⟩
theorem DC:fG ["self"] ["self"] (fw sJ):=by walk_at "sc"
theorem DS (T:Txt K mg t):f_ P w K mg base (ir P w) 1 t.tf t.zd ["self"] (vR t):=by
 refine T.EJ.fn.okN DC (λ ik A outer s H vs Q E hr h=> ?_)
 .obtain⟨p,dx,rfl,hp,k⟩:=h
  refine⟨_,Bx.un (c_ (uA (fb 0) jP)
   (c_ (uA (fb 0) jP)
   (eZ (uA (fb 0) b_)))),?_⟩
  walk_at "rd";intro d1 h1;have n1:p≠d1:=fq hp h1;refine⟨_,_,_,by rwa [e_ n1],T.iA,T.gO,by simp,λ d2 h2=> ?_⟩
  have n2:d2≠p:=λ z=>by
   rw [z,eX] at h2
   cases h2
  rw [e_ n2] at h2
  have n3:d2≠d1:=λ z=>by
   rw [z,eX] at h2
   cases h2
  rw [e_ n3] at h2;refine⟨_,_,_,by rw [e_ n2.symm];exact eX,T.iA,T.ij,bV (kL _ _ _) (by decide),_,_,_,eX,T.iA,T.iQ,bV (bj (kL _ _ _) (dy (kL _ _ _))) (by decide),?_⟩;refine k _ ⟨dx,d1,d2,[],[],0⟩ ⟨eX,?_,?_,λ x hx=>absurd hx (by simp),λ x hx=>absurd hx (by simp),?_,by simp,by simp,by simp,by simp⟩ rfl rfl rfl (λ b o hb e=> ?_) λ b hb=> ?_
  .show upd _ p _ d1=_;rw [e_ n1.symm,e_ n1.symm,e_ n3.symm,e_ n1.symm,eX];rfl
  .show upd _ p _ d2=_;rw [e_ n2,e_ n2,eX];rfl
  .simpa using n3.symm
  .rwa [e_ hb,e_ hb,e_ (fq e h2),e_ hb,e_ (fq e h1)]
  .simp only [WS.own,aA,bu,bb,or_false] at hb;rcases hb with rfl|rfl|rfl
   .exact .inl rfl
   .exact .inr h1
   .exact .inr h2
theorem sA:fG ["self","name"] ["self","name"] (fw jX):=by walk_at "sc"
theorem sN (T:Txt K mg t):f_ P w K mg base (ir P w) 1 t.mK t.mE ["self","name"] (lJ t):=by
 refine T.kY.fn.Ni sA (λ ik A outer s H vs Q E hr h=> ?_)
 .obtain⟨p,W,l,rfl,hw,k⟩:=h
  refine⟨_,Bx.un (eZ (fM (qV (oR (j4 hr) (fb 1) (hU (fb 0))))
   (eZ (kr (T.E6) oB rfl fP))
   fC)),?_⟩
  walk_at "rd";refine⟨_,_,_,hw.obj,T.iA,T.gO,_,rfl,_,rfl,_,lB.k (k:=.inr (tx l)) hw.val,?_⟩;rw [pO];by_cases h:l∈W.vals.map (·.1)
  .rw [if_pos h] at k
   rwa [decide_eq_true h]
  .rw [if_neg h] at k
   rwa [decide_eq_false h]
theorem uX:fG ["self","name"] ["self","name"] (fw kR):=by walk_at "sc"
theorem vm (T:Txt K mg t):f_ P w K mg base (ir P w) 3 t.pE t.pA ["self","name"] (nH t):=by
 have oV:=rO (P:=P) (w:=w) (base:=base) T;refine T.su.fn.Ni uX (λ ik A outer s H vs Q E hr h=> ?_)
 .obtain⟨p,W,l,rfl,hw,hz,k⟩:=h
  refine⟨_,Bx.un (c_ (fQ (fF T.sY oV hr t9 (a_ (fb 1) d_)))
   (c_ (fM (qV (CU (j4 hr) (fb 1) (hU (fb 0))))
   (eZ (kr (T.Kv) oB rfl fP))
   fC)
   (c_ (fM (fB LP (fD lF (by rfl) T.gW PySem.boot_len (a_ (hU (fb 0)) d_)) (jx T.Ag) (fI _))
   (eZ (kr (T.G7) oB rfl fP))
   fC)
   (eZ (nY (j4 hr) (hU (fb 0)) (fb 1) jP))))),?_⟩
  walk_at "rd";refine⟨l,rfl,hz,λ H1 s1=> ?_⟩;unfold WA.zu at k;rw [vn] at k
  cases hg:nT l with
  | false=>
   rw [if_pos hg] at k;exact k H1 s1
  | true=>
   rw [if_neg (by rw [hg];simp)] at k;have w1:=hw.same s1;refine⟨_,_,_,w1.obj,T.iA,T.gO,_,rfl,_,rfl,_,lB.k (k:=.inr (tx l)) w1.val,?_⟩;rw [pO];by_cases h:l∈W.vals.map (·.1)
   .rw [if_pos h] at k;rw [decide_eq_true h,if_pos rfl];exact k H1 s1
   .rw [if_neg h] at k;rw [decide_eq_false h,if_neg aJ];refine⟨_,_,_,w1.obj,T.iA,T.gO,_,rfl,_,rfl,_,w1.val,?_⟩
    have el:W.abs.things.length=W.vals.length:=by
     unfold WS.abs;rw [ae]
    have O6:(j2 W.vals).length=W.vals.length:=by
     unfold j2;rw [ae]
    rw [el] at k;rw [O6];by_cases Vh:100<=W.vals.length
    .rw [if_pos Vh] at k;rw [if_pos (by lia)];exact k H1 s1
    .rw [if_neg Vh] at k;rw [if_neg (Yy (Yr (Zj Vh)))];intro d hd;have nd:p≠d:=fq w1.obj hd;have ζ:W.dv≠d:=fq w1.val hd;refine⟨_,_,_,by rw [e_ nd];exact w1.obj,T.iA,T.gO,_,rfl,_,rfl,_,xq.k (k:=.inr (tx l)) (by rw [e_ ζ];exact w1.val) (by rw [O6];exact aC (show W.vals.length<100 from Zj Vh) (fW (by decide))),?_⟩;obtain⟨w2,st⟩:=w1.added hd h (Zj Vh);refine k _ _ w2 ?_ ((Step.same s1).trans st);unfold WS.abs;simp only [av,aD,bu]
theorem uV:fG ["self","name"] ["self","name"] (fw kP):=by walk_at "sc"
theorem vk (T:Txt K mg t):f_ P w K mg base (ir P w) 1 t.pB t.pq ["self","name"] (nF t):=by
 refine T.sj.fn.okN uV (λ ik A outer s H vs Q E hr h=> ?_)
 .obtain⟨p,W,l,rfl,hw,k⟩:=h;refine⟨_,Bx.un (eZ (fA (Pg (CU (j4 hr) (fb 1) (hU (fb 0)))))),?_⟩;walk_at "rd";refine⟨_,_,_,hw.obj,T.iA,T.gO,_,rfl,_,rfl,_,lB.k (k:=.inr (tx l)) hw.val,?_⟩
  rwa [pO]
theorem zW:fG ["self"] ["self"] (fw oA):=by walk_at "sc"
theorem zZ (T:Txt K mg t):f_ P w K mg base (ir P w) 1 t.uI t.uv ["self"] (rL t):=by
 refine T.zD.fn.okN zW (λ ik A outer s H vs Q E hr h=> ?_)
 .obtain⟨p,W,rfl,hw,k⟩:=h;refine⟨_,Bx.un (eZ (fA (h_ (j6 rfl) (by rfl) T.kW bz (a_ (hU (fb 0)) d_)))),?_⟩;walk_at "rd";refine⟨_,_,_,hw.obj,T.iA,T.gO,_,rfl,_,rfl,_,.inl hw.val,λ a ha=> ?_⟩
  have e:(j2 W.vals).map (λ kv=>kV kv.1)=(W.vals.map (·.1)).map λ z=>V.str (tx z):=by
   unfold j2;rw [aQ,aQ];rfl
  rw [e];exact k a ha
theorem yj:fG ["number"] ["number"] (fw mV):=by walk_at "sc"
theorem yx (T:Txt K mg t):f_ P w K mg base (ir P w) 1 t.r9 t.rW ["number"] (pT):=by
 refine T.vZ.fn.okN yj (λ ik A outer s H vs Q E hr h=> ?_)
 .obtain⟨n,rfl,k⟩:=h;refine⟨_,Bx.un (eZ (fA (iT ph (fD MU (by rfl) T.VF PyProof.Rows.boot_abs (a_ (fb 0) d_)) (fo sM b_ b_) (fI _)))),?_⟩;walk_at "rd";have big:(10:Nat) ^ 60=1000000000000000000000000000000000000000000000000000000000000:=by decide
  have e:decide ((if n<0 then -n else n)<(1000000000000000000000000000000000000000000000000000000000000:Int))=decide (n.natAbs<10 ^ 60):=by
   rw [decide_eq_decide,big]
   split<;>omega
  rw [e];exact⟨by decide,k⟩
theorem wM:fG ["number"] ["number"] (fw lR):=by walk_at "sc"
theorem wW (T:Txt K mg t):f_ P w K mg base (ir P w) 2 t.qA t.qv ["number"] (o6 t):=by
 have Al:=yx (P:=P) (w:=w) (base:=base) T;refine T.ux.fn.Ni wM (λ ik A outer s H vs Q E hr h=> ?_)
 .obtain⟨n,rfl,k⟩:=h
  refine⟨_,Bx.un (eZ (fM (jw (hZ (fF T.vZ Al hr t9 (a_ (fb 0) d_))))
   (eZ (kr (T.Dg) oB rfl fP))
   fC)),?_⟩
  walk_at "rd";refine⟨n,rfl,_,rfl,?_⟩;by_cases h:n.natAbs<10 ^ 60
  .rw [if_pos h] at k;exact gs (by rw [decide_eq_true h];decide) k
  .rw [if_neg h] at k;exact jn (decide_eq_false h) k
theorem uW:fG ["self","number"] ["self","number"] (fw kQ):=by walk_at "sc"
theorem nO (T:Txt K mg t):f_ P w K mg base (ir P w) 1 t.pC t.pz ["self","number"] (nG t):=by
 refine T.nh.fn.Ni uW (λ ik A outer s H vs Q E hr h=> ?_)
 .obtain⟨p,W,n,rfl,hw,k⟩:=h
  refine⟨_,Bx.un (eZ (fM (qV (oR (j4 hr) (fb 1) (hU (fb 0))))
   (eZ (kr (T.Kw) oB rfl fP))
   fC)),?_⟩
  walk_at "rd";refine⟨_,_,_,hw.obj,T.iA,T.ij,_,rfl,_,rfl,_,lB.k (k:=.inl n) hw.fX,?_⟩;rw [kC];by_cases h:n∈W.fL.map (·.1)
  .rw [if_pos h] at k
   rwa [decide_eq_true h]
  .rw [if_neg h] at k
   rwa [decide_eq_false h]
theorem yk:fG ["self","number"] ["self","number"] (fw mW):=by walk_at "sc"
theorem qm (T:Txt K mg t):f_ P w K mg base (ir P w) 2 t.r_ t.rX ["self","number"] (pU t):=by
 have k7:=nO (P:=P) (w:=w) (base:=base) T;refine T.qC.fn.Ni yk (λ ik A outer s H vs Q E hr h=> ?_)
 .obtain⟨p,W,n,rfl,hw,k⟩:=h
  refine⟨_,Bx.un (c_ (fQ (iL (fb 0) T.iA T.nh k7 hr t9 (a_ (fb 1) d_)))
   (eZ (fQ (vE (hU (fb 0)) (fb 1))))),?_⟩
  walk_at "rd";refine⟨_,_,hw.obj,rfl,p,W,n,rfl,hw,?_⟩
  have ea:W.abs.fL.map (·.1)=W.fL.map (·.1):=by
   unfold WS.abs;rw [aQ];rfl
  unfold WA.CK at k;rw [ea] at k;by_cases h:n∈W.fL.map (·.1)
  .rw [if_neg (λ z=>z h)] at k;rw [if_pos h]
   have ks:(gT (fR W.fL) (.inl n)).isSome=true:=by
    rw [kC,decide_eq_true h]
   obtain⟨v,hv⟩:=Option.isSome_iff_exists.mp ks;refine⟨_,_,_,hw.obj,T.iA,T.ij,_,rfl,_,rfl,.inl ⟨_,.inl hw.fX⟩,_,hw.fX,.inl n,rfl,_,hv,?_⟩;obtain⟨w3,st⟩:=hw.cut (n:=n);refine k _ _ w3 ?_ st;unfold WS.abs;simp only [eT];rfl
  .rw [if_pos h] at k;rw [if_neg h];exact k H (fh.refl _)
theorem pX:fG ["self","start","name","end","weight","number"] ["self","start","name","end","weight"] (fw gx):=by walk_at "sc"
theorem qo (T:Txt K mg t):f_ P w K mg base (ir P w) 3 t.sf t.rY ["self","start","name","end","weight"] (pV t):=by
 have mO:=(sN (P:=P) (w:=w) (base:=base) T).mono (show 1<=2 by decide);have oV:=rO (P:=P) (w:=w) (base:=base) T;have zL:=wW (P:=P) (w:=w) (base:=base) T;refine T.qD.fn.Ni pX (λ ik A outer s H vs Q E hr h=> ?_)
 .obtain⟨p,W,s,n,e,wt,rfl,hw,low,hz,k⟩:=h
  refine⟨_,Bx.un (c_ (fQ (iL (fb 0) T.iA T.kY mO hr t9 (a_ (fb 1) d_)))
   (c_ (fQ (iL (fb 0) T.iA T.kY mO hr t9 (a_ (fb 3) d_)))
   (c_ (fQ (fF T.sY oV hr t9 (a_ (fb 2) d_)))
   (c_ (fQ (fF T.ux zL hr t9 (a_ (fb 4) d_)))
   (c_ (fM (fB LP (fD lF (by rfl) T.gW PySem.boot_len (a_ (hU (fb 0)) d_)) (jx T.EB) (fI _))
   (eZ (kr (T.G7) oB rfl fP))
   fC)
   (c_ (fu 5 pX.nd (hU (fb 0)))
   (c_ (nY (j4 hr) (hU (fb 0)) (fb 5) (gj (a_ (fb 1) (a_ (fb 2) (a_ (fb 3) (a_ (fb 4) d_))))))
   (c_ (uA (fb 0) (fo gY (fb 5) b_))
   (eZ (fA (fb 5))))))))))),?_⟩
  walk_at "rd";unfold WA.CW at k;rw [vn] at k;refine⟨_,_,hw.obj,rfl,p,W,s,rfl,hw,?_⟩;by_cases hs:s∈W.vals.map (·.1)
  .rw [if_pos hs];refine⟨_,_,hw.obj,rfl,p,W,e,rfl,hw,?_⟩;by_cases he:e∈W.vals.map (·.1)
   .rw [if_pos he];rw [if_neg (λ z=>z.elim (λ y=>y hs) (λ y=>y he))] at k;refine⟨n,rfl,hz,λ H1 s1=> ?_⟩
    cases hg:nT n with
    | false=>
     rw [if_pos hg] at k;exact k H1 s1
    | true=>
     rw [if_neg (by rw [hg];simp)] at k;rw [if_neg (by simp)];refine⟨wt,rfl,?_⟩;by_cases hn:wt.natAbs<10 ^ 60
     .rw [if_neg (Zy hn)] at k;rw [if_pos hn];have w1:=hw.same s1
      have el:W.abs.fL.length=W.fL.length:=by
       unfold WS.abs;rw [ae]
      have O6:(fR W.fL).length=W.fL.length:=by
       unfold fR;rw [ae]
      rw [el] at k;refine⟨_,_,_,w1.obj,T.iA,T.ij,_,rfl,_,rfl,_,w1.fX,?_⟩;rw [O6];by_cases Vg:400<=W.fL.length
      .rw [if_pos Vg] at k;exact jn (by lia) (k H1 s1)
      .rw [if_neg Vg] at k;refine gs (Yy (Yr (Zj Vg))) ⟨_,_,_,w1.obj,T.iA,T.iQ,_,rfl,?_⟩;refine⟨by decide,λ a ha=> ?_⟩;have np:p≠a:=fq w1.obj ha;have nt:W.dt≠a:=fq w1.fX ha
       have hl:W.next∉W.fL.map (·.1):=λ z=>by
        have:=low _ z;exact Yf this (Int.le_refl _)
       obtain⟨w2,st⟩:=w1.W8 (t:=⟨s,n,e,wt⟩) ha hl (Zj Vg);refine⟨_,_,_,by rw [e_ np];exact w1.obj,T.iA,T.ij,_,rfl,_,rfl,_,xq.k (k:=.inl W.next) (by rw [e_ nt];exact w1.fX) (by rw [O6];exact aC (show W.fL.length<400 from Zj Vg) (fW (by decide))),_,rfl,_,_,_,by rw [e_ w1.Xq.symm,e_ np];exact w1.obj,T.iA,T.iQ,by show 3<1000;decide,?_⟩;rw [Jf];refine k _ _ w2 ?_ ((Step.same s1).trans st);unfold WS.abs;simp only [av,aD,bu]
     .rw [if_pos (Zi hn)] at k;rw [if_neg hn];exact k H1 s1
   .rw [if_neg he];rw [if_pos (.inr he)] at k;exact k H (fh.refl _)
  .rw [if_neg hs];rw [if_pos (.inl hs)] at k;exact k H (fh.refl _)
theorem DB:fG ["self"] ["self"] (fw sI):=by walk_at "sc"
theorem DR (T:Txt K mg t):f_ P w K mg base (ir P w) 1 t.zB t.zc ["self"] (vQ t):=by
 refine T.EI.fn.okN DB (λ ik A outer s H vs Q E hr h=> ?_)
 .obtain⟨p,W,rfl,hw,k⟩:=h;refine⟨_,Bx.un (eZ (fA (h_ (j6 rfl) (by rfl) T.kW bz (a_ (hU (fb 0)) d_)))),?_⟩;walk_at "rd";refine⟨_,_,_,hw.obj,T.iA,T.ij,_,rfl,_,rfl,_,.inl hw.fX,λ a ha=> ?_⟩
  have e:(fR W.fL).map (λ kv=>kV kv.1)=(W.fL.map (·.1)).map V.int:=by
   unfold fR;rw [aQ,aQ];rfl
  rw [e];exact k a ha
theorem Fn:fG ["self","number"] ["self","number"] (fw ve):=by walk_at "sc"
theorem FT (T:Txt K mg t):f_ P w K mg base (ir P w) 2 t.Bz t.A_ ["self","number"] (yc t):=by
 have k7:=nO (P:=P) (w:=w) (base:=base) T;refine T.IA.fn.Ni Fn (λ ik A outer s H vs Q E hr h=> ?_)
 .obtain⟨p,W,n,rfl,hw,k⟩:=h
  refine⟨_,Bx.un (c_ (fQ (iL (fb 0) T.iA T.nh k7 hr t9 (a_ (fb 1) d_)))
   (eZ (fA (qY (j4 hr) (hU (fb 0)) (fb 1))))),?_⟩
  walk_at "rd";refine⟨_,_,hw.obj,rfl,p,W,n,rfl,hw,?_⟩;by_cases h:n∈W.fL.map (·.1)
  .rw [if_pos h] at k⊢;obtain⟨⟨n',a,fX⟩,hx,e⟩:=aE.mp h;have e':n'=n:=e;subst e';exact⟨_,_,_,hw.obj,T.iA,T.ij,_,rfl,_,rfl,_,OV (.inl hw.fX) hw.nums hx,k a fX hx⟩
  .rw [if_neg h] at k⊢;exact k
theorem BW:fG ["script","k"] ["script","k"] (fw p8):=by walk_at "sc"
theorem Cd (T:Txt K mg t):f_ P w K mg base (ir P w) 1 t.wC t.wb ["script","k"] (tR K):=by
 refine T.nP.fn.okN BW (λ ik A outer s H vs Q E hr h=> ?_)
 .obtain⟨a,ns,k0,rfl,hs,h0,k⟩:=h
  refine⟨_,Bx.un (c_ (fM (fB ph (fb 1) (fD fH (by rfl) T.gW PySem.boot_len (a_ (fb 0) d_)) (fI _))
   (eZ (fA (eW fJ (fb 0) (fb 1))))
   fC)
   (eZ (fA b_))),?_⟩
  walk_at "rd";refine⟨_,.inl hs,?_⟩;rw [ae]
  split
  .rename_i h
   obtain⟨v,e1,e2⟩:=kX (xs:=ns.map V.int) h0 (by rwa [ae]);obtain⟨z,_,rfl⟩:=g_ e2;exact⟨a,_,_,_,rfl,rfl,hs,e1,k z⟩
  .exact k 0
theorem Fj:fG ["cell"] ["cell"] (fw u6):=by walk_at "sc"
theorem oG (T:Txt K mg t):f_ P w K mg base (ir P w) 1 t.Bs t.A4 ["cell"] (x5):=by
 refine T.uf.fn.okN Fj (λ ik A outer s H vs Q E hr h=> ?_)
 .obtain⟨c,rfl,k⟩:=h;refine⟨_,Bx.un (eZ (fA (fo fU (fo gY (fo qi (fo fU (fb 0) (fo sM b_ b_)) b_) b_) b_))),?_⟩;walk_at "rd";refine⟨by decide,.inr ⟨by decide,by decide⟩,?_⟩;generalize c%1000000000000000000000000000000000000000000000000000000000000*48271+12345=z;exact k _ (Int.emod_nonneg _ (by decide)) (Int.emod_lt_of_pos _ (by decide))
theorem iW:fG ["cell","letters","spread","size","base","at","names","turn","row"] ["cell"] (fw u5):=by walk_at "sc"
theorem FK (T:Txt K mg t):f_ P w K mg base (ir P w) 1 t.Br t.A3 ["cell"] (x4):=by
 refine T.HK.fn.okN iW (λ ik A outer s H vs Q E hr h=> ?_)
 .obtain⟨c,rfl,k⟩:=h
  refine⟨_,Bx.un (c_ (fu 1 iW.nd fP)
   (c_ (fu 2 iW.nd (fo fU (fb 0) (fo sM b_ b_)))
   (c_ (fu 3 iW.nd (fo gY b_ (fo fU (fb 2) b_)))
   (c_ (jC (i:=4) iW.nd rfl (by walk_at "o") rfl (N:= ["k","spread"]) (fr:= [2]) (tG.of (by kernel_rfl)) (gI rfl T.iz (a_ (fb 3) d_)) (λ _ _ _ _ _=>gu)
    (λ _ _ _ _ _=>(fo fU (fo gY (fo fY (fb 1) b_) (fo qi (fo fU (fo fY (fb 1) b_) b_) (fb 0))) b_)))
   (c_ (fu 5 iW.nd (fo fU (fo fY (fb 2) b_) (fb 3)))
   (c_ (fu 6 iW.nd (gh d_))
   (c_ (gL PassesOwn.never rfl (gI rfl T.iz (a_ b_ d_)) (gb 7 iW.nd)
   (c_ (fu 8 iW.nd (h_ uy (by rfl) T.kW bz (a_ (fb 4) d_)))
   (c_ (oQ (fo fU (fo gY (eW fJ (fb 4) (fb 5)) (fo qi (fb 7) (fo gY b_ (fo fU (fo fY (fb 2) b_) b_)))) b_) (qW (fb 8) (fb 5) set_list))
   (eZ (fQ (iy aH aX aW gR (fb 6) (a_ (iy PySem.F.plainAttrs_str PySem.F.slot_str_join PySem.F.type_str_join HE fP (a_ (iS rfl (N:= ["k","letters"]) (fr:= [1]) (tG.of (by kernel_rfl)) (gi (fb 8)) (λ _ _ _ _ _=>gu)
    (λ _ _ _ _ _=>(eW Gr (fb 1) (fb 0)))) d_)) d_)))))))
   (c_ (fQ (iy aH aX aW gR (fb 6) (a_ (fo FC (eW fJ (fb 6) b_) (eW Gr (fb 1) (fo fU (fo fY (fb 2) b_) b_))) d_)))
   (eZ (fA (fb 6))))))))))),?_⟩
  walk_at "rs";refine eY λ N hN=> ?_;walk_at "rd";refine hN _ _ ?_;refine eY λ N hN=> ?_;walk_at "rd";refine⟨by decide,hN _ _ ?_⟩;generalize c%1000000000=n;refine eY λ N hN=> ?_;walk_at "rd";refine hN _ _ ?_;obtain⟨sz,hsz,z1,z2⟩:∃sz:Int,1+n%11=sz/\1<=sz/\sz<=11:=⟨_,rfl,by lia,by lia⟩
  rw [hsz];refine eY λ N hN=> ?_;walk_at "rd";refine⟨_,rfl,_,rfl,by lia,by lia,comp_map (iE (n:=sz.toNat)) (λ j=>.int ((n/121+n/3146%3*(0+(j:Int)))%26)) (fW (by rw [aI];lia)) (λ j H2 Q2 _ _ h=> ?_) λ bs H1 hbs s1 d1=>hN _ _ ?_⟩
  .walk_at "rd";exact⟨.inl (by lia),h _ (fh.refl _)⟩
  obtain⟨js,e1,TF,V_⟩:∃js:List Int,H1 bs=some (.lst (js.map V.int))/\js.length=sz.toNat/\∀j∈js,0<=j/\j<26:=by
   refine⟨(List.range sz.toNat).map λ (j:Nat)=>(n/121+n/3146%3*(0+(j:Int)))%26,by rwa [aQ],by simp,λ j hj=> ?_⟩;obtain⟨x,_,rfl⟩:=aE.mp hj;omega
  clear d1;refine eY λ N hN=> ?_;walk_at "rd";refine⟨Ya (by decide) z1,hN _ _ ?_⟩;obtain⟨at_,So,a1,a2⟩:∃at_:Int,n/11%sz=at_/\0<=at_/\at_<sz:=⟨_,rfl,bN _ (Ym (Ya (by decide) z1)),bI _ (Ya (by decide) z1)⟩
  rw [So];clear So hsz;refine eY λ N hN=> ?_;walk_at "rd";refine⟨aP _,λ ps OM=>hN _ _ ?_⟩;have n1:fh H1 (upd H1 ps (.lst [])):=fh.new OM;have e2:=n1 _ _ e1;have s2:=s1.trans n1;have JM:=s1.free OM;have XC:bs≠ps:=λ z=>by rw [<-z,e1] at OM;cases OM
  have p2:upd H1 ps (.lst []) ps=some (.lst []):=eX;generalize upd H1 ps (.lst [])=H2 at e2 s2 p2;clear e1 n1;refine eY λ N hN=> ?_
  refine⟨_,rfl,by decide,by decide,km (n:=3) (lo:=0) (λ i σ H3=>∃v v' ls,σ = [some (.int c),some (.str (tx EE)),some (.int n),some (.int sz),some (.ref bs),some (.int at_),some (.ref ps),v,v']/\fh H H3/\H3 bs=some (.lst (js.map V.int))/\H3 ps=some (.lst (ls.map λ l=>.str (tx l)))/\ls.length=i/\∀l∈ls,l.length=sz.toNat/\∀x∈l,x∈EE)
   ⟨none,none,[],rfl,s2,e2,p2,rfl,λ l hl=>nomatch hl⟩ ?_ ?_⟩
  .rintro i σ H3 hi ⟨v,v',ls,rfl,s3,b3,p3,ll,lo⟩;clear hN;refine eY λ N2 hN=> ?_;walk_at "rg";walk_at "rd";refine⟨_,.inl (fZ.of b3),λ r hr=>hN _ _ ?_⟩;have n4:fh H3 (upd H3 r (.lst (js.map V.int))):=fh.new hr;have r4:upd H3 r (.lst (js.map V.int)) r=some (.lst (js.map V.int)):=eX;have s4:=s3.trans n4;have b4:=n4 _ _ b3;have p4:=n4 _ _ p3;have R7:=s3.free hr;have XB:bs≠r:=λ z=>by rw [<-z,b3] at hr;cases hr
   have Xx:ps≠r:=λ z=>by rw [<-z,p3] at hr;cases hr
   clear n4;generalize upd H3 r (.lst (js.map V.int))=H4 at r4 s4 b4 p4;refine eY λ N2 hN=> ?_;walk_at "rd";obtain⟨v1,e1,Nx⟩:=kX (xs:=js.map V.int) a1 (by rw [ae,TF];exact QaE a2);obtain⟨z,hz,rfl⟩:=g_ Nx;refine fK b4 e1 ⟨.inl (by lia),_,rfl,_,r4,_,qS a1 (by rw [ae,TF];exact QaE a2),hN _ _ ?_⟩;rw [<-de (f:=V.int)]
   have U':∀j∈js.set at_.toNat ((z+(0+(i:Int))*(1+n/9438%12))%26),0<=j/\j<26:=λ j hj=>by
    rcases bZ hj with h|h
    .exact V_ j h
    .omega
   have UR:(js.set at_.toNat ((z+(0+(i:Int))*(1+n/9438%12))%26)).length=sz.toNat:=by rw [bS,TF]
   generalize js.set at_.toNat ((z+(0+(i:Int))*(1+n/9438%12))%26)=P1 at U' UR;have s5:fh H (upd H4 r (.lst (P1.map V.int))):=s4.fS R7;have r5:upd H4 r (.lst (P1.map V.int)) r=some (.lst (P1.map V.int)):=eX;have b5:upd H4 r (.lst (P1.map V.int)) bs=some (.lst (js.map V.int)):=(e_ XB).trans b4;have p5:upd H4 r (.lst (P1.map V.int)) ps=some (.lst (ls.map λ l=>.str (tx l))):=(e_ Xx).trans p4;generalize upd H4 r (.lst (P1.map V.int))=H5 at s5 r5 b5 p5;walk_at "rd";refine⟨gp (fZ.of p5),_,rfl,r,rfl,⟨_,fZ.of r5⟩,Ba (fZ.of r5) U' (by lia) (λ j H6 Q6 h=> ?_) λ D H6 hD s6 d6=>⟨D,_,rfl,rfl,d6,by rw [Dh];lia,_,s6 _ _ p5,?_,s5.trans s6 |>.fS JM,(e_ XC).trans (s6 _ _ b5),ls ++ [P1.map uc],?_,?_,λ l hl=> ?_⟩⟩
   .walk_at "rd";exact h
   .rw [ae,ll];exact aC (show i<3000 from Za hi (Zd rfl)) (fW (by decide))
   .rw [eX,av,Am];rfl
   .rw [aq,ll];rfl
   .rcases ax.mp hl with h|h
    .exact lo l h
    .rw [ao.mp h];exact⟨by rw [ae,UR],Di P1⟩
  .rintro σ H3 ⟨v,v',ls,rfl,s3,b3,p3,ll,lo⟩;refine hN _ _ ?_;refine eY λ N hN=> ?_;walk_at "rd"
   obtain⟨l0,lr,rfl⟩:∃l0 lr,ls=l0::lr:=by
    cases ls with
    | nil=>cases ll
    | cons a b=>exact⟨a,b,rfl⟩
   obtain⟨l1,l2⟩:=lo l0 (by simp);refine⟨gp (fZ.of p3),fK (v:=.str (tx l0)) p3 gK (Ht (by decide) (Int.emod_nonneg _ (by decide)) (by show n/31%26<26;exact Int.emod_lt_of_pos _ (by decide)) λ x hx=>⟨_,rfl,_,rfl,?_,_,p3,?_,hN _ _ ?_⟩)⟩
   .rw [xR,xR];exact fW (by simp only [aF,aV];lia)
   .rw [ae,ll];exact aC (show 3<3000 by decide) (fW (by decide))
   walk_at "rd";refine k ps _ ((l0::lr) ++ [l0 ++ [x]]) JM (s3.fS JM) ⟨?_,?_,λ l hl=> ?_⟩
   .rw [eX,av];simp only [aD,bu,BG,cR]
   .rw [aq,ll];rfl
   .rcases ax.mp hl with h|h
    .obtain⟨h1,h2⟩:=lo l h;exact⟨by lia,by lia,h2⟩
    .rw [ao.mp h];refine⟨by rw [aq];simp,by rw [aq,l1];simp only [aF,aV];lia,λ y hy=> ?_⟩;rcases ax.mp hy with h|h
     .exact l2 y h
     .rw [ao.mp h];exact ai hx
theorem AA:fG ["cell","size"] ["cell"] (fw yo):=by walk_at "sc"
theorem AF (T:Txt K mg t):f_ P w K mg base (ir P w) 1 t.EH t.Ex ["cell"] (Av):=by
 refine T.Gm.fn.okN AA (λ ik A outer s H vs Q E hr h=> ?_)
 .obtain⟨c,rfl,k⟩:=h
  refine⟨_,Bx.un (c_ (fu 1 AA.nd (fo fU (fb 0) (fo sM b_ b_)))
   (c_ (fM (fB g8 (fo fU (fb 1) b_) b_ (fI _))
   (eZ (fA (fo mY b_ (fo fY (fb 1) b_))))
   fC)
   (eZ (fA (fo fY (fb 1) b_))))),?_⟩
  walk_at "rd";refine⟨by decide,?_⟩
  split<;>exact k _ (by unfold rT;lia)
theorem DA:fG ["cell","turn","base"] ["cell","turn","base"] (fw sG):=by walk_at "sc"
theorem qk (T:Txt K mg t):f_ P w K mg base (ir P w) 2 t.zz t.za ["cell","turn","base"] (vO):=by
 have zK:=AF (P:=P) (w:=w) (base:=base) T;refine T.ue.fn.okN DA (λ ik A outer s H vs Q E hr h=> ?_)
 .obtain⟨c,tu,b,rfl,hb,k⟩:=h
  refine⟨_,Bx.un (c_ (fM (fB g8 (fo fU (fb 1) b_) b_ (fI _))
   (eZ (fA (fo mY (fo gY (fb 2) (fo fU (fo fY (fb 1) b_) b_)) b_)))
   fC)
   (c_ (fM (fB g8 (fo fU (fb 1) b_) b_ (fI _))
   (eZ (fA (fo mY (fo fU (fo fY (fb 1) b_) b_) b_)))
   fC)
   (eZ (fA (fF T.Gm zK hr fE (a_ (fb 0) d_)))))),?_⟩
  walk_at "rd";unfold rT at hb;refine fO (λ _=>k _ (by unfold qq;omega)) λ _=>fO (λ _=>k _ (by unfold qq;lia)) λ _=>⟨_,rfl,λ n hn=>k n ?_⟩
  unfold rT at hn;unfold qq;exact Zc hn (Zd rfl)
theorem jT:fG ["cell","names","base","turn","sign","number"] ["cell","names","base"] (fw pY):=by walk_at "sc"
theorem Cb (T:Txt K mg t):f_ P w K mg base (ir P w) 3 t.wA t.v_ ["cell","names","base"] (tO):=by
 have kx:=(oG (P:=P) (w:=w) (base:=base) T).mono (show 1<=2 by decide);have mh:=qk (P:=P) (w:=w) (base:=base) T;refine T.AJ.fn.okN jT (λ ik A outer s H vs Q E hr h=> ?_)
 .obtain⟨c,a,ns,b,rfl,hn,hb,k⟩:=h
  refine⟨_,Bx.un (c_ (fu 3 jT.nd (fo fY (fF T.uf kx hr fE (a_ (fb 0) d_)) b_))
   (c_ (fu 4 jT.nd (eW fJ zt (fo fU (fo fY (fb 3) b_) b_)))
   (c_ (fu 5 jT.nd b_)
   (c_ (fM (fB lX (fb 4) fP (fI _))
   (eZ (fu 5 jT.nd (fF T.ue mh hr fE (a_ (fb 0) (a_ (fo fY (fb 3) b_) (a_ (fb 2) d_))))))
   fC)
   (eZ (fA (gj (a_ fP (a_ (eW fJ (fo mZ (fb 1) (gh (a_ fP d_))) (fo fU (fb 3) b_)) (a_ (iT g8 (fo fU (fo fY (fb 3) b_) b_) b_ (fI _)) (a_ (fb 4) (a_ (fb 5) d_)))))))))))),?_⟩
  walk_at "rs";obtain⟨YK,OO,P'⟩:=hn;refine eY λ N hN=> ?_;walk_at "rd";refine⟨_,rfl,λ m h0 h1=>⟨_,rfl,hN _ _ ?_⟩⟩;obtain⟨tu,htu⟩:∃tu:Int,m/8=tu:=⟨_,rfl⟩
  rw [htu];refine eY λ N hN=> ?_;walk_at "rd";refine⟨by decide,λ p hp=>Hu (Int.emod_nonneg _ (by decide)) (by show tu/10%6<6;exact Int.emod_lt_of_pos _ (by decide)) λ v hv=>hN _ _ ?_⟩
  have pick:∃a,v = .str (tx a)/\a∈[[],[60],[62],[61],[33]]:=by
   simp only [aA,bb,or_false] at hv;rcases hv with rfl|rfl|rfl|rfl|rfl|rfl<;>exact⟨_,rfl,by decide⟩
  obtain⟨sg,rfl,hsg⟩:=pick;have s1:=fh.new (o:=.lst [V.str (tx []),V.str (tx []),V.str (tx [60]),V.str (tx [62]),V.str (tx [61]),V.str (tx [33])]) hp;generalize upd H p (.lst [V.str (tx []),V.str (tx []),V.str (tx [60]),V.str (tx [62]),V.str (tx [61]),V.str (tx [33])])=H1 at s1;refine eY λ N hN=> ?_;walk_at "rd";refine hN _ _ ?_;refine eY λ N hN=> ?_
  have hM:∀n:Int,qq n->(sg = []->n=0)->N [some (.int c),some (.ref a),some (.int b),some (.int tu),some (.str (tx sg)),some (.int n)] H1:=by
   intro n hn h0;refine hN _ _ ?_;walk_at "rd";refine⟨by decide,λ q hq=>⟨_,(s1.fS (o:=.lst [V.str (tx [95])]) (s1.free hq)) _ _ YK,_,eX,by simp only [ae,OO];decide,λ r hr=> ?_⟩⟩;obtain⟨v,e1,e2⟩:=kX (xs:=(ns.map λ l=>V.str (tx l)) ++ [V.str (tx [95])]) (i:=tu%5) (Int.emod_nonneg _ (by decide)) (by simp only [aq,ae,OO];show tu%5<5;exact Int.emod_lt_of_pos _ (by decide))
   have pick:∃l,v = .str (tx l)/\(l = [95]\/wI l):=by
    have:=ai e2;rcases ax.mp this with h|h
    .obtain⟨l,hl,rfl⟩:=aE.mp h;exact⟨l,rfl,.inr (P' l hl)⟩
    .rw [ao.mp h];exact⟨[95],rfl,.inl rfl⟩
   obtain⟨l,rfl,hl⟩:=pick;have s2:=(fh.new (o:=.lst [V.str (tx [95])]) hq).fS (o:=.lst ((ns.map λ l=>V.str (tx l)) ++ [V.str (tx [95])])) ((fh.new (o:=.lst [V.str (tx [95])]) hq).free hr);refine fK eX e1 ⟨by decide,λ p3 h3=> ?_⟩;have s3:=s2.fS (o:=.tup (EW ⟨l,decide (tu/5%2=1),sg,n⟩)) (s2.free h3);exact k ⟨l,_,sg,n⟩ p3 _ ⟨hl,hsg,hn.lt,h0⟩ hn (s1.free (s2.free h3)) (s1.trans s3) eX
  walk_at "rd";refine fO (λ h=> ?_) λ h=> ?_
  .exact⟨_,_,_,rfl,hb,λ n hn=>hM n hn λ z=>absurd z h⟩
  .exact hM 0 (by unfold qq;decide) λ _=>rfl
theorem wL:fG ["weight","sign","number"] ["weight","sign","number"] (fw lQ):=by walk_at "sc"
theorem wV (T:Txt K mg t):f_ P w K mg base (ir P w) 1 t.qz t.qu ["weight","sign","number"] (kN):=by
 refine T.tJ.fn.okN wL (λ ik A outer s H vs Q E hr h=> ?_)
 .obtain⟨wt,sg,n,rfl,k⟩:=h
  refine⟨_,Bx.un (c_ (fM (fB g8 (fb 1) fP (fI _))
   (eZ (fA (iT ph (fb 0) (fb 2) (fI _))))
   fC)
   (c_ (fM (fB g8 (fb 1) fP (fI _))
   (eZ (fA (iT AE (fb 0) (fb 2) (fI _))))
   fC)
   (c_ (fM (fB g8 (fb 1) fP (fI _))
   (eZ (fA (iT g8 (fb 0) (fb 2) (fI _))))
   fC)
   (c_ (fM (fB g8 (fb 1) fP (fI _))
   (eZ (fA (iT lX (fb 0) (fb 2) (fI _))))
   fC)
   (eZ (fA jc)))))),?_⟩
  walk_at "rd";unfold Ea at k;refine fO (λ h=> ?_) λ h=> ?_
  .rw [if_pos h] at k;exact k
  rw [if_neg h] at k;refine fO (λ h=> ?_) λ h=> ?_
  .rw [if_pos h] at k;exact k
  rw [if_neg h] at k;refine fO (λ h=> ?_) λ h=> ?_
  .rw [if_pos h] at k;exact k
  rw [if_neg h] at k;refine fO (λ h=> ?_) λ h=> ?_
  .rw [if_pos h] at k;exact k
  rw [if_neg h] at k;exact k
theorem NW:fG ["mark","step"] ["mark","step"] (fw Fo):=by walk_at "sc"
theorem Oz (T:Txt K mg t):f_ P w K mg base (ir P w) 2 t.M3 t.MN ["mark","step"] (Hk):=by
 have zH:=wV (P:=P) (w:=w) (base:=base) T;refine T.fits.fn.okN NW (λ ik A outer s H vs Q E hr h=> ?_)
 .obtain⟨a,b,m,sp,rfl,ha,hb,k⟩:=h
  refine⟨_,Bx.un (c_ (fM (fB lX (eW fk (fb 1) b_) (eW fk (fb 0) b_) (fI _))
   (eZ (fA jc))
   fC)
   (c_ (fM (qU (fB lX (eW fk (fb 0) b_) (jx T.GO) (fI _)) (nX (fB lX (eW fk (fb 0) b_) (eW fk (fb 1) b_) (fI _)))).Io
   (eZ (fA jc))
   fC)
   (eZ (fA (fF T.tJ zH hr fE (a_ (eW fk (fb 1) b_) (a_ (eW fk (fb 0) b_) (a_ (eW fk (fb 0) b_) d_)))))))),?_⟩
  walk_at "rd"
  have last:∀(_:sp.back=m.back) (_:m.nm = [95]\/m.nm=sp.nm),Fu K (V.ref b) (V.int 1) H λ x H1=>Fu K (V.ref a) (V.int 3) H1 λ Tn H1=>Fu K (V.ref a) (V.int 4) H1 λ Nz H1=>kN [x,Tn,Nz] H1 Q E0:=by
   intro h1 h2;refine fc hb rfl (fc ha rfl (fc ha rfl ⟨_,_,_,rfl,?_⟩));unfold nU at k;rw [decide_eq_true h1] at k;rcases h2 with h2|h2
   .rw [decide_eq_true h2] at k
    simpa using k
   .rw [decide_eq_true h2] at k
    simpa using k
  refine fc hb rfl (fc ha rfl ⟨rfl,fO (λ h=> ?_) λ h=>fc ha rfl ⟨rfl,?_⟩⟩)
  .have h1:¬sp.back=m.back:=λ z=>h (by rw [z]);unfold nU at k;rw [decide_eq_false h1] at k;exact k
  have h1:sp.back=m.back:=by
   have:=Classical.not_not.mp h;injection this
  refine fO (λ h2=>fc ha rfl (fc hb rfl ⟨rfl,fO (λ h3=> ?_) λ h3=> ?_⟩)) λ h2=> ?_
  .have n2:¬m.nm = [95]:=λ z=>h2 (by rw [z]);have n3:¬m.nm=sp.nm:=λ z=>h3 (by rw [z]);unfold nU at k;rw [decide_eq_true h1,decide_eq_false n2,decide_eq_false n3] at k;exact k
  .have:=Classical.not_not.mp h3;exact last h1 (.inr (by injection this with z;exact iK.mp z))
  .have:=Classical.not_not.mp h2;exact last h1 (.inl (by injection this with z;exact iK.mp z))
theorem yi:fG ["mark","step","low","high"] ["mark","step"] (fw B0):=by walk_at "sc"
theorem DP (T:Txt K mg t):f_ P w K mg base (ir P w) 1 t.Iz t.Ii ["mark","step"] (Dv):=by
 refine T.l_fit.fn.okN yi (λ ik A outer s H vs Q E hr h=> ?_)
 .obtain⟨a,b,m,sp,rfl,ha,hb,om,k⟩:=h
  refine⟨_,Bx.un (c_ (fM (kU (fB B' (eW fk (fb 0) b_) (gh (a_ fP (a_ (eW fk (fb 1) b_) d_))) (by with_unfolding_all rfl)) (mI (fB lX (eW fk (fb 0) b_) (eW fk (fb 1) b_) (fI _)))).Io
   (eZ (fA jc))
   fC)
   (c_ (fu 2 yi.nd (iT ph (eW fk (fb 1) b_) (eW fk (fb 0) b_) (fI _)))
   (c_ (fu 3 yi.nd (iT AE (eW fk (fb 1) b_) (eW fk (fb 0) b_) (fI _)))
   (eZ (fA (eW fJ (gh (a_ jc (a_ (fb 2) (a_ (fb 3) (a_ (uD (CS (fb 2)) (mJ (CS (fb 3)))) (a_ (GR (fb 2) (mJ (fb 3))) d_)))))) (iy aH cD cC ua zt (a_ (eW fk (fb 0) b_) d_)))))))),?_⟩
  walk_at "rs";refine eY λ N hN=> ?_;walk_at "rd";refine fc ha rfl (fc hb rfl ⟨by decide,λ p hp=>QI (ns:= [[95],sp.nm]) (fZ.of eX) ⟨_,rfl,?_⟩⟩);have s1:fh H (upd H p (.lst [V.str (tx [95]),V.str (tx sp.nm)])):=fh.new hp;generalize upd H p (.lst [V.str (tx [95]),V.str (tx sp.nm)])=H1 at s1;have Wz:=s1 _ _ ha;have Ms:=s1 _ _ hb;refine fO (λ h=> ?_) λ h=>fc Wz rfl (fc Ms rfl ⟨rfl,fO (λ h2=> ?_) λ h2=>hN _ _ ?_⟩)
  .have:=k H1 s1;unfold nU at this;have n1:¬(m.nm = [95]\/m.nm=sp.nm):=λ z=>by simp [z] at h
   rw [not_or] at n1;rw [decide_eq_false n1.1,decide_eq_false n1.2] at this
   simpa using this
  .have:=k H1 s1;unfold nU at this;have n1:¬sp.back=m.back:=λ z=>h2 (by rw [z]);rw [decide_eq_false n1] at this
   simpa using this
  have e1:(decide (sp.back=m.back)&&(decide (m.nm = [95])||decide (m.nm=sp.nm)))=true:=by
   have z1:sp.back=m.back:=by
    have:=Classical.not_not.mp h2;injection this with z
    exact z.symm
   have z2:m.nm = [95]\/m.nm=sp.nm:=by
    by_cases z:m.nm = [95]
    .exact .inl z
    .exact .inr (by simpa [z] using h)
   simp [z1,z2]
  have k2:∀H',fh H1 H'->Q (.bl (Ea sp.wt m.sg m.num)) H':=λ H' s'=>by
   have:=k H' (s1.trans s');unfold nU at this;rw [e1,Bool.true_and] at this;exact this
  clear k e1 h h2;refine eY λ N hN=> ?_;walk_at "rd";refine fc Ms rfl (fc Wz rfl ⟨_,rfl,_,rfl,hN _ _ ?_⟩);refine eY λ N hN=> ?_;walk_at "rd";refine fc Ms rfl (fc Wz rfl ⟨_,rfl,_,rfl,hN _ _ ?_⟩);obtain⟨b1,MF⟩:∃b1,decide (sp.wt<m.num)=b1:=⟨_,rfl⟩
  obtain⟨b2,Qh⟩:∃b2,decide (m.num<sp.wt)=b2:=⟨_,rfl⟩
  rw [MF,Qh]
  have go:∀(D D2:Addr) (H2 H3:Hp),H1 D=none->H2=upd H1 D (.lst [.bl true,.bl b1,.bl b2,.bl (!b1 && !b2),.bl (b1||b2)])->H2 D2=none->H3=upd H2 D2 (.lst [.str (tx []),.str (tx [60]),.str (tx [62]),.str (tx [61]),.str (tx [33])])->
    Tq K "list" (V.ref D2) H3/\Fu K (V.ref a) (V.int 3) H3 λ x H4=>∃Tn,H4 D2=some (.lst Tn)/\kb x=true/\Tn.all kb=true/\∃(Nz:Nat) (Tj:V),Tn[Nz]? = some Tj/\xK Tj x=true/\(∀(m:Nat) (z':V),m<Nz->Tn[m]? = some z'->xK z' x=false)/\Ll K (.ref D) (.int Nz) H4 Q:=by
   rintro D D2 H2 H3 hD rfl Eo rfl;have s2:=fh.new (o:=.lst [.bl true,.bl b1,.bl b2,.bl (!b1 && !b2),.bl (b1||b2)]) hD;have n3:=fh.new (o:=.lst [.str (tx []),.str (tx [60]),.str (tx [62]),.str (tx [61]),.str (tx [33])]) Eo;have d3:=n3 D _ eX;have s3:=s2.trans n3;refine⟨gp (fZ.of eX),fc (s3 _ _ Wz) rfl ?_⟩;have kk:=k2 _ s3;have Xu:=om.sg;unfold Ea at kk
   have c3:decide (sp.wt=m.num)=(!b1 && !b2):=by
    rw [<-MF,<-Qh];by_cases h1:sp.wt<m.num
    .simp only [h1,decide_true,dZ,Bool.false_and,decide_eq_false_iff_not];exact Yn h1
    .by_cases h2:m.num<sp.wt
     .simp only [h1,h2,decide_true,decide_false,dZ,Bool.and_false,decide_eq_false_iff_not];exact Ym h2
     .simp only [h1,h2,decide_false,Bool.not_false,Bool.and_true,decide_eq_true_eq];exact Yq (Yi h2) (Yi h1)
   have c4:(!decide (sp.wt=m.num))=(b1||b2):=by
    rw [c3]
    cases b1<;>cases b2<;>rfl
   rw [c3,MF,show decide (sp.wt>m.num)=b2 from Qh] at kk
   have no:∀(sg:List Nat) (j:Nat),[[],[60],[62],[61],[33]][j]? = some sg->∀(i:Nat) (z':V),i<j->[V.str (tx []),V.str (tx [60]),V.str (tx [62]),V.str (tx [61]),V.str (tx [33])][i]? = some z'->xK z' (V.str (tx sg))=false:=by
    intro sg j hj i z' hi hz
    have hj5:j<5:=by
     obtain⟨y,_⟩:=ag.mp hj;exact y
    match j,i,hj5,hi,hj,hz with
    | 1,0,_,_,hj,hz|2,0,_,_,hj,hz|2,1,_,_,hj,hz|3,0,_,_,hj,hz|3,1,_,_,hj,hz|3,2,_,_,hj,hz|4,0,_,_,hj,hz|4,1,_,_,hj,hz|4,2,_,_,hj,hz|4,3,_,_,hj,hz=>
     cases hj
     cases hz;rfl
   have nn:(!(!b1 && !b2))=(b1||b2):=by cases b1<;>cases b2<;>rfl
   rw [nn] at kk;generalize m.sg=sg at kk Xu;simp only [aA,bb,or_false] at Xu;rcases Xu with rfl|rfl|rfl|rfl|rfl
   .exact⟨_,eX,rfl,rfl,0,_,rfl,rfl,no _ _ rfl,fK d3 rfl kk⟩
   .exact⟨_,eX,rfl,rfl,1,_,rfl,rfl,no _ _ rfl,fK d3 rfl kk⟩
   .exact⟨_,eX,rfl,rfl,2,_,rfl,rfl,no _ _ rfl,fK d3 rfl kk⟩
   .exact⟨_,eX,rfl,rfl,3,_,rfl,rfl,no _ _ rfl,fK d3 rfl kk⟩
   .exact⟨_,eX,rfl,rfl,4,_,rfl,rfl,no _ _ rfl,fK d3 rfl kk⟩
  cases b1<;>cases b2
  .walk_at "rd";exact⟨by decide,λ D hD=>⟨by decide,λ D2 Eo=>go D D2 _ _ hD rfl Eo rfl⟩⟩
  .walk_at "rd";exact⟨by decide,λ D hD=>⟨by decide,λ D2 Eo=>go D D2 _ _ hD rfl Eo rfl⟩⟩
  .walk_at "rd";exact⟨by decide,λ D hD=>⟨by decide,λ D2 Eo=>go D D2 _ _ hD rfl Eo rfl⟩⟩
  .walk_at "rd";exact⟨by decide,λ D hD=>⟨by decide,λ D2 Eo=>go D D2 _ _ hD rfl Eo rfl⟩⟩
theorem Fi:fG ["found"] ["found"] (fw u0):=by walk_at "sc"
theorem FH (T:Txt K mg t):f_ P w K mg base (ir P w) 1 t.Bp t.A1 ["found"] (xY):=by
 refine T.HJ.fn.okN Fi (λ ik A outer s H vs Q E hr h=> ?_)
 .obtain⟨n,rfl,k⟩:=h;refine⟨_,Bx.un (eZ (fA (uD (fD jq (by rfl) T.iY bF (a_ (fb 0) (a_ (sZ T.Iw cO) d_))) (mJ (CS (fD jq (by rfl) T.iY bF (a_ (fb 0) (a_ (sZ T.M0 PyProof.Rows.boot_bool) d_)))))))),?_⟩;walk_at "rd";exact⟨_,.int _,_,RM K,jn rfl ⟨_,.int _,_,RN K,k⟩⟩
theorem ip:fG ["cell","many","letters","spread","size","base","at","things","turn","row"] ["cell","many"] (fw sF):=by walk_at "sc"
theorem DO (T:Txt K mg t):f_ P w K mg base (ir P w) 1 t.zx t.y9 ["cell","many"] (vN):=by
 refine T.Eg.fn.okN ip (λ ik A outer s H vs Q E hr h=> ?_)
 .obtain⟨c,n,rfl,n0,n1,k⟩:=h
  refine⟨_,Bx.un (c_ (fu 2 ip.nd fP)
   (c_ (fu 3 ip.nd (fo fU (fb 0) (fo sM b_ b_)))
   (c_ (fu 4 ip.nd (fo gY b_ (fo fU (fb 3) b_)))
   (c_ (jC (i:=5) ip.nd rfl (by walk_at "o") rfl (N:= ["k","spread"]) (fr:= [3]) (tG.of (by kernel_rfl)) (gI rfl T.iz (a_ b_ d_)) (λ _ _ _ _ _=>gu)
    (λ _ _ _ _ _=>(fo fU (fo gY (fo fY (fb 1) b_) (fo qi (fo fU (fo fY (fb 1) b_) b_) (fb 0))) b_)))
   (c_ (fu 6 ip.nd (fo fU (fo fY (fb 3) b_) (fb 4)))
   (c_ (fu 7 ip.nd (gh d_))
   (c_ (gL PassesOwn.never rfl (gI rfl T.iz (a_ (fb 1) d_)) (gb 8 ip.nd)
   (c_ (fu 9 ip.nd (i9 lq (fb 5) jE (jD (fb 4))))
   (c_ (oQ (fo fU (fo gY (eW fJ (fb 5) (fb 6)) (fo qi (fb 8) (fo gY b_ (fo fU (fo fY (fb 3) b_) b_)))) b_) (qW (fb 9) (fb 6) set_list))
   (c_ (fM (fB g8 (fo fU (fb 3) b_) b_ (fI _))
   (eZ (fu 9 ip.nd (i9 lq (fb 5) jE (jD (fo gY (fb 8) b_)))))
   fC)
   (eZ (fQ (iy aH aX aW gR (fb 7) (a_ (iy PySem.F.plainAttrs_str PySem.F.slot_str_join PySem.F.type_str_join HE fP (a_ (iS rfl (N:= ["k","letters"]) (fr:= [2]) (tG.of (by kernel_rfl)) (gi (fb 9)) (λ _ _ _ _ _=>gu)
    (λ _ _ _ _ _=>(eW Gr (fb 1) (fb 0)))) d_)) d_))))))))
   (eZ (fA (fb 7)))))))))),?_⟩
  walk_at "rs";refine eY λ N hN=> ?_;walk_at "rd";refine hN _ _ ?_;refine eY λ N hN=> ?_;walk_at "rd";refine⟨by decide,hN _ _ ?_⟩;generalize c%1000000000=sp;refine eY λ N hN=> ?_;walk_at "rd";refine hN _ _ ?_;obtain⟨sz,hsz,z1,z2⟩:∃sz:Int,1+sp%12=sz/\1<=sz/\sz<=12:=⟨_,rfl,by lia,by lia⟩
  rw [hsz];clear hsz;refine eY λ N hN=> ?_;walk_at "rd";refine⟨_,rfl,by decide,by decide,comp_map (iE (n:=12)) (λ j=>.int ((sp/144+sp/3744%3*(0+(j:Int)))%26)) (fW (by rw [aI];exact Zd rfl)) (λ j H2 Q2 _ _ h=> ?_) λ bs H1 hbs s1 d1=>hN _ _ ?_⟩
  .walk_at "rd";exact⟨.inl (by lia),h _ (fh.refl _)⟩
  obtain⟨js,e1,TF,V_⟩:∃js:List Int,H1 bs=some (.lst (js.map V.int))/\js.length=12/\∀j∈js,0<=j/\j<26:=by
   refine⟨(List.range 12).map λ (j:Nat)=>(sp/144+sp/3744%3*(0+(j:Int)))%26,by rwa [aQ],by simp,λ j hj=> ?_⟩;obtain⟨x,_,rfl⟩:=aE.mp hj;omega
  clear d1;refine eY λ N hN=> ?_;walk_at "rd";refine⟨Ya (by decide) z1,hN _ _ ?_⟩;obtain⟨at_,So,a1,a2⟩:∃at_:Int,sp/12%sz=at_/\0<=at_/\at_<sz:=⟨_,rfl,bN _ (Ym (Ya (by decide) z1)),bI _ (Ya (by decide) z1)⟩
  rw [So];clear So;refine eY λ N hN=> ?_;walk_at "rd";refine⟨aP _,λ ps OM=>hN _ _ ?_⟩;have n1:fh H1 (upd H1 ps (.lst [])):=fh.new OM;have e2:=n1 _ _ e1;have s2:=s1.trans n1;have JM:=s1.free OM;have XC:bs≠ps:=λ z=>by rw [<-z,e1] at OM;cases OM
  have p2:upd H1 ps (.lst []) ps=some (.lst []):=eX;generalize upd H1 ps (.lst [])=H2 at e2 s2 p2;clear e1 n1;have d0:1+sp/11232%2=1\/1+sp/11232%2=2:=by lia
  obtain⟨dl,Va⟩:∃dl:Int,1+sp/11232%2=dl:=⟨_,rfl⟩
  rw [Va] at d0;refine eY λ N hN=> ?_
  refine⟨_,rfl,_,rfl,by lia,by lia,km (n:=n.toNat) (lo:=0) (λ i σ H3=>∃v v',σ = [some (.int c),some (.int n),some (.str (tx EE)),some (.int sp),some (.int sz),some (.ref bs),some (.int at_),some (.ref ps),v,v']/\fh H H3/\H3 bs=some (.lst (js.map V.int))/\H3 ps=some (.lst (((List.range i).map (kh js sz at_ dl (sp%5=4))).map λ l=>.str (tx l))))
   ⟨none,none,rfl,s2,e2,p2⟩ ?_ ?_⟩
  .rintro i σ H3 hi ⟨v,v',rfl,s3,b3,p3⟩;clear hN;walk_at "rg";refine eY λ N2 hN=> ?_;walk_at "rd";refine⟨bs,_,rfl,fZ.of b3,λ r hr=>hN _ _ ?_⟩;rw [vA _ _ (Yc a1 (Yl a2))];have n4:fh H3 (upd H3 r (.lst ((js.take sz.toNat).map V.int))):=fh.new hr;have r4:upd H3 r (.lst ((js.take sz.toNat).map V.int)) r=some (.lst ((js.take sz.toNat).map V.int)):=eX;have s4:=s3.trans n4;have b4:=n4 _ _ b3;have p4:=n4 _ _ p3;have R7:=s3.free hr;have XB:bs≠r:=λ z=>by rw [<-z,b3] at hr;cases hr
   have Xx:ps≠r:=λ z=>by rw [<-z,p3] at hr;cases hr
   clear n4;generalize upd H3 r (.lst ((js.take sz.toNat).map V.int))=H4 at r4 s4 b4 p4;refine eY λ N2 hN=> ?_;walk_at "rd"
   have hz:js[at_.toNat]? = some (js.getD at_.toNat 0):=by
    have:at_.toNat<js.length:=by lia
    rw [bW,bA this];rfl
   rw [Va];refine fK b4 (v:=.int (js.getD at_.toNat 0)) (gn a1 (by rw [ak,hz];rfl)) ⟨.inl (by lia),_,rfl,_,r4,_,qS a1 (by rw [ae,aT];lia),hN _ _ ?_⟩;rw [<-de (f:=V.int),Int.zero_add];have s5:fh H (upd H4 r (.lst (((js.take sz.toNat).set at_.toNat ((js.getD at_.toNat 0+(i:Int)*dl)%26)).map V.int))):=s4.fS R7;have r5:upd H4 r (.lst (((js.take sz.toNat).set at_.toNat ((js.getD at_.toNat 0+(i:Int)*dl)%26)).map V.int)) r=some (.lst (((js.take sz.toNat).set at_.toNat ((js.getD at_.toNat 0+(i:Int)*dl)%26)).map V.int)):=eX;have b5:=(e_ (o:=.lst (((js.take sz.toNat).set at_.toNat ((js.getD at_.toNat 0+(i:Int)*dl)%26)).map V.int)) XB).trans b4;have p5:=(e_ (o:=.lst (((js.take sz.toNat).set at_.toNat ((js.getD at_.toNat 0+(i:Int)*dl)%26)).map V.int)) Xx).trans p4;generalize upd H4 r (.lst (((js.take sz.toNat).set at_.toNat ((js.getD at_.toNat 0+(i:Int)*dl)%26)).map V.int))=H5 at s5 r5 b5 p5;refine eY λ N2 hN=> ?_
   have hM:∀(r':Addr) (kk:List Int) (H6:Hp),fh H5 H6->H6 r'=some (.lst (kk.map V.int))->(∀j∈kk,0<=j/\j<26)->kk.length<=12->kk.map uc=kh js sz at_ dl (sp%5=4) i->N2 [some (.int c),some (.int n),some (.str (tx EE)),some (.int sp),some (.int sz),some (.ref bs),some (.int at_),some (.ref ps),some (.int (i:Int)),some (.ref r')] H6:=by
    intro r' kk H6 s6 r6 Ψ l6 e6;refine hN _ _ ?_;have p6:=s6 _ _ p5;walk_at "rd";refine⟨gp (fZ.of p6),_,rfl,r',rfl,⟨_,fZ.of r6⟩,Ba (fZ.of r6) Ψ (Zc l6 (Zd rfl)) (λ j H7 Q7 h=> ?_) λ D H7 hD s7 d7=>⟨D,_,rfl,rfl,d7,by rw [Dh];exact Zc l6 (Zd rfl),_,s7 _ _ p6,?_,((s5.trans s6).trans s7).fS JM,(e_ XC).trans (s7 _ _ (s6 _ _ b5)),?_⟩⟩
    .walk_at "rd";exact h
    .rw [ae,ae,aI];exact aC (show i<3000 by lia) (fW (by decide))
    .rw [eX,Am,e6,eR,av,av];rfl
   walk_at "rd";refine fO (λ h=>⟨bs,_,rfl,fZ.of b5,λ r2 sR=> ?_⟩) λ h=> ?_
   .rw [vA _ _ Qaw,show ((i:Int)+1).toNat=i+1 from rfl];refine hM r2 (js.take (i+1)) _ (fh.new sR) eX (λ j hj=>V_ j (List.mem_of_mem_take hj)) (by rw [aT];lia) ?_;unfold kh;rw [if_pos h]
   .refine hM r _ H5 (fh.refl _) r5 (λ j hj=> ?_) (by rw [bS,aT];exact Qas TF) ?_
    .rcases bZ hj with z|z
     .exact V_ j (List.mem_of_mem_take z)
     .lia
    .unfold kh;rw [if_neg h]
  .rintro σ H3 ⟨v,v',rfl,s3,b3,p3⟩;refine hN _ _ ?_;walk_at "rd";refine k ps H3 _ JM s3 p3 (by rw [ae,aI]) (IM TF z1 z2 a1 a2 d0 (by lia)) λ l hl=> ?_;obtain⟨i,hi,rfl⟩:=aE.mp hl;exact Fd TF z1 z2 (by have:=aU.mp hi;lia)
theorem BY:fG ["tie","back"] ["tie","back"] (fw qb):=by walk_at "sc"
theorem Cg (T:Txt K mg t):f_ P w K mg base (ir P w) 1 t.wG t.wg ["tie","back"] (tU):=by
 refine T.AS.fn.okN BY (λ ik A outer s H vs Q E hr h=> ?_)
 .obtain⟨a,t,b,rfl,ha,k⟩:=h;refine⟨_,Bx.un (eZ (fA (gj (a_ (eW fk (fb 0) b_) (a_ (eW fk (fb 0) b_) (a_ (fb 1) d_)))))),?_⟩;walk_at "rd";exact fc ha rfl (fc ha rfl ⟨by decide,λ p hp=>k p hp⟩)
theorem BZ:fG ["tie","back"] ["tie","back"] (fw qc):=by walk_at "sc"
theorem Ci (T:Txt K mg t):f_ P w K mg base (ir P w) 1 t.wH t.wj ["tie","back"] (tV):=by
 refine T.AU.fn.okN BZ (λ ik A outer s H vs Q E hr h=> ?_)
 .obtain⟨a,t,b,rfl,ha,k⟩:=h;refine⟨_,Bx.un (eZ (fA (qX (hZ (fb 1)) (eW fk (fb 0) b_) (eW fk (fb 0) b_)))),?_⟩;walk_at "rd";unfold j_ at k
  cases b with
  | true=>exact fc ha rfl k
  | false=>exact fc ha rfl k
theorem Fm:fG ["tie","back"] ["tie","back"] (fw vc):=by walk_at "sc"
theorem FQ (T:Txt K mg t):f_ P w K mg base (ir P w) 1 t.Bw t.A8 ["tie","back"] (ya):=by
 refine T.HU.fn.okN Fm (λ ik A outer s H vs Q E hr h=> ?_)
 .obtain⟨a,t,b,rfl,ha,k⟩:=h;refine⟨_,Bx.un (eZ (fA (qX (hZ (fb 1)) (eW fk (fb 0) b_) (eW fk (fb 0) b_)))),?_⟩;walk_at "rd";unfold i7 at k
  cases b with
  | true=>exact fc ha rfl k
  | false=>exact fc ha rfl k
theorem kF:fG ["web","mark","back","found","number","tie"] ["web","mark"] (fw sC):=by walk_at "sc"
theorem DL (T:Txt K mg t):f_ P w K mg base (ir P w) 3 t.zv t.yY ["web","mark"] (vL t):=by
 have G2:=(DR (P:=P) (w:=w) (base:=base) T).mono (show 1<=2 by decide);have Km:=FT (P:=P) (w:=w) (base:=base) T;have Td:=Oz (P:=P) (w:=w) (base:=base) T;have EO:=(Cg (P:=P) (w:=w) (base:=base) T).mono (show 1<=2 by decide);have Kk:=(FQ (P:=P) (w:=w) (base:=base) T).mono (show 1<=2 by decide);have ER:=(Ci (P:=P) (w:=w) (base:=base) T).mono (show 1<=2 by decide);refine T.DX.fn.okN kF (λ ik A outer s H vs Q E hr h=> ?_)
 .obtain⟨p,mk,W,m,rfl,w,iD,hm,k⟩:=h
  refine⟨_,Bx.un (c_ (fu 2 kF.nd (eW fk (fb 1) b_))
   (c_ (fu 3 kF.nd jP)
   (c_ (gL PassesOwn.never rfl (gi (CT (fb 0) T.iA T.EI G2 hr fE)) (gb 4 kF.nd)
   (c_ (fu 5 kF.nd (iL (fb 0) T.iA T.IA Km hr fE (a_ (fb 4) d_)))
   (eZ (fM (hZ (fF T.fits Td hr fE (a_ (fb 1) (a_ (fF T.AS EO hr fE (a_ (fb 5) (a_ (fb 2) d_))) d_))))
   (eZ (fQ (iy aH aX aW gR (Bg (fb 3) (fF T.AU ER hr fE (a_ (fb 5) (a_ (fb 2) d_))) (gh d_)) (a_ (gj (a_ (fb 4) (a_ (fF T.HU Kk hr fE (a_ (fb 5) (a_ (fb 2) d_))) d_))) d_))))
   fC))))
   (eZ (fA (fb 3)))))),?_⟩
  walk_at "rs";refine eY λ N hN=> ?_;walk_at "rd";refine fc hm rfl (hN _ _ ?_);refine eY λ N hN=> ?_;walk_at "rd";refine λ d hd=>hN _ _ ?_;have g0:xn H (upd H d (.dK [])) d 0 0 (me W.fL m) []:=⟨eX,ay _,by simp,λ p hp=>nomatch hp⟩
  have s0:fh H (upd H d (.dK [])):=fh.new hd;generalize upd H d (.dK [])=H1 at g0 s0;refine eY λ N hN=> ?_;have w1:=w.same s0
  refine⟨_,rfl,_,_,_,rfl,w1.obj,rfl,p,W,rfl,w1,λ la Np=>⟨la,rfl,⟨_,fZ.of eX⟩,iG (xs:=(W.fL.map (·.1)).map V.int) (λ i σ H2=>∃v v' kvs,σ = [some (.ref p),some (.ref mk),some (.bl m.back),some (.ref d),v,v']/\fh H H2/\H2 la=some (.lst ((W.fL.map (·.1)).map V.int))/\xn H H2 d i i (me W.fL m) kvs/\(∀p∈kvs,p.2≠V.ref la)/\jh (W.fL.take i) m H2 kvs)
   ⟨none,none,[],rfl,s0.fS (s0.free Np),eX,g0.same (fh.new Np),(λ p hp=>nomatch hp),jh.none⟩ (λ i σ H2 _ hz=>by obtain⟨v,v',kvs,_,_,l2,_⟩:=hz;exact fZ.of l2) ?_ ?_⟩⟩
  .rintro i x σ H2 hx ⟨v,v',kvs,rfl,s2,l2,g2,o2,f2⟩;clear hN;walk_at "rg";rw [ak,ak,Option.map_map] at hx;obtain⟨⟨num,a,fX⟩,rS,rfl⟩:=Option.map_eq_some_iff.mp hx;have mem:=ai rS;clear hx;have w2:=w.same s2;dsimp only [Function.comp];refine eY λ N2 hN=> ?_;walk_at "rd";refine⟨_,_,w2.obj,rfl,p,W,num,rfl,w2,?_⟩;rw [if_pos (aE.mpr ⟨_,mem,rfl⟩)];intro a' NI XI;have e:=yA w.nums mem XI rfl
   cases e;refine hN _ _ ?_;walk_at "rd";have ú:i<63:=aC (ag.mp rS).1 iD;refine⟨a,fX,m.back,rfl,w2.i5 _ mem,λ q hq=> ?_⟩;have n3:fh H2 (upd H2 q (.tup (Hj ⟨fX.name,fX.weight,m.back⟩))):=fh.new hq;have q3:upd H2 q (.tup (Hj ⟨fX.name,fX.weight,m.back⟩)) q=some (.tup (Hj ⟨fX.name,fX.weight,m.back⟩)):=eX;have s3:=s2.trans n3;have l3:=n3 _ _ l2;have g3:=g2.same n3;have f3:=f2.same n3;have tk:=ic rS;have a3:=n3 _ _ (w2.i5 _ mem);generalize upd H2 q (.tup (Hj ⟨fX.name,fX.weight,m.back⟩))=H3 at n3 q3 s3 l3 g3 f3 a3;refine⟨mk,q,m,_,rfl,s3 _ _ hm,q3,_,rfl,fO (λ ft=> ?_) λ ft=>⟨s3,l3,kvs,g3.weak (cf _) (cf _),o2,by rw [tk];exact f3.skip (by simpa using ft)⟩⟩;refine⟨.inl ⟨_,.inl g3.at_⟩,a,fX,m.back,rfl,a3,aP _,λ l hl=> ?_⟩;have n4:fh H3 (upd H3 l (.lst [])):=fh.new hl;have q4:upd H3 l (.lst []) l=some (.lst []):=eX;have s4:=s3.trans n4;have l4:=n4 _ _ l3;have g4:=g3.same n4;have f4:=f3.same n4;have a4:=n4 _ _ a3
   have new:∀p∈kvs,p.2≠V.ref l:=λ p hp z=>by
    obtain⟨k',l',ys,e,f,h,_⟩:=g3.row p hp;rw [e] at z
    cases z;rw [h] at hl
    cases hl
   have ω:la≠l:=λ z=>by rw [z,hl] at l3;cases l3
   have fl:H l=none:=s3.free hl;generalize upd H3 l (.lst [])=H4 at n4 q4 s4 l4 g4 f4 a4;have ok:me W.fL m (j_ fX m.back) num (i7 fX m.back):=⟨a,fX,mem,ft,rfl,rfl⟩
   have last:∀(kvs:List (Key×V)) (n:Nat) (H5:Hp) (l':Addr) (ys:List V),fh H H5->H5 la=some (.lst ((W.fL.map (·.1)).map V.int))->xn H H5 d n i (me W.fL m) kvs->jh (W.fL.take i) m H5 kvs->n<=i+1->gT kvs (.inr (tx (j_ fX m.back)))=some (.ref l')->H5 l'=some (.lst ys)->ys.length<=i->H l'=none->(∀p∈kvs,p.2≠V.ref la)->∀b,H5 b=none->
     ∃x,upd H5 b (.tup [.int num,.str (tx (i7 fX m.back))]) l'=some (.lst x)/\x.length<sizeLine/\fh H (upd (upd H5 b (.tup [.int num,.str (tx (i7 fX m.back))])) l' (.lst (x ++ [.ref b])))/\upd (upd H5 b (.tup [.int num,.str (tx (i7 fX m.back))])) l' (.lst (x ++ [.ref b])) la=some (.lst ((W.fL.map (·.1)).map V.int))/\
      ∃kvs,xn H (upd (upd H5 b (.tup [.int num,.str (tx (i7 fX m.back))])) l' (.lst (x ++ [.ref b]))) d (i+1) (i+1) (me W.fL m) kvs/\(∀p∈kvs,p.2≠V.ref la)/\jh (W.fL.take (i+1)) m (upd (upd H5 b (.tup [.int num,.str (tx (i7 fX m.back))])) l' (.lst (x ++ [.ref b]))) kvs:=by
    intro kvs n H5 l' ys s5 l5 g5 f5' hn hv h5 z5 f5 o5 b hb;have n6:fh H5 (upd H5 b (.tup [.int num,.str (tx (i7 fX m.back))])):=fh.new hb;have q6:upd H5 b (.tup [.int num,.str (tx (i7 fX m.back))]) b=some (.tup [.int num,.str (tx (i7 fX m.back))]):=eX;generalize upd H5 b (.tup [.int num,.str (tx (i7 fX m.back))])=H6 at n6 q6;refine⟨ys,n6 _ _ h5,bV z5 (aC (show i<100 from Za ú (Zd rfl)) (fW (by decide))),(s5.trans n6).fS f5,?_,kvs,((g5.same n6).grow hv (n6 _ _ h5) q6 ok).weak hn (ay _),o5,by rw [tk];exact(f5'.same n6).grow hv (n6 _ _ h5) q6⟩;rw [e_ (λ z=>o5 _ (nC hv) (by rw [z]))];exact n6 _ _ l5
   refine⟨kvs,g4.at_,.inr (tx (j_ fX m.back)),rfl,bV g4.len (aC (show i<100 from Za ú (Zd rfl)) (fW (by decide))),λ v hv=> ?_,λ hv=> ?_⟩
   .obtain⟨l',ys,rfl,f',h',z',r'⟩:=g4.there hv;exact⟨gp (fZ.of h'),a,fX,m.back,rfl,a4,by decide,λ b hb=>⟨l',rfl,last kvs i H4 l' ys s4 l4 g4 f4 (cf _) hv h' z' f' o2 b hb⟩⟩
   .have g5:=g4.put hv fl q4 new
    have dk:∀c (o:HO),(∀z,o≠.dK z)->H4 c=some o->upd H4 d (.dK (putK kvs (.inr (tx (j_ fX m.back))) (.ref l))) c=some o:=λ c o no e=>by
     rwa [e_ (gN e g4.at_ (no _))]
    have h5:=dk l _ (λ z h=>by cases h) q4;refine⟨gp (fZ.of h5),a,fX,m.back,rfl,dk _ _ (λ z h=>by cases h) a4,by decide,λ b hb=>last _ _ _ l [] (s4.fS hd) (dk _ _ (λ z h=>by cases h) l4) g5 (f4.put g4.at_ hv) (ay _) (by rw [Dj,if_pos rfl]) h5 (aP _) fl (λ p hp=> ?_) b hb⟩;rw [lW _ hv] at hp;rcases ax.mp hp with hp|hp
    .exact o2 p hp
    .rw [ao.mp hp];exact λ z=>ω (by cases z;rfl)
  .rintro σ H2 ⟨v,v',kvs,rfl,s2,l2,g2,o2,f2⟩;refine hN _ _ ?_;walk_at "rd";rw [ae,ae] at g2;rw [ae,ae,bh] at f2;exact k d H2 kvs hd s2 (g2.weak iD iD) f2
theorem kz:fG ["web","made","start","moves","entries","seen","place","entry","room","number","thing"] ["web","made","start"] (fw Fp):=by walk_at "sc"
theorem OA (T:Txt K mg t):f_ P w K mg base (ir P w) 4 t.M4 t.MO ["web","made","start"] (Hl t):=by
 have xo:=(vk (P:=P) (w:=w) (base:=base) T).mono (show 1<=3 by decide);have GZ:=DL (P:=P) (w:=w) (base:=base) T;refine T.book.fn.okN kz (λ ik A outer s H vs Q E hr h=> ?_)
 .obtain⟨p,a,W,M,st,rfl,w,pM,iD,Dm,hM,ok,k⟩:=h
  refine⟨_,Bx.un (c_ (fM (jw (hZ (iL (fb 0) T.iA T.sj xo hr fE (a_ (fb 2) d_))))
   (eZ J')
   fC)
   (c_ (jC (i:=3) kz.nd rfl (by walk_at "o") rfl (N:= ["mark","web"]) (fr:= [0]) (tG.of (by kernel_rfl)) (gi (eW fk (fb 1) (jx T.Ik))) (λ _ _ _ _ _=>gu)
    (λ _ _ _ _ _=>(fF T.DX GZ hr fE (a_ (fb 1) (a_ (fb 0) d_)))))
   (c_ (fu 4 kz.nd (gh (a_ (gj (a_ (fb 2) (a_ b_ (a_ b_ (a_ (CQ BF b_) (a_ (CQ BF b_) d_)))))) d_)))
   (c_ (fu 5 kz.nd (Kc (j4 hr) (gj (a_ (fb 2) (a_ b_ d_))) jc))
   (c_ (fu 6 kz.nd b_)
   (c_ (Bd PassesOwn.never (fB ph (fb 6) (fD fH (by rfl) T.gW PySem.boot_len (a_ (fb 4) d_)) (fI _))
   (c_ (fu 7 kz.nd (eW fJ (fb 4) (fb 6)))
   (c_ (gL PassesOwn.never rfl (gi (eW fJ (eW fk (fb 1) (jx T.J8)) (eW fk (fb 7) b_))) (gb 8 kz.nd)
   (eZ (gL PassesOwn.never rfl (gi (Kd (j4 hr) (eW fJ (fb 3) (fo mY (fb 8) b_)) (eW fk (fb 7) b_) (gh d_))) (CP rfl (lH (gb 9 kz.nd) (lH (gb 10 kz.nd) zo)))
   (eZ (fM (qV (oR (j4 hr) (gj (a_ (fb 10) (a_ (fb 8) d_))) (fb 5)))
   (c_ (nY (j4 hr) (fb 5) (gj (a_ (fb 10) (a_ (fb 8) d_))) jc)
   (eZ (fQ (iy aH aX aW gR (fb 4) (a_ (gj (a_ (fb 10) (a_ (fb 8) (a_ (fo gY (eW fk (fb 7) b_) b_) (a_ (fb 9) (a_ (fb 6) d_)))))) d_)))))
   fC)))))
   (eZ (fu 6 kz.nd (fo gY (fb 6) b_))))))
   (eZ (fA (fb 4))))))))),?_⟩
  walk_at "rs";obtain⟨xm,xf,xe,ha,hm,hf,he⟩:=hM.at_;refine eY λ N hN=> ?_;walk_at "rd";refine⟨_,_,w.obj,rfl,p,W,st,rfl,w,_,rfl,?_⟩;rw [decide_eq_true pM];refine hN _ _ ?_;refine eY λ N hN=> ?_;walk_at "rd";obtain⟨as,Wq,al⟩:=hm
  have T0:Tells (Qr K xm) H ((as.zip M.iR).map λ c=>V.ref c.1):=by
   have e:(as.zip M.iR).map (λ c=>V.ref c.1)=as.map V.ref:=by
    rw [show (λ c:Addr×jQ=>V.ref c.1)=V.ref∘Prod.fst from rfl,<-aQ,List.map_fst_zip (by rw [al.len];exact ay _)]
   rw [e];exact gH (fZ.of Wq)
  have lm:=ok.iD;refine⟨_,rfl,_,_,_,_,rfl,rfl,oh.of ha,rfl,xm,rfl,⟨_,fZ.of Wq⟩,SV T0 (λ D H2 c v=>∃(Hb:Hp) (d:Addr) (kvs:List (Key×V)),v=V.ref d/\Hb D≠none/\xn Hb H2 d 63 63 (me W.fL c.2) kvs/\jh W.fL c.2 H2 kvs) (λ D c v H2 H3 s ⟨Hb,d,kvs,e,h1,h2,h3⟩=>⟨Hb,d,kvs,e,h1,h2.same s,h3.same s⟩) (fW (by rw [b9];lia)) (λ D c H2 ys Q2 hc s2 hD h=> ?_) (λ H2 c v D ys zs hD ⟨Hb,d,kvs,e,h1,h2,h3⟩=>⟨Hb,d,kvs,e,h1,h2.off hD h1,h3.off h2 hD h1⟩) λ pm H2 ys Ć s2 d2 all=>hN _ _ ?_⟩
  .walk_at "rd";obtain⟨h1,h2⟩:=al.zip c hc;exact⟨p,c.1,W,c.2,rfl,w.same s2,iD,s2 _ _ h1,λ d H3 kvs hd s3 g3 f3=>h (.ref d) H3 s3 ⟨H2,d,kvs,rfl,(by rw [hD];exact λ z=>nomatch z),g3,f3⟩⟩
  clear hN N T0
  have mv:∀(i:Nat) (mk:jQ),M.iR[i]? = some mk->∃(Hb:Hp) (d:Addr) (kvs:List (Key×V)),ys[i]? = some (V.ref d)/\xn Hb H2 d 63 63 (me W.fL mk) kvs/\jh W.fL mk H2 kvs:=by
   intro i mk hi;obtain⟨x,hx,_⟩:=al.at hi
   have hz:(as.zip M.iR)[i]? = some (x,mk):=by
    rw [List.getElem?_zip_eq_some];exact⟨hx,hi⟩
   have ly:ys.length=(as.zip M.iR).length:=all.len.symm;have il:=(ag.mp hz).1;obtain⟨Hb,d,kvs,e,_,g,f⟩:=all.get hz (show ys[i]? = some (ys[i]'(Za il (Zg ly))) by simp);exact⟨Hb,d,kvs,by rw [<-e];simp,g,f⟩
  clear all;have w2:=w.same s2;have a2:=s2 _ _ ha;have f2:=hf.same s2;refine eY λ N hN=> ?_;walk_at "rd";refine⟨by decide,λ b0 TX=>⟨by decide,λ qe TM=>hN _ _ ?_⟩⟩;have n3:fh H2 (upd H2 b0 (.tup [.str (tx st),.int 0,.int 0,.int (-1),.int (-1)])):=fh.new TX;have fe:H2 qe=none:=n3.free TM;have E3:oW (upd (upd H2 b0 (.tup [.str (tx st),.int 0,.int 0,.int (-1),.int (-1)])) qe (.lst [.ref b0])) qe [⟨st,0,0,-1,-1⟩]:=⟨[b0],eX,.cons ((e_ (λ z=>by rw [<-z,eX] at TM;cases TM)).trans eX) .nil⟩
  have s3:fh H2 (upd (upd H2 b0 (.tup [.str (tx st),.int 0,.int 0,.int (-1),.int (-1)])) qe (.lst [.ref b0])):=n3.trans (fh.new TM);generalize upd (upd H2 b0 (.tup [.str (tx st),.int 0,.int 0,.int (-1),.int (-1)])) qe (.lst [.ref b0])=H3 at E3 s3;refine eY λ N hN=> ?_;walk_at "rd";refine λ qs Wj=>⟨by decide,λ b1 Ms=> ?_⟩
  have q1:qs≠b1:=λ z=>by rw [<-z,eX] at Ms;cases Ms
  refine⟨(e_ q1).trans eX,m7 (st,0),eX,hN _ _ ?_⟩;have fs:H2 qs=none:=s3.free Wj;have n4:fh H3 (upd (upd (upd H3 qs (.dT [])) b1 (.tup [.str (tx st),.int 0])) qs (.dT (putK [] (m7 (st,0)) (.bl true)))):=((fh.new Wj).trans (fh.new Ms)).fS Wj
  have B4:xt H2 (upd (upd (upd H3 qs (.dT [])) b1 (.tup [.str (tx st),.int 0])) qs (.dT (putK [] (m7 (st,0)) (.bl true)))) qe qs M.iR (Goes W) st (W.vals.map (·.1)) [⟨st,0,0,-1,-1⟩]:=
   ⟨s3.trans n4,E3.same n4,eX,iC.one,by simp,λ e he=>by rwa [ao.mp he]⟩
  generalize upd (upd (upd H3 qs (.dT [])) b1 (.tup [.str (tx st),.int 0])) qs (.dT (putK [] (m7 (st,0)) (.bl true)))=H4 at B4;clear n4 Ms q1 Wj E3 s3 TM n3;refine eY λ N hN=> ?_;walk_at "rd";refine hN _ _ ?_;refine eY λ N hN=> ?_;have lt:(W.vals.map (·.1)).length<=100:=by rw [ae];exact w.iD
  refine Ky (λ σ H5=>∃(es:List En) (pl:Nat) (v1 v2 v3 v4:Option V),σ = [some (.ref p),some (.ref a),some (.str (tx st)),some (.ref pm),some (.ref qe),some (.ref qs),some (.int pl),v1,v2,v3,v4]/\xt H2 H5 qe qs M.iR (Goes W) st (W.vals.map (·.1)) es/\gQ (jB M) (uK W M) es pl)
   (λ σ _=>2600-Xp σ) ⟨_,0,none,none,none,none,rfl,B4,gQ.one⟩ ?_ ?_
  .rintro σ H5 ⟨es,pl,v1,v2,v3,v4,rfl,B5,F5⟩;have Vl:=B5.iD lt lm;walk_at "rd";obtain⟨S3,Nu,Ah⟩:=id B5.ents;refine⟨_,.inl (fZ.of Nu),fO (λ iJ=> ?_) λ hge=> ?_⟩
   rotate_left
   .refine hN _ _ ?_;walk_at "rd"
    have ge:es.length<=pl:=by
     rw [ae,Ah.len] at hge;lia
    exact k qe H5 es (s2.free fe) (s2.trans B5.old) B5.ents B5.ok Vl B5.th B5.nd (F5.Xc ge)
   clear hN
   have ß:pl<es.length:=by
    rw [ae,Ah.len] at iJ;exact Int.ofNat_lt.mp iJ
   obtain⟨e,EX⟩:∃e,es[pl]? = some e:=⟨es[pl],by simp⟩
   obtain⟨be,JR,Ks⟩:=Ah.at EX;refine fK Nu (qZ (by rw [ak,JR];rfl)) ?_;obtain⟨r0,r1⟩:=B5.ok.rm EX;obtain⟨l,hl⟩:∃l,M.j8[e.rm.toNat]? = some l:=⟨M.j8[e.rm.toNat]'(by have:=ok.lf;exact Qac r1 this),by simp⟩
   obtain⟨xs,xr,h1,h2,h3⟩:=(f2.same B5.old).get hl;obtain⟨_,È,WE,WD,h3'⟩:=f2.get hl
   have exr:È=xr:=by
    have:=B5.old _ _ WE;rw [h1] at this
    cases this;rw [h2] at WD
    cases WD;rfl
   subst exr
   refine⟨_,rfl,_,_,_,_,rfl,rfl,oh.of (B5.old _ _ a2),rfl,_,rfl,_,_,_,_,rfl,rfl,oh.of Ks,rfl,_,_,_,_,rfl,rfl,fZ.of h1,gn r0 h2,È,rfl,⟨_,fZ.of h3⟩,iG (xs:=l.map V.int) (λ i σ H6=>∃(es:List En) (v2 v3 v4:Option V),σ = [some (.ref p),some (.ref a),some (.str (tx st)),some (.ref pm),some (.ref qe),some (.ref qs),some (.int pl),some (.ref be),v2,v3,v4]/\xt H2 H6 qe qs M.iR (Goes W) st (W.vals.map (·.1)) es/\es[pl]? = some e/\H6 be=some (.tup (J3 e))/\gQ (jB M) (uK W M) es pl/\∀r∈l.take i,∀num to,uK W M r e.th num to->(to,r)∈es.map iN)
    ⟨es,v2,v3,v4,rfl,B5,EX,Ks,F5,λ r hr=>nomatch hr⟩ (λ i σ H6 _ hz=>by obtain⟨es,v2,v3,v4,_,B6,_⟩:=hz;exact fZ.of (B6.old _ _ h3')) ?_ ?_⟩
   .clear Vl Nu Ah iJ ß EX JR Ks h1 h2 h3 B5 WE F5;clear es S3;rintro i0 x σ H6 hx ⟨es,v2,v3,v4,rfl,B6,EX,Ks,F6,D6⟩;walk_at "rg";rw [ak] at hx;obtain⟨r,hr,rfl⟩:=Option.map_eq_some_iff.mp hx;have tk:=ic hr
    have hrl:r∈jB M e.rm:=by
     unfold jB;rw [hl];exact ai hr
    obtain⟨g0,g1⟩:=ok.wQ l (ai hl) r (ai hr);clear hx;obtain⟨mk,El⟩:∃mk,M.iR[(r-1).toNat]? = some mk:=⟨M.iR[(r-1).toNat]'(QaD g0 g1),by simp⟩
    obtain⟨Hb,d,kvs,hys,gm,fm⟩:=mv _ mk El;have ZE:=gm.same B6.old;refine⟨_,rfl,_,rfl,_,_,rfl,rfl,_,_,_,_,rfl,rfl,fZ.of (B6.old _ _ d2),gn (Int.sub_nonneg_of_le g0) hys,d,rfl,.inl ⟨_,.inl ZE.at_⟩,_,rfl,_,_,_,_,rfl,rfl,oh.of Ks,rfl,aP _,λ lz hlz=> ?_⟩;have n7:fh H6 (upd H6 lz (.lst [])):=fh.new hlz;have z7:upd H6 lz (.lst []) lz=some (.lst []):=eX;have B7:=B6.same n7;have SO:=n7 _ _ Ks;generalize upd H6 lz (.lst [])=H7 at n7 z7 B7 SO;have ĝ:=ZE.same n7;refine⟨_,lB.k (k:=.inr (tx e.th)) ĝ.at_,?_⟩
    obtain⟨lw,zs,ew,X7,hw,good,full⟩:∃(lw:Addr) (zs:List V),(gT kvs (.inr (tx e.th))).getD (.ref lz) = .ref lw/\H7 lw=some (.lst zs)/\(H2 lw=some (.lst zs)\/zs = [])/\(∀y∈zs,∃b num to,y = .ref b/\H2 b=some (.tup [.int num,.str (tx to)])/\me W.fL mk e.th num to)/\∀num to,me W.fL mk e.th num to->∃b,V.ref b∈zs/\H2 b=some (.tup [.int num,.str (tx to)]):=by
     cases hv:gT kvs (.inr (tx e.th)) with
     | none=>
      refine⟨lz,[],rfl,z7,.inr rfl,(λ y hy=>nomatch hy),λ num to hg=> ?_⟩;obtain⟨a',fX,mt,ft,ek,et⟩:=hg;obtain⟨l',_,_,e1,_⟩:=fm num a' fX mt ft;rw [ek,hv] at e1
      cases e1
     | some v=>
      obtain⟨l',zs,rfl,_,h',_,r'⟩:=gm.there hv;refine⟨l',zs,rfl,n7 _ _ (B6.old _ _ h'),.inl h',r',λ num to hg=> ?_⟩;obtain⟨a',fX,mt,ft,ek,et⟩:=hg;obtain⟨l'',us,b',e1,e2,e3,e4⟩:=fm num a' fX mt ft;rw [ek,hv] at e1
      cases e1;rw [h'] at e2
      cases e2;exact⟨b',e3,by rw [e4,et]⟩
    refine⟨lw,ew,⟨_,fZ.of X7⟩,iG (xs:=zs) (λ i σ H8=>∃(es:List En) (v3 v4:Option V),σ = [some (.ref p),some (.ref a),some (.str (tx st)),some (.ref pm),some (.ref qe),some (.ref qs),some (.int pl),some (.ref be),some (.int r),v3,v4]/\xt H2 H8 qe qs M.iR (Goes W) st (W.vals.map (·.1)) es/\es[pl]? = some e/\H8 be=some (.tup (J3 e))/\H8 lw=some (.lst zs)/\gQ (jB M) (uK W M) es pl/\(∀r∈l.take i0,∀num to,uK W M r e.th num to->(to,r)∈es.map iN)/\∀b num to,V.ref b∈zs.take i->H2 b=some (.tup [.int num,.str (tx to)])->(to,r)∈es.map iN)
     ⟨es,v3,v4,rfl,B7,EX,SO,X7,F6,D6,λ b num to hb=>nomatch hb⟩ (λ i σ H8 _ hz=>by obtain⟨es,v3,v4,_,B8,_,_,h8,_⟩:=hz;exact fZ.of h8) ?_ ?_⟩
    .clear EX Ks SO X7 B6 B7 ZE ĝ n7 z7 F6 D6;clear es;rintro j x σ H8 hx ⟨es,v3,v4,rfl,B8,EX,Ks,h8,F8,D8,E8⟩;have Ž:=ic hx;have hw2:H2 lw=some (.lst zs):=hw.resolve_right λ z=>by rw [z] at hx;cases hx
     obtain⟨b,num,to,rfl,hb,go⟩:=good x (ai hx);have aah:=B8.iD lt lm;refine⟨b,_,rfl,oh.of (B8.old _ _ hb),rfl,?_⟩;refine⟨_,_,rfl,_,_,rfl,rfl,?_⟩;dsimp only [pj,dh,di];refine Cj λ N9 ę=> ?_;walk_at "rd"
     have ā:to∈W.vals.map (·.1):=by
      obtain⟨_,fX,mt,_,_,rfl⟩:=go;unfold i7
      split
      .exact(Dm _ mt).1
      .exact(Dm _ mt).2
     have goB:Goes W mk.back e.th num to:=let ⟨a',fX,mt,_,e1,e2⟩:=go;⟨a',fX,mt,e1,e2⟩;refine⟨by decide,λ b1 Ms=> ?_⟩;have n9:fh H8 (upd H8 b1 (.tup [.str (tx to),.int r])):=fh.new Ms;have q9:upd H8 b1 (.tup [.str (tx to),.int r]) b1=some (.tup ((m7 (to,r)).map kV)):=eX;have B9:=B8.same n9;have SN:=n9 _ _ Ks;have h9:=n9 _ _ h8;generalize upd H8 b1 (.tup [.str (tx to),.int r])=H9 at n9 q9 B9 SN h9;refine⟨_,lB.t (k:=m7 (to,r)) B9.seen q9,?_⟩;rw [Ay]
     have Nj:∀(EZ:List En),(∀s,s∈es.map iN->s∈EZ.map iN)->(to,r)∈EZ.map iN->(∀r∈l.take i0,∀num to,uK W M r e.th num to->(to,r)∈EZ.map iN)/\∀b num to,V.ref b∈zs.take (j+1)->H2 b=some (.tup [.int num,.str (tx to)])->(to,r)∈EZ.map iN:=by
      intro EZ sub hh;refine⟨λ r hr num to hg=>sub _ (D8 r hr num to hg),λ b' RB Í xI ZW=> ?_⟩;rw [Ž] at xI;rcases ax.mp xI with z|z
      .exact sub _ (E8 b' RB Í z ZW)
      .cases ao.mp z;rw [hb] at ZW
       have e2:tx to=tx Í:=by
        injection ZW with q
        injection q with q
        injection q with _ q
        injection q with q
        injection q
       rwa [<-iK.mp e2]
     refine fO (λ hn=> ?_) λ Nr=>ę _ _ ⟨es,_,_,rfl,B9,EX,SN,h9,F8,Nj es (λ s h=>h) (by simpa using Nr)⟩;have new:(to,r)∉es.map iN:=of_decide_eq_false hn;refine⟨by decide,λ b2 OS=> ?_⟩;have F9:fh H9 (upd H9 b2 (.tup [.str (tx to),.int r])):=fh.new OS;have PH:upd H9 b2 (.tup [.str (tx to),.int r]) b2=some (.tup ((m7 (to,r)).map kV)):=eX;have VT:=B9.same F9;have Qg:=F9 _ _ SN;generalize upd H9 b2 (.tup [.str (tx to),.int r])=E4 at F9 PH VT Qg
     have off:∀c (o:HO),(∀z,o≠.dT z)->E4 c=some o->upd E4 qs (.dT (putK (j9 es) (m7 (to,r)) (.bl true))) c=some o:=λ c o no hc=>by
      rwa [e_ (gN hc VT.seen (no _))]
     have Qf:=off _ _ (λ z q=>by cases q) Qg;refine⟨_,xq.t (k:=m7 (to,r)) VT.seen PH (aC (show (j9 es).length<3000 by unfold j9;rw [ae];exact Zb aah (Zd rfl)) (fW (by decide))),?_,fc Qf rfl ⟨_,rfl,by decide,λ b3 Wx=> ?_⟩⟩
     .obtain⟨as,ha,_⟩:=VT.ents;exact gp (fZ.of (off _ _ (λ z q=>by cases q) ha))
     obtain⟨xs,hx,lx,ũ⟩:=VT.put (e:=⟨to,r,e.mr+1,num,pl⟩) new fe fs rfl EX rfl g0 El goB ā Wx;refine⟨xs,hx,aC (show xs.length<3000 from Zb (Ze lx) (Zb aah (Zd rfl))) (fW (by decide)),ę _ _ ⟨_,_,_,rfl,ũ,by rwa [aR (ag.mp EX).1],?_,ũ.old _ _ hw2,F8.push EX rfl rfl hrl ⟨mk,El,go⟩,Nj _ (λ s h=>by rw [av];exact aN _ h) (by rw [av];exact aB _ (by simp [iN]))⟩⟩
     have c1:upd (upd E4 qs (.dT (putK (j9 es) (m7 (to,r)) (.bl true)))) b3 (.tup [.str (tx to),.int r,.int (e.mr+1),.int num,.int pl]) be=some (.tup (J3 e)):=by
      rwa [e_ (fq Qf Wx)]
     rwa [e_ (gN c1 hx (λ z=>nomatch z))]
    .rintro σ H8 ⟨es,v3,v4,rfl,B8,EX,Ks,h8,F8,D8,E8⟩;walk_at "rd";refine⟨es,B8,EX,Ks,F8,λ r' Ą num to hg=> ?_⟩;rw [tk] at Ą;rcases ax.mp Ą with z|z
     .exact D8 r' z num to hg
     .rw [ao.mp z] at hg⊢;obtain⟨mk',U6,hg⟩:=hg;rw [El] at U6
      cases U6;obtain⟨b',Ms,OS⟩:=full num to hg;exact E8 b' num to (by rwa [bh]) OS
   .rintro σ H6 ⟨es,v2,v3,v4,rfl,B6,EX,Ks,F6,D6⟩;walk_at "rd";rw [ae,bh] at D6;refine⟨⟨es,pl+1,by rw [Int.natCast_succ],B6,F6.next EX λ r hr=>D6 r (by unfold jB at hr;rw [hl] at hr;exact hr)⟩,?_⟩;show 2600-((pl:Int)+1).toNat<2600-((pl:Int)).toNat;lia
  .intro σ H5 Q1 Q2 hq;walk_at "rd";rintro⟨v,e1,v1,e2,q,e3,x,e4,i,e5,e6⟩;exact⟨v,e1,v1,e2,q,e3,x,e4,i,e5,hq _ _ e6⟩
theorem nI:fG ["made","entries","place","way","entry","mark"] ["made","entries","place"] (fw yl):=by walk_at "sc"
theorem Jr (T:Txt K mg t):f_ P w K mg base (ir P w) 1 t.EF t.Eu ["made","entries","place"] (As):=by
 refine T.KG.fn.okN nI (λ ik A outer s H vs Q E hr h=> ?_)
 .obtain⟨a,q,M,st,good,es,k,rfl,hM,ok,hE,bo,iD,kl,kk⟩:=h
  refine⟨_,Bx.un (c_ (fu 3 nI.nd (gh d_))
   (c_ (fu 4 nI.nd (eW fJ (fb 1) (fb 2)))
   (c_ (Bd PassesOwn.never (fB LP (eW fk (fb 4) b_) b_ (fI _))
   (c_ (fu 5 nI.nd (eW fJ (eW fk (fb 0) (jx T.Ik)) (fo mY (eW fk (fb 4) b_) b_)))
   (c_ (fQ (iy aH aX aW gR (fb 3) (a_ (gj (a_ (eW fk (fb 4) b_) (a_ (eW fk (fb 5) b_) d_))) d_)))
   (eZ (fu 4 nI.nd (eW fJ (fb 1) (eW fk (fb 4) b_)))))))
   (c_ (fQ (uC aH PySem.F.slot_list_reverse PySem.F.type_list_reverse F_ (fb 3)))
   (eZ (fA (fb 3))))))),?_⟩
  walk_at "rs";obtain⟨xm,xf,xe,ha,hm,hf,he⟩:=hM.at_;obtain⟨as,hq,al⟩:=id hE;obtain⟨ams,Wq,xO⟩:=hm;refine eY λ N hN=> ?_;walk_at "rd";refine⟨aP _,λ wl P9=>hN _ _ ?_⟩;have s1:fh H (upd H wl (.lst [])):=fh.new P9;have W1:iB (upd H wl (.lst [])) wl []:=⟨[],eX,.nil⟩
  generalize upd H wl (.lst [])=H1 at s1 W1;refine eY λ N hN=> ?_;walk_at "rd";obtain⟨e0,ē⟩:∃e,es[k]? = some e:=⟨es[k],by simp⟩
  obtain⟨be0,TX,r0⟩:=al.at ē;refine fK (s1 _ _ hq) (qZ (by rw [ak,TX];rfl)) (hN _ _ ?_);refine eY λ N hN=> ?_
  refine Kz (λ m σ H5=>∃(e:En) (be:Addr) (done:List Nat) (v5:Option V),σ = [some (.ref a),some (.ref q),some (.int k),some (.ref wl),some (.ref be),v5]/\fh H H5/\iB H5 wl (done.map (rE M.iR es))/\es[m]? = some e/\H be=some (.tup (J3 e))/\jy es es.length k=done++jy es m m) k
   ⟨e0,be0,[],none,rfl,s1,W1,ē,r0,qQ bo _ _ _ (Zl kl) (ay _) kl⟩ ?_ ?_
  .rintro m σ H5 ⟨e,be,done,v5,rfl,s5,W5,Nu,r5,line⟩;walk_at "rd";refine fc (s5 _ _ r5) rfl ⟨_,rfl,fO (λ h=> ?_) λ h=> ?_⟩
   .cases m with
    | zero=>
     rw [bo.fst] at Nu
     cases Nu;exact absurd h (show ¬(0:Int)<=-1 by decide)
    | succ m=>
     clear hN;obtain⟨j,f,mk,jle,Sn,đ,aag,h1,El,hg⟩:=bo.Nj m e Nu;obtain⟨bm,hbm,rm,_⟩:=xO.at El;obtain⟨S3,RZ,Ah⟩:=W5;obtain⟨bf,hbf,rf⟩:=al.at đ
     have lw:S3.length<=2500:=by
      have h2:(jy es es.length k).length<=es.length:=AI _ _;rw [line,aq] at h2;have h3:=Ah.len;rw [ae] at h3;exact Zc (Ze h3) (Zc Zk (Zc h2 iD))
     refine fc (s5 _ _ ha) rfl (fc (s5 _ _ r5) rfl ⟨_,rfl,fK (s5 _ _ Wq) (gn (Int.sub_nonneg_of_le h1) (by rw [ak,hbm];rfl)) ⟨gp (fZ.of RZ),fc (s5 _ _ r5) rfl (fc (s5 _ _ rm) rfl ⟨by decide,λ b hb=> ?_⟩)⟩⟩);have n6:fh H5 (upd H5 b (.tup [.int e.num,.bl mk.back])):=fh.new hb;have q6:upd H5 b (.tup [.int e.num,.bl mk.back]) b=some (.tup [.int e.num,.bl mk.back]):=eX;generalize upd H5 b (.tup [.int e.num,.bl mk.back])=H6 at n6 q6;refine⟨_,n6 _ _ RZ,aC (show (S3.map V.ref).length<3000 by rw [ae];exact Zb lw (Zd rfl)) (fW (by decide)),?_⟩;have s7:fh H (upd H6 wl (.lst (S3.map V.ref ++ [.ref b]))):=(s5.trans n6).fS P9;have W7:=IF (w:=(e.num,mk.back)) (n6 _ _ RZ) (Ah.imp λ _ _ r=>n6 _ _ r) q6;generalize upd H6 wl (.lst (S3.map V.ref ++ [.ref b]))=H7 at s7 W7;refine fc (s7 _ _ r5) rfl (fK (s7 _ _ hq) (by rw [Sn];exact qZ (by rw [ak,hbf];rfl)) ⟨j,Zt jle,f,bf,rfl,s7,done ++ [m+1],?_,đ,rf,?_⟩)
     .rw [av]
      have:rE M.iR es (m+1)=(e.num,mk.back):=by
       unfold rE;rw [Nu];show (e.num,((M.iR[(e.rm-1).toNat]?).map jQ.back).getD false)=_;rw [El];rfl
      rwa [aD,this]
     .rw [line,oK bo Nu Sn,bH];rfl
   .cases m with
    | succ m=>
     obtain⟨j,f,mk,jle,Sn,_⟩:=bo.Nj m e Nu;exact absurd (show (0:Int)<=e.E1 by lia) h
    | zero=>
     refine hN _ _ ?_;walk_at "rd";obtain⟨S3,RZ,Ah⟩:=W5;rw [lZ,bK] at line;refine⟨gp (fZ.of RZ),_,RZ,kk wl _ P9 (s5.fS P9) ?_⟩;rw [line];exact KA RZ Ah
  .intro σ H5 Q1 Q2 hq;walk_at "rd";rintro⟨v,e1,b,xs,i,u,e2,e3,e4,e5,j,e6,e7⟩;exact⟨v,e1,b,xs,i,u,e2,e3,e4,e5,j,e6,hq _ _ e7⟩
theorem ou:fG ["made","entries","found","place","entry"] ["made","entries"] (fw vd):=by walk_at "sc"
theorem FR (T:Txt K mg t):f_ P w K mg base (ir P w) 1 t.By t.A9 ["made","entries"] (yb):=by
 refine T.Ib.fn.okN ou (λ ik A outer s H vs Q E hr h=> ?_)
 .obtain⟨a,q,M,st,good,es,rfl,hM,ok,hE,bo,iD,kk⟩:=h
  refine⟨_,Bx.un (c_ (fu 2 ou.nd jP)
   (c_ (gL PassesOwn.never rfl (MX rfl T.EC (a_ (fb 1) d_)) (CP rfl (lH (gb 3 ou.nd) (lH (gb 4 ou.nd) zo)))
   (eZ (fM (hZ (eW fJ (eW fk (fb 0) (jx T.SX)) (eW fk (fb 4) b_)))
   (eZ (fQ (Bg (fb 2) (eW fk (fb 4) b_) (fb 3))))
   fC)))
   (eZ (fA (Kb rfl (by rfl) T.kW (fb 2)))))),?_⟩
  walk_at "rs";refine eY λ N hN=> ?_;walk_at "rd";refine λ fd Đ=>hN _ _ ?_;have s1:fh H (upd H fd (.dK [])):=fh.new Đ;have q1:upd H fd (.dK []) fd=some (.dK (gz [])):=eX;generalize upd H fd (.dK [])=H1 at s1 q1;obtain⟨xm,xf,xe,ha,hm,hf,he⟩:=hM.at_;obtain⟨as,hq,al⟩:=id hE;refine eY λ N hN=> ?_
  refine⟨_,rfl,q,_,rfl,fZ.of (s1 _ _ hq),Mx (xs:=as.map V.ref) (λ i σ H2=>∃v v',σ = [some (.ref a),some (.ref q),some (.ref fd),v,v']/\fh H H2/\H2 fd=some (.dK (gz (iH M.ends (es.take i) 0 []))))
   ⟨none,none,rfl,s1,q1⟩ (λ i σ H2 _ hz=>by obtain⟨v,v',_,s2,_⟩:=hz;exact fZ.of (s2 _ _ hq)) ?_ ?_⟩
  .rintro i y b σ H2 hy hb ⟨v,v',rfl,s2,q2⟩;rw [ak] at hy;obtain⟨be,JR,rfl⟩:=Option.map_eq_some_iff.mp hy;have il:i<es.length:=by rw [<-al.len];exact(ag.mp JR).1
   have Ws:es[i]? = some es[i]:=by simp
   have Xk:=al.get JR Ws;clear hN;have n3:fh H2 (upd H2 b (.tup [.int i,.ref be])):=fh.new hb;have b3:upd H2 b (.tup [.int i,.ref be]) b=some (.tup [.int i,.ref be]):=eX;generalize upd H2 b (.tup [.int i,.ref be])=H3 at n3 b3;have s3:=s2.trans n3;have q3:=n3 _ _ q2;refine⟨b,_,rfl,oh.of b3,rfl,?_⟩;walk_at "rd";generalize es[i]=e at Ws Xk;obtain⟨r0,r1⟩:=bo.rm Ws;obtain⟨eb,Ē⟩:∃eb,M.ends[e.rm.toNat]? = some eb:=⟨M.ends[e.rm.toNat]'(by have:=ok.le;exact Qac r1 this),by simp⟩
   have len:(gz (iH M.ends (es.take i) 0 [])).length<sizeLine:=by
    have h1:=AY M.ends (es.take i) 0 [];rw [aT,aV] at h1;refine aC (show _<3000 from ?_) (fW (by decide));unfold gz;rw [ae];lia
   have zl:(es.take i).length=i:=by rw [aT];lia
   have nx:iH M.ends (es.take (i+1)) 0 []=if eb=true/\e.th∉(iH M.ends (es.take i) 0 []).map (·.1) then iH M.ends (es.take i) 0 [] ++ [(e.th,(i:Int))] else iH M.ends (es.take i) 0 []:=by
    rw [ic Ws,sU,Ē,zl,eA];rfl
   rw [nx];refine fc (s3 _ _ ha) rfl (fc (s3 _ _ Xk) rfl (fK (s3 _ _ he) (gn r0 (by rw [ak,Ē];rfl)) ⟨_,rfl,fO (λ h=> ?_) λ h=>⟨s3,?_⟩⟩))
   .subst h;refine⟨.inl ⟨_,.inl q3⟩,fc (s3 _ _ Xk) rfl ⟨_,q3,.inr (tx e.th),rfl,len,λ v hv=>⟨s3,?_⟩,λ hv=>⟨s3.fS Đ,?_⟩⟩⟩
    .have h1:e.th∈(iH M.ends (es.take i) 0 []).map (·.1):=by
      have h2:=kK (l:=e.th) (m:=iH M.ends (es.take i) 0 []);rw [hv] at h2;exact of_decide_eq_true h2.symm
     rwa [if_neg (λ z=>z.2 h1)]
    .have h1:e.th∉(iH M.ends (es.take i) 0 []).map (·.1):=by
      have h2:=kK (l:=e.th) (m:=iH M.ends (es.take i) 0 []);rw [hv] at h2;exact of_decide_eq_false h2.symm
     rw [if_pos ⟨rfl,h1⟩,eX,(LV h1).2]
   .rwa [if_neg (λ z=>h z.1)]
  .rintro σ H2 ⟨v,v',rfl,s2,q2⟩;refine hN _ _ ?_;walk_at "rd";rw [ae,al.len,bh] at q2;refine⟨_,.inl q2,λ l bs H3 hl lb s3 h3 _ h5=>kk l H3 (s2.free hl) (s2.trans s3) ⟨bs,h3,Iy _ _ lb λ i x y hx hy=>h5 i x y hx hy⟩⟩
theorem mx:fG ["tree","found","part"] ["tree"] (fw sD):=by walk_at "sc"
theorem Ca (T:Txt K mg t) (d:Nat):f_ P w K mg base (ir P w) (1+d) t.s_ t.sX ["tree"] (mw d):=by
 induction d with
 | zero=>exact T.ub.fn.okN mx (len:=λ vs H Q E h=>(nE h).elim) (λ ik A outer s H vs Q E hr h=>(nE h).elim)
 | succ d ih=>
 have tw:=ih;refine T.ub.fn.okN mx (λ ik A outer s H vs Q E hr h=> ?_)
 .obtain⟨a,tr,rfl,ha,hd,hm,k⟩:=h
  refine⟨_,Bx.un (c_ (fM (fB g8 (eW fk (fb 0) b_) fP (fI _))
   (eZ (fA (gh (a_ (fb 0) d_))))
   fC)
   (c_ (fu 1 mx.nd (gh d_))
   (c_ (gL PassesOwn.never rfl (Pe (i9 QA (fb 0) (jD b_) jE)) (gb 2 mx.nd)
   (eZ (fQ (iy aH dw dr vo (fb 1) (a_ (fF T.ub tw hr fE (a_ (fb 2) d_)) d_)))))
   (eZ (fA (fb 1)))))),?_⟩
  walk_at "rd";rcases ha.kids with ⟨m,rfl,ea,oa⟩ | ⟨as,ea,ka,RP,XZ,l2,l1⟩
  .refine fc ea rfl ⟨rfl,jn rfl ⟨by decide,λ p hp=> ?_⟩⟩;have n:=fh.new (o:=.lst [.ref a]) hp;exact k p _ [a] hp n eX (.cons ⟨n _ _ ea,oa⟩ .nil)
  .have nk:¬V.str (tx tr.kind)=V.str (tx [109,97,114,107]):=λ z=>XZ (by
    have:tx tr.kind=tx [109,97,114,107]:=by injection z
    exact iK.mp this)
   refine fc ea gK ⟨rfl,gs nk ⟨aP _,λ f hf=> ?_⟩⟩;have s0:=fh.new (o:=.lst []) hf;have f0:upd H f (.lst []) f=some (.lst []):=eX;generalize upd H f (.lst [])=H0 at s0 f0;refine⟨_,rfl,_,rfl,a,_,rfl,oh.of (s0 _ _ ea),MP _ _,λ q hq=> ?_⟩;rw [A'];have s1:=s0.fS (o:=.tup (as.map V.ref)) (s0.free hq);have n1:=fh.new (o:=.tup (as.map V.ref)) hq;have R9:upd H0 q (.tup (as.map V.ref)) q=some (.tup (as.map V.ref)):=eX;generalize upd H0 q (.tup (as.map V.ref))=H1 at s1 R9 n1
   have hfq:f≠q:=λ z=>by
    rw [<-z,f0] at hq
    cases hq
   refine⟨q,rfl,⟨_,oh.of R9⟩,O2 (K:=K) (a:=q) (xs:=as.map V.ref) (λ i σ H2=>∃v rs,σ = [some (.ref a),some (.ref f),v]/\fh H H2/\H2 q=some (.tup (as.map V.ref))/\H2 f=some (.lst (rs.map V.ref))/\fN (qF H2) rs ((tr.kids.take i).flatMap Tr.marks))
    ⟨none,[],rfl,s1,R9,n1 _ _ f0,.nil⟩ (λ i σ H2 _ ⟨_,_,_,_,z,_⟩=>oh.of z) ?_ ?_⟩
   .rintro i y σ H2 hi ⟨v,rs,rfl,s2,q2,f2,al⟩;obtain⟨x,hx,rfl⟩:=g_ hi
    have il:i<as.length:=by
     obtain⟨z,_⟩:=ag.mp hx;exact z
    obtain⟨z,hz⟩:∃z,tr.kids[i]? = some z:=⟨tr.kids[i]'(by rwa [<-ka.len]),by simp⟩
    have dz:=Tr.JC (ai hz);have mz:tr.marks.length=(tr.kids.flatMap Tr.marks).length:=by rw [yK XZ]
    have tk:=ic hz;have ź:=JY hz;rw [<-mz] at ź;have lr:=al.len;walk_at "rd";refine⟨gp (fZ.of f2),x,z,rfl,(ka.get hx hz).same s2,by lia,Zc Zo (Zc ź hm),λ p H3 Ü hp s3 e3 T4=> ?_⟩;have l3:=T4.len;have f3:=s3 _ _ f2;have Ko:=K1 (o:=.lst ((rs++Ü).map V.ref)) (fh.refl H3) f3;refine⟨f,p,_,_,rfl,rfl,f3,e3,fW (by simp only [ae];lia),?_⟩;rw [<-av,tk];refine⟨(s2.trans s3).fS hf,Ko.tup _ _ (s3 _ _ q2),rs++Ü,eX,?_⟩;rw [List.flatMap_append];simp only [dq,List.flatMap_nil,bK];exact(al.imp λ _ _ y=>(y.same s3).keep Ko.tup).append (T4.imp λ _ _ y=>y.keep Ko.tup)
   .rintro σ H2 ⟨v,rs,rfl,s2,q2,f2,al⟩;rw [ae,ka.len,bh,<-yK XZ] at al;walk_at "rd";exact k f H2 rs hf s2 f2 al
theorem DM (T:Txt K mg t):f_ P w K mg base (ir P w) (1+40) t.s_ t.sX ["tree"] (mw 40):=Ca T 40
theorem wN:fG ["self"] ["self"] (fw lU):=by walk_at "sc"
theorem wY (T:Txt K mg t):f_ P w K mg base (ir P w) 1 t.l_ t.qx ["self"] (pb t):=by
 refine T.uO.fn.okN wN (λ ik A outer s H vs Q E hr h=> ?_)
 .obtain⟨p,dx,rfl,hp,k⟩:=h;refine⟨_,Bx.un (eZ (uA (fb 0) (gh (a_ jP d_)))),?_⟩;walk_at "rd";intro d Mr;refine⟨by decide,λ f hf=> ?_⟩
  have è:f≠d:=λ z=>by
   rw [z,eX] at hf
   cases hf
  rw [e_ è] at hf;have å:p≠d:=fq hp Mr;have ä:p≠f:=fq hp hf;refine⟨_,_,_,by rwa [e_ ä,e_ å],T.gB,T.iX,by simp,?_⟩;refine k _ f d ⟨⟨dx,eX⟩,by rw [e_ ä.symm,eX];rfl,.cons (by rw [e_ å.symm,e_ è.symm,eX];rfl) .nil,by simp,⟨λ l hl=>by rw [ao.mp hl];exact cq,λ l hl x hx=>by rw [ao.mp hl] at hx;cases hx⟩⟩ hf Mr λ b o hb e=> ?_
  rwa [e_ hb,e_ (fq e hf),e_ (fq e Mr)]
theorem kO:fG ["self","lasts","firsts","room","other"] ["self","lasts","firsts"] (fw lT):=by walk_at "sc"
theorem kS (T:Txt K mg t):f_ P w K mg base (ir P w) 1 t.qB t.qw ["self","lasts","firsts"] (o_ t):=by
 refine T.lC.fn.okN kO (λ ik A outer s H vs Q E hr h=> ?_)
 .obtain⟨b,f,la,lb,ds,F,ls,fs,rfl,hb,ha,hc,na,nc,hls,hfs,iD,k⟩:=h
  refine⟨_,Bx.un (eZ (gL PassesOwn.never rfl (gi (fb 1)) (gb 3 kO.nd)
   (eZ (gL PassesOwn.never rfl (gi (fb 2)) (gb 4 kO.nd)
   (eZ (nY (j4 hr) (eW fJ (hU (fb 0)) (fb 3)) (fb 4) jc)))))),?_⟩
  walk_at "rs";have ν:=hb.out ha na;have ì:=hb.out hc nc
  refine⟨_,rfl,la,rfl,⟨_,fZ.of ha⟩,iG (K:=K) (a:=la) (xs:=ls.map V.int) (λ i σ H2=>∃(v v':Option V) (F2:List (List Int)),σ = [some (.ref b),some (.ref la),some (.ref lb),v,v']/\qJ t.fV H2 b f ds F2/\F2.length=F.length/\mn F F2 (λ a o=>a∈ls.take i/\o∈fs)/\L2.Step H (f::ds) H2 (f::ds))
   ⟨none,none,F,rfl,hb,rfl,(mn.refl F).iff (λ a o=>by simp),L2.Step.refl _ _⟩ (λ i σ H2 _ hz=>by obtain⟨_,_,_,_,_,_,_,s2⟩:=hz;exact fZ.of (s2.off _ _ ν ha)) ?_ ?_⟩
  .rintro i y σ H2 hi ⟨v,v',F2,rfl,b2,l2,E2,s2⟩;obtain⟨x,hx,rfl⟩:=g_ hi;obtain⟨x0,x1⟩:=hls x (ai hx);walk_at "rg"
   refine⟨_,rfl,lb,rfl,⟨_,fZ.of (s2.off _ _ ì hc)⟩,iG (K:=K) (a:=lb) (xs:=fs.map V.int) (λ j σ H3=>∃(v':Option V) (F3:List (List Int)),σ = [some (.ref b),some (.ref la),some (.ref lb),some (.int x),v']/\qJ t.fV H3 b f ds F3/\F3.length=F.length/\mn F F3 (λ a o=>(a∈ls.take i/\o∈fs)\/(a=x/\o∈fs.take j))/\L2.Step H (f::ds) H3 (f::ds))
    ⟨v',F2,rfl,b2,l2,E2.iff (λ a o=>by simp),s2⟩ (λ j σ H3 _ hz=>by obtain⟨_,_,_,_,_,_,s3⟩:=hz;exact fZ.of (s3.off _ _ ì hc)) ?_ ?_⟩
   .rintro j y σ H3 hj ⟨v',F3,rfl,b3,l3,VJ,s3⟩;obtain⟨o,ho,rfl⟩:=g_ hj;obtain⟨o0,o1⟩:=hfs o (ai ho);obtain⟨d,hd,ed⟩:=b3.room x0 (Ya x1 (Yo (Zg l3)));obtain⟨dx,eb⟩:=b3.obj;walk_at "rg";walk_at "rd";refine⟨_,_,_,eb,T.gB,T.iX,_,rfl,fK b3.lst (v:=.ref d) (gn x0 (by rw [ak,hd];rfl)) ⟨d,rfl,_,xq.k (k:=.inl o) ed ?_,?_⟩⟩
    .unfold Md;rw [ae];have:=b3.ok.len _ (ai (C4 x0 (show x<F3.length from Ya x1 (Yo (Zg l3)))));exact bV this (aC (show _<3000 from Zb (Ze l3) (Zb iD (Zd rfl))) (fW (by decide)))
    .rw [QP];have tk:=ic ho;refine⟨wR F3 x o,b3.put x0 (Ya x1 (Yo (Zg l3))) o0 (Ya o1 (Yo (Zg l3))) hd,by rwa [DI],?_,s3.trans (b3.N1 hd ⟨_,ed⟩)⟩;intro a c h0;rw [L5 x0 (Ya x1 (Yo (Zg l3))) h0,VJ a c h0,tk];dsimp only;rw [ax,ao];constructor
     .rintro((z|z | ⟨z1,z2⟩) | ⟨z1,z2⟩)
      .exact .inl z
      .exact .inr (.inl z)
      .exact .inr (.inr ⟨z1,.inl z2⟩)
      .exact .inr (.inr ⟨z1,.inr z2⟩)
     .rintro(z|z | ⟨z1,z2|z2⟩)
      .exact .inl (.inl z)
      .exact .inl (.inr (.inl z))
      .exact .inl (.inr (.inr ⟨z1,z2⟩))
      .exact .inr ⟨z1,z2⟩
   .rintro σ H3 ⟨v',F3,rfl,b3,l3,VJ,s3⟩;refine⟨_,_,F3,rfl,b3,l3,VJ.iff (λ a o=> ?_),s3⟩;rw [ae,bh,ic hx,ax,ao];constructor
    .rintro(⟨z1,z2⟩ | ⟨z1,z2⟩)
     .exact⟨.inl z1,z2⟩
     .exact⟨.inr z1,z2⟩
    .rintro⟨z1|z1,z2⟩
     .exact .inl ⟨z1,z2⟩
     .exact .inr ⟨z1,z2⟩
  .rintro σ H2 ⟨v,v',F2,rfl,b2,l2,E2,s2⟩;rw [ae,bh] at E2;exact k H2 F2 b2 l2 E2 s2
theorem kI:fG ["self","room"] ["self"] (fw jz):=by walk_at "sc"
theorem qp (T:Txt K mg t):f_ P w K mg base (ir P w) 1 t.lg t.k_ ["self"] (kE t):=by
 refine T.mP.fn.okN kI (λ ik A outer s H vs Q E hr h=> ?_)
 .obtain⟨b,f,ds,F,m,rfl,hb,iD,k⟩:=h
  refine⟨_,Bx.un (c_ (fu 1 kI.nd (fD fH (by rfl) T.gW PySem.boot_len (a_ (hU (fb 0)) d_)))
   (c_ (fQ (iy aH aX aW gR (hU (fb 0)) (a_ jP d_)))
   (eZ (fA (gj (a_ jc (a_ (gh (a_ (fb 1) d_)) (a_ (gh (a_ (fb 1) d_)) d_)))))))),?_⟩
  walk_at "rs";obtain⟨dx,eb⟩:=hb.obj;have ln:=hb.len;refine eY λ N hN=> ?_;walk_at "rd";refine⟨_,_,_,eb,T.gB,T.iX,_,rfl,f,rfl,_,.inl (fZ.of hb.lst),hN _ _ ?_⟩;refine eY λ N hN=> ?_;walk_at "rd";refine⟨_,_,_,eb,T.gB,T.iX,_,rfl,gp (fZ.of hb.lst),λ d0 Mr=>⟨f,rfl,_,(e_ (fq hb.lst Mr)).trans hb.lst,?_,hN _ _ ?_⟩⟩
  .rw [ae,ln];exact aC (show _<3000 from Zb iD (Zd rfl)) (fW (by decide))
  have b2:=hb.more Mr;have s2:=hb.L1 (xs:=ds.map V.ref ++ [.ref d0]) Mr;generalize upd (upd H d0 (.dK [])) f (.lst (ds.map V.ref ++ [.ref d0]))=H2 at b2 s2;have ad:=(mn.more F).iff (S:=(Tr.mark m).j8 F.length) λ a c=>Iff.rfl;walk_at "rd";have e0:(((ds.map V.ref).length:Nat):Int)=(F.length:Int):=by rw [ae,ln]
  rw [e0];refine⟨by decide,λ x1 qT=>⟨by decide,λ x2 rS=>⟨by decide,λ x3 Cw=> ?_⟩⟩⟩;have fr:∀x,H2 x=none->H x=none:=λ x hx=>s2.free b2.Ee hx;have n1:=fh.new (o:=.lst [V.int (F.length:Int)]) qT;have n2:=fh.new (o:=.lst [V.int (F.length:Int)]) rS;exact k.fin b2 (by rw [aq];rfl) ad s2 (n1.trans n2) (fr _ qT) (fr _ (n1.free rS)) (n2 _ _ eX) eX Cw
theorem jJ:fG ["self","left_tree","right_tree","left","right"] ["self","left_tree","right_tree"] (fw jY):=by walk_at "sc"
theorem rj (T:Txt K mg t) (d:Nat) (ih:f_ P w K mg base (ir P w) (2+2*d) t.hV t.hI ["self","tree"] (gG t d)):f_ P w K mg base (ir P w) (2+2*d+1) t.mL t.mG ["self","left_tree","right_tree"] (lK t sL (d+1)):=by
 have gP:=ih;refine T.pI.fn.okN jJ (len:=λ vs H Q E h=>by obtain⟨_,_,_,_,_,_,_,_,rfl,_⟩:=h;rfl) (λ ik A outer s H vs Q E hr h=> ?_)
 .obtain⟨b,al,ar,f,ds,F,l,r,rfl,hb,hl,R7,hd,iD,k⟩:=h
  refine⟨_,Bx.un (c_ (fu 3 jJ.nd (iL (fb 0) T.gB T.iI gP hr fE (a_ (fb 1) d_)))
   (c_ (fu 4 jJ.nd (iL (fb 0) T.gB T.iI gP hr fE (a_ (fb 2) d_)))
   (eZ (fA (gj (a_ (GR (eW fk (fb 3) b_) (mJ (eW fk (fb 4) b_))) (a_ (fo mZ (eW fk (fb 3) b_) (eW fk (fb 4) b_)) (a_ (fo mZ (eW fk (fb 3) b_) (eW fk (fb 4) b_)) d_)))))))),?_⟩
  walk_at "rs";obtain⟨dx,eb⟩:=hb.obj;have mm:(Tr.two sL l r).marks.length=l.marks.length+r.marks.length:=aq
  have dd:l.deep<=d/\r.deep<=d:=by
   simp only [Tr.deep] at hd;exact Qaa hd
  refine eY λ N hN=> ?_;walk_at "rd";refine⟨_,_,eb,rfl,b,al,f,ds,F,l,rfl,hb,hl,dd.1,QaF iD mm,λ p l1 l2 H1 O_ F1 hp xH zO b1 n1 T5 e1 f1 f2 s1=>hN _ _ ?_⟩;obtain⟨ZX,MF⟩:=b1.obj;refine eY λ N hN=> ?_;walk_at "rd";refine⟨_,_,MF,rfl,b,ar,f,ds++O_,F1,r,rfl,b1,R7.step s1,dd.2,QaG n1 iD mm,λ p' ø ö H2 Vv F2 YG U9 Si b2 n2 E2 e2 g1 g2 s2=>hN _ _ ?_⟩;walk_at "rd";have h1:=s2.off _ _ (b1.out f1 (fq hb.lst xH).symm) f1;have h2:=s2.off _ _ (b1.out f2 (fq hb.lst zO).symm) f2;have t1:=s2.tup _ _ e1;have wO:=s1.trans s2;rw [bH] at b2 wO;have fr:∀x,H2 x=none->H x=none:=λ x hx=>wO.free b2.Ee hx;have z1:=l.oN F.length;have z2:=l.oM F.length;have z3:=r.oN F1.length;have z4:=r.oM F1.length
  have ad:mn F F2 ((Tr.two sL l r).j8 F.length):=(T5.trans E2).iff λ a c=>by
   rw [n1];simp [Tr.j8]
  have nn:(Tr.two sL l r).nul=(l.nul||r.nul):=by simp [Tr.nul]
  have ff:(Tr.two sL l r).i4 F.length=l.i4 F.length++r.i4 F1.length:=by
   rw [n1];simp [Tr.i4]
  have fl:(Tr.two sL l r).iU F.length=l.iU F.length++r.iU F1.length:=by
   rw [n1];simp [Tr.iU]
  have fin:∀x1 x2 x3,H2 x1=none->upd H2 x1 (.lst ((l.i4 F.length).map V.int++(r.i4 F1.length).map V.int)) x2=none->upd (upd H2 x1 (.lst ((l.i4 F.length).map V.int++(r.i4 F1.length).map V.int))) x2 (.lst ((l.iU F.length).map V.int++(r.iU F1.length).map V.int)) x3=none->
    Q (.ref x3) (upd (upd (upd H2 x1 (.lst ((l.i4 F.length).map V.int++(r.i4 F1.length).map V.int))) x2 (.lst ((l.iU F.length).map V.int++(r.iU F1.length).map V.int))) x3 (.tup [.bl (l.nul||r.nul),.ref x1,.ref x2])):=by
   intro x1 x2 x3 qT rS Cw;have m1:=fh.new (o:=.lst ((l.i4 F.length).map V.int++(r.i4 F1.length).map V.int)) qT;have m2:=fh.new (o:=.lst ((l.iU F.length).map V.int++(r.iU F1.length).map V.int)) rS;rw [<-nn];exact k.fin b2 (by lia) ad wO (m1.trans m2) (fr _ qT) (fr _ (m1.free rS)) (by rw [ff,av];exact m2 _ _ eX) (by rw [fl,av];exact eX) Cw
  refine fc t1 rfl ⟨_,rfl,?_⟩;have Qy:((l.i4 F.length).map V.int).length+((r.i4 F1.length).map V.int).length<=sizeLine:=fW (by rw [ae,ae];exact Qad z1 z3 iD mm);have V1:((l.iU F.length).map V.int).length+((r.iU F1.length).map V.int).length<=sizeLine:=fW (by rw [ae,ae];exact Qad z2 z4 iD mm)
  cases hn:l.nul with
  | true=>
   rw [hn] at fin;refine jn rfl (fc t1 rfl (fc e2 rfl ⟨_,rfl,_,rfl,_,h1,_,g1,Qy,λ x1 qT=> ?_⟩));have m1:=fh.new (o:=.lst ((l.i4 F.length).map V.int++(r.i4 F1.length).map V.int)) qT;exact fc (m1 _ _ t1) rfl (fc (m1 _ _ e2) rfl ⟨_,rfl,_,rfl,_,m1 _ _ h2,_,m1 _ _ g2,V1,λ x2 rS=>⟨by decide,λ x3 Cw=>fin x1 x2 x3 qT rS Cw⟩⟩)
  | false=>
   rw [hn] at fin;refine gs aJ (fc e2 rfl (fc t1 rfl (fc e2 rfl ⟨_,rfl,_,rfl,_,h1,_,g1,Qy,λ x1 qT=> ?_⟩)));have m1:=fh.new (o:=.lst ((l.i4 F.length).map V.int++(r.i4 F1.length).map V.int)) qT;exact fc (m1 _ _ t1) rfl (fc (m1 _ _ e2) rfl ⟨_,rfl,_,rfl,_,m1 _ _ h2,_,m1 _ _ g2,V1,λ x2 rS=>⟨by decide,λ x3 Cw=>fin x1 x2 x3 qT rS Cw⟩⟩)
theorem ie:fG ["self","left_tree","right_tree","left","right","firsts","lasts"] ["self","left_tree","right_tree"] (fw jK):=by walk_at "sc"
theorem qj (T:Txt K mg t) (d:Nat) (ih:f_ P w K mg base (ir P w) (2+2*d) t.hV t.hI ["self","tree"] (gG t d)):f_ P w K mg base (ir P w) (2+2*d+1) t.l9 t.l7 ["self","left_tree","right_tree"] (lK t jM (d+1)):=by
 have gP:=ih;have ju:=(kS (P:=P) (w:=w) (base:=base) T).mono (show 1<=2+2*d from Zc (Zd rfl) Zk);refine T.oe.fn.okN ie (len:=λ vs H Q E h=>by obtain⟨_,_,_,_,_,_,_,_,rfl,_⟩:=h;rfl) (λ ik A outer s H vs Q E hr h=> ?_)
 .obtain⟨b,al,ar,f,ds,F,l,r,rfl,hb,hl,R7,hd,iD,k⟩:=h
  refine⟨_,Bx.un (c_ (fu 3 ie.nd (iL (fb 0) T.gB T.iI gP hr fE (a_ (fb 1) d_)))
   (c_ (fu 4 ie.nd (iL (fb 0) T.gB T.iI gP hr fE (a_ (fb 2) d_)))
   (c_ (fQ (iL (fb 0) T.gB T.lC ju hr fE (a_ (eW fk (fb 3) b_) (a_ (eW fk (fb 4) b_) d_))))
   (c_ (fu 5 ie.nd (qX (hZ (eW fk (fb 3) b_)) (fo mZ (eW fk (fb 3) b_) (eW fk (fb 4) b_)) (eW fk (fb 3) b_)))
   (c_ (fu 6 ie.nd (qX (hZ (eW fk (fb 4) b_)) (fo mZ (eW fk (fb 3) b_) (eW fk (fb 4) b_)) (eW fk (fb 4) b_)))
   (eZ (fA (gj (a_ (uD (eW fk (fb 3) b_) (mJ (eW fk (fb 4) b_))) (a_ (fb 5) (a_ (fb 6) d_))))))))))),?_⟩
  walk_at "rs";obtain⟨dx,eb⟩:=hb.obj;have mm:(Tr.two jM l r).marks.length=l.marks.length+r.marks.length:=aq
  have dd:l.deep<=d/\r.deep<=d:=by
   simp only [Tr.deep] at hd;exact Qaa hd
  refine eY λ N hN=> ?_;walk_at "rd";refine⟨_,_,eb,rfl,b,al,f,ds,F,l,rfl,hb,hl,dd.1,QaF iD mm,λ p l1 l2 H1 O_ F1 hp xH zO b1 n1 T5 e1 f1 f2 s1=>hN _ _ ?_⟩;obtain⟨ZX,MF⟩:=b1.obj;refine eY λ N hN=> ?_;walk_at "rd";refine⟨_,_,MF,rfl,b,ar,f,ds++O_,F1,r,rfl,b1,R7.step s1,dd.2,QaG n1 iD mm,λ p' ø ö H2 Vv F2 YG U9 Si b2 n2 E2 e2 g1 g2 s2=>hN _ _ ?_⟩;have h1:=s2.off _ _ (b1.out f1 (fq hb.lst xH).symm) f1;have h2:=s2.off _ _ (b1.out f2 (fq hb.lst zO).symm) f2;have t1:=s2.tup _ _ e1;have wO:=s1.trans s2;rw [bH] at b2 wO;have r1:=l.jI F.length;have r2:=r.jg F1.length;obtain⟨ő,Qh⟩:=b2.obj;have Tw:=(fq hb.lst zO).symm;have Tx:=(fq hb.lst xH).symm;have ã:=(fq b1.lst U9).symm;have δ:=(fq b1.lst Si).symm;refine eY λ N hN=> ?_;walk_at "rd";refine⟨_,_,Qh,rfl,fc t1 rfl (fc e2 rfl ⟨b,f,l2,ø,ds++(O_++Vv),F2,_,_,rfl,b2,h2,g1,Tw,ã,λ x hx=> ?_,λ x hx=> ?_,by lia,λ H3 F3 b3 n3 VJ s3=>hN _ _ ?_⟩)⟩
  .have:=r1 x hx;lia
  .have:=r2 x hx;exact Qaj this n2
  have u1:=s3.off _ _ (b2.out h1 Tx) h1;have u2:=s3.off _ _ (b2.out h2 Tw) h2;have v1:=s3.off _ _ (b2.out g1 ã) g1;have v2:=s3.off _ _ (b2.out g2 δ) g2;have t3:=s3.tup _ _ t1;have q3:=s3.tup _ _ e2;have Hq:=wO.trans s3;have fr:∀x,H3 x=none->H x=none:=λ x hx=>Hq.free b3.Ee hx;have fr2:∀x,H1 x=none->H x=none:=λ x hx=>s1.free b1.Ee hx;clear u2;have w2:=s3.off _ _ (b2.out h2 Tw) h2;have z1:=l.oN F.length;have z2:=l.oM F.length;have z3:=r.oN F1.length;have z4:=r.oM F1.length;have o1:¬jM=sL:=by decide
  have ad:mn F F3 ((Tr.two jM l r).j8 F.length):=((T5.trans E2).trans VJ).iff λ a c=>by
   rw [n1];simp only [Tr.j8,ne_eq,o1,not_false_eq_true,true_and,or_assoc]
  have nn:(Tr.two jM l r).nul=(l.nul&&r.nul):=by simp [Tr.nul,o1]
  have ff:(Tr.two jM l r).i4 F.length=if l.nul=true then l.i4 F.length++r.i4 F1.length else l.i4 F.length:=by
   rw [n1];simp [Tr.i4,o1]
  have fl:(Tr.two jM l r).iU F.length=if r.nul=true then l.iU F.length++r.iU F1.length else r.iU F1.length:=by
   rw [n1];simp [Tr.iU,o1]
  have Qy:((l.i4 F.length).map V.int).length+((r.i4 F1.length).map V.int).length<=sizeLine:=fW (by rw [ae,ae];exact Qad z1 z3 iD mm);have V1:((l.iU F.length).map V.int).length+((r.iU F1.length).map V.int).length<=sizeLine:=fW (by rw [ae,ae];exact Qad z2 z4 iD mm);refine eY λ N hN=> ?_
  have hM:∀x1 H4,fh H3 H4->H x1=none->H4 x1=some (.lst (((Tr.two jM l r).i4 F.length).map V.int))->N [some (.ref b),some (.ref al),some (.ref ar),some (.ref p),some (.ref p'),some (.ref x1),none] H4:=by
   intro x1 H4 s4 qT e4;refine hN _ _ ?_;refine eY λ N hN=> ?_
   have hM:∀x2 H5,fh H3 H5->H x2=none->H5 x1=some (.lst (((Tr.two jM l r).i4 F.length).map V.int))->H5 x2=some (.lst (((Tr.two jM l r).iU F.length).map V.int))->N [some (.ref b),some (.ref al),some (.ref ar),some (.ref p),some (.ref p'),some (.ref x1),some (.ref x2)] H5:=by
    intro x2 H5 s5 rS e5 e6;refine hN _ _ ?_;have fin:=λ x3 Cw=>k.fin (x:=x3) b3 (by lia) ad Hq s5 qT rS e5 e6 Cw;rw [nn] at fin;walk_at "rd";refine fc (s5 _ _ t3) rfl ⟨_,rfl,?_⟩
    cases hn:l.nul with
    | true=>
     rw [hn] at fin;exact jn rfl (fc (s5 _ _ q3) rfl ⟨by decide,λ x3 Cw=>fin x3 Cw⟩)
    | false=>
     rw [hn] at fin;exact gs aJ ⟨by decide,λ x3 Cw=>fin x3 Cw⟩
   walk_at "rd";refine fc (s4 _ _ q3) rfl ⟨_,rfl,fO (λ h=> ?_) λ h=> ?_⟩
   .refine fc (s4 _ _ t3) rfl (fc (s4 _ _ q3) rfl ⟨_,rfl,_,rfl,_,s4 _ _ w2,_,s4 _ _ v2,V1,λ x2 rS=> ?_⟩);have m2:=fh.new (o:=.lst ((l.iU F.length).map V.int++(r.iU F1.length).map V.int)) rS;refine hM x2 _ (s4.trans m2) (fr _ (s4.free rS)) (m2 _ _ e4) ?_;rw [eX,fl,if_pos h,av]
   .refine fc (s4 _ _ q3) rfl (hM ö _ s4 (fr2 _ Si) e4 ?_);rw [fl,if_neg h];exact s4 _ _ v2
  walk_at "rd";refine fc t3 rfl ⟨_,rfl,fO (λ h=> ?_) λ h=> ?_⟩
  .refine fc t3 rfl (fc q3 rfl ⟨_,rfl,_,rfl,_,u1,_,v1,Qy,λ x1 qT=> ?_⟩);refine hM x1 _ (fh.new qT) (fr _ qT) ?_;rw [eX,ff,if_pos h,av]
  .refine fc t3 rfl (hM l1 _ (fh.refl _) xH ?_)
   rwa [ff,if_neg h]
theorem jW:fG ["self","kind","inner_tree","inner"] ["self","kind","inner_tree"] (fw i_):=by walk_at "sc"
theorem nN (T:Txt K mg t) (d:Nat) (ih:f_ P w K mg base (ir P w) (2+2*d) t.hV t.hI ["self","tree"] (gG t d)):f_ P w K mg base (ir P w) (2+2*d+1) t.ke t.kc ["self","kind","inner_tree"] (pW t (d+1)):=by
 have gP:=ih;have ju:=(kS (P:=P) (w:=w) (base:=base) T).mono (show 1<=2+2*d from Zc (Zd rfl) Zk);refine T.lj.fn.okN jW (len:=λ vs H Q E h=>by obtain⟨_,_,_,_,_,_,_,rfl,_⟩:=h;rfl) (λ ik A outer s H vs Q E hr h=> ?_)
 .obtain⟨b,a,f,kd,ds,F,x,rfl,RP,hb,hx,hd,iD,k⟩:=h
  refine⟨_,Bx.un (c_ (fu 3 jW.nd (iL (fb 0) T.gB T.iI gP hr fE (a_ (fb 2) d_)))
   (c_ (fM (fB lX (fb 1) fP (fI _))
   (eZ (fQ (iL (fb 0) T.gB T.lC ju hr fE (a_ (eW fk (fb 3) b_) (a_ (eW fk (fb 3) b_) d_)))))
   fC)
   (eZ (fA (gj (a_ (GR (eW fk (fb 3) b_) (mJ (iT lX (fb 1) fP (fI _)))) (a_ (eW fk (fb 3) b_) (a_ (eW fk (fb 3) b_) d_)))))))),?_⟩
  walk_at "rs";obtain⟨dx,eb⟩:=hb.obj;refine eY λ N hN=> ?_;walk_at "rd";refine⟨_,_,eb,rfl,b,a,f,ds,F,x,rfl,hb,hx,cJ hd,iD,λ p l1 l2 H1 O_ F1 hp xH zO b1 n1 T5 e1 f1 f2 s1=>hN _ _ ?_⟩;obtain⟨ZX,MF⟩:=b1.obj;have Tx:=(fq hb.lst xH).symm;have Tw:=(fq hb.lst zO).symm;have r1:=x.jI F.length;have r2:=x.jg F.length;have nn:(Tr.one kd x).nul=(x.nul || !decide (kd=lL)):=rfl;refine eY λ N hN=> ?_
  have hM:∀H2 F2,qJ t.fV H2 b f (ds++O_) F2->F2.length=F.length+x.marks.length->mn F F2 ((Tr.one kd x).j8 F.length)->L2.Step H1 (f::(ds++O_)) H2 (f::(ds++O_))->N [some (.ref b),some (.str (tx kd)),some (.ref a),some (.ref p)] H2:=by
   intro H2 F2 b2 n2 E2 s2;refine hN _ _ ?_;have t1:=s2.tup _ _ e1;have h1:=s2.off _ _ (b1.out f1 Tx) f1;have h2:=s2.off _ _ (b1.out f2 Tw) f2;have fin:=λ x3 Cw=>k.fin (x:=x3) b2 n2 E2 (s1.trans s2) (fh.refl _) xH zO h1 h2 Cw;rw [nn] at fin;walk_at "rd";refine fc t1 rfl ⟨_,rfl,?_⟩
   cases hn:x.nul with
   | true=>
    rw [hn] at fin;exact jn rfl (fc t1 rfl (fc t1 rfl ⟨by decide,λ x3 Cw=>fin x3 Cw⟩))
   | false=>
    rw [hn] at fin;exact gs aJ (fc t1 rfl (fc t1 rfl ⟨by decide,λ x3 Cw=>fin x3 Cw⟩))
  walk_at "rd";refine fO (λ h=> ?_) λ h=> ?_
  .refine⟨_,_,MF,rfl,fc e1 rfl (fc e1 rfl ⟨b,f,l2,l1,ds++O_,F1,_,_,rfl,b1,f2,f1,Tw,Tx,λ y hy=> ?_,λ y hy=> ?_,Zc (Ze n1) iD,λ H2 F2 b2 n2 E2 s2=>hM H2 F2 b2 (n2.trans n1) ((T5.trans E2).iff λ a c=> ?_) s2⟩)⟩
   .have:=r1 y hy;exact Qaj this n1
   .have:=r2 y hy;exact Qaj this n1
   .exact⟨λ z=>z.elim .inl λ z=>.inr ⟨h,z⟩,λ z=>z.elim .inl λ z=>.inr z.2⟩
  .refine hM H1 F1 b1 n1 (T5.iff λ a c=> ?_) (L2.Step.refl _ _);exact⟨.inl,λ z=>z.elim id λ z=>absurd z.1 h⟩
theorem pd:fG ["self","tree"] ["self","tree"] (fw lS):=by walk_at "sc"
theorem vj (T:Txt K mg t) (d:Nat) (ih:f_ P w K mg base (ir P w) (2+2*d) t.hV t.hI ["self","tree"] (gG t d)):f_ P w K mg base (ir P w) (2+2*d+2) t.hV t.hI ["self","tree"] (gG t (d+1)):=by
 have pL:=nN T d ih;have rB:=(qp (P:=P) (w:=w) (base:=base) T).mono (show 1<=2+2*d+1 from Zo);have uM:=rj T d ih;have tD:=qj T d ih;refine T.iI.fn.okN pd (λ ik A outer s H vs Q E hr h=> ?_)
 .obtain⟨b,a,f,ds,F,tr,rfl,hb,ha,hd,iD,k⟩:=h
  refine⟨_,Bx.un (c_ (fM (fB g8 (eW fk (fb 1) b_) fP (fI _))
   (eZ (fA (CT (fb 0) T.gB T.mP rB hr fE)))
   fC)
   (c_ (fM (fB g8 (eW fk (fb 1) b_) fP (fI _))
   (eZ (fA (iL (fb 0) T.gB T.pI uM hr fE (a_ (eW fk (fb 1) b_) (a_ (eW fk (fb 1) b_) d_)))))
   fC)
   (c_ (fM (fB g8 (eW fk (fb 1) b_) fP (fI _))
   (eZ (fA (iL (fb 0) T.gB T.oe tD hr fE (a_ (eW fk (fb 1) b_) (a_ (eW fk (fb 1) b_) d_)))))
   fC)
   (eZ (fA (iL (fb 0) T.gB T.lj pL hr fE (a_ (eW fk (fb 1) b_) (a_ (eW fk (fb 1) b_) d_)))))))),?_⟩
  walk_at "rs";obtain⟨dx,eb⟩:=hb.obj;walk_at "rd"
  cases ha with
  | mark e o=>exact fc e rfl ⟨rfl,jn rfl ⟨_,_,eb,rfl,b,f,ds,F,_,rfl,hb,Zc Zk iD,k⟩⟩
  | @two _ al ar kd l r e hk hl sR=>
   simp only [uS,aA,bb,or_false] at hk;rcases hk with rfl|rfl
   .refine fc e rfl ⟨rfl,gs (by decide) (fc e rfl ⟨rfl,gs (by decide) (fc e rfl ⟨rfl,jn rfl ⟨_,_,eb,rfl,fc e rfl (fc e rfl ⟨b,al,ar,f,ds,F,l,r,rfl,hb,hl,sR,hd,iD,k⟩)⟩⟩)⟩)⟩
   .refine fc e rfl ⟨rfl,gs (by decide) (fc e rfl ⟨rfl,jn rfl ⟨_,_,eb,rfl,fc e rfl (fc e rfl ⟨b,al,ar,f,ds,F,l,r,rfl,hb,hl,sR,hd,iD,k⟩)⟩⟩)⟩
  | @one _ i kd x e hk hi=>
   have n1:∀z∈[qt,sL,jM],¬V.str (tx kd)=V.str (tx z):=by
    intro z hz q;have q:kd=z:=iK.mp (by injection q);subst q;revert hk hz;simp only [ones,aA,bb,or_false];rintro(rfl|rfl|rfl)<;>decide
   exact fc e gK ⟨rfl,gs (n1 _ (by simp [qt])) (fc e gK ⟨rfl,gs (n1 _ (by simp [sL])) (fc e gK ⟨rfl,gs (n1 _ (by simp [jM])) ⟨_,_,eb,rfl,fc e gK (fc e rfl ⟨b,i,f,kd,ds,F,x,rfl,hk,hb,hi,hd,iD,k⟩)⟩⟩)⟩)⟩
theorem vi (T:Txt K mg t) (d:Nat):f_ P w K mg base (ir P w) (2+2*d) t.hV t.hI ["self","tree"] (gG t d):=by
 induction d with
 | zero=>exact T.iI.fn.okN pd (len:=λ vs H Q E h=>(kD h).elim) (λ ik A outer s H vs Q E hr h=>(kD h).elim)
 | succ d ih=>exact(show 2+2*d+2=2+2*(d+1) from rfl)▸vj T d ih
theorem wX (T:Txt K mg t):f_ P w K mg base (ir P w) (82) t.hV t.hI ["self","tree"] (gG t 40):=vi T 40
theorem lO:fG ["tree","builder","whole","follows","ends"] ["tree"] (fw uZ):=by walk_at "sc"
theorem FG (T:Txt K mg t):f_ P w K mg base (ir P w) 84 t.Bo t.A0 ["tree"] (xX):=by
 have zM:=(wY (P:=P) (w:=w) (base:=base) T).mono (show 1<=82 by decide);have gP:=(wX (P:=P) (w:=w) (base:=base) T).mono (show 82<=83 by decide);have ju:=(kS (P:=P) (w:=w) (base:=base) T).mono (show 1<=83 by decide);have tw:=(DM (P:=P) (w:=w) (base:=base) T).mono (show 41<=83 by decide);refine T.machine.fn.okN lO (λ ik A outer s H vs Q E hr h=> ?_)
 .obtain⟨a,tr,rfl,ha,hd,iD,Φ,k⟩:=h
  refine⟨_,Bx.un (c_ (fu 1 lO.nd (Bf T.Gb zM hr (by rfl) T.JV T.uO.b .nil fE))
   (c_ (fu 2 lO.nd (iL (fb 1) T.gB T.iI gP hr fE (a_ (fb 0) d_)))
   (c_ (fQ (iL (fb 1) T.gB T.lC ju hr fE (a_ (gh (a_ b_ d_)) (a_ (eW fk (fb 2) b_) d_))))
   (c_ (jC (i:=3) lO.nd rfl (by walk_at "o") rfl (N:= ["rooms"]) (fr:= []) (tG.of (by kernel_rfl)) (gi (hU (fb 1))) (λ _ _ _ _ _=>gu)
    (λ _ _ _ _ _=>(fD (xc rfl) (by rfl) T.qy PyProof.Rows.boot_sorted (a_ (fb 0) d_))))
   (c_ (fu 4 lO.nd (fo mZ (gh (a_ (eW fk (fb 2) b_) d_)) (iS rfl (N:= ["room","whole"]) (fr:= [2]) (tG.of (by kernel_rfl)) (GQ rfl T.iz (a_ b_ (a_ (fD fH (by rfl) T.gW PySem.boot_len (a_ (fb 3) d_)) d_))) (λ _ _ _ _ _=>gu)
    (λ _ _ _ _ _=>(iT (FA K) (fb 0) (eW (xE K) (fb 1) b_) (by with_unfolding_all rfl))))))
   (eZ (fA (gj (a_ (fF T.ub tw hr fE (a_ (fb 0) d_)) (a_ (fb 3) (a_ (fb 4) d_))))))))))),?_⟩
  walk_at "rs";refine eY λ N hN=> ?_;walk_at "rd";intro b dx TX YY ne0;have sB:fh H (upd (upd H dx (.own b)) b (.ins t.fV dx [])):=(fh.new YY).fS TX;refine⟨b,dx,rfl,eX,λ H1 f d b1 Nt Mr k1=>⟨rfl,hN _ _ ?_⟩⟩;have s1:fh H H1:=λ c o e=>k1 c o (fq e TX) (sB _ _ e);have hf:H f=none:=sB.free Nt;have YZ:H d=none:=sB.free Mr;clear k1;obtain⟨ZX,MF⟩:=b1.obj;refine eY λ N hN=> ?_;walk_at "rd";refine⟨_,_,MF,rfl,b,a,f,[d],[[]],tr,rfl,b1,ha.same s1,hd,by simp only [aF,aV];lia,λ p l1 l2 H2 Vv F2 hp xH zO b2 n2 E2 e2 f1 f2 s2=>hN _ _ ?_⟩;obtain⟨ő,Qh⟩:=b2.obj;have F1:([[]]:List (List Int)).length=1:=rfl;rw [F1] at n2 E2 f1 f2;have Tx:l1≠f:=(fq b1.lst xH).symm;refine eY λ N hN=> ?_;walk_at "rd";refine⟨_,_,Qh,rfl,by decide,λ z hz=> ?_⟩;have m3:=fh.new (o:=.lst [V.int 0]) hz;have z3:upd H2 z (.lst [V.int 0]) z=some (.lst ([(0:Int)].map V.int)):=eX;have nz:z≠f:=(fq b2.lst hz).symm;generalize upd H2 z (.lst [V.int 0])=H3 at m3 z3;have b3:=b2.same m3;refine fc (m3 _ _ e2) rfl ⟨b,f,z,l1,[d]++Vv,F2,[0],tr.i4 1,rfl,b3,z3,m3 _ _ f1,nz,Tx,λ x hx=> ?_,λ x hx=> ?_,by lia,λ H4 F4 b4 n4 Ŧ s4=>hN _ _ ?_⟩
  .rw [ao.mp hx];lia
  .have:=tr.jg 1 x hx;lia
  have ad:mn [[]] F4 λ a c=>tr.j8 1 a c\/(a∈[(0:Int)]/\c∈tr.i4 1):=E2.trans Ŧ;have Pz:=(s2.trans (L2.Step.same m3)).trans s4
  have Lc:fh H H4:=λ c o e=>Pz.off c o (λ q=>by
   rcases aA.mp q with rfl|q
   .rw [hf] at e
    cases e
   .rw [ao.mp q,YZ] at e
    cases e) (s1 _ _ e)
  have e4:=s4.tup _ _ (m3 _ _ e2);have f4:=s4.off _ _ (b3.out (m3 _ _ f2) (fq b1.lst zO).symm) (m3 _ _ f2);have ha4:=ha.same Lc;obtain⟨dx4,eb4⟩:=b4.obj;have Gk:F4.length=1+tr.marks.length:=by exact n4.trans n2
  have PZ:=b4.len;clear Pz s4 Ŧ E2 b3 f1 f2 e2 b2 m3 z3 hz nz s2 Qh ő;refine eY λ N hN=> ?_;refine⟨_,rfl,b,_,_,_,_,rfl,eb4,T.gB,T.iX,rfl,f,rfl,⟨_,fZ.of b4.lst⟩,jo (cs:=([d]++Vv).zip F4) (g:=λ c=>V.ref c.1) (gH (by rw [qK PZ];exact fZ.of b4.lst)) (λ H5 c p=>∃out:List Int,H5 p=some (.lst (out.map V.int))/\out.Perm c.2/\out.Pairwise (·<=·)) (λ H5 c p ⟨out,e,_⟩ z=>by rw [e] at z;cases z) (λ c p H5 H6 s ⟨out,e,r⟩=>⟨out,s _ _ e,r⟩) (fW (by rw [b9];lia)) (λ c H5 Q2 hc s5 h=> ?_) (λ H5 c p D o n ⟨out,e,r⟩=>⟨out,(e_ n).trans e,r⟩) λ lf H5 af hlf s5 d5 Ah ι Xr=>hN _ _ ?_⟩
  .have ec:=b4.al.zip c hc;have nc:=b4.ok.len c.2 (dJ hc).2;walk_at "rd";exact⟨_,.inl (s5 _ _ ec),c.2,by unfold Md;rw [aQ];rfl,by lia,λ l out hl pm up=>h l _ hl (fh.new hl) ⟨out,eX,pm,up⟩⟩
  have QD:=Lc.trans s5;walk_at "rg";have e5:=s5 _ _ e4;refine eY λ N hN=> ?_;refine⟨_,rfl,_,_,_,_,rfl,rfl,oh.of e5,rfl,(by show 1<=sizeLine;decide),λ q0 ą=> ?_⟩;have m6:=fh.new (o:=.lst [V.bl tr.nul]) ą;have q6:upd H5 q0 (.lst [V.bl tr.nul]) q0=some (.lst [V.bl tr.nul]):=eX;have nq:q0≠lf:=(fq d5 ą).symm;generalize upd H5 q0 (.lst [V.bl tr.nul])=H6 at m6 q6;have Ul:=QD.trans m6
  have laf:af.length=1+tr.marks.length:=by
   have:=Ah.len;rw [b9,PZ,Nat.min_self] at this;exact this.symm.trans Gk
  have cnt:((((af.map V.ref).length:Nat):Int)-1).toNat=tr.marks.length:=by
   rw [ae];lia
  refine⟨_,rfl,lf,_,rfl,.inl (fZ.of (m6 _ _ d5)),_,_,rfl,⟨by decide,by decide,by rw [ae];lia,by rw [ae];lia⟩,comp_map (iE (n:=((((af.map V.ref).length:Nat):Int)-1).toNat)) (λ (j:Nat)=>.bl (decide (1+(j:Int)∈tr.iU 1))) (fW (by rw [aI];exact Zc (Ze cnt) (Zc iD (Zd rfl)))) (λ j H7 Q2 _ s7 h=> ?_) λ D H7 hD s7 d7=> ?_⟩
  .walk_at "rd";exact fc (s7 _ _ (m6 _ _ e5)) rfl (Lj (fZ.of (s7 _ _ (m6 _ _ (s5 _ _ f4)))) (h _ (fh.refl _)))
  rw [cnt] at d7;refine⟨q0,D,_,_,rfl,rfl,s7 _ _ q6,d7,fW (by simp only [aF,aV,ae,aI];lia),λ le hle=>hN _ _ ?_⟩;have m8:=fh.new (o:=.lst ([V.bl tr.nul]++(List.range tr.marks.length).map λ (j:Nat)=>.bl (decide (1+(j:Int)∈tr.iU 1)))) hle
  have e8:upd H7 le (.lst ([V.bl tr.nul]++(List.range tr.marks.length).map λ (j:Nat)=>.bl (decide (1+(j:Int)∈tr.iU 1)))) le=some (.lst ((tr.nul::(List.range tr.marks.length).map λ (j:Nat)=>decide (1+(j:Int)∈tr.iU 1)).map V.bl)):=by
   rw [eX,aD,aQ];rfl
  generalize upd H7 le (.lst ([V.bl tr.nul]++(List.range tr.marks.length).map λ (j:Nat)=>.bl (decide (1+(j:Int)∈tr.iU 1))))=H8 at m8 e8;have V5:=(m6.trans s7).trans m8;have V6:=QD.trans V5;walk_at "rg";walk_at "rd";refine⟨a,tr,rfl,ha.same V6,hd,Zc iD (Zd rfl),λ lm H9 am OQ s9 e9 al9=>⟨by decide,λ pp U2=> ?_⟩⟩;obtain⟨outs,p1,p2⟩:=HB PZ Ah;obtain⟨EU,ς⟩:=OF b4.ok Gk iD ad p1;have F9:=fh.new (o:=.tup [.ref lm,.ref lf,.ref le]) U2;have Uj:=(V5.trans s9).trans F9;have lf8:=V5 _ _ d5;have le7:H7 lf≠none:=by rw [s7 _ _ (m6 _ _ d5)];exact λ q=>nomatch q
  refine k pp _ _ ((V6.trans s9).free U2) ((V6.trans s9).trans F9) ⟨lm,lf,le,am,af,eX,F9 _ _ e9,?_,Uj _ _ d5,p2.imp λ x l e=>Uj _ _ e,F9 _ _ (s9 _ _ e8),ι,λ x hx=> ?_,V6.free OQ,Lc.free hlf,?_,?_,?_,?_⟩ EU ς
  .exact fN.OK (λ x m hm r=>⟨F9 _ _ r.1,Φ m hm⟩) al9
  .obtain⟨o1,o2⟩:=Xr x hx;obtain⟨l,_,ex⟩:=p2.XH hx;have x8:=V5 _ _ ex;have x7:=s7 _ _ (m6 _ _ ex);exact⟨Lc.free o2,fq x8 OQ,o1,fq x7 hle⟩
  .exact(QD.trans (m6.trans s7)).free hle
  .exact(fq lf8 OQ).symm
  .exact(fq e8 OQ).symm
  .exact fq (s7 _ _ (m6 _ _ d5)) hle
theorem gX:fG ["cells","names","base","most","stack","marks","single","cell","turn","right","left","inner","shape","part"] ["cells","names","base","most"] (fw u9):=by walk_at "sc"
theorem FO (T:Txt K mg t):f_ P w K mg base (ir P w) 4 t.Bu t.A6 ["cells","names","base","most"] (x9):=by
 have kx:=(oG (P:=P) (w:=w) (base:=base) T).mono (show 1<=3 by decide);have EL:=Cb (P:=P) (w:=w) (base:=base) T;refine T.HM.fn.okN gX (λ ik A outer s H vs Q E hr h=> ?_)
 .obtain⟨lc,nm,b,mo,cs,ns,rfl,hc,c63,hn,hb,mo1,ρ,k⟩:=h
  refine⟨_,Bx.un (c_ (fu 4 gX.nd (gh d_))
   (c_ (fu 5 gX.nd (gh d_))
   (c_ (fu 6 gX.nd b_)
   (c_ (gL PassesOwn.never rfl (gi (fo mZ (fb 0) (i9 lq (gh (a_ b_ d_)) jE (jD (fo mY b_ (fD (vB rfl) (by rfl) T.Iv cM (a_ b_ (a_ (fD fH (by rfl) T.gW PySem.boot_len (a_ (fb 0) d_)) d_)))))))) (gb 7 gX.nd)
   (c_ (fu 8 gX.nd (fo fU (fF T.uf kx hr fE (a_ (fb 7) d_)) b_))
   (eZ (fM (kU (fB ph (fb 8) b_ (fI _)) (kU (jw (J9 (fb 4))) (mI (qU (fB ph (fb 8) b_ (fI _)) (nX (fB ph (fD fH (by rfl) T.gW PySem.boot_len (a_ (fb 4) d_)) b_ (fI _)))).Io))).Io
   (eZ (fM (fB ph (fD fH (by rfl) T.gW PySem.boot_len (a_ (fb 5) d_)) (fb 3) (fI _))
   (c_ (fQ (iy aH aX aW gR (fb 4) (a_ (gj (a_ fP (a_ (fD fH (by rfl) T.gW PySem.boot_len (a_ (fb 5) d_)) d_))) d_)))
   (eZ (fQ (iy aH aX aW gR (fb 5) (a_ (fF T.AJ EL hr fE (a_ (fb 7) (a_ (fb 1) (a_ (fb 2) d_)))) d_)))))
   fC))
   (eZ (fM (fB ph (fb 8) b_ (fI _))
   (c_ (fu 9 gX.nd (uC aH dN dM Ga (fb 4)))
   (c_ (fu 10 gX.nd (uC aH dN dM Ga (fb 4)))
   (eZ (fQ (iy aH aX aW gR (fb 4) (a_ (gj (a_ (eW fJ (gh (a_ fP (a_ fP d_))) (fo mY (fb 8) b_)) (a_ (fb 10) (a_ (fb 9) d_)))) d_))))))
   (eZ (fM (fB ph (fb 6) (fb 3) (fI _))
   (c_ (fu 6 gX.nd (fo gY (fb 6) b_))
   (c_ (fu 11 gX.nd (uC aH dN dM Ga (fb 4)))
   (eZ (fQ (iy aH aX aW gR (fb 4) (a_ (gj (a_ (eW fJ zt (fo mY (fb 8) b_)) (a_ (fb 11) d_))) d_))))))
   fC))))))))
   (c_ (fu 12 gX.nd (eW fJ (fb 4) b_))
   (c_ (gL PassesOwn.never rfl (gi (i9 lq (fb 4) (jD b_) jE)) (gb 13 gX.nd)
   (eZ (fu 12 gX.nd (gj (a_ fP (a_ (fb 12) (a_ (fb 13) d_)))))))
   (eZ (fA (gj (a_ (fb 12) (a_ (fb 5) d_))))))))))),?_⟩
  walk_at "rs";refine eY λ N hN=> ?_;walk_at "rd";refine⟨aP _,λ st pM=>hN _ _ ?_⟩;have s1:=fh.new (o:=.lst []) pM;have t1:upd H st (.lst []) st=some (.lst []):=eX;generalize upd H st (.lst [])=H1 at s1 t1;refine eY λ N hN=> ?_;walk_at "rd";refine⟨aP _,λ ml OP=>hN _ _ ?_⟩;have n2:=fh.new (o:=.lst []) OP;have YM:=s1.free OP;have s2:=s1.trans n2;have t2:=n2 _ _ t1;have m2:upd H1 ml (.lst []) ml=some (.lst []):=eX;have Ts:st≠ml:=fq t1 OP;generalize upd H1 ml (.lst [])=H2 at s2 t2 m2;clear n2 t1 s1 OP;refine eY λ N hN=> ?_;walk_at "rd";refine hN _ _ ?_;refine eY λ N hN=> ?_;refine⟨_,rfl,by decide,λ z hz=> ?_⟩;have n3:=fh.new (o:=.lst [V.int 0]) hz;have z3:upd H2 z (.lst [V.int 0]) z=some (.lst ([(0:Int)].map V.int)):=eX;generalize upd H2 z (.lst [V.int 0])=H3 at n3 z3;have s3:=s2.trans n3;refine⟨_,rfl,lc,_,rfl,.inl (fZ.of (s3 _ _ hc)),_,_,rfl,_,_,rfl,rfl,_,rfl,z,_,rfl,fZ.of z3,λ z4 ü=> ?_⟩;generalize YU:(1:Int)-(if (((cs.map V.int).length:Nat):Int)<1 then (((cs.map V.int).length:Nat):Int) else 1)=hi
  have Ď:0<=hi/\hi<=1/\(hi=0->1<=cs.length)/\(hi=1->cs.length=0):=by
   rw [ae] at YU
   split at YU<;>lia
  obtain⟨es,Ő,eel⟩:∃es:List Int,uw ([(0:Int)].map V.int) none (some hi)=es.map V.int/\es.length=hi.toNat:=by
   refine⟨[(0:Int)].take hi.toNat,vA _ _ Ď.1,?_⟩;rw [aT];simp only [aF,aV];lia
  rw [Ő];have n4:=fh.new (o:=.lst (es.map V.int)) ü;have WW:upd H3 z4 (.lst (es.map V.int)) z4=some (.lst (es.map V.int)):=eX;generalize upd H3 z4 (.lst (es.map V.int))=H4 at n4 WW;have s4:=s3.trans n4;refine⟨lc,z4,_,_,rfl,rfl,s4 _ _ hc,WW,fW (by rw [ae,ae];lia),λ cl Y1=> ?_⟩;rw [<-av];have n5:=fh.new (o:=.lst ((cs++es).map V.int)) Y1;have c5:upd H4 cl (.lst ((cs++es).map V.int)) cl=some (.lst ((cs++es).map V.int)):=eX;have s5:=s4.trans n5;have t5:=n5 _ _ (n4 _ _ (n3 _ _ t2));have m5:=n5 _ _ (n4 _ _ (n3 _ _ m2));generalize upd H4 cl (.lst ((cs++es).map V.int))=H5 at n5 c5 s5 t5 m5
  have XT:1<=(cs++es).length/\(cs++es).length=max 1 cs.length:=by
   rw [aq];lia
  generalize cs++es=ds at c5 XT
  have cst:cl≠st:=λ q=>by
   rw [q,t5] at c5;have:([]:List V)=ds.map V.int:=by injection c5 with q1;injection q1
   have:=congrArg List.length this;rw [ae] at this;simp at this;exact Zf (Za (Zd rfl) XT.1) (Zg this)
  have cml:cl≠ml:=λ q=>by
   rw [q,m5] at c5;have:([]:List V)=ds.map V.int:=by injection c5 with q1;injection q1
   have:=congrArg List.length this;rw [ae] at this;simp at this;exact Zf (Za (Zd rfl) XT.1) (Zg this)
  clear n5 n4 n3 WW z3 hz ü Y1 s4 s3 s2 t2 m2 Ő eel Ď YU
  refine⟨cl,rfl,⟨_,fZ.of c5⟩,iG (K:=K) (a:=cl) (xs:=ds.map V.int) (λ i σ H6=>∃(v6 v7 v8 v9 v10 v11:Option V) (sg:Nat) (as:List Addr) (sl:List Sh) (am:List Addr) (ms:List jQ),σ = [some (.ref lc),some (.ref nm),some (.int b),some (.int (mo:Int)),some (.ref st),some (.ref ml),some (.int (sg:Int)),v6,v7,v9,v10,v11,none,none]/\fh H H6/\H6 cl=some (.lst (ds.map V.int))/\H6 st=some (.lst (as.map V.ref))/\fN (jr H6) as sl/\H6 ml=some (.lst (am.map V.ref))/\fN (λ x k=>H6 x=some (.tup (EW k))/\tj k/\qq k.num) am ms/\AH sl=List.range ms.length/\C_ sl<=sg/\sg<=mo/\ms.length<=mo/\ms.length<=i/\(0<i->1<=sl.length))
   ⟨none,none,none,none,none,none,0,[],[],[],[],rfl,s5,c5,t5,.nil,m5,.nil,rfl,ay _,aP _,aP _,ay _,λ z=>absurd z (by decide)⟩ (λ i σ H6 _ hz=>by obtain⟨_,_,_,_,_,_,_,_,_,_,_,_,_,z,_⟩:=hz;exact fZ.of z) ?_ ?_⟩
  .rintro i y σ H6 hi ⟨v6,v7,v8,v9,v10,v11,sg,as,sl,am,ms,rfl,s6,c6,t6,al,m6,xO,lv,on,K6,TB,mi,ne⟩;obtain⟨c,hc2,rfl⟩:=g_ hi;have la:=al.len;have lm:=xO.len;have ll:=HH sl;rw [lv,aI] at ll;clear hN;walk_at "rg";refine eY λ N2 hN=> ?_;walk_at "rd";refine⟨_,rfl,λ tu tu0 tu1=>⟨_,rfl,hN _ _ ?_⟩⟩;have w0:0<=tu%8/\tu%8<8:=by lia
   generalize tu%8=tm at w0;refine Cj λ N2 hN=> ?_;have hM:∀(v8 v9 v10 v11:Option V) (sg:Nat) (as:List Addr) (sl:List Sh) (am:List Addr) (ms:List jQ) (H7:Hp),fh H H7->H7 cl=some (.lst (ds.map V.int))->H7 st=some (.lst (as.map V.ref))->fN (jr H7) as sl->H7 ml=some (.lst (am.map V.ref))->fN (λ x k=>H7 x=some (.tup (EW k))/\tj k/\qq k.num) am ms->AH sl=List.range ms.length->C_ sl<=sg->sg<=mo->ms.length<=mo->ms.length<=i+1->1<=sl.length->N2 [some (.ref lc),some (.ref nm),some (.int b),some (.int (mo:Int)),some (.ref st),some (.ref ml),some (.int (sg:Int)),some (.int c),some (.int tm),v9,v10,v11,none,none] H7:=λ v8 v9 v10 v11 sg as sl am ms H7 a1 a2 a3 a4 a5 a6 a7 a8 a9 a10 a11 a12=>hN _ _ ⟨_,_,v8,v9,v10,v11,sg,as,sl,am,ms,rfl,a1,a2,a3,a4,a5,a6,a7,a8,a9,a10,a11,λ _=>a12⟩;clear hN;have kt:∀(c:Addr) (ys:List V) (o:HO),H6 c=some (.lst ys)->∀b xs,H6 b=some (.tup xs)->upd H6 c o b=some (.tup xs):=λ c ys o hc b xs e=>(e_ λ z=>by rw [z,hc] at e;cases e).trans e;refine jf λ A B hA hB=> ?_;walk_at "rd";refine(λ Vf=>fO (λ _=>Vf) λ h1=>⟨_,.inl ⟨_,fZ.of t6,rfl⟩,fO (λ _=>Vf) λ h2=> ?_⟩) (hA _ _ ?_)
   .clear hA hB A B;walk_at "rd";refine⟨_,.inl (fZ.of m6),fO (λ Y_=> ?_) λ Y_=> ?_⟩
    .rw [ae,lm] at Y_;refine⟨gp (fZ.of t6),_,.inl (fZ.of m6),by decide,λ p hp=> ?_⟩;rw [ae,lm];have n7:=fh.new (o:=.tup [V.str (tx [109,97,114,107]),V.int (ms.length:Int)]) hp;have p7:upd H6 p (.tup [V.str (tx [109,97,114,107]),V.int (ms.length:Int)]) p=some (.tup [V.str (tx [109,97,114,107]),V.int (ms.length:Int)]):=eX;generalize upd H6 p (.tup [V.str (tx [109,97,114,107]),V.int (ms.length:Int)])=H7 at n7 p7;have t7:=n7 _ _ t6;refine⟨_,t7,?_,?_⟩
     .rw [ae,la];exact aC (show _<3000 from Zb ll (Za (Yv Y_) (Zc ρ (Zd rfl)))) (fW (by decide))
     have k8:∀b xs,H7 b=some (.tup xs)->upd H7 st (.lst (as.map V.ref ++ [.ref p])) b=some (.tup xs):=λ b xs e=>(e_ λ z=>by rw [z,t7] at e;cases e).trans e;have s8:fh H (upd H7 st (.lst (as.map V.ref ++ [.ref p]))):=(s6.trans n7).fS pM
     have t8:upd H7 st (.lst (as.map V.ref ++ [.ref p])) st=some (.lst ((as ++ [p]).map V.ref)):=by
      rw [eX,av];rfl
     have m8:upd H7 st (.lst (as.map V.ref ++ [.ref p])) ml=some (.lst (am.map V.ref)):=(e_ Ts.symm).trans (n7 _ _ m6);have c8:upd H7 st (.lst (as.map V.ref ++ [.ref p])) cl=some (.lst (ds.map V.int)):=(e_ cst).trans (n7 _ _ c6);have Ť:=fN.snoc (jr.mark (k8 _ _ p7)) (al.imp λ a b r=>jr.keep (λ b xs e=>k8 b xs (n7 _ _ e)) r);have VH:=xO.imp λ a b (r:H6 a=some (.tup (EW b))/\tj b/\qq b.num)=>And.intro (k8 _ _ (n7 _ _ r.1)) r.2;generalize upd H7 st (.lst (as.map V.ref ++ [.ref p]))=H8 at s8 t8 m8 c8 Ť VH;refine⟨gp (fZ.of m8),c,nm,ns,b,rfl,⟨s8 _ _ hn.1,hn.2⟩,hb,λ m pm H9 wm nb Ć s9 e9=>⟨_,s9 _ _ m8,?_,?_⟩⟩
     .rw [ae,lm];exact aC (show _<3000 from Zb TB (Zb ρ (Zd rfl))) (fW (by decide))
     have m9:=s9 _ _ m8;have X2:∀o b xs,H9 b=some (.tup xs)->upd H9 ml o b=some (.tup xs):=λ o b xs e=>(e_ λ z=>by rw [z,m9] at e;cases e).trans e
     have fin:∀(v:Option V) (y:Addr) (my:jQ) (Aj:Hp),H9 y=some (.tup (EW my))->tj my/\qq my.num->Aj=upd H9 ml (.lst (am.map V.ref ++ [.ref y]))->N2 [some (.ref lc),some (.ref nm),some (.int b),some (.int (mo:Int)),some (.ref st),some (.ref ml),some (.int (sg:Int)),some (.int c),some (.int tm),v9,v10,v11,none,none] Aj:=by
      rintro v y my _ ey wy rfl;refine hM v v9 v10 v11 sg (as ++ [p]) (sl ++ [.mark ms.length]) (am ++ [y]) (ms ++ [my]) _ ((s8.trans s9).fS YM) ((e_ cml).trans (s9 _ _ c8)) ((e_ Ts).trans (s9 _ _ t8)) (Ť.imp λ a b r=>jr.keep (X2 _) (r.same s9)) ?_ (fN.snoc ⟨X2 _ _ _ ey,wy⟩ (VH.imp λ a b r=>⟨X2 _ _ _ (s9 _ _ r.1),r.2⟩)) ?_ ?_ K6 ?_ ?_ ?_
      .rw [eX,av];rfl
      .rw [oI,lv,aq];exact Ft _
      .rwa [oF]
      .rw [aq,bx];exact Yv Y_
      .rw [aq,bx];exact Zp mi
      .rw [aq,bx];exact Zo
     exact fin none pm m _ e9 ⟨wm,nb⟩ rfl
    .rw [ae,lm] at Y_;refine hM v8 v9 v10 v11 sg as sl am ms H6 s6 c6 t6 al m6 xO lv on K6 TB (Zc mi Zk) ?_
     cases sl with
     | nil=>
      have:=congrArg List.length lv;rw [aI] at this;simp [AH] at this;lia
     | cons x r=>simp
   .have Z5:as≠[]:=λ z=>by
     rw [z] at h2;exact h2 rfl
    have s1:1<=sl.length:=by
     rw [<-la];exact cZ.mpr Z5
    have tk:∀(P:Prop),tm<5->(tm=3->P)->(tm=4->P)->P:=λ P h5 p3 p4=>by
     have:tm=3\/tm=4:=by lia
     rcases this with z|z
     .exact p3 z
     .exact p4 z
    refine fO (λ h5=>⟨_,.inl (fZ.of t6),fO (λ _=>Vf) λ h6=>hB _ _ ?_⟩) λ h5=>hB _ _ ?_
    .clear Vf hA hB A B;refine jf λ A B hA hB=> ?_;walk_at "rd";refine jn h5 (hA _ _ ?_);clear hA hB A B;walk_at "rd";rw [ae] at h6;obtain⟨š,y,rfl⟩:=qN Z5;obtain⟨og,x,rfl⟩:=qN (l:=š) (λ z=>by rw [z] at h6;simp at h6);obtain⟨Ud,v,rfl⟩:=qN (l:=sl) (λ z=>by rw [z] at s1;simp at s1);obtain⟨Fg,u,rfl⟩:=qN (l:=Ud) (λ z=>by rw [z] at la;simp at la);have TH:og.length=Fg.length:=by simpa using la
     have hy:jr H6 y v:=al.get (i:=og.length+1) (by simp) (by rw [TH];simp);have hx:jr H6 x u:=al.get (i:=og.length) (by simp) (by rw [TH];simp)
     have Z9:fN (jr H6) og Fg:=by
      have h1:=al.take og.length;rw [bH,dS,TH,bH,dS] at h1;exact h1
     have d1:(((og ++ [x] ++ [y]).map V.ref).dropLast)=(og ++ [x]).map V.ref:=by
      rw [av,aD,bu,dW]
     have d2:(((og ++ [x]).map V.ref).dropLast)=og.map V.ref:=by
      rw [av,aD,bu,dW]
     have XO:AH (Fg ++ [u] ++ [v])=AH Fg++(u.leaves++v.leaves):=by
      rw [oI,oI];simp [AH]
     have Xs:C_ (Fg ++ [u] ++ [v])=C_ Fg+(u.ones+v.ones):=by
      rw [oF,oF];simp only [C_,aD,bu,cj,dG];exact Nat.add_assoc _ _ _
     refine⟨gp (fZ.of t6),st,_,.ref y,rfl,rfl,t6,by simp,?_⟩;rw [d1];have t7:upd H6 st (.lst ((og ++ [x]).map V.ref)) st=some (.lst ((og ++ [x]).map V.ref)):=eX;refine⟨gp (fZ.of t7),st,_,.ref x,rfl,rfl,t7,by simp,?_⟩;rw [d2];have s8:fh H (upd (upd H6 st (.lst ((og ++ [x]).map V.ref))) st (.lst (og.map V.ref))):=(s6.fS pM).fS pM;have t8:upd (upd H6 st (.lst ((og ++ [x]).map V.ref))) st (.lst (og.map V.ref)) st=some (.lst (og.map V.ref)):=eX;have o8:∀b o,b≠st->H6 b=some o->upd (upd H6 st (.lst ((og ++ [x]).map V.ref))) st (.lst (og.map V.ref)) b=some o:=λ b o hb e=>(e_ hb).trans ((e_ hb).trans e);generalize upd (upd H6 st (.lst ((og ++ [x]).map V.ref))) st (.lst (og.map V.ref))=H8 at s8 t8 o8;have k8:∀b xs,H6 b=some (.tup xs)->H8 b=some (.tup xs):=λ b xs e=>o8 b _ (λ z=>by rw [z,t6] at e;cases e) e;refine⟨gp (fZ.of t8),by decide,λ p hp=> ?_⟩;have n9:=fh.new (o:=.lst [V.str (tx [114,111,119]),V.str (tx [111,114])]) hp;have p9:upd H8 p (.lst [V.str (tx [114,111,119]),V.str (tx [111,114])]) p=some (.lst [V.str (tx [114,111,119]),V.str (tx [111,114])]):=eX;generalize upd H8 p (.lst [V.str (tx [114,111,119]),V.str (tx [111,114])])=H9 at n9 p9
     have fin:∀kd∈uS,3<=sizeLine/\∀p,H9 p=none->∃Tj,upd H9 p (.tup [.str (tx kd),.ref x,.ref y]) st=some (.lst Tj)/\Tj.length<sizeLine/\N2 [some (.ref lc),some (.ref nm),some (.int b),some (.int (mo:Int)),some (.ref st),some (.ref ml),some (.int (sg:Int)),some (.int c),some (.int tm),some (.ref y),some (.ref x),v11,none,none] (upd (upd H9 p (.tup [.str (tx kd),.ref x,.ref y])) st (.lst (Tj ++ [V.ref p]))):=by
      intro kd hk;refine⟨by decide,λ q hq=> ?_⟩;have F9:=fh.new (o:=.tup [.str (tx kd),.ref x,.ref y]) hq;have PH:upd H9 q (.tup [.str (tx kd),.ref x,.ref y]) q=some (.tup [.str (tx kd),.ref x,.ref y]):=eX;generalize upd H9 q (.tup [.str (tx kd),.ref x,.ref y])=E4 at F9 PH;have yB:=n9.trans F9;have Uc:=yB _ _ t8;have UU:∀b xs,E4 b=some (.tup xs)->upd E4 st (.lst (og.map V.ref ++ [.ref q])) b=some (.tup xs):=λ b xs e=>(e_ λ z=>by rw [z,Uc] at e;cases e).trans e;have Ei:∀b xs,H6 b=some (.tup xs)->upd E4 st (.lst (og.map V.ref ++ [.ref q])) b=some (.tup xs):=λ b xs e=>UU b xs (yB _ _ (k8 b xs e));refine⟨_,Uc,?_,hM v8 _ _ v11 sg (og ++ [q]) (Fg ++ [.two kd u v]) am ms _ ((s8.trans yB).fS pM) ((e_ cst).trans (yB _ _ (o8 _ _ cst c6))) ?_ (fN.snoc (.two (UU _ _ PH) hk (hx.keep Ei) (hy.keep Ei)) (Z9.imp λ a b r=>jr.keep Ei r)) ((e_ Ts.symm).trans (yB _ _ (o8 _ _ Ts.symm m6))) (xO.imp λ a b r=>⟨Ei _ _ r.1,r.2⟩) ?_ ?_ K6 TB (Zc mi Zk) (by simp)⟩
      .rw [ae]
       have:og.length<=63:=by
        rw [aq,aq] at ll;lia
       exact aC (show _<3000 from Zb this (Zd rfl)) (fW (by decide))
      .rw [eX,av];rfl
      .rw [<-lv,XO,oI];simp [AH,Sh.leaves]
      .rw [oF];rw [Xs] at on;simp only [C_,aD,bu,cj,dG,Sh.ones] at on⊢;omega
     refine tk _ h5 (λ z=> ?_) λ z=> ?_
     .rw [z];exact fK p9 (v:=.str (tx jM)) rfl (z▸fin jM (by decide))
     .rw [z];exact fK p9 (v:=.str (tx sL)) rfl (z▸fin sL (by decide))
    .clear Vf hA hB A B;refine jf λ A B hA hB=> ?_;walk_at "rd";refine gs h5 (hB _ _ ?_);clear hA hB A B;walk_at "rd";refine fO (λ hs=> ?_) λ _=>hM v8 v9 v10 v11 sg as sl am ms H6 s6 c6 t6 al m6 xO lv on K6 TB (Zc mi Zk) s1;obtain⟨og,x,rfl⟩:=qN Z5;obtain⟨Fg,u,rfl⟩:=qN (l:=sl) (λ z=>by rw [z] at s1;simp at s1);have TH:og.length=Fg.length:=by simpa using la
     have hx:jr H6 x u:=al.get (i:=og.length) (by simp) (by rw [TH];simp)
     have Z9:fN (jr H6) og Fg:=by
      have h1:=al.take og.length;rw [dS,TH,dS] at h1;exact h1
     have d2:(((og ++ [x]).map V.ref).dropLast)=og.map V.ref:=by
      rw [av,aD,bu,dW]
     have XO:AH (Fg ++ [u])=AH Fg++u.leaves:=by
      rw [oI];simp [AH]
     have Xs:C_ (Fg ++ [u])=C_ Fg+u.ones:=by
      rw [oF];simp only [C_,aD,bu,cj,dG];exact rfl
     refine⟨gp (fZ.of t6),st,_,.ref x,rfl,rfl,t6,by simp,?_⟩;rw [d2];have s8:fh H (upd H6 st (.lst (og.map V.ref))):=s6.fS pM;have t8:upd H6 st (.lst (og.map V.ref)) st=some (.lst (og.map V.ref)):=eX;have o8:∀b o,b≠st->H6 b=some o->upd H6 st (.lst (og.map V.ref)) b=some o:=λ b o hb e=>(e_ hb).trans e;generalize upd H6 st (.lst (og.map V.ref))=H8 at s8 t8 o8;have k8:∀b xs,H6 b=some (.tup xs)->H8 b=some (.tup xs):=λ b xs e=>o8 b _ (λ z=>by rw [z,t6] at e;cases e) e;refine⟨gp (fZ.of t8),by decide,λ p hp=> ?_⟩;have n9:=fh.new (o:=.lst [V.str (tx [109,97,110,121]),V.str (tx [115,111,109,101]),V.str (tx [109,97,121,98,101])]) hp;have p9:upd H8 p (.lst [V.str (tx [109,97,110,121]),V.str (tx [115,111,109,101]),V.str (tx [109,97,121,98,101])]) p=some (.lst [V.str (tx [109,97,110,121]),V.str (tx [115,111,109,101]),V.str (tx [109,97,121,98,101])]):=eX;generalize upd H8 p (.lst [V.str (tx [109,97,110,121]),V.str (tx [115,111,109,101]),V.str (tx [109,97,121,98,101])])=H9 at n9 p9
     have fin:∀kd∈ones,2<=sizeLine/\∀p,H9 p=none->∃Nz,upd H9 p (.tup [.str (tx kd),.ref x]) st=some (.lst Nz)/\Nz.length<sizeLine/\N2 [some (.ref lc),some (.ref nm),some (.int b),some (.int (mo:Int)),some (.ref st),some (.ref ml),some (.int ((sg:Int)+1)),some (.int c),some (.int tm),v9,v10,some (.ref x),none,none] (upd (upd H9 p (.tup [.str (tx kd),.ref x])) st (.lst (Nz ++ [V.ref p]))):=by
      intro kd hk;refine⟨by decide,λ q hq=> ?_⟩;have F9:=fh.new (o:=.tup [.str (tx kd),.ref x]) hq;have PH:upd H9 q (.tup [.str (tx kd),.ref x]) q=some (.tup [.str (tx kd),.ref x]):=eX;generalize upd H9 q (.tup [.str (tx kd),.ref x])=E4 at F9 PH;have yB:=n9.trans F9;have Uc:=yB _ _ t8;have UU:∀b xs,E4 b=some (.tup xs)->upd E4 st (.lst (og.map V.ref ++ [.ref q])) b=some (.tup xs):=λ b xs e=>(e_ λ z=>by rw [z,Uc] at e;cases e).trans e;have Ei:∀b xs,H6 b=some (.tup xs)->upd E4 st (.lst (og.map V.ref ++ [.ref q])) b=some (.tup xs):=λ b xs e=>UU b xs (yB _ _ (k8 b xs e));refine⟨_,Uc,?_,hM v8 v9 v10 _ (sg+1) (og ++ [q]) (Fg ++ [.one kd u]) am ms _ ((s8.trans yB).fS pM) ((e_ cst).trans (yB _ _ (o8 _ _ cst c6))) ?_ (fN.snoc (.one (UU _ _ PH) hk (hx.keep Ei)) (Z9.imp λ a b r=>jr.keep Ei r)) ((e_ Ts.symm).trans (yB _ _ (o8 _ _ Ts.symm m6))) (xO.imp λ a b r=>⟨Ei _ _ r.1,r.2⟩) ?_ ?_ (Yv hs) TB (Zc mi Zk) (by simp)⟩
      .rw [ae]
       have:og.length<=63:=by
        rw [aq] at ll;exact Zc (Ze TH) (Zc Zk (Zc ll (Zc TB (Zc ρ (Zd rfl)))))
       exact aC (show _<3000 from Zb this (Zd rfl)) (fW (by decide))
      .rw [eX,av];rfl
      .rw [<-lv,XO,oI];simp [AH,Sh.leaves]
      .rw [oF];rw [Xs] at on;simp only [C_,aD,bu,cj,dG,Sh.ones] at on⊢;lia
     have t3:tm=5\/tm=6\/tm=7:=by lia
     rcases t3 with z|z|z
     .rw [z];exact fK p9 (v:=.str (tx i6)) rfl (z▸fin i6 (by decide))
     .rw [z];exact fK p9 (v:=.str (tx lL)) rfl (z▸fin lL (by decide))
     .rw [z];exact fK p9 (v:=.str (tx jb)) rfl (z▸fin jb (by decide))
  .rintro σ H6 ⟨v6,v7,v8,v9,v10,v11,sg,as,sl,am,ms,rfl,s6,c6,t6,al,m6,xO,lv,on,K6,TB,mi,ne⟩;refine hN _ _ ?_;rw [ae] at mi ne;have ne:=ne (Za (Zd rfl) XT.1);have la:=al.len
   obtain⟨a0,ar,rfl⟩:∃a0 ar,as=a0::ar:=by
    cases as with
    | nil=>simp at la;lia
    | cons x y=>exact⟨x,y,rfl⟩
   obtain⟨h0,sR,rfl⟩:∃h0 sR,sl=h0::sR:=by
    cases sl with
    | nil=>simp at ne
    | cons x y=>exact⟨x,y,rfl⟩
   obtain⟨hh0,S5⟩:jr H6 a0 h0/\fN (jr H6) ar sR:=by
    cases al with
    | cons r t=>exact⟨r,t⟩
   refine eY λ N hN=> ?_;walk_at "rd";refine fK t6 gK (hN _ _ ?_);refine eY λ N hN=> ?_;refine⟨_,rfl,_,rfl,st,_,rfl,fZ.of t6,λ q hq=> ?_⟩;rw [aD,A'];have n7:=fh.new (o:=.lst (ar.map V.ref)) hq;have q7:upd H6 q (.lst (ar.map V.ref)) q=some (.lst (ar.map V.ref)):=eX;generalize upd H6 q (.lst (ar.map V.ref))=H7 at n7 q7
   refine⟨q,rfl,⟨_,fZ.of q7⟩,iG (K:=K) (a:=q) (xs:=ar.map V.ref) (λ j σ H8=>∃(x:Addr) (sh:Sh) (Na:Option V),σ = [some (.ref lc),some (.ref nm),some (.int b),some (.int (mo:Int)),some (.ref st),some (.ref ml),some (.int (sg:Int)),v6,v7,v9,v10,v11,some (.ref x),Na]/\fh H7 H8/\jr H8 x sh/\sh.leaves=h0.leaves++AH (sR.take j)/\sh.ones=h0.ones+C_ (sR.take j))
    ⟨a0,h0,none,rfl,fh.refl _,hh0.same n7,by simp [AH],by simp [C_]⟩ (λ j σ H8 _ hz=>by obtain⟨_,_,_,_,s8,_⟩:=hz;exact fZ.of (s8 _ _ q7)) ?_ ?_⟩
   .rintro j y σ H8 hj ⟨x,sh,Na,rfl,s8,hx,e1,e2⟩;obtain⟨y,hy,rfl⟩:=g_ hj
    have hj2:j<sR.length:=by
     rw [<-S5.len];exact(ag.mp hy).1
    have hz:sR[j]? = some sR[j]:=by simp
    have hsy:=(S5.get hy hz).same (n7.trans s8);walk_at "rg";walk_at "rd";refine⟨by decide,λ p hp=> ?_⟩;have n9:=fh.new (o:=.tup [.str (tx jM),.ref x,.ref y]) hp;refine⟨s8.trans n9,.two jM sh sR[j],.two eX (by decide) (hx.same n9) (hsy.same n9),?_,?_⟩
    .rw [ic hz,oI];simp only [Sh.leaves,e1,bH,AH,dq,List.flatMap_nil,bK]
    .rw [ic hz,oF];simp only [Sh.ones,e2,C_,aD,bu,cj,dG];exact Nat.add_assoc _ _ _
   .rintro σ H8 ⟨x,sh,Na,rfl,s8,hx,e1,e2⟩;refine hN _ _ ?_;rw [ae,S5.len,bh] at e1 e2;walk_at "rd";refine⟨by decide,λ p hp=> ?_⟩;have V4:=n7.trans s8;have n9:=fh.new (o:=.tup [.ref x,.ref ml]) hp;refine k p x ml _ sh ms ((s6.trans V4).free hp) YM ((s6.trans V4).trans n9) eX (hx.same n9) ⟨am,n9 _ _ (V4 _ _ m6),xO.imp λ _ _ r=>⟨n9 _ _ (V4 _ _ r.1),r.2.1⟩⟩ ?_ TB (Zc mi (Ze XT.2)) ?_ λ m hm=> ?_
    .rw [e1,<-lv];rfl
    .rw [e2];simp only [C_,aD,cj] at on⊢;exact Zc on K6
    .obtain⟨i,hi⟩:=aL.mp hm;obtain⟨x,_,r⟩:=xO.at hi;exact r.2.2
theorem Az:fG ["shape","marks"] ["shape","marks"] (fw ym):=by walk_at "sc"
theorem FE (T:Txt K mg t) (d:Nat):f_ P w K mg base (ir P w) (1+d) t.zy t.y_ ["shape","marks"] (qM d):=by
 induction d with
 | zero=>exact T.vt.fn.okN Az (len:=λ vs H Q E h=>(pS h).elim) (λ ik A outer s H vs Q E hr h=>(pS h).elim)
 | succ d ih=>
 have qH:=ih;refine T.vt.fn.okN Az (λ ik A outer s H vs Q E hr h=> ?_)
 .obtain⟨sa,ml,sh,ms,rfl,hs,hd,hm,lv,k⟩:=h
  refine⟨_,Bx.un (c_ (fM (fB g8 (eW fk (fb 0) b_) fP (fI _))
   (eZ (fA (eW fJ (fb 1) (eW fk (fb 0) b_))))
   fC)
   (c_ (fM (fB g8 (fD fH (by rfl) T.gW PySem.boot_len (a_ (fb 0) d_)) b_ (fI _))
   (eZ (fA (gj (a_ (eW fk (fb 0) b_) (a_ (fF T.vt qH hr fE (a_ (eW fk (fb 0) b_) (a_ (fb 1) d_))) (a_ (fF T.vt qH hr fE (a_ (eW fk (fb 0) b_) (a_ (fb 1) d_))) d_))))))
   fC)
   (eZ (fA (gj (a_ (eW fk (fb 0) b_) (a_ (fF T.vt qH hr fE (a_ (eW fk (fb 0) b_) (a_ (fb 1) d_))) d_))))))),?_⟩
  walk_at "rs";obtain⟨am,em,xO⟩:=hm
  have nm:∀kd∈uS++ones,¬V.str (tx kd)=V.str (tx [109,97,114,107]):=by
   intro kd hk q;have q:kd=qt:=iK.mp (by injection q);subst q;revert hk
   decide
  walk_at "rd"
  cases hs with
  | @mark _ i e=>
   have il:i<ms.length:=lv i (by simp [Sh.leaves]);obtain⟨x,hx,ex,wx⟩:=xO.at (show ms[i]? = some ms[i] by simp);refine fc e rfl ⟨rfl,jn rfl (fc e rfl (fK em (v:=.ref x) (gn Yt (by rw [ak,au,hx];rfl)) (k x H (fh.refl _) ?_)))⟩;show gZ H x (.mark ((ms[i]?).getD .none));rw [show ms[i]? = some ms[i] by simp];exact .mark ex wx.ok
  | @two _ l r kd x y e hk hl sR=>
   have dd:x.deep<=d/\y.deep<=d:=by
    simp only [Sh.deep] at hd;exact Qaa hd
   refine fc e gK ⟨rfl,gs (nm kd (aN _ hk)) ⟨_,.inr (oh.of e),jn rfl (fc e gK (fc e rfl ⟨l,ml,x,ms,rfl,hl,dd.1,⟨am,em,xO⟩,λ i hi=>lv i (aN _ hi),λ p1 H1 s1 t1=> ?_⟩))⟩⟩;refine fc (s1 _ _ e) rfl ⟨r,ml,y,ms,rfl,sR.same s1,dd.2,qE.same ⟨am,em,xO⟩ s1,λ i hi=>lv i (aB _ hi),λ p2 H2 s2 t2=>⟨by decide,λ p hp=> ?_⟩⟩;have n3:=fh.new (o:=.tup [.str (tx kd),.ref p1,.ref p2]) hp;exact k p _ ((s1.trans s2).trans n3) (.two eX hk (t1.same (s2.trans n3)) (t2.same n3))
  | @one _ i kd x e hk hi=>
   have dd:x.deep<=d:=cJ hd;refine fc e gK ⟨rfl,gs (nm kd (aB _ hk)) ⟨_,.inr (oh.of e),gs (by show ¬((2:Nat):Int)=3;decide) (fc e gK (fc e rfl ⟨i,ml,x,ms,rfl,hi,dd,⟨am,em,xO⟩,lv,λ p1 H1 s1 t1=>⟨by decide,λ p hp=> ?_⟩⟩))⟩⟩;have n3:=fh.new (o:=.tup [.str (tx kd),.ref p1]) hp;exact k p _ (s1.trans n3) (.one eX hk (t1.same n3))
theorem Js (T:Txt K mg t):f_ P w K mg base (ir P w) (1+40) t.zy t.y_ ["shape","marks"] (qM 40):=FE T 40
theorem jU:fG ["inner","made","at","found","to"] ["inner"] (fw pZ):=by walk_at "sc"
theorem Cc (T:Txt K mg t):f_ P w K mg base (ir P w) 1 t.wB t.wa ["inner"] (tQ):=by
 refine T.vw.fn.okN jU (λ ik A outer s H vs Q E hr h=> ?_)
 .obtain⟨q,rows,R,S,n,rfl,hq,sr,EV,ZR,QG,k⟩:=h
  refine⟨_,Bx.un (c_ (jC (i:=1) jU.nd rfl (by walk_at "o") rfl (N:= ["row"]) (fr:= []) (tG.of (by kernel_rfl)) (gi (fb 0)) (λ _ _ _ _ _=>gu)
    (λ _ _ _ _ _=>(gh d_)))
   (c_ (gL PassesOwn.never rfl (GP rfl T.iz (a_ (fo mY (fD fH (by rfl) T.gW PySem.boot_len (a_ (fb 0) d_)) b_) (a_ (CQ BF b_) (a_ (CQ BF b_) d_)))) (gb 2 jU.nd)
   (c_ (fu 3 jU.nd (gh (a_ (fb 2) d_)))
   (c_ (gL PassesOwn.never rfl (gi (eW fJ (fb 0) (fb 2))) (gb 4 jU.nd)
   (eZ (fM (fB AE (fb 4) (fb 2) (fI _))
   (eZ (fQ (iy aH dw dr vo (fb 3) (a_ (eW fJ (fb 1) (fb 4)) d_))))
   fC)))
   (eZ (oQ (Be rfl (by rfl) T.qy (by rfl) T.Iu (a_ (fb 3) d_)) (qW (fb 1) (fb 2) set_list))))))
   (eZ (fA (fb 1))))),?_⟩
  walk_at "rs";obtain⟨as,eq,al⟩:=hq;have lr:=sr.len;have la:=al.len;refine eY λ N hN=> ?_;refine⟨_,rfl,q,rfl,⟨_,fZ.of eq⟩,jo (cs:=as) (g:=V.ref) (gH (fZ.of eq)) (λ H2 _ p=>H2 p=some (.lst ([]:List V))) (λ H2 c p e z=>by rw [e] at z;cases z) (λ c p H2 H3 s e=>s _ _ e) (fW (by lia)) (λ c H2 Q2 hc s2 h=> ?_) (λ H2 c p D o n e=>(e_ n).trans e) λ mk H1 bs El s1 d1 Qm Tz B_=>hN _ _ ?_⟩
  .walk_at "rd";exact⟨aP _,λ p hp=>h p _ hp (fh.new hp) eX⟩
  have lb:bs.length=n+1:=by rw [<-Qm.len];exact la.trans lr
  walk_at "rg";have sh0:∃b0:List Addr,bs=b0:=⟨_,rfl⟩
  refine eY λ N hN=> ?_
  refine⟨_,rfl,q,_,rfl,.inl (fZ.of (s1 _ _ eq)),_,_,rfl,rfl,_,rfl,_,rfl,_,_,rfl,⟨by rw [ae];lia,by rw [ae];lia,by decide,by decide⟩,My (n:=((((as.map V.ref).length:Nat):Int)-1 - -1).toNat) (lo:=((((as.map V.ref).length:Nat):Int)-1)) (λ i σ H2=>∃(v2 v3 v4:Option V) (bs:List Addr) (gg:List (List Int)),σ = [some (.ref q),some (.ref mk),v2,v3,v4]/\fh H H2/\H2 mk=some (.lst (bs.map V.ref))/\fN (λ x (l:List Int)=>H2 x=some (.lst (l.map V.int))/\x≠mk) bs gg/\gg.length=n+1/\∀a:Nat,a<=n->n+1<=a+i->∃l,gg[a]? = some l/\l.Pairwise (· < ·)/\∀x:Int,x∈l↔∃b:Nat,x=(b:Int)/\S a b)
   ⟨none,none,none,bs,bs.map λ _=> [],rfl,s1,d1,?_,by rwa [ae],λ a ha hb=>absurd hb (by lia)⟩ ?_ ?_⟩
  .have go:∀(cs bs:List Addr),fN (λ (_:Addr) p=>H1 p=some (.lst ([]:List V))) cs bs->(∀a∈bs,a≠mk/\H a=none)->fN (λ x (l:List Int)=>H1 x=some (.lst (l.map V.int))/\x≠mk) bs (bs.map λ _=> []):=by
    intro cs bs h
    induction h with
    | nil=>exact λ _=>.nil
    | cons r t ih=>exact λ o=>.cons ⟨r,(o _ (by simp)).1⟩ (ih λ a ha=>o a (az _ ha))
   exact go as bs Qm B_
  .rintro i σ H2 hi ⟨v2,v3,v4,bs,gg,rfl,s2,m2,Ku,PY,Ju⟩;have ó:=Ku.len
   have Nr:i<n+1:=by
    rw [ae] at hi;lia
   obtain⟨a,ea⟩:∃a:Nat,a+i=n:=⟨n-i,by lia⟩
   have eat:(((as.map V.ref).length:Nat):Int)-1-(i:Int)=(a:Int):=by
    rw [ae];lia
   rw [eat];have ha:rows[a]? = some (rows[a]'(Zb Zk (Zb (Ze ea) (Zg lr)))):=by simp
   obtain⟨xa,Nl,J1⟩:=al.at ha;obtain⟨l1,l2⟩:=sr.row ha;have Gj:=sr.mem a _ ha;generalize rows[a]'(Zb Zk (Zb (Ze ea) (Zg lr)))=l0 at ha J1 l1 l2 Gj;have atq:xh (as.map V.ref) (a:Int)=some (.ref xa):=gn Yt (by rw [ak,au,Nl];rfl);clear hN;walk_at "rg";refine eY λ N2 hN=> ?_;walk_at "rd";refine⟨by decide,λ f hf=>hN _ _ ?_⟩;have n3:=fh.new (o:=.lst [V.int (a:Int)]) hf;have f3:upd H2 f (.lst [V.int (a:Int)]) f=some (.lst ([(a:Int)].map V.int)):=eX;have Nt:=s2.free hf;generalize upd H2 f (.lst [V.int (a:Int)])=H3 at n3 f3;have xf:xa≠f:=fq J1 Nt;have mf:mk≠f:=fq m2 hf;have qf:q≠f:=fq eq Nt;refine eY λ N2 hN=> ?_
   refine⟨_,rfl,_,rfl,_,_,_,_,rfl,rfl,fZ.of (n3 _ _ (s2 _ _ eq)),atq,xa,rfl,⟨_,fZ.of (n3 _ _ (s2 _ _ J1))⟩,iG (K:=K) (a:=xa) (xs:=l0.map V.int) (λ j σ H4=>∃(v4:Option V) (fs:List Int),σ = [some (.ref q),some (.ref mk),some (.int (a:Int)),some (.ref f),v4]/\(∀b o,b≠f->H2 b=some o->H4 b=some o)/\H4 f=some (.lst (fs.map V.int))/\(∀x:Int,x∈fs↔x=(a:Int)\/∃to∈l0.take j,(a:Int)<to/\x∈(gg[to.toNat]?).getD [])/\fs.length<=1+j*(n+1))
    ⟨v4,[(a:Int)],rfl,λ b o hb e=>n3 _ _ e,f3,λ x=>by simp,by simp⟩ (λ j σ H4 _ hz=>by obtain⟨_,_,_,o4,_⟩:=hz;exact fZ.of (o4 _ _ xf (s2 _ _ J1))) ?_ ?_⟩
   .rintro j y σ H4 hj ⟨v4,fs,rfl,o4,f4,Aa,Gk⟩;obtain⟨to,R0,rfl⟩:=g_ hj;have jl:j<l0.length:=(ag.mp R0).1;obtain⟨t0,t1⟩:=l1 to (ai R0);have tk:=ic R0;walk_at "rg";walk_at "rd";refine fO (λ h=> ?_) λ h=> ?_
    .obtain⟨lt,iJ,ult,mlt⟩:=Ju to.toNat (QaH t1) (by lia);obtain⟨b,hb,eb,nb⟩:=Ku.at iJ;have bf:b≠f:=fq eb hf
     have î:lt.length<=n+1:=Qu ult λ x hx=>by
      obtain⟨c,rfl,hc⟩:=(mlt x).mp hx;have:=QG _ _ (QaH t1) hc;lia
     have mul:(j+1)*(n+1)=j*(n+1)+(n+1):=by rw [Nat.add_mul,Nat.one_mul]
     have XE:(j+1)*(n+1)<=63*63:=cp (QaI jl EV l2) (Qae EV);refine⟨gp (fZ.of f4),fK (o4 _ _ mf m2) (v:=.ref b) (gn (by lia) (by rw [ak,hb];rfl)) ⟨f,b,_,_,rfl,rfl,f4,o4 _ _ bf eb,fW (by rw [ae,ae];lia),?_⟩⟩;rw [<-av];refine⟨λ c o hc e=>(e_ hc).trans (o4 c o hc e),fs++lt,eX,λ x=> ?_,by rw [aq];lia⟩;rw [ax,Aa,tk];have gt:(gg[to.toNat]?).getD []=lt:=by rw [iJ];rfl
     constructor
     .rintro((z | ⟨t',h1,h2,h3⟩)|z)
      .exact .inl z
      .exact .inr ⟨t',aN _ h1,h2,h3⟩
      .exact .inr ⟨to,aB _ (by simp),h,by rwa [gt]⟩
     .rintro(z | ⟨t',h1,h2,h3⟩)
      .exact .inl (.inl z)
      .rcases ax.mp h1 with y|y
       .exact .inl (.inr ⟨t',y,h2,h3⟩)
       .rw [ao.mp y,gt] at h3;exact .inr h3
    .have mul:(j+1)*(n+1)=j*(n+1)+(n+1):=by rw [Nat.add_mul,Nat.one_mul]
     refine⟨o4,fs,f4,λ x=> ?_,Zc Gk (Zw (Zc Zk (Zg mul)))⟩;rw [Aa,tk];constructor
     .rintro(z | ⟨t',h1,h2,h3⟩)
      .exact .inl z
      .exact .inr ⟨t',aN _ h1,h2,h3⟩
     .rintro(z | ⟨t',h1,h2,h3⟩)
      .exact .inl z
      .rcases ax.mp h1 with y|y
       .exact .inr ⟨t',y,h2,h3⟩
       .rw [ao.mp y] at h2;exact absurd h2 h
   .rintro σ H4 ⟨v4,fs,rfl,o4,f4,Aa,Gk⟩;refine hN _ _ ?_;rw [ae,bh] at Aa;rw [ae] at Gk;have XE:l0.length*(n+1)<=63*63:=cp (QaJ l2 EV) (Qae EV)
    have L6:∀x:Int,x∈fs↔∃b:Nat,x=(b:Int)/\S a b:=λ x=>by
     rw [Aa];constructor
     .rintro(z | ⟨t',h1,h2,h3⟩)
      .exact⟨a,z,(ZR a a).mpr (.inl rfl)⟩
      .obtain⟨c,rfl,hc⟩:=(Gj t').mp h1;have rc:=sr.wQ a c (Zc Zk (Ze ea)) hc;obtain⟨lt,iJ,_,mlt⟩:=Ju c rc.2 (by lia);rw [au,iJ] at h3;obtain⟨b,e,hb⟩:=(mlt x).mp h3;exact⟨b,e,(ZR a b).mpr (.inr ⟨c,Yv h2,hc,hb⟩)⟩
     .rintro⟨b,rfl,hb⟩;rcases (ZR a b).mp hb with z | ⟨c,h1,h2,h3⟩
      .exact .inl (by rw [z])
      .have rc:=sr.wQ a c (Zc Zk (Ze ea)) h2;obtain⟨lt,iJ,_,mlt⟩:=Ju c rc.2 (by lia);refine .inr ⟨(c:Int),(Gj _).mpr ⟨c,rfl,h2⟩,Yp h1,?_⟩;rw [au,iJ];exact(mlt _).mpr ⟨b,rfl,h3⟩
    have Lc:fh H H4:=λ b o e=>o4 b o (fq e Nt) (s2 _ _ e);walk_at "rd";refine⟨fs,fZ.of f4,by lia,xJ EV (λ x hx=> ?_),λ g out hg up mem=> ?_⟩
    .obtain⟨b,rfl,hb⟩:=(L6 x).mp hx;have:=QG a b (Zc Zk (Ze ea)) hb;exact QaK this
    have n5:=fh.new (o:=.lst (out.map V.int)) hg;have g5:upd H4 g (.lst (out.map V.int)) g=some (.lst (out.map V.int)):=eX;generalize upd H4 g (.lst (out.map V.int))=H5 at n5 g5;have m5:=n5 _ _ (o4 _ _ mf m2)
    have gm:g≠mk:=λ z=>by
     rw [z,o4 _ _ mf m2] at hg
     cases hg
    refine⟨_,m5,a,qS Yt (by rw [ae];lia),?_⟩;refine⟨(Lc.trans n5).fS El,bs.set a g,?_,gg.set a out,?_,by rwa [bS],λ c hc hci=> ?_⟩
    .rw [eX,de]
    .exact fN.Ug (R:=λ x (l:List Int)=>upd H5 mk (.lst ((bs.map V.ref).set a (V.ref g))) x=some (.lst (l.map V.int))/\x≠mk) ⟨(e_ gm).trans g5,gm⟩ a (Ku.imp λ x l r=>⟨(e_ r.2).trans (n5 _ _ (o4 _ _ (fq r.1 hf) r.1)),r.2⟩)
    .by_cases ca:c=a
     .subst ca;exact⟨out,by rw [bQ (Zb hc (Zg PY))],up,λ x=>by rw [mem x];exact L6 x⟩
     .obtain⟨l,h1,h2,h3⟩:=Ju c hc (by lia);exact⟨l,by rwa [cg (λ z=>ca z.symm)],h2,h3⟩
  .rintro σ H2 ⟨v2,v3,v4,bs,gg,rfl,s2,m2,Ku,PY,Ju⟩;refine hN _ _ ?_;walk_at "rd";rw [ae] at Ju;refine k mk H2 gg El s2 ⟨bs,m2,Ku.imp λ x l r=>r.1⟩ ⟨PY,λ l hl=> ?_,λ a l hl x=> ?_,QG⟩
   .obtain⟨i,hi⟩:=aL.mp hl;have il:=(ag.mp hi).1;obtain⟨l',h1,h2,_⟩:=Ju i (Zs (Za il (Ze PY))) (QaL la lr);rw [hi] at h1
    cases h1;exact h2
   .have il:=(ag.mp hl).1;obtain⟨l',h1,_,h3⟩:=Ju a (Zs (Za il (Ze PY))) (QaL la lr);rw [hl] at h1
    cases h1;exact h3 x
theorem kH:fG ["left","right","made","row","found","at"] ["left","right"] (fw sH):=by walk_at "sc"
theorem DQ (T:Txt K mg t):f_ P w K mg base (ir P w) 1 t.zA t.zb ["left","right"] (vP):=by
 refine T.yJ.fn.okN kH (λ ik A outer s H vs Q E hr h=> ?_)
 .obtain⟨p,q,vS,pf,R,S,n,rfl,hp,sl,hq,sr,EV,k⟩:=h
  refine⟨_,Bx.un (c_ (fu 2 kH.nd (gh d_))
   (c_ (gL PassesOwn.never rfl (gi (fb 0)) (gb 3 kH.nd)
   (c_ (fu 4 kH.nd (gh d_))
   (c_ (gL PassesOwn.never rfl (gi (fb 3)) (gb 5 kH.nd)
   (eZ (fQ (iy aH dw dr vo (fb 4) (a_ (eW fJ (fb 1) (fb 5)) d_)))))
   (eZ (fQ (iy aH aX aW gR (fb 2) (a_ (Be rfl (by rfl) T.qy (by rfl) T.Iu (a_ (fb 4) d_)) d_)))))))
   (eZ (fA (fb 2))))),?_⟩
  walk_at "rs";obtain⟨as,ep,al⟩:=hp;obtain⟨cs,eq,cl⟩:=hq;have lr:=sr.len;have ll:=sl.len;have la:=al.len;have lc:=cl.len;refine eY λ N hN=> ?_;walk_at "rd";refine⟨aP _,λ mk El=>hN _ _ ?_⟩;have s1:=fh.new (o:=.lst []) El;have m1:upd H mk (.lst []) mk=some (.lst []):=eX;generalize upd H mk (.lst [])=H1 at s1 m1;refine eY λ N hN=> ?_
  refine⟨_,rfl,p,rfl,⟨_,fZ.of (s1 _ _ ep)⟩,iG (K:=K) (a:=p) (xs:=as.map V.ref) (λ i σ H2=>∃(v3 v4 v5:Option V) (bs:List Addr) (gg:List (List Int)),σ = [some (.ref p),some (.ref q),some (.ref mk),v3,v4,v5]/\fh H H2/\H2 mk=some (.lst (bs.map V.ref))/\fN (λ x (l:List Int)=>H2 x=some (.lst (l.map V.int))/\x≠mk) bs gg/\gg.length=i/\∀(a:Nat) (l:List Int),gg[a]? = some l->l.Pairwise (· < ·)/\∀x:Int,x∈l↔∃c:Nat,x=(c:Int)/\∃b,R a b/\S b c)
   ⟨none,none,none,[],[],rfl,s1,m1,.nil,rfl,λ a l h=>by simp at h⟩ (λ i σ H2 _ hz=>by obtain⟨_,_,_,_,_,_,s2,_⟩:=hz;exact fZ.of (s2 _ _ ep)) ?_ ?_⟩
  .rintro i y σ H2 hi ⟨v3,v4,v5,bs,gg,rfl,s2,m2,Ku,PY,Ju⟩;obtain⟨xa,Nl,rfl⟩:=g_ hi;have il:i<as.length:=(ag.mp Nl).1;have ha:vS[i]? = some (vS[i]'(Za il (Ze la))):=by simp
   have J1:=al.get Nl ha;obtain⟨l1,l2⟩:=sl.row ha;have Gj:=sl.mem i _ ha;generalize vS[i]'(Za il (Ze la))=l0 at ha J1 l1 l2 Gj;have ó:=Ku.len;clear hN;walk_at "rg";refine eY λ N2 hN=> ?_;walk_at "rd";refine⟨aP _,λ f hf=>hN _ _ ?_⟩;have n3:=fh.new (o:=.lst []) hf;have f3:upd H2 f (.lst []) f=some (.lst (([]:List Int).map V.int)):=eX;have Nt:=s2.free hf;generalize upd H2 f (.lst [])=H3 at n3 f3;have xf:xa≠f:=fq J1 Nt;have mf:mk≠f:=fq m2 hf;have qf:q≠f:=fq eq Nt;refine eY λ N2 hN=> ?_
   refine⟨_,rfl,xa,rfl,⟨_,fZ.of (n3 _ _ (s2 _ _ J1))⟩,iG (K:=K) (a:=xa) (xs:=l0.map V.int) (λ j σ H4=>∃(v5:Option V) (fs:List Int),σ = [some (.ref p),some (.ref q),some (.ref mk),some (.ref xa),some (.ref f),v5]/\(∀b o,b≠f->H2 b=some o->H4 b=some o)/\H4 f=some (.lst (fs.map V.int))/\(∀x:Int,x∈fs↔∃to∈l0.take j,x∈(pf[to.toNat]?).getD [])/\fs.length<=j*(n+1))
    ⟨v5,[],rfl,λ b o hb e=>n3 _ _ e,f3,λ x=>by simp,by simp⟩ (λ j σ H4 _ hz=>by obtain⟨_,_,_,o4,_⟩:=hz;exact fZ.of (o4 _ _ xf (s2 _ _ J1))) ?_ ?_⟩
   .rintro j y σ H4 hj ⟨v5,fs,rfl,o4,f4,Aa,Gk⟩;obtain⟨to,R0,rfl⟩:=g_ hj;have jl:j<l0.length:=(ag.mp R0).1;obtain⟨t0,t1⟩:=l1 to (ai R0);have tk:=ic R0;have iJ:pf[to.toNat]? = some (pf[to.toNat]'(Qac t1 lr)):=by simp
    obtain⟨b,hb,eb⟩:=cl.at iJ;obtain⟨_,î⟩:=sr.row iJ;generalize pf[to.toNat]'(Qac t1 lr)=lt at iJ eb î;have bf:b≠f:=fq eb Nt;have mul:(j+1)*(n+1)=j*(n+1)+(n+1):=by rw [Nat.add_mul,Nat.one_mul]
    have XE:(j+1)*(n+1)<=63*63:=cp (QaI jl EV l2) (Qae EV);walk_at "rg";walk_at "rd";refine⟨gp (fZ.of f4),fK (o4 _ _ qf (s2 _ _ eq)) (v:=.ref b) (gn (by lia) (by rw [ak,hb];rfl)) ⟨f,b,_,_,rfl,rfl,f4,o4 _ _ bf (s2 _ _ eb),fW (by rw [ae,ae];lia),?_⟩⟩;rw [<-av];refine⟨λ c o hc e=>(e_ hc).trans (o4 c o hc e),fs++lt,eX,λ x=> ?_,by rw [aq];lia⟩;rw [ax,Aa,tk];have gt:(pf[to.toNat]?).getD []=lt:=by rw [iJ];rfl
    constructor
    .rintro(⟨t',h1,h3⟩|z)
     .exact⟨t',aN _ h1,h3⟩
     .exact⟨to,aB _ (by simp),by rwa [gt]⟩
    .rintro⟨t',h1,h3⟩;rcases ax.mp h1 with y|y
     .exact .inl ⟨t',y,h3⟩
     .rw [ao.mp y,gt] at h3;exact .inr h3
   .rintro σ H4 ⟨v5,fs,rfl,o4,f4,Aa,Gk⟩;refine hN _ _ ?_;rw [ae,bh] at Aa;rw [ae] at Gk;have XE:l0.length*(n+1)<=63*63:=cp (QaJ l2 EV) (Qae EV)
    have L6:∀x:Int,x∈fs↔∃c:Nat,x=(c:Int)/\∃b,R i b/\S b c:=λ x=>by
     rw [Aa];constructor
     .rintro⟨t',h1,h3⟩;obtain⟨b,rfl,hb⟩:=(Gj t').mp h1;have rb:=sl.wQ i b (Zs (Za il (Zc (Ze la) (Ze ll)))) hb;have iJ:pf[b]? = some (pf[b]'(Zb rb.2 (Zg lr))):=by simp
      rw [au,iJ] at h3;obtain⟨c,e,hc⟩:=(sr.mem b _ iJ x).mp h3;exact⟨c,e,b,hb,hc⟩
     .rintro⟨c,rfl,b,hb,hc⟩;have rb:=sl.wQ i b (Zs (Za il (Zc (Ze la) (Ze ll)))) hb;have iJ:pf[b]? = some (pf[b]'(Zb rb.2 (Zg lr))):=by simp
      refine⟨(b:Int),(Gj _).mpr ⟨b,rfl,hb⟩,?_⟩;rw [au,iJ];exact(sr.mem b _ iJ _).mpr ⟨c,rfl,hc⟩
    have Lc:fh H H4:=λ b o e=>o4 b o (fq e Nt) (s2 _ _ e);walk_at "rd";refine⟨gp (fZ.of (o4 _ _ mf m2)),fs,fZ.of f4,by lia,xJ EV (λ x hx=> ?_),λ g out hg up mem=> ?_⟩
    .obtain⟨c,rfl,b,hb,hc⟩:=(L6 x).mp hx;have rb:=sl.wQ i b (Zs (Za il (Zc (Ze la) (Ze ll)))) hb;have rc:=sr.wQ b c rb.2 hc;exact QaK rc
    have n5:=fh.new (o:=.lst (out.map V.int)) hg;have g5:upd H4 g (.lst (out.map V.int)) g=some (.lst (out.map V.int)):=eX;generalize upd H4 g (.lst (out.map V.int))=H5 at n5 g5;have m5:=n5 _ _ (o4 _ _ mf m2)
    have gm:g≠mk:=λ z=>by
     rw [z,o4 _ _ mf m2] at hg
     cases hg
    refine⟨_,m5,?_,(Lc.trans n5).fS El,bs ++ [g],?_,gg ++ [out],?_,by rw [aq,PY];rfl,λ a l hl=> ?_⟩
    .rw [ae,ó,PY];exact aC (show i<3000 by lia) (fW (by decide))
    .rw [eX,av];rfl
    .exact fN.snoc ⟨(e_ gm).trans g5,gm⟩ (Ku.imp λ x l r=>⟨(e_ r.2).trans (n5 _ _ (o4 _ _ (fq r.1 hf) r.1)),r.2⟩)
    .by_cases ca:a<gg.length
     .rw [aR ca] at hl;exact Ju a l hl
     .have T4:=(ag.mp hl).1;rw [aq,bx] at T4;have e:a=gg.length:=by exact Zq (Zs T4) (Zi ca)
      rw [e,bt (ay _),Nat.sub_self] at hl
      cases hl;rw [e,PY];exact⟨up,λ x=>by rw [mem x];exact L6 x⟩
  .rintro σ H2 ⟨v3,v4,v5,bs,gg,rfl,s2,m2,Ku,PY,Ju⟩;refine hN _ _ ?_;walk_at "rd";rw [ae] at PY;refine k mk H2 gg El s2 ⟨bs,m2,Ku.imp λ x l r=>r.1⟩ ⟨Zq (Zc (Ze PY) (Zc (Ze la) (Ze ll))) (Zc (Zg ll) (Zc (Zg la) (Zg PY))),λ l hl=> ?_,λ a l hl x=>(Ju a l hl).2 x,λ a c ha ⟨b,h1,h2⟩=> ?_⟩
   .obtain⟨i,hi⟩:=aL.mp hl;exact(Ju i l hi).1
   .have rb:=sl.wQ a b ha h1;have rc:=sr.wQ b c rb.2 h2;lia
theorem ot:fG ["shape","fitted","size","inner","other"] ["shape","fitted","size"] (fw u4):=by walk_at "sc"
theorem DK (T:Txt K mg t) (d:Nat):f_ P w K mg base (ir P w) (2+d) t.vG t.vz ["shape","fitted","size"] (oo d):=by
 induction d with
 | zero=>exact T.qR.fn.okN ot (len:=λ vs H Q E h=>(oZ h).elim) (λ ik A outer s H vs Q E hr h=>(oZ h).elim)
 | succ d ih=>
 have n_:=ih;have wJ:=(Cc (P:=P) (w:=w) (base:=base) T).mono (show 1<=2+d from Zc (Zd rfl) Zk);have zJ:=(DQ (P:=P) (w:=w) (base:=base) T).mono (show 1<=2+d from Zc (Zd rfl) Zk);refine T.qR.fn.okN ot (λ ik A outer s H vs Q E hr h=> ?_)
 .obtain⟨sa,fl,n,sh,F,rfl,hs,hd,hF,lv,rg,iD,EV,k⟩:=h
  refine⟨_,Bx.un (c_ (fM (fB g8 (eW fk (fb 0) b_) fP (fI _))
   (eZ (fA (iS rfl (N:= ["at","fitted","shape"]) (fr:= [1,0]) (tG.of (by kernel_rfl)) (gI rfl T.iz (a_ (fo gY (fb 2) b_) d_)) (λ _ _ _ _ _=>gu)
    (λ _ _ _ _ _=>(i9 (K5 K) (gh (a_ (fo gY (fb 0) b_) d_)) jE (jD (Ph K aH PySem.F.slot_list_count PySem.F.type_list_count LZ (eW (iF K) (fb 1) (eW (xE K) (fb 2) b_)) (a_ (fb 0) d_))))))))
   fC)
   (c_ (fu 3 ot.nd (fF T.qR n_ hr fE (a_ (eW fk (fb 0) b_) (a_ (fb 1) (a_ (fb 2) d_)))))
   (c_ (fM (fB g8 (eW fk (fb 0) b_) fP (fI _))
   (eZ (fA (fF T.yJ zJ hr fE (a_ (fb 3) (a_ (fF T.qR n_ hr fE (a_ (eW fk (fb 0) b_) (a_ (fb 1) (a_ (fb 2) d_)))) d_)))))
   fC)
   (c_ (fM (fB g8 (eW fk (fb 0) b_) fP (fI _))
   (c_ (fu 4 ot.nd (fF T.qR n_ hr fE (a_ (eW fk (fb 0) b_) (a_ (fb 1) (a_ (fb 2) d_)))))
   (eZ (fA (iS rfl (N:= ["at","inner","other"]) (fr:= [3,4]) (tG.of (by kernel_rfl)) (gI rfl T.iz (a_ (fo gY (fb 2) b_) d_)) (λ _ _ _ _ _=>gu)
    (λ _ _ _ _ _=>(zr K rfl (by rfl) T.qy (by rfl) T.Iu (a_ (fo mZ (eW (iF K) (fb 1) (fb 0)) (eW (iF K) (fb 2) (fb 0))) d_)))))))
   fC)
   (c_ (fM (fB g8 (eW fk (fb 0) b_) fP (fI _))
   (eZ (fA (iS rfl (N:= ["at","inner"]) (fr:= [3]) (tG.of (by kernel_rfl)) (gI rfl T.iz (a_ (fo gY (fb 2) b_) d_)) (λ _ _ _ _ _=>gu)
    (λ _ _ _ _ _=>(zr K rfl (by rfl) T.qy (by rfl) T.Iu (a_ (fo mZ (gh (a_ (fb 0) d_)) (eW (iF K) (fb 1) (fb 0))) d_))))))
   fC)
   (c_ (fM (fB g8 (eW fk (fb 0) b_) fP (fI _))
   (eZ (fA (fF T.yJ zJ hr fE (a_ (fb 3) (a_ (fF T.vw wJ hr fE (a_ (fb 3) d_)) d_)))))
   fC)
   (eZ (fA (fF T.vw wJ hr fE (a_ (fb 3) d_)))))))))),?_⟩
  walk_at "rs";have WC:=hF;obtain⟨af,eF,alF⟩:=hF;generalize JQ:(λ (i p:Nat)=>(p:Int)∈(F[i]?).getD [])=fit at k
  have ZL:∀i p,fit i p->p<n:=by
   rw [<-JQ];intro i p h
   cases q:F[i]? with
   | none=>
    have h:(p:Int)∈(F[i]?).getD []:=h;rw [q] at h
    cases h
   | some l=>
    have h:(p:Int)∈(F[i]?).getD []:=h;rw [q] at h;have:=rg l (ai q) _ h;exact Yv this.2
  have DF:∀(s:Sh) (a b:Nat),a<=n->ku fit s a b->a<=b/\b<=n:=λ s a b ha h=>⟨h.le,h.most ZL ha⟩
  have nm:∀kd∈uS++ones,¬V.str (tx kd)=V.str (tx [109,97,114,107]):=by
   intro kd hk q;have q:kd=qt:=iK.mp (by injection q);subst q;revert hk
   decide
  have cnt:((n:Int)+1).toNat=n+1:=by exact rfl
  cases hs with
  | @mark _ i e=>
   have il:i<F.length:=lv i (by simp [Sh.leaves]);have Y6:F[i]? = some F[i]:=by simp
   obtain⟨fi,Qa,T1⟩:=alF.at Y6
   have ZQ:∀p:Nat,fit i p↔(p:Int)∈F[i]:=λ p=>by
    rw [<-JQ];show (p:Int)∈(F[i]?).getD []↔_;rw [Y6];rfl
   generalize F[i]=l0 at Y6 T1 ZQ;refine eY λ N hN=> ?_;walk_at "rd";refine fc e rfl ⟨rfl,jn rfl ⟨_,rfl,_,_,rfl,rfl,_,rfl,by lia,by lia,jo (iE (n:=((n:Int)+1).toNat)) (λ H2 (c:Nat) p=>∃l:List Int,H2 p=some (.lst (l.map V.int))/\(l.Pairwise (· < ·)/\∀z:Int,z∈l↔∃b:Nat,z=(b:Int)/\ku fit (.mark i) c b)) (λ H2 c p ⟨l,e,_⟩ z=>by rw [e] at z;cases z) (λ c p H2 H3 s ⟨l,e,r⟩=>⟨l,s _ _ e,r⟩) (fW (by rw [aI];exact Qak EV)) (λ c H5 Q2 hc s5 h=> ?_) (λ H2 c p D o n ⟨l,e,r⟩=>⟨l,(e_ n).trans e,r⟩) λ D H5 bs hD s5 d5 Ah _ _=> ?_⟩⟩
   .walk_at "rd";refine⟨by decide,λ p1 Nn=> ?_⟩;have n6:=fh.new (o:=.lst [V.int (0+(c:Int)+1)]) Nn;have p6:upd H5 p1 (.lst [V.int (0+(c:Int)+1)]) p1=some (.lst ([(0+(c:Int)+1)].map V.int)):=eX;generalize upd H5 p1 (.lst [V.int (0+(c:Int)+1)])=H6 at n6 p6;have Ul:=s5.trans n6;refine fc (Ul _ _ e) rfl (fK (Ul _ _ eF) (v:=.ref fi) (gn Yt (by rw [ak,au,Qa];rfl)) ⟨gp (fZ.of (Ul _ _ T1)),fi,rfl,_,Ul _ _ T1,rfl,AW l0,p1,_,rfl,fZ.of p6,λ p2 TN=> ?_⟩);rw [GL,vA _ _ Yt,au];refine h p2 _ (n6.free TN) (n6.trans (fh.new TN)) ⟨_,eX,?_,λ z=> ?_⟩
    .exact(cF _ _).sublist (eC _ _)
    .have cc:0+(c:Int)=(c:Int):=by exact Yw
     rw [cc];by_cases hm:(c:Int)∈l0
     .have:1<=l0.count (c:Int):=List.count_pos_iff.mpr hm;rw [List.take_of_length_le (by simpa using this),ao];constructor
      .exact λ q=>⟨c+1,by rw [q];exact rfl,vp.mpr ⟨(ZQ c).mpr hm,rfl⟩⟩
      .rintro⟨b,rfl,hb⟩;have:=(vp.mp hb).2;lia
     .rw [List.count_eq_zero.mpr hm,List.take_zero];constructor
      .exact λ q=>(nomatch q)
      .rintro⟨b,rfl,hb⟩;exact absurd ((ZQ c).mp (vp.mp hb).1) hm
   .rw [cnt] at Ah;obtain⟨rows,h1,h2⟩:=BS d5 Ah (DF _);exact k D H5 rows hD s5 h1 h2
  | @two _ l r kd x y e hk hl sR=>
   have dd:x.deep<=d/\y.deep<=d:=by
    simp only [Sh.deep] at hd;exact Qaa hd
   refine eY λ N hN=> ?_;refine jf λ A B hA hB=> ?_;walk_at "rd";refine fc e gK ⟨rfl,gs (nm kd (aN _ hk)) (hB _ _ (hN _ _ ?_))⟩;clear hA hB A B hN N;refine eY λ N hN=> ?_;walk_at "rd";refine fc e rfl ⟨l,fl,n,x,F,rfl,hl,dd.1,WC,λ i hi=>lv i (aN _ hi),rg,iD,EV,λ q1 H1 kJ R9 s1 r1 IX=>hN _ _ ?_⟩;rw [JQ] at IX;have e1:=s1 _ _ e;simp only [uS,aA,bb,or_false] at hk;rcases hk with rfl|rfl
   .refine eY λ N hN=> ?_;walk_at "rd";refine fc e1 rfl ⟨rfl,jn rfl (fc e1 rfl ⟨r,fl,n,y,F,rfl,sR.same s1,dd.2,WC.same s1,λ i hi=>lv i (aB _ hi),rg,iD,EV,λ q2 H2 jZ R8 s2 r2 K4=> ?_⟩)⟩;rw [JQ] at K4;exact⟨q1,q2,kJ,jZ,_,_,n,rfl,r1.same s2,IX,r2,K4,EV,λ q3 H3 nL P_ s3 r3 W_=>k q3 H3 nL ((s1.trans s2).free P_) ((s1.trans s2).trans s3) r3 (W_.iff λ a c=>Le.symm)⟩
   .refine eY λ N hN=> ?_;walk_at "rd";refine fc e1 rfl ⟨rfl,gs (by decide) (hN _ _ ?_)⟩;refine eY λ N hN=> ?_;walk_at "rd";refine fc e1 rfl ⟨rfl,jn rfl (fc e1 rfl ⟨r,fl,n,y,F,rfl,sR.same s1,dd.2,WC.same s1,λ i hi=>lv i (aB _ hi),rg,iD,EV,λ q2 H2 jZ R8 s2 r2 K4=> ?_⟩)⟩;rw [JQ] at K4;obtain⟨a1,g1,w1⟩:=r1.same s2;obtain⟨a2,g2,w2⟩:=r2;have RJ:=IX.len;have ln2:=K4.len;refine⟨_,rfl,_,_,rfl,rfl,_,rfl,by lia,by lia,jo (iE (n:=((n:Int)+1).toNat)) (λ H2 (c:Nat) p=>∃l:List Int,H2 p=some (.lst (l.map V.int))/\(l.Pairwise (· < ·)/\∀z:Int,z∈l↔∃b:Nat,z=(b:Int)/\ku fit (.two sL x y) c b)) (λ H2 c p ⟨l,e,_⟩ z=>by rw [e] at z;cases z) (λ c p H2 H3 s ⟨l,e,r⟩=>⟨l,s _ _ e,r⟩) (fW (by rw [aI];exact Qak EV)) (λ c H5 Q2 hc s5 h=> ?_) (λ H2 c p D o n ⟨l,e,r⟩=>⟨l,(e_ n).trans e,r⟩) λ D H5 bs hD s5 d5 Ah _ _=> ?_⟩
    .have cn:c<=n:=by
      have:=aU.mp hc;exact Zs (Za this (Ze cnt))
     have h1:kJ[c]? = some (kJ[c]'(Zb cn (Zg RJ))):=by simp
     have h2:jZ[c]? = some (jZ[c]'(Zb cn (Zg ln2))):=by simp
     obtain⟨x1,qT,O5⟩:=w1.at h1;obtain⟨x2,rS,Ia⟩:=w2.at h2;obtain⟨b1,c1⟩:=IX.row h1;obtain⟨b2,c2⟩:=K4.row h2;have m1:=IX.mem c _ h1;have m2:=K4.mem c _ h2;generalize kJ[c]'(Zb cn (Zg RJ))=l1 at h1 O5 b1 c1 m1;generalize jZ[c]'(Zb cn (Zg ln2))=l2 at h2 Ia b2 c2 m2;walk_at "rd";refine fK (s5 _ _ g1) (v:=.ref x1) (gn Qaf (by rw [ak,show (0+(c:Int)).toNat=c from Nat.add_comm _ _,qT];rfl)) (fK (s5 _ _ g2) (v:=.ref x2) (gn Qaf (by rw [ak,show (0+(c:Int)).toNat=c from Nat.add_comm _ _,rS];rfl)) ⟨x1,rfl,x2,rfl,_,s5 _ _ O5,_,s5 _ _ Ia,fW (by rw [ae,ae];lia),λ p hp=> ?_⟩);rw [<-av];have n6:=fh.new (o:=.lst ((l1++l2).map V.int)) hp;refine⟨_,fZ.of eX,by rw [aq];lia,xJ EV (λ z hz=> ?_),λ g out hg up mem=>h g _ (n6.free hg) (n6.trans (fh.new hg)) ⟨out,eX,up,λ z=> ?_⟩⟩
     .rcases ax.mp hz with q|q
      .have:=b1 z q;exact Qal this
      .have:=b2 z q;exact Qal this
     .rw [mem z,ax,m1,m2];constructor
      .rintro(⟨b,e,q⟩ | ⟨b,e,q⟩)
       .exact⟨b,e,.left q⟩
       .exact⟨b,e,.right q⟩
      .rintro⟨b,e,q⟩;rcases Ox.mp q with q|q
       .exact .inl ⟨b,e,q⟩
       .exact .inr ⟨b,e,q⟩
    .rw [cnt] at Ah;obtain⟨rows,h1,h2⟩:=BS d5 Ah (DF _);exact k D H5 rows ((s1.trans s2).free hD) ((s1.trans s2).trans s5) h1 h2
  | @one _ j kd x e hk hi=>
   have dd:x.deep<=d:=cJ hd
   have nk:∀z∈[jM,sL],¬V.str (tx kd)=V.str (tx z):=by
    intro z hz q;have q:kd=z:=iK.mp (by injection q);subst q;revert hk hz;simp only [ones,aA,bb,or_false];rintro(rfl|rfl|rfl)<;>decide
   refine eY λ N hN=> ?_;refine jf λ A B hA hB=> ?_;walk_at "rd";refine fc e gK ⟨rfl,gs (nm kd (aB _ hk)) (hB _ _ (hN _ _ ?_))⟩;clear hA hB A B hN N;refine eY λ N hN=> ?_;walk_at "rd";refine fc e rfl ⟨j,fl,n,x,F,rfl,hi,dd,WC,lv,rg,iD,EV,λ q1 H1 kJ R9 s1 r1 IX=>hN _ _ ?_⟩;rw [JQ] at IX;have e1:=s1 _ _ e;refine eY λ N hN=> ?_;refine jf λ A B hA hB=> ?_;walk_at "rd";refine fc e1 gK ⟨rfl,gs (nk _ (by simp [jM])) (hB _ _ (hN _ _ ?_))⟩;clear hA hB A B hN N;refine eY λ N hN=> ?_;refine jf λ A B hA hB=> ?_;walk_at "rd";refine fc e1 gK ⟨rfl,gs (nk _ (by simp [sL])) (hB _ _ (hN _ _ ?_))⟩;clear hA hB A B hN N;simp only [ones,aA,bb,or_false] at hk;have RJ:=IX.len;refine eY λ N hN=> ?_;walk_at "rd";by_cases YR:kd=jb
   .subst YR;refine fc e1 rfl ⟨rfl,jn rfl ?_⟩;obtain⟨a1,g1,w1⟩:=r1;refine⟨_,rfl,_,_,rfl,rfl,_,rfl,by lia,by lia,jo (iE (n:=((n:Int)+1).toNat)) (λ H2 (c:Nat) p=>∃l:List Int,H2 p=some (.lst (l.map V.int))/\(l.Pairwise (· < ·)/\∀z:Int,z∈l↔∃b:Nat,z=(b:Int)/\ku fit (.one jb x) c b)) (λ H2 c p ⟨l,e,_⟩ z=>by rw [e] at z;cases z) (λ c p H2 H3 s ⟨l,e,r⟩=>⟨l,s _ _ e,r⟩) (fW (by rw [aI];exact Qak EV)) (λ c H5 Q2 hc s5 h=> ?_) (λ H2 c p D o n ⟨l,e,r⟩=>⟨l,(e_ n).trans e,r⟩) λ D H5 bs hD s5 d5 Ah _ _=> ?_⟩
    .have cn:c<=n:=by
      have:=aU.mp hc;exact Zs (Za this (Ze cnt))
     have h1:kJ[c]? = some (kJ[c]'(Zb cn (Zg RJ))):=by simp
     obtain⟨x1,qT,O5⟩:=w1.at h1;obtain⟨b1,c1⟩:=IX.row h1;have m1:=IX.mem c _ h1;generalize kJ[c]'(Zb cn (Zg RJ))=l1 at h1 O5 b1 c1 m1;have cc:0+(c:Int)=(c:Int):=by exact Yw
     walk_at "rd";rw [cc];refine⟨by decide,λ p hp=> ?_⟩;have n6:=fh.new (o:=.lst [V.int (c:Int)]) hp;have p6:upd H5 p (.lst [V.int (c:Int)]) p=some (.lst ([(c:Int)].map V.int)):=eX;generalize upd H5 p (.lst [V.int (c:Int)])=H6 at n6 p6;have NZ:=s5.trans n6;refine fK (NZ _ _ g1) (v:=.ref x1) (gn Yt (by rw [ak,au,qT];rfl)) ⟨x1,rfl,_,p6,_,NZ _ _ O5,fW (by rw [ae,ae,bx];lia),λ p7 hp7=> ?_⟩;rw [<-av];have n7:=fh.new (o:=.lst (([(c:Int)]++l1).map V.int)) hp7;refine⟨_,fZ.of eX,by rw [aq,bx];lia,xJ EV (λ z hz=> ?_),λ g out hg up mem=>h g _ ((n6.trans n7).free hg) ((n6.trans n7).trans (fh.new hg)) ⟨out,eX,up,λ z=> ?_⟩⟩
     .rcases ax.mp hz with q|q
      .rw [ao.mp q];lia
      .have:=b1 z q;exact Qal this
     .rw [mem z,ax,m1,ao];constructor
      .rintro(q | ⟨b,e,q⟩)
       .exact⟨c,q,.no⟩
       .exact⟨b,e,.yes q⟩
      .rintro⟨b,e,q⟩;rcases Gd.mp q with q|q
       .exact .inl (by rw [e,q])
       .exact .inr ⟨b,e,q⟩
    .rw [cnt] at Ah;obtain⟨rows,h1,h2⟩:=BS d5 Ah (DF _);exact k D H5 rows (s1.free hD) (s1.trans s5) h1 h2
   .refine fc e1 gK ⟨rfl,gs (λ q=>YR (iK.mp (by injection q))) (hN _ _ ?_)⟩;have star:∀a c,ku fit (.one i6 x) a c↔c=a\/∃b,a<b/\ku fit x a b/\ku fit (.one i6 x) b c:=λ a c=>Jy;refine eY λ N hN=> ?_;walk_at "rd";by_cases Ċ:kd=lL
    .subst Ċ;refine fc e1 rfl ⟨rfl,jn rfl ⟨q1,kJ,_,_,n,rfl,r1,IX,EV,star,DF _,λ q2 H2 jZ R8 s2 r2 K4=> ?_⟩⟩;exact⟨q1,q2,kJ,jZ,_,_,n,rfl,r1.same s2,IX,r2,K4,EV,λ q3 H3 nL P_ s3 r3 W_=>k q3 H3 nL ((s1.trans s2).free P_) ((s1.trans s2).trans s3) r3 (W_.iff λ a c=>IZ.symm)⟩
    .have hkn:kd=i6:=by
      rcases hk with z|z|z
      .exact z
      .exact absurd z Ċ
      .exact absurd z YR
     subst hkn;refine fc e1 rfl ⟨rfl,gs (by decide) (hN _ _ ?_)⟩;walk_at "rd";exact⟨q1,kJ,_,_,n,rfl,r1,IX,EV,star,DF _,λ q2 H2 jZ R8 s2 r2 K4=>k q2 H2 jZ (s1.free R8) (s1.trans s2) r2 K4⟩
theorem FJ (T:Txt K mg t):f_ P w K mg base (ir P w) (2+40) t.vG t.vz ["shape","fitted","size"] (oo 40):=DK T 40
theorem sy:fG ["far","made","a"] ["far"] (fw u3):=by walk_at "sc"
theorem FI (T:Txt K mg t):f_ P w K mg base (ir P w) 1 t.Bq t.A2 ["far"] (xZ):=by
 refine T.Cq.fn.okN sy (λ ik A outer s H vs Q E hr h=> ?_)
 .obtain⟨q,n,W,rows,rfl,hr,UP,mr,k⟩:=h
  refine⟨_,Bx.un (c_ (jC (i:=1) sy.nd rfl (by walk_at "o") rfl (N:= ["row"]) (fr:= []) (tG.of (by kernel_rfl)) (gi (fb 0)) (λ _ _ _ _ _=>gu)
    (λ _ _ _ _ _=>(h_ (ng K) (by rfl) T.kW bz (a_ (fb 0) d_))))
   (c_ (gL PassesOwn.never rfl (gI rfl T.iz (a_ (fD fH (by rfl) T.gW PySem.boot_len (a_ (fb 1) d_)) d_)) (gb 2 sy.nd)
   (eZ (oQ b_ (qW (eW fJ (fb 1) (fb 2)) (fb 2) set_list))))
   (eZ (fA (fb 1))))),?_⟩
  walk_at "rs";obtain⟨ar,er,al⟩:=hr;have la:=al.len;have sq:=mr.1;have ln:=sq.1;refine eY λ N hN=> ?_;refine⟨_,rfl,q,rfl,⟨_,fZ.of er⟩,jo (cs:=ar.zip rows) (g:=λ c=>V.ref c.1) (gH (by rw [qK la];exact fZ.of er)) (λ H2 c p=>H2 p=some (.lst (c.2.map V.int))) (λ H2 c p e z=>by rw [e] at z;cases z) (λ c p H2 H3 s e=>s _ _ e) (fW (by rw [b9];exact QaM ln UP)) (λ c H2 Q2 hc s2 h=> ?_) (λ H2 c p D o n e=>(e_ n).trans e) λ kp H1 ks Nq s1 d1 Qm Tz B_=>hN _ _ ?_⟩
  .have ec:=al.zip c hc;walk_at "rd";exact⟨_,.inl (fZ.of (s2 _ _ ec)),λ l hl=>h l _ hl (fh.new hl) eX⟩
  walk_at "rg";have ow:=nj.of la d1 Qm Tz B_ Nq;have lk:ks.length=n:=by rw [ow.all.len,ln]
  have T3:∀{L:List Addr} {j:Nat} {y:Addr},L[j]? = some y->xh (L.map V.ref) (j:Int)=some (.ref y):=λ {L j y} h=>gn Yt (by rw [ak,au,h];rfl);have WM:∀{L:List Int} {j:Nat} {y:Int},L[j]? = some y->xh (L.map V.int) (j:Int)=some (.int y):=λ {L j y} h=>gn Yt (by rw [ak,au,h];rfl);refine eY λ N hN=> ?_
  refine⟨_,rfl,kp,_,rfl,.inl (fZ.of ow.at_),_,rfl,by lia,by rw [ae];lia,km (λ i σ H2=>∃(v:Option V) (gg:List (List Int)),σ = [some (.ref q),some (.ref kp),v]/\fh H H2/\nj H H2 kp ks gg/\Sq n gg/\∀a b,pN gg a b=if a=b/\a<i/\a<n then 0 else pN rows a b)
   ⟨none,rows,rfl,s1,ow,sq,λ a b=>by rw [if_neg (by lia)]⟩ ?_ ?_⟩
  .rintro i σ H2 hi ⟨v,gg,rfl,s2,o2,q2,c2⟩;rw [ae,au,lk] at hi;clear hN;obtain⟨l,hl,ll⟩:=q2.row hi;obtain⟨x,hx,ex⟩:=o2.get hl;walk_at "rg";walk_at "rd";rw [show (0:Int)+(i:Int)=(i:Int) from Yw];refine fK o2.at_ (T3 hx) ⟨x,rfl,_,ex,_,qS Yt (by rw [ae];exact Yp (Za hi (Zg ll))),?_⟩;rw [au];rw [show (l.map V.int).set i (V.int 0)=(l.set i 0).map V.int from de.symm];refine⟨s2.fS (o2.new x (ai hx)).2,gg.set i (l.set i 0),o2.put hx,q2.put hl,λ a b=> ?_⟩;rw [CN q2 hl hi,c2];by_cases h1:a=i/\b=i
   .rw [if_pos h1,if_pos (by lia)]
   .rw [if_neg h1];by_cases h2:a=b/\a<i/\a<n
    .rw [if_pos h2,if_pos (by lia)]
    .rw [if_neg h2,if_neg (by lia)]
  .rintro σ H2 ⟨v,gg,rfl,s2,o2,q2,c2⟩;refine hN _ _ ?_;walk_at "rd";rw [ae,au,lk] at c2
   exact k kp H2 gg Nq s2 o2.rows (mr.K0 q2 λ a b ha hb=>by
    rw [c2];by_cases e:a=b
    .rw [if_pos ⟨e,ha,ha⟩,if_pos e]
    .rw [if_neg (λ z=>e z.1),if_neg e])
theorem lP:fG ["far","made","m","a","b"] ["far"] (fw u_):=by walk_at "sc"
theorem FP (T:Txt K mg t):f_ P w K mg base (ir P w) 1 t.Bv t.A7 ["far"] (x_):=by
 refine T.Cs.fn.okN lP (λ ik A outer s H vs Q E hr h=> ?_)
 .obtain⟨q,n,W,rows,rfl,hr,UP,mr,k⟩:=h
  refine⟨_,Bx.un (c_ (jC (i:=1) lP.nd rfl (by walk_at "o") rfl (N:= ["row"]) (fr:= []) (tG.of (by kernel_rfl)) (gi (fb 0)) (λ _ _ _ _ _=>gu)
    (λ _ _ _ _ _=>(h_ (ng K) (by rfl) T.kW bz (a_ (fb 0) d_))))
   (c_ (gL PassesOwn.never rfl (gI rfl T.iz (a_ (fD fH (by rfl) T.gW PySem.boot_len (a_ (fb 1) d_)) d_)) (gb 2 lP.nd)
   (eZ (gL PassesOwn.never rfl (gI rfl T.iz (a_ (fD fH (by rfl) T.gW PySem.boot_len (a_ (fb 1) d_)) d_)) (gb 3 lP.nd)
   (eZ (gL PassesOwn.never rfl (gI rfl T.iz (a_ (fD fH (by rfl) T.gW PySem.boot_len (a_ (fb 1) d_)) d_)) (gb 4 lP.nd)
   (eZ (oQ (fD (vB rfl) (by rfl) T.Iv cM (a_ (eW fJ (eW fJ (fb 1) (fb 3)) (fb 4)) (a_ (fo gY (eW fJ (eW fJ (fb 1) (fb 3)) (fb 2)) (eW fJ (eW fJ (fb 1) (fb 2)) (fb 4))) d_))) (qW (eW fJ (fb 1) (fb 3)) (fb 4) set_list))))))))
   (eZ (fA (fb 1))))),?_⟩
  walk_at "rs";obtain⟨ar,er,al⟩:=hr;have la:=al.len;have sq:=mr.1;have ln:=sq.1;refine eY λ N hN=> ?_;refine⟨_,rfl,q,rfl,⟨_,fZ.of er⟩,jo (cs:=ar.zip rows) (g:=λ c=>V.ref c.1) (gH (by rw [qK la];exact fZ.of er)) (λ H2 c p=>H2 p=some (.lst (c.2.map V.int))) (λ H2 c p e z=>by rw [e] at z;cases z) (λ c p H2 H3 s e=>s _ _ e) (fW (by rw [b9];exact QaM ln UP)) (λ c H2 Q2 hc s2 h=> ?_) (λ H2 c p D o n e=>(e_ n).trans e) λ kp H1 ks Nq s1 d1 Qm Tz B_=>hN _ _ ?_⟩
  .have ec:=al.zip c hc;walk_at "rd";exact⟨_,.inl (fZ.of (s2 _ _ ec)),λ l hl=>h l _ hl (fh.new hl) eX⟩
  walk_at "rg";have ow:=nj.of la d1 Qm Tz B_ Nq;have lk:ks.length=n:=by rw [ow.all.len,ln]
  have T3:∀{L:List Addr} {j:Nat} {y:Addr},L[j]? = some y->xh (L.map V.ref) (j:Int)=some (.ref y):=λ {L j y} h=>gn Yt (by rw [ak,au,h];rfl);have WM:∀{L:List Int} {j:Nat} {y:Int},L[j]? = some y->xh (L.map V.int) (j:Int)=some (.int y):=λ {L j y} h=>gn Yt (by rw [ak,au,h];rfl);have ZO:∀a b,a<n->b<n->rq W n 0 a b (pN rows a b):=λ a b ha hb=>(mr.2 a b ha hb).half;refine eY λ N hN=> ?_
  refine⟨_,rfl,kp,_,rfl,.inl (fZ.of ow.at_),_,rfl,by lia,by rw [ae];lia,km (λ m σ H2=>∃(v2 v3 v4:Option V) (gg:List (List Int)),σ = [some (.ref q),some (.ref kp),v2,v3,v4]/\fh H H2/\nj H H2 kp ks gg/\Sq n gg/\∀a b,a<n->b<n->rq W n m a b (pN gg a b))
   ⟨none,none,none,rows,rfl,s1,ow,sq,ZO⟩ ?_ ?_⟩
  .rintro m σ H2 hm ⟨v2,v3,v4,jZ,rfl,s2,o2,q2,c2⟩;rw [ae,au,lk] at hm;clear hN;walk_at "rg"
   refine⟨_,rfl,kp,_,rfl,.inl (fZ.of o2.at_),_,rfl,by lia,by rw [ae];lia,km (λ a σ H3=>∃(v3 v4:Option V) (gg:List (List Int)),σ = [some (.ref q),some (.ref kp),some (.int (m:Int)),v3,v4]/\fh H H3/\nj H H3 kp ks gg/\Sq n gg/\∀a' b,a'<n->b<n->rq W n (if a'<a then m+1 else m) a' b (pN gg a' b))
    ⟨v3,v4,jZ,by rw [show (0:Int)+(m:Int)=(m:Int) from Yw],s2,o2,q2,λ a' b ha hb=>by rw [if_neg (Zx (Nat.zero_le _))];exact c2 a' b ha hb⟩ ?_ ?_⟩
   .rintro a σ H3 ha ⟨v3,v4,nL,rfl,s3,o3,q3,c3⟩;rw [ae,au,lk] at ha;walk_at "rg"
    refine⟨_,rfl,kp,_,rfl,.inl (fZ.of o3.at_),_,rfl,by lia,by rw [ae];lia,km (λ b σ H4=>∃(v4:Option V) (gg:List (List Int)),σ = [some (.ref q),some (.ref kp),some (.int (m:Int)),some (.int (a:Int)),v4]/\fh H H4/\nj H H4 kp ks gg/\Sq n gg/\∀a' b',a'<n->b'<n->rq W n (if a'<a\/a'=a/\b'<b then m+1 else m) a' b' (pN gg a' b'))
     ⟨v4,nL,by rw [show (0:Int)+(a:Int)=(a:Int) from Yw],s3,o3,q3,λ a' b' OT xI=> ?_⟩ ?_ ?_⟩
    .have:=c3 a' b' OT xI;by_cases h1:a'<a
     .rw [if_pos h1] at this
      rwa [if_pos (by lia)]
     .rw [if_neg h1] at this
      rwa [if_neg (by lia)]
    .rintro b σ H4 hb ⟨v4,tY,rfl,s4,o4,q4,c4⟩;rw [ae,au,lk] at hb;obtain⟨la,Np,lla⟩:=q4.row ha;obtain⟨xa,Nl,J1⟩:=o4.get Np;obtain⟨lm,OQ,llm⟩:=q4.row hm;obtain⟨xm,hxm,exm⟩:=o4.get OQ
     have low:∀{a' b':Nat},a'<n->b'<n->rq W n m a' b' (pN tY a' b'):=λ {a' b'} h1 h2=>by
      have:=c4 a' b' h1 h2;by_cases c:a'<a\/a'=a/\b'<b
      .rw [if_pos c] at this;exact this.low
      .rw [if_neg c] at this;exact this
     have new:=(low ha hb).put hm (low ha hm) (low hm hb);walk_at "rg";walk_at "rd";rw [show (0:Int)+(b:Int)=(b:Int) from Yw];refine fK o4.at_ (T3 Nl) (fK J1 (WM (q4.at Np hb)) (fK o4.at_ (T3 Nl) (fK J1 (WM (q4.at Np hm)) (fK o4.at_ (T3 hxm) (fK exm (WM (q4.at OQ hb)) ?_)))));refine⟨_,rfl,_,rfl,_,rfl,fK o4.at_ (T3 Nl) ⟨xa,rfl,_,J1,_,qS Yt (by rw [ae];exact Yp (Za hb (Zg lla))),?_⟩⟩;rw [au,L3];generalize hz:min (pN tY a b) (pN tY a m+pN tY m b)=z at new;rw [show (la.map V.int).set b (V.int z)=(la.set b z).map V.int from de.symm];refine⟨s4.fS (o4.new xa (ai Nl)).2,tY.set a (la.set b z),o4.put Nl,q4.put Np,λ a' b' OT xI=> ?_⟩;rw [CN q4 Np hb];by_cases h1:a'=a/\b'=b
     .rwa [if_pos h1,if_pos (by lia),h1.1,h1.2]
     .rw [if_neg h1];have:=c4 a' b' OT xI;by_cases h2:a'<a\/a'=a/\b'<b
      .rw [if_pos h2] at this
       rwa [if_pos (by lia)]
      .rw [if_neg h2] at this
       rwa [if_neg (by lia)]
    .rintro σ H4 ⟨v4,tY,rfl,s4,o4,q4,c4⟩;rw [ae,au,lk] at c4;refine⟨_,_,tY,rfl,s4,o4,q4,λ a' b' OT xI=> ?_⟩;have:=c4 a' b' OT xI;by_cases h1:a'<a+1
     .rw [if_pos (by lia)] at this
      rwa [if_pos h1]
     .rw [if_neg (by lia)] at this
      rwa [if_neg h1]
   .rintro σ H3 ⟨v3,v4,nL,rfl,s3,o3,q3,c3⟩;rw [ae,au,lk] at c3;refine⟨_,_,_,nL,rfl,s3,o3,q3,λ a' b' OT xI=> ?_⟩;have:=c3 a' b' OT xI;rw [if_pos OT] at this;exact this
  .rintro σ H2 ⟨v2,v3,v4,jZ,rfl,s2,o2,q2,c2⟩;refine hN _ _ ?_;walk_at "rd";rw [ae,au,lk] at c2;exact k kp H2 jZ Nq s2 o2.rows ⟨q2,λ a b ha hb=>(c2 a b ha hb).all⟩
theorem Fl:fG ["row","right","b"] ["row","right","b"] (fw u7):=by walk_at "sc"
theorem FN (T:Txt K mg t):f_ P w K mg base (ir P w) 1 t.Bt t.A5 ["row","right","b"] (x6):=by
 refine T.HL.fn.okN Fl (λ ik A outer s H vs Q E hr h=> ?_)
 .obtain⟨x,q,b,n,row,rows,rfl,hx,hq,sq,lr,bn,UP,k⟩:=h
  refine⟨_,Bx.un (eZ (fA (fD (J6 K rfl) (by rfl) T.Iv cM (a_ (fo mZ (gh (a_ b_ d_)) (iS rfl (N:= ["m","row","b","right"]) (fr:= [0,2,1]) (tG.of (by kernel_rfl)) (gI rfl T.iz (a_ (fD fH (by rfl) T.gW PySem.boot_len (a_ (fb 0) d_)) d_)) (λ _ _ _ _ _=>gu)
    (λ _ _ _ _ _=>(fo gY (eW (iF K) (fb 1) (fb 0)) (eW (iF K) (eW (iF K) (fb 3) (fb 0)) (fb 2)))))) d_)))),?_⟩
  walk_at "rs";obtain⟨ar,er,al⟩:=hq;have ln:=sq.1;have la:=al.len;walk_at "rd";refine⟨by decide,λ p1 Nn=> ?_⟩;have n1:=fh.new (o:=.lst [V.int 1000000]) Nn;have e1:upd H p1 (.lst [V.int 1000000]) p1=some (.lst ([(1000000:Int)].map V.int)):=eX;generalize upd H p1 (.lst [V.int 1000000])=H1 at n1 e1;refine⟨_,rfl,x,rfl,_,.inl (fZ.of (n1 _ _ hx)),_,rfl,by lia,by rw [ae];lia,comp_map (cs:=List.range (((row.map V.int).length:Nat):Int).toNat) (g:=λ (c:Nat)=>V.int (0+(c:Int))) (iE (n:=(((row.map V.int).length:Nat):Int).toNat)) (λ (m:Nat)=>V.int (row.getD m 0+pN rows m b)) (fW (by rw [aI,ae];lia)) (λ m H2 Q2 hm s2 h=> ?_) λ D H2 hD s2 d2=> ?_⟩
  .have hm:m<n:=by
    have:=aU.mp hm;rw [ae] at this;lia
   obtain⟨l,hl,ll⟩:=sq.row hm;obtain⟨y,hy,ey⟩:=al.at hl;have wO:=n1.trans s2
   have hrm:row[m]? = some (row.getD m 0):=by
    rw [bW];have:row[m]? = some (row[m]'(Za hm (Zg lr))):=by simp
    rw [this];rfl
   walk_at "rd";rw [show (0:Int)+(m:Int)=(m:Int) from Yw];refine fK (wO _ _ hx) (v:=.int (row.getD m 0)) (gn Yt (by rw [ak,au,hrm];rfl)) (fK (wO _ _ er) (v:=.ref y) (gn Yt (by rw [ak,au,hy];rfl)) (fK (wO _ _ ey) (v:=.int (pN rows m b)) (gn Yt (by rw [ak,au,sq.at hl bn];rfl)) ⟨_,rfl,_,rfl,h _ (fh.refl _)⟩))
  refine⟨D,rfl,_,s2 _ _ e1,_,d2,fW (by rw [ae,ae,aI,ae];simp;lia),λ p2 TN=> ?_⟩;rw [ae,au,lr]
  have e2:List.map V.int [(1000000:Int)]++(List.range n).map (λ (m:Nat)=>V.int (row.getD m 0+pN rows m b))=((1000000:Int)::(List.range n).map (λ (m:Nat)=>row.getD m 0+pN rows m b)).map V.int:=by
   simp only [aD,aQ,bu];rfl
  rw [e2];refine⟨_,fZ.of eX,by simp,λ e he le=>k e _ ((n1.trans s2).trans (fh.new TN)) (le _ (by simp)) (λ m hm=>le _ (az _ (aE.mpr ⟨m,aU.mpr hm,rfl⟩))) ?_⟩;rcases aA.mp he with z|z
  .exact .inl z
  .obtain⟨m,hm,z⟩:=aE.mp z;exact .inr ⟨m,aU.mp hm,z.symm⟩
theorem jV:fG ["mark","things","ties","made","number","tie","turn"] ["mark","things","ties"] (fw p_):=by walk_at "sc"
theorem Ce (T:Txt K mg t):f_ P w K mg base (ir P w) 2 t.wD t.wd ["mark","things","ties"] (tS):=by
 have C7:=DP (P:=P) (w:=w) (base:=base) T;refine T.AL.fn.okN jV (λ ik A outer s H vs Q E hr h=> ?_)
 .obtain⟨mk,lt,pt,m,ts,rs,rfl,hm,wm,iJ,nd,PV,AQ,HD,PX,Dm,k⟩:=h
  refine⟨_,Bx.un (c_ (jC (i:=3) jV.nd rfl (by walk_at "o") rfl (N:= ["a","things"]) (fr:= [1]) (tG.of (by kernel_rfl)) (gi (fb 1)) (λ _ _ _ _ _=>gu)
    (λ _ _ _ _ _=>(iS rfl (N:= ["b"]) (fr:= []) (tG.of (by kernel_rfl)) (vD K (fb 1)) (λ _ _ _ _ _=>gu)
    (λ _ _ _ _ _=>b_))))
   (c_ (MW PassesOwn.never rfl (fb 2) (gb 4 jV.nd)
   (c_ (fu 5 jV.nd (qY (j4 hr) (fb 2) (fb 4)))
   (eZ (fM (hZ (fF T.l_fit C7 hr fE (a_ (fb 0) (a_ (gj (a_ (eW fk (fb 5) b_) (a_ (eW fk (fb 5) b_) (a_ (eW fk (fb 0) b_) d_)))) d_))))
   (c_ (fu 6 jV.nd (h_ vC (by rfl) T.Iw cO (a_ (eW fk (fb 0) b_) d_)))
   (eZ (oQ b_ (qW (eW fJ (fb 3) (iy aH cD cC ua (fb 1) (a_ (eW fJ (gh (a_ (eW fk (fb 5) b_) (a_ (eW fk (fb 5) b_) d_))) (fb 6)) d_))) (iy aH cD cC ua (fb 1) (a_ (eW fJ (gh (a_ (eW fk (fb 5) b_) (a_ (eW fk (fb 5) b_) d_))) (fb 6)) d_)) set_list))))
   fC))))
   (eZ (fA (fb 3))))),?_⟩
  walk_at "rs"
  have Xj:∀(l:List Nm),(l.map λ _=>V.int 1000000)=(l.map λ _=>(1000000:Int)).map V.int:=λ l=>by
   rw [aQ];rfl
  refine eY λ N hN=> ?_;refine⟨_,rfl,lt,rfl,⟨_,fZ.of iJ⟩,jo (cs:=ts) (g:=λ (l:Nm)=>V.str (tx l)) (gH (fZ.of iJ)) (λ H2 (c:Nm) p=>H2 p=some (.lst ((ts.map λ _=>(1000000:Int)).map V.int))) (λ H2 c p e z=>by rw [e] at z;cases z) (λ c p H2 H3 s e=>s _ _ e) (fW (Zc PV (Zd rfl))) (λ c H2 Q2 hc s2 h=> ?_) (λ H2 c p D o n e=>(e_ n).trans e) λ kp H1 ks Nq s1 d1 Qm Tz B_=>hN _ _ ?_⟩
  .refine⟨_,rfl,lt,rfl,⟨_,fZ.of (s2 _ _ iJ)⟩,comp_map (cs:=ts) (g:=λ (l:Nm)=>V.str (tx l)) (gH (fZ.of (s2 _ _ iJ))) (λ _=>V.int 1000000) (fW (Zc PV (Zd rfl))) (λ b H5 Q3 hb s5 h3=>h3 _ (fh.refl _)) λ D2 H5 Eo s5 d5=>h D2 H5 Eo s5 (by rw [d5,Xj])⟩
  walk_at "rg"
  have ow:nj H H1 kp ks (ts.map λ _=>ts.map λ _=>(1000000:Int)):=by
   refine⟨d1,?_,Tz,B_,Nq⟩
   have go:∀{cs:List Nm} {bs:List Addr},fN (λ (c:Nm) p=>H1 p=some (.lst ((ts.map λ _=>(1000000:Int)).map V.int))) cs bs->fN (λ y (l:List Int)=>H1 y=some (.lst (l.map V.int))) bs (cs.map λ _=>ts.map λ _=>(1000000:Int)):=by
    intro cs bs h
    induction h with
    | nil=>exact .nil
    | cons r _ ih=>exact .cons r ih
   exact go Qm
  have Κ:Sq ts.length (ts.map λ _=>ts.map λ _=>(1000000:Int)):=⟨by simp,λ l hl=>by
   obtain⟨_,_,rfl⟩:=aE.mp hl;simp⟩
  have c0:∀a b,a<ts.length->b<ts.length->pN (ts.map λ _=>ts.map λ _=>(1000000:Int)) a b=1000000:=λ a b ha hb=>GN (l:=ts.map λ _=>(1000000:Int)) (by rw [ak,bA ha];rfl) (by rw [ak,bA hb];rfl);have p1:=s1 _ _ AQ.at_;have kpt:kp≠pt:=λ z=>by rw [z,AQ.at_] at Nq;cases Nq
  have UT:∀x∈ks,x≠pt:=λ x hx z=>by
   have:=(B_ x hx).2;rw [z,AQ.at_] at this
   cases this
  have UD:∀{H2:Hp} {o:HO} {rows:List (List Int)},nj H H2 kp ks rows->nj H (upd H2 pt o) kp ks rows:=λ {H2 o rows} w=>⟨(e_ kpt).trans w.at_,w.all.UW λ x l hx e=>(e_ (UT x hx)).trans e,w.nd,w.new,w.own⟩
  refine eY λ N hN=> ?_
  refine CD (d:=pt) (kvs:=fR rs) (λ R hR=>⟨_,rfl,hR⟩) p1
   (λ j σ H7=>∃(v4 v5 v6:Option V) (gg:List (List Int)),σ = [some (.ref mk),some (.ref lt),some (.ref pt),some (.ref kp),v4,v5,v6]/\(∀b o,b≠pt->H b=some o->H7 b=some o)/\nj H H7 kp ks gg/\Sq ts.length gg/\∀a b,a<ts.length->b<ts.length->nA (λ k a b=>k=1/\wU ts (rs.take j) m a b) a b (pN gg a b)) ?_ ?_ ?_
  .intro ob;refine⟨none,none,none,_,rfl,λ b o hb e=>(e_ hb).trans (s1 _ _ e),UD ow,Κ,λ a b ha hb=> ?_⟩;rw [c0 a b ha hb];refine nA.none ?_;rintro k ⟨_,_,_,_,_,_,_,_,h,_⟩
   cases h
  .intro j key σ H7 N R B hk ⟨v4,v5,v6,Hs,e7,s7,o7,q7,f7⟩ Ο fz7 hN;subst e7;unfold fR at hk;rw [aQ,ak] at hk;obtain⟨⟨num,ta,fX⟩,hx,rfl⟩:=Option.map_eq_some_iff.mp hk;have jt:=ai hx;have tk:=ic hx;have hv:=Dn HD jt;obtain⟨ob,fz⟩:=fz7;have T':∀b xs,H b=some (.tup xs)->H7 b=some (.tup xs):=λ b xs h=>s7 _ _ (gN h AQ.at_ (λ z=>nomatch z)) h;have rt:=T' _ _ (AQ.i5 _ jt);have rm:=T' _ _ hm;have χ:=s7 _ _ (λ z=>by rw [z,AQ.at_] at iJ;cases iJ) iJ;dsimp only [Function.comp] at hN⊢;walk_at "rg";refine eY λ N2 vY=> ?_;walk_at "rd";refine⟨_,.inl ⟨_,.inl num,Ο,rfl,hv.symm⟩,vY _ _ ?_⟩;clear vY N2;walk_at "rd";refine fc rt rfl (fc rt rfl (fc rm rfl ⟨by decide,λ b6 hb6=> ?_⟩));have n8:=fh.new (o:=.tup [.str (tx fX.name),.int fX.weight,.bl m.back]) hb6;have q8:upd H7 b6 (.tup [.str (tx fX.name),.int fX.weight,.bl m.back]) b6=some (.tup (Hj ⟨fX.name,fX.weight,m.back⟩)):=eX;generalize upd H7 b6 (.tup [.str (tx fX.name),.int fX.weight,.bl m.back])=H8 at n8 q8;refine⟨mk,b6,m,_,rfl,n8 _ _ rm,q8,wm,λ H9 s9=> ?_⟩;have QC:=n8.trans s9;have o9:nj H H9 kp ks Hs:=⟨QC _ _ o7.at_,o7.all.imp λ x l e=>QC _ _ e,o7.nd,o7.new,o7.own⟩
   have k9:∀b o,b≠pt->H b=some o->H9 b=some o:=λ b o hb e=>QC _ _ (s7 b o hb e);have fz9:=QC _ _ fz;refine⟨_,rfl,fO (λ ft=> ?_) λ ft=> ?_⟩
   rotate_left
   .refine hN _ _ ⟨_,_,_,Hs,rfl,k9,o9,q7,λ a b ha hb=>(f7 a b ha hb).iff λ k=> ?_⟩ (by rwa [fz]);rw [tk];constructor
    .exact λ ⟨e,x,to,nu,h1,h2,ad,ti,h3,h4⟩=>⟨e,x,to,nu,h1,h2,ad,ti,aN _ h3,h4⟩
    .rintro⟨e,x,to,nu,h1,h2,ad,ti,h3,h4,h5⟩;rcases ax.mp h3 with z|z
     .exact⟨e,x,to,nu,h1,h2,ad,ti,z,h4,h5⟩
     .cases ao.mp z;exact absurd h4 ft
   have mF:j_ fX m.back∈ts:=by
    unfold j_
    split
    .exact(Dm _ jt).2
    .exact(Dm _ jt).1
   have mT:i7 fX m.back∈ts:=by
    unfold i7
    split
    .exact(Dm _ jt).1
    .exact(Dm _ jt).2
   obtain⟨ia,YT,va,ea,na⟩:=Ck nd mF;obtain⟨ib,YS,vb,eb,nb⟩:=Ck nd mT;have ial:=(ag.mp YT).1;have ibl:=(ag.mp YS).1;obtain⟨l0,Kq,ll0⟩:=q7.row ial;obtain⟨x0,RY,SG⟩:=o9.get Kq;have Wc:=QC _ _ χ;have V7:=QC _ _ rt
   have c1:xh [V.str (tx fX.start),V.str (tx fX.stop)] (if m.back=true then 1 else 0)=some (V.str (tx (j_ fX m.back))):=by
    unfold j_
    cases m.back<;>rfl
   have c2:xh [V.str (tx fX.stop),V.str (tx fX.start)] (if m.back=true then 1 else 0)=some (V.str (tx (i7 fX m.back))):=by
    unfold i7
    cases m.back<;>rfl
   refine fc (QC _ _ rm) rfl (.inr ⟨m.back,rfl,gp (fZ.of Wc),fc V7 rfl (fc V7 rfl ⟨by decide,λ l5 YQ=> ?_⟩)⟩);have n5:=fh.new (o:=.lst [.str (tx fX.start),.str (tx fX.stop)]) YQ;have q5:upd H9 l5 (.lst [.str (tx fX.start),.str (tx fX.stop)]) l5=some (.lst [.str (tx fX.start),.str (tx fX.stop)]):=eX;generalize upd H9 l5 (.lst [.str (tx fX.start),.str (tx fX.stop)])=E4 at n5 q5;refine fK q5 c1 ⟨_,n5 _ _ Wc,rfl,sS ts,ia,_,va,ea,na,fK (n5 _ _ o9.at_) (v:=.ref x0) (gn Yt (by rw [ak,au,RY];rfl)) ⟨gp (fZ.of (n5 _ _ Wc)),fc (n5 _ _ V7) rfl (fc (n5 _ _ V7) rfl ⟨by decide,λ l6 YO=> ?_⟩)⟩⟩;have n6:=fh.new (o:=.lst [.str (tx fX.stop),.str (tx fX.start)]) YO;have q6:upd E4 l6 (.lst [.str (tx fX.stop),.str (tx fX.start)]) l6=some (.lst [.str (tx fX.stop),.str (tx fX.start)]):=eX;generalize upd E4 l6 (.lst [.str (tx fX.stop),.str (tx fX.start)])=Aj at n6 q6;have Je:=n5.trans n6;have Ω:nj H Aj kp ks Hs:=⟨Je _ _ o9.at_,o9.all.imp λ x l e=>Je _ _ e,o9.nd,o9.new,o9.own⟩
   have É:=ai RY;refine fK q6 c2 ⟨_,Je _ _ Wc,rfl,sS ts,ib,_,vb,eb,nb,x0,rfl,_,Je _ _ SG,_,qS Yt (by rw [ae];exact Yp (Za ibl (Zg ll0))),?_⟩;rw [au,show (l0.map V.int).set ib (V.int 1)=(l0.set ib 1).map V.int from de.symm];refine hN _ _ ⟨_,_,_,Hs.set ia (l0.set ib 1),rfl,λ b o hb e=> ?_,Ω.put RY,q7.put Kq,λ a b ha hb=> ?_⟩ ?_
   .rw [e_ (λ z=>by rw [z,(B_ x0 É).2] at e;cases e)];exact Je _ _ (k9 b o hb e)
   .rw [CN q7 Kq ibl];by_cases h1:a=ia/\b=ib
    .rw [if_pos h1,h1.1,h1.2,tk];exact⟨by decide,by decide,λ k q=>by rw [q.1];decide,λ _=>⟨rfl,_,_,num,YT,YS,ta,fX,aB _ (by simp),ft,rfl,rfl⟩⟩
    .rw [if_neg h1,tk];refine(f7 a b ha hb).iff λ k=>⟨λ ⟨e,x,to,nu,h1,h2,ad,ti,h3,h4⟩=>⟨e,x,to,nu,h1,h2,ad,ti,aN _ h3,h4⟩,?_⟩
     rintro⟨e,x,to,nu,g1,g2,ad,ti,h3,h4,h5,h6⟩;rcases ax.mp h3 with z|z
     .exact⟨e,x,to,nu,g1,g2,ad,ti,z,h4,h5,h6⟩
     .cases ao.mp z;subst h5;subst h6;exact(h1 ⟨(cw ha nd).mp (g1.trans YT.symm),(cw hb nd).mp (g2.trans YS.symm)⟩).elim
   .rw [e_ (UT x0 É).symm,fz];exact Je _ _ fz9
  .rintro σ H2 ⟨v4,v5,v6,jZ,rfl,s2,o2,q2,f2⟩ fz2;refine hN _ _ ?_;walk_at "rd";rw [show (fR rs).length=rs.length by unfold fR;rw [ae],bh] at f2;refine k kp _ jZ Nq (λ b o e=> ?_) (UD o2).rows ⟨q2,f2⟩;by_cases hb:b=pt
   .subst hb;rw [AQ.at_] at e
    cases e;exact eX
   .exact(e_ hb).trans (s2 b o hb e)
theorem nK:fG ["shape","marks","things","ties","inner","many","right"] ["shape","marks","things","ties"] (fw B1):=by walk_at "sc"
theorem Jq (T:Txt K mg t) (d:Nat):f_ P w K mg base (ir P w) (3+d) t.CZ t.CJ ["shape","marks","things","ties"] (tP d):=by
 induction d with
 | zero=>exact T.AK.fn.okN nK (len:=λ vs H Q E h=>(rJ h).elim) (λ ik A outer s H vs Q E hr h=>(rJ h).elim)
 | succ d ih=>
 have uL:=ih;have BB:=(FI (P:=P) (w:=w) (base:=base) T).mono (show 1<=3+d from Zc (Zd rfl) Zk);have EM:=(Ce (P:=P) (w:=w) (base:=base) T).mono (show 2<=3+d from Zc (Zd rfl) Zk);have BC:=(FP (P:=P) (w:=w) (base:=base) T).mono (show 1<=3+d from Zc (Zd rfl) Zk);have Ki:=(FN (P:=P) (w:=w) (base:=base) T).mono (show 1<=3+d from Zc (Zd rfl) Zk);refine T.AK.fn.okN nK (λ ik A outer s H vs Q E hr h=> ?_)
 .obtain⟨sa,ml,lt,pt,sh,ms,ts,rs,rfl,JL,hd,Dd,Gh,iJ,nd,PV,AQ,HD,PX,Dm,k⟩:=h
  refine⟨_,Bx.un (c_ (fM (fB g8 (eW fk (fb 0) b_) fP (fI _))
   (eZ (fA (fF T.AL EM hr fE (a_ (eW fJ (fb 1) (eW fk (fb 0) b_)) (a_ (fb 2) (a_ (fb 3) d_))))))
   fC)
   (c_ (fu 4 nK.nd (fF T.AK uL hr fE (a_ (eW fk (fb 0) b_) (a_ (fb 1) (a_ (fb 2) (a_ (fb 3) d_))))))
   (c_ (fu 5 nK.nd (Ka rfl (by rfl) T.kW (by rfl) T.iz (a_ (fD fH (by rfl) T.gW PySem.boot_len (a_ (fb 2) d_)) d_)))
   (c_ (fM (fB g8 (eW fk (fb 0) b_) fP (fI _))
   (c_ (fu 6 nK.nd (fF T.AK uL hr fE (a_ (eW fk (fb 0) b_) (a_ (fb 1) (a_ (fb 2) (a_ (fb 3) d_))))))
   (eZ (fA (Bh rfl (N:= ["a","right","many","inner"]) (fr:= [6,5,4]) (vK.of (by kernel_rfl)) (gi (fb 5)) (λ _ _ _ _ _=>gu)
    (λ _ _ _ _ _=>(iS rfl (N:= ["b","right","inner","a"]) (fr:= [1,3,0]) (tG.of (by kernel_rfl)) (vD K (fb 2)) (λ _ _ _ _ _=>gu)
    (λ _ _ _ _ _=>(fF T.HL Ki hr fE (a_ (eW (iF K) (fb 2) (fb 3)) (a_ (fb 1) (a_ (fb 0) d_)))))))))))
   fC)
   (c_ (fM (fB g8 (eW fk (fb 0) b_) fP (fI _))
   (c_ (fu 6 nK.nd (fF T.AK uL hr fE (a_ (eW fk (fb 0) b_) (a_ (fb 1) (a_ (fb 2) (a_ (fb 3) d_))))))
   (eZ (fA (Bh rfl (N:= ["a","many","inner","right"]) (fr:= [5,4,6]) (vK.of (by kernel_rfl)) (gi (fb 5)) (λ _ _ _ _ _=>gu)
    (λ _ _ _ _ _=>(iS rfl (N:= ["b","inner","a","right"]) (fr:= [2,0,3]) (tG.of (by kernel_rfl)) (vD K (fb 1)) (λ _ _ _ _ _=>gu)
    (λ _ _ _ _ _=>(fD (vB rfl) (by rfl) T.Iv cM (a_ (eW (iF K) (eW (iF K) (fb 1) (fb 2)) (fb 0)) (a_ (eW (iF K) (eW (iF K) (fb 3) (fb 2)) (fb 0)) d_))))))))))
   fC)
   (c_ (fM (fB g8 (eW fk (fb 0) b_) fP (fI _))
   (eZ (fA (fF T.Cq BB hr fE (a_ (fb 4) d_))))
   fC)
   (c_ (fM (fB g8 (eW fk (fb 0) b_) fP (fI _))
   (eZ (fA (fF T.Cs BC hr fE (a_ (fb 4) d_))))
   fC)
   (eZ (fA (fF T.Cq BB hr fE (a_ (fF T.Cs BC hr fE (a_ (fb 4) d_)) d_))))))))))),?_⟩
  walk_at "rs"
  have nm:∀kd∈uS++ones,¬V.str (tx kd)=V.str (tx [109,97,114,107]):=by
   intro kd hk q;have q:kd=qt:=iK.mp (by injection q);subst q;revert hk
   decide
  generalize JN:(λ (i a b:Nat)=>∃m,ms[i]? = some m/\wU ts rs m a b)=one at k
  have FD:∀i a c,one i a c->c<ts.length:=by
   rw [<-JN];rintro i a c ⟨m,_,k,to,num,_,h,_⟩;exact(ag.mp h).1
  cases JL with
  | @mark _ i e=>
   have il:i<ms.length:=Gh i (by simp [Sh.leaves]);have Wo:ms[i]? = some ms[i]:=by simp
   obtain⟨am,em,xO⟩:=Dd;obtain⟨fi,Qa,T1,Ê⟩:=xO.at Wo;generalize ms[i]=m0 at Wo T1 Ê;refine eY λ N hN=> ?_;walk_at "rd";refine fc e rfl ⟨rfl,jn rfl (fc e rfl (fK em (v:=.ref fi) (gn Yt (by rw [ak,au,Qa];rfl)) ⟨fi,lt,pt,m0,ts,rs,rfl,T1,Ê,iJ,nd,PV,AQ,HD,PX,Dm,λ q H1 rows hq s1 r1 f1=>k q H1 rows hq s1 r1 (f1.iff λ k a b ha=> ?_)⟩))⟩;rw [KJ,<-JN];constructor
   .exact λ ⟨e,h⟩=>⟨e,m0,Wo,h⟩
   .rintro⟨e,m',Wr,h⟩;rw [Wo] at Wr
    cases Wr;exact⟨e,h⟩
  | @two _ l r kd x y e hk hl sR=>
   have dd:x.deep<=d/\y.deep<=d:=by
    simp only [Sh.deep] at hd;exact Qaa hd
   refine eY λ N hN=> ?_;refine jf λ A B hA hB=> ?_;walk_at "rd";refine fc e gK ⟨rfl,gs (nm kd (aN _ hk)) (hB _ _ (hN _ _ ?_))⟩;clear hA hB A B hN N;refine eY λ N hN=> ?_;walk_at "rd";refine fc e rfl ⟨l,ml,lt,pt,x,ms,ts,rs,rfl,hl,dd.1,Dd,λ i hi=>Gh i (aN _ hi),iJ,nd,PV,AQ,HD,PX,Dm,λ q1 H1 kJ R9 s1 r1 f1=>hN _ _ ?_⟩;rw [JN] at f1;have e1:=s1 _ _ e;refine eY λ N hN=> ?_;walk_at "rd";refine⟨_,rfl,lt,rfl,_,.inl (fZ.of (s1 _ _ iJ)),ts.length,by rw [ae],Zc PV (Zd rfl),λ my YL=>hN _ _ ?_⟩;have n2:=fh.new (o:=.lst ((List.range ts.length).map λ (i:Nat)=>V.int (i:Int))) YL;have Vs:upd H1 my (.lst ((List.range ts.length).map λ (i:Nat)=>V.int (i:Int))) my=some (.lst ((List.range ts.length).map λ (i:Nat)=>V.int (i:Int))):=eX;generalize upd H1 my (.lst ((List.range ts.length).map λ (i:Nat)=>V.int (i:Int)))=H2 at n2 Vs;have s2:=s1.trans n2;have e2:=s2 _ _ e;have Tv:=r1.same n2;simp only [uS,aA,bb,or_false] at hk;rcases hk with rfl|rfl
   .refine eY λ N hN=> ?_;walk_at "rd";refine fc e2 rfl ⟨rfl,jn rfl (fc e2 rfl ⟨r,ml,lt,pt,y,ms,ts,rs,rfl,sR.same s2,dd.2,Dd.same s2,λ i hi=>Gh i (aB _ hi),s2 _ _ iJ,nd,PV,AQ.same s2,HD,PX,Dm,λ q2 H3 jZ R8 s3 r2 f2=> ?_⟩)⟩;rw [JN] at f2;obtain⟨a1,g1,w1⟩:=Tv.same s3;have RJ:=f1.1.1;have la1:=w1.len;have CH:=s3 _ _ Vs;refine⟨_,rfl,my,rfl,⟨_,fZ.of CH⟩,jo (cs:=List.range ts.length) (g:=λ (c:Nat)=>V.int (c:Int)) (gH (fZ.of CH)) (λ H4 (c:Nat) p=>H4 p=some (.lst (((List.range ts.length).map λ b=>jA (An ts.length (oi one x) (oi one y)) c b).map V.int))) (λ H4 c p e z=>by rw [e] at z;cases z) (λ c p H4 H5 s e=>s _ _ e) (fW (by rw [aI];exact Zc PV (Zd rfl))) (λ c H4 Q2 hc s4 h=> ?_) (λ H4 c p D o n e=>(e_ n).trans e) λ D H4 ks hD s4 d4 Z7 _ _=> ?_⟩
    .have cn:=aU.mp hc;obtain⟨l1,xH,ñ⟩:=f1.1.row cn;obtain⟨x1,qT,O5⟩:=w1.at xH;refine⟨_,rfl,my,rfl,⟨_,fZ.of (s4 _ _ CH)⟩,comp_map (cs:=List.range ts.length) (g:=λ (b:Nat)=>V.int (b:Int)) (gH (fZ.of (s4 _ _ CH))) (λ (b:Nat)=>V.int (jA (An ts.length (oi one x) (oi one y)) c b)) (fW (by rw [aI];exact Zc PV (Zd rfl))) (λ b H5 Q3 hb s5 h3=> ?_) λ D2 H5 Eo s5 d5=>h D2 H5 Eo s5 (by rw [d5,aQ];rfl)⟩;have bn:=aU.mp hb;have Py:=s4.trans s5;walk_at "rd"
     have fr:∀m,m<ts.length->nA (oi one x) c m (l1.getD m 0):=λ m hm=>by
      have:=f1.2 c m cn hm;unfold pN at this;rw [xH] at this;exact this
     refine fK (Py _ _ g1) (v:=.ref x1) (gn Yt (by rw [ak,au,qT];rfl)) ⟨x1,q2,b,ts.length,l1,jZ,rfl,Py _ _ O5,r2.same Py,f2.1,ñ,bn,Zc PV (Zd rfl),λ e H6 s6 e1 e2 e3=> ?_⟩;rw [<-lu (nA.then fr (λ m hm=>f2.2 m b hm bn) e1 e2 e3)];exact h3 H6 s6
    .exact k D H4 (tab (An ts.length (oi one x) (oi one y)) ts.length) ((s2.trans s3).free hD) ((s2.trans s3).trans s4) (Dp d4 Z7) ((G_ λ a b ha hb=>IP (λ m hm=>⟨_,f1.2 a m ha hm⟩) (λ m hm=>⟨_,f2.2 m b hm hb⟩)).iff λ k a b ha=>(NC FD ha).symm)
   .refine eY λ N hN=> ?_;walk_at "rd";refine fc e2 rfl ⟨rfl,gs (by decide) (hN _ _ ?_)⟩;refine eY λ N hN=> ?_;walk_at "rd";refine fc e2 rfl ⟨rfl,jn rfl (fc e2 rfl ⟨r,ml,lt,pt,y,ms,ts,rs,rfl,sR.same s2,dd.2,Dd.same s2,λ i hi=>Gh i (aB _ hi),s2 _ _ iJ,nd,PV,AQ.same s2,HD,PX,Dm,λ q2 H3 jZ R8 s3 r2 f2=> ?_⟩)⟩;rw [JN] at f2;obtain⟨a2,g2,w2⟩:=r2;obtain⟨a1,g1,w1⟩:=Tv.same s3;have RJ:=f1.1.1;have la1:=w1.len;have CH:=s3 _ _ Vs;refine⟨_,rfl,my,rfl,⟨_,fZ.of CH⟩,jo (cs:=List.range ts.length) (g:=λ (c:Nat)=>V.int (c:Int)) (gH (fZ.of CH)) (λ H4 (c:Nat) p=>H4 p=some (.lst (((List.range ts.length).map λ b=>jA (Kn (oi one x) (oi one y)) c b).map V.int))) (λ H4 c p e z=>by rw [e] at z;cases z) (λ c p H4 H5 s e=>s _ _ e) (fW (by rw [aI];exact Zc PV (Zd rfl))) (λ c H4 Q2 hc s4 h=> ?_) (λ H4 c p D o n e=>(e_ n).trans e) λ D H4 ks hD s4 d4 Z7 _ _=> ?_⟩
    .have cn:=aU.mp hc;obtain⟨l1,xH,ñ⟩:=f1.1.row cn;obtain⟨x1,qT,O5⟩:=w1.at xH;refine⟨_,rfl,my,rfl,⟨_,fZ.of (s4 _ _ CH)⟩,comp_map (cs:=List.range ts.length) (g:=λ (b:Nat)=>V.int (b:Int)) (gH (fZ.of (s4 _ _ CH))) (λ (b:Nat)=>V.int (jA (Kn (oi one x) (oi one y)) c b)) (fW (by rw [aI];exact Zc PV (Zd rfl))) (λ b H5 Q3 hb s5 h3=> ?_) λ D2 H5 Eo s5 d5=>h D2 H5 Eo s5 (by rw [d5,aQ];rfl)⟩;have bn:=aU.mp hb;have Py:=s4.trans s5;walk_at "rd";obtain⟨l2,zO,ll2⟩:=f2.1.row cn;obtain⟨x2,rS,Ia⟩:=w2.at zO;refine fK (Py _ _ g1) (v:=.ref x1) (gn Yt (by rw [ak,au,qT];rfl)) (fK (Py _ _ O5) (v:=.int (pN kJ c b)) (gn Yt (by rw [ak,au,f1.1.at xH bn];rfl)) (fK (Py _ _ g2) (v:=.ref x2) (gn Yt (by rw [ak,au,rS];rfl)) (fK (Py _ _ Ia) (v:=.int (pN jZ c b)) (gn Yt (by rw [ak,au,f2.1.at zO bn];rfl)) ⟨_,rfl,_,rfl,?_⟩)));rw [L3,<-lu ((f1.2 c b cn bn).or (f2.2 c b cn bn))];exact h3 H5 (fh.refl _)
    .exact k D H4 (tab (Kn (oi one x) (oi one y)) ts.length) ((s2.trans s3).free hD) ((s2.trans s3).trans s4) (Dp d4 Z7) ((G_ λ a b ha hb=>⟨_,(f1.2 a b ha hb).or (f2.2 a b ha hb)⟩).iff λ k a b ha=>Qt.symm)
  | @one _ j kd x e hk hi=>
   have dd:x.deep<=d:=cJ hd
   have nk:∀z∈[jM,sL],¬V.str (tx kd)=V.str (tx z):=by
    intro z hz q;have q:kd=z:=iK.mp (by injection q);subst q;revert hk hz;simp only [ones,aA,bb,or_false];rintro(rfl|rfl|rfl)<;>decide
   refine eY λ N hN=> ?_;refine jf λ A B hA hB=> ?_;walk_at "rd";refine fc e gK ⟨rfl,gs (nm kd (aB _ hk)) (hB _ _ (hN _ _ ?_))⟩;clear hA hB A B hN N;refine eY λ N hN=> ?_;walk_at "rd";refine fc e rfl ⟨j,ml,lt,pt,x,ms,ts,rs,rfl,hi,dd,Dd,Gh,iJ,nd,PV,AQ,HD,PX,Dm,λ q1 H1 kJ R9 s1 r1 f1=>hN _ _ ?_⟩;rw [JN] at f1;have e1:=s1 _ _ e;refine eY λ N hN=> ?_;walk_at "rd";refine⟨_,rfl,lt,rfl,_,.inl (fZ.of (s1 _ _ iJ)),ts.length,by rw [ae],Zc PV (Zd rfl),λ my YL=>hN _ _ ?_⟩;have n2:=fh.new (o:=.lst ((List.range ts.length).map λ (i:Nat)=>V.int (i:Int))) YL;have Vs:upd H1 my (.lst ((List.range ts.length).map λ (i:Nat)=>V.int (i:Int))) my=some (.lst ((List.range ts.length).map λ (i:Nat)=>V.int (i:Int))):=eX;generalize upd H1 my (.lst ((List.range ts.length).map λ (i:Nat)=>V.int (i:Int)))=H2 at n2 Vs;have s2:=s1.trans n2;have e2:=s2 _ _ e;have Tv:=r1.same n2;refine eY λ N hN=> ?_;refine jf λ A B hA hB=> ?_;walk_at "rd";refine fc e2 gK ⟨rfl,gs (nk jM (by simp)) (hB _ _ (hN _ _ ?_))⟩;clear hA hB A B hN N;refine eY λ N hN=> ?_;refine jf λ A B hA hB=> ?_;walk_at "rd";refine fc e2 gK ⟨rfl,gs (nk sL (by simp)) (hB _ _ (hN _ _ ?_))⟩;clear hA hB A B hN N;simp only [ones,aA,bb,or_false] at hk;rcases hk with rfl|rfl|rfl
   .refine eY λ N hN=> ?_;walk_at "rd";refine fc e2 rfl ⟨rfl,gs (by decide) (hN _ _ ?_)⟩;refine eY λ N hN=> ?_;refine jf λ A B hA hB=> ?_;walk_at "rd";refine fc e2 rfl ⟨rfl,gs (by decide) (hB _ _ (hN _ _ ?_))⟩;clear hA hB A B hN N;walk_at "rd";exact⟨q1,ts.length,_,kJ,rfl,Tv,Zc PV (Zd rfl),f1,λ q3 H3 nL P_ s3 r3 f3=>⟨q3,ts.length,_,nL,rfl,r3,Zc PV (Zd rfl),f3,λ q4 H4 tY hq4 s4 r4 f4=>k q4 H4 tY ((s2.trans s3).free hq4) ((s2.trans s3).trans s4) r4 (f4.iff λ k a b ha=>(KL FD ha).symm)⟩⟩
   .refine eY λ N hN=> ?_;walk_at "rd";refine fc e2 rfl ⟨rfl,gs (by decide) (hN _ _ ?_)⟩;refine eY λ N hN=> ?_;walk_at "rd";exact fc e2 rfl ⟨rfl,jn rfl ⟨q1,ts.length,_,kJ,rfl,Tv,Zc PV (Zd rfl),f1,λ q3 H3 nL P_ s3 r3 f3=>k q3 H3 nL (s2.free P_) (s2.trans s3) r3 (f3.iff λ k a b ha=>(KI FD ha).symm)⟩⟩
   .refine eY λ N hN=> ?_;walk_at "rd";exact fc e2 rfl ⟨rfl,jn rfl ⟨q1,ts.length,_,kJ,rfl,Tv,Zc PV (Zd rfl),f1,λ q3 H3 nL P_ s3 r3 f3=>k q3 H3 nL (s2.free P_) (s2.trans s3) r3 (f3.iff λ k a b ha=>IG.symm)⟩⟩
theorem LS (T:Txt K mg t):f_ P w K mg base (ir P w) (3+40) t.CZ t.CJ ["shape","marks","things","ties"] (tP 40):=Jq T 40
theorem oq:fG ["web","tree","start","made","entries","places"] ["web","tree","start"] (fw uY):=by walk_at "sc"
theorem FF (T:Txt K mg t):f_ P w K mg base (ir P w) 85 t.Bn t.AZ ["web","tree","start"] (xV t):=by
 have Kf:=FG (P:=P) (w:=w) (base:=base) T;have Te:=(OA (P:=P) (w:=w) (base:=base) T).mono (show 4<=84 by decide);have Kl:=(FR (P:=P) (w:=w) (base:=base) T).mono (show 1<=84 by decide);have M_:=(Jr (P:=P) (w:=w) (base:=base) T).mono (show 1<=84 by decide);have C8:=(zZ (P:=P) (w:=w) (base:=base) T).mono (show 1<=84 by decide);refine T.xy.fn.okN oq (λ ik A outer s H vs Q E hr h=> ?_)
 .obtain⟨p,a,W,tr,st,rfl,w,pM,iD,Dm,ht,dtr,υ,ų,k⟩:=h
  refine⟨_,Bx.un (c_ (fu 3 oq.nd (fF T.machine Kf hr fE (a_ (fb 1) d_)))
   (c_ (fu 4 oq.nd (fF T.book Te hr fE (a_ (fb 0) (a_ (fb 3) (a_ (fb 2) d_)))))
   (c_ (fu 5 oq.nd (h_ (xg rfl) (by rfl) T.S1 PyProof.Rows.boot_dict (a_ (fF T.Ib Kl hr fE (a_ (fb 3) (a_ (fb 4) d_))) d_)))
   (eZ (fA (iS rfl (N:= ["thing","made","entries","places"]) (fr:= [3,4,5]) (tG.of (by kernel_rfl)) (gi (CT (fb 0) T.iA T.zD C8 hr fE)) (λ _ _ _ _ _=>(zm (qV (CU (j4 hr) (fb 0) (fb 3)))))
    (λ _ _ _ _ _=>(gj (a_ (fb 0) (a_ (fF T.KG M_ hr fE (a_ (fb 1) (a_ (fb 2) (a_ (qY (j4 hr) (fb 3) (fb 0)) d_)))) d_)))))))))),?_⟩
  walk_at "rs";refine eY λ N hN=> ?_;walk_at "rd";refine⟨a,tr,rfl,ht,dtr,υ,ų,λ pm H1 M Ć s1 own EU md=>hN _ _ ?_⟩;refine eY λ N hN=> ?_;walk_at "rd";refine⟨p,pm,W,M,st,rfl,w.same s1,pM,iD,Dm,own.XM,EU,λ qe H2 es TM s2 ents bk SE Ï η full=>hN _ _ ?_⟩;have EP:=Ic M es.length es rfl;have Vt:=MD (M:=M) Ï;have ŵ:=w.iD;rw [ae] at Vt;refine eY λ N hN=> ?_;walk_at "rd";refine⟨pm,qe,M,st,_,es,rfl,own.XM.same s2,EU,ents,bk,SE,λ l H3 hl s3 pr=> ?_⟩;generalize hm:iH M.ends es 0 []=m at EP Vt pr;obtain⟨ap,ep,Ţ⟩:=pr;have lap:=Ţ.len;refine⟨l,rfl,ap.zip (gz m),?_,?_,?_,λ d hd=>hN _ _ ?_⟩
  .rw [ep,qK (by unfold gz;rwa [ae])]
  .intro x hx;unfold gz at hx;rw [List.zip_map_right] at hx;obtain⟨c,hc,rfl⟩:=aE.mp hx;exact Ţ.zip c hc
  .rw [b9];lia
  rw [show (ap.zip (gz m)).map (λ x=>x.snd)=gz m from eI (by unfold gz;rw [ae];exact Zg lap),D_ (by unfold gz;rw [aQ];exact nodup_keys EP.nd)];have n4:=fh.new (o:=.dK (gz m)) hd;have d4:upd H3 d (.dK (gz m)) d=some (.dK (gz m)):=eX;generalize upd H3 d (.dK (gz m))=H4 at n4 d4;have Ng:=s3.trans n4;have Pz:=s2.trans Ng;have Lc:=s1.trans Pz;have w4:=w.same Lc;have Vp:=ents.same Ng;have XJ:=own.XM.same Pz;refine⟨_,rfl,_,_,_,rfl,w4.obj,rfl,p,W,rfl,w4,λ la Np=>⟨la,rfl,⟨_,fZ.of eX⟩,?_⟩⟩;have n5:=fh.new (o:=.lst ((W.vals.map (·.1)).map λ z=>V.str (tx z))) Np;have e5:upd H4 la (.lst ((W.vals.map (·.1)).map λ z=>V.str (tx z))) la=some (.lst ((W.vals.map (·.1)).map λ z=>V.str (tx z))):=eX;generalize upd H4 la (.lst ((W.vals.map (·.1)).map λ z=>V.str (tx z)))=H5 at n5 e5;have QD:=Lc.trans n5;have d5:=n5 _ _ d4;refine Bb (cs:=W.vals.map (·.1)) (g:=λ z=>V.str (tx z)) (gH (fZ.of e5)) (λ z=>decide (z∈m.map (·.1))) (λ H6 z x=>H6 x.1=some (.tup [.str (tx z),.ref x.2])/\iB H6 x.2 (zQ M es z)) (λ H6 c x ⟨_,_,h,_⟩ z=>by rw [h] at z;cases z) (λ c x H6 H7 s ⟨h1,h2⟩=>⟨s _ _ h1,h2.same s⟩) (fW (by rw [ae];exact Zc ŵ (Zd rfl))) (λ c H6 Q2 hc s6 h=> ?_) (λ c H6 Q2 hc hp s6 h=> ?_) (λ H6 c x D ys zs hD h1 h2 ⟨g1,as,g2,g3⟩=>⟨(e_ h1).trans g1,as,(e_ h2).trans g2,g3.imp λ (y:Addr) (v:Int×Bool) (e:H6 y=some (.tup [.int v.1,.bl v.2]))=>(e_ (gN e hD (λ z=>nomatch z))).trans e⟩) λ D H6 ps hD s6 d6 al6 θ Uz=> ?_
  .walk_at "rd";refine⟨_,lB.k (k:=.inr (tx c)) (s6 _ _ d5),?_⟩;rw [kK];exact h _ (fh.refl _)
  .have cm:=of_decide_eq_true hp;have pv:=Jh EP.nd cm;obtain⟨j,e,ej,hj,_⟩:=EP.hit c _ (qP cm);have Õ:=n5.trans s6;walk_at "rd";refine⟨.int (mX m c),by rw [<-pv];exact lB.k (k:=.inr (tx c)) (s6 _ _ d5),?_⟩
   have ew:zQ M es c=((jy es es.length j).map (rE M.iR es)).reverse:=by
    unfold zQ;rw [hm,ej,au]
   rw [ej];refine⟨pm,qe,M,st,_,es,j,rfl,XJ.same Õ,EU,Vp.same Õ,bk,SE,(ag.mp hj).1,λ l H7 hl s7 ws=>⟨by decide,λ p1 Nn=>h (p1,l) _ (s7.free Nn) hl (s7.trans (fh.new Nn)) ⟨eX,?_⟩⟩⟩;rw [ew];exact ws.same (fh.new Nn)
  .refine k D H6 ps M es (QD.trans s6) EU md bk SE Ï η full ⟨d6,?_,θ,λ x hx=>⟨(Uz x hx).2.1,QD.free (Uz x hx).2.2⟩,QD.free hD⟩;unfold yV;rw [hm]
   have go:∀{cs:List Nm} {ps:List (Addr×Addr)},fN (λ z (x:Addr×Addr)=>H6 x.1=some (.tup [.str (tx z),.ref x.2])/\iB H6 x.2 (zQ M es z)) cs ps->fN (λ (f:Nm×List (Int×Bool)) (x:Addr×Addr)=>H6 x.1=some (.tup [.str (tx f.1),.ref x.2])/\iB H6 x.2 f.2) (cs.map λ z=>(z,zQ M es z)) ps:=by
    intro cs ps h
    induction h with
    | nil=>exact .nil
    | cons r _ ih=>exact .cons r ih
   exact go al6
theorem iO:fG ["way","ties","start","end","steps","here","step","tie"] ["way","ties","start","end"] (fw mU):=by walk_at "sc"
theorem yw (T:Txt K mg t):f_ P w K mg base (ir P w) 2 t.rZ t.rV ["way","ties","start","end"] (pR):=by
 have Kg:=FH (P:=P) (w:=w) (base:=base) T;refine T.vV.fn.okN iO (λ ik A outer s H vs Q E hr h=> ?_)
 .obtain⟨wl,pt,st,en,ws,rs,ss,rfl,hw,AQ,HD,wk,lw,k⟩:=h
  refine⟨_,Bx.un (c_ (fu 4 iO.nd (gh d_))
   (c_ (fu 5 iO.nd (fb 2))
   (c_ (gL PassesOwn.never rfl (gi (fb 0)) (gb 6 iO.nd)
   (c_ (fM (kU (jw (hZ (fD jq (by rfl) T.iY bF (a_ (fb 6) (a_ (sZ T.Ir PyProof.Rows.boot_tuple) d_))))) (kU (fB lX (fD fH (by rfl) T.gW PySem.boot_len (a_ (fb 6) d_)) b_ (fI _)) (kU (jw (hZ (fF T.HJ Kg hr fE (a_ (eW fk (fb 6) b_) d_)))) (mI (jw (hZ (fD jq (by rfl) T.iY bF (a_ (eW fk (fb 6) b_) (a_ (sZ T.M0 PyProof.Rows.boot_bool) d_))))))))).Io
   (eZ (fA uB))
   fC)
   (c_ (fM (qV (oR (j4 hr) (eW fk (fb 6) b_) (fb 1)))
   (eZ (fA uB))
   fC)
   (c_ (fu 7 iO.nd (qY (j4 hr) (fb 1) (eW fk (fb 6) b_)))
   (c_ (fM (fB lX (eW fJ (gh (a_ (eW fk (fb 7) b_) (a_ (eW fk (fb 7) b_) d_))) (h_ vC (by rfl) T.Iw cO (a_ (eW fk (fb 6) b_) d_))) (fb 5) (fI _))
   (eZ (fA uB))
   fC)
   (c_ (fu 5 iO.nd (eW fJ (gh (a_ (eW fk (fb 7) b_) (a_ (eW fk (fb 7) b_) d_))) (h_ vC (by rfl) T.Iw cO (a_ (eW fk (fb 6) b_) d_))))
   (eZ (fQ (iy aH aX aW gR (fb 4) (a_ (gj (a_ (eW fk (fb 7) b_) (a_ (eW fk (fb 7) b_) (a_ (eW fk (fb 6) b_) d_)))) d_))))))))))
   (c_ (fM (fB lX (fb 5) (fb 3) (fI _))
   (eZ (fA uB))
   fC)
   (eZ (fA (fb 4))))))),?_⟩
  walk_at "rs";obtain⟨aw,ew,WO⟩:=hw;have XW:=WO.len;refine eY λ N hN=> ?_;walk_at "rd";refine⟨aP _,λ sl Wi=>hN _ _ ?_⟩;have s1:=fh.new (o:=.lst []) Wi;have e1:upd H sl (.lst []) sl=some (.lst (([]:List Addr).map V.ref)):=eX;generalize upd H sl (.lst [])=H1 at s1 e1;refine eY λ N hN=> ?_;walk_at "rd";refine hN _ _ ?_;refine eY λ N hN=> ?_
  refine⟨_,rfl,wl,rfl,⟨_,fZ.of (s1 _ _ ew)⟩,iG (K:=K) (xs:=aw.map V.ref) (λ i σ H2=>∃(h:Nm) (v6 v7:Option V) (sd sr:List EK),σ = [some (.ref wl),some (.ref pt),some (.str (tx st)),some (.str (tx en)),some (.ref sl),some (.str (tx h)),v6,v7]/\fh H H2/\M5 H2 sl sd/\sd.length=i/\ss=sd++sr/\zE rs h (ws.drop i) en sr)
   ⟨st,none,none,[],ss,rfl,s1,⟨[],e1,.nil⟩,rfl,rfl,wk⟩ (λ i σ H2 _ hz=>by obtain⟨_,_,_,_,_,_,s2,_⟩:=hz;exact fZ.of (s2 _ _ ew)) ?_ ?_⟩
  .rintro i y σ H2 hi ⟨h,v6,v7,sd,sr,rfl,s2,YE,ï,WI,Tp⟩;obtain⟨x,hx,rfl⟩:=g_ hi
   have il:i<ws.length:=by
    rw [<-XW];exact(ag.mp hx).1
   have ÿ:ws[i]? = some ws[i]:=by simp
   have ex:=WO.get hx ÿ;rw [List.drop_eq_getElem_cons il] at Tp;generalize ws[i]=wi at ÿ ex Tp;obtain⟨ad,fX,Ι,tm,ef,esr,Ŵ⟩:=Tp;clear hN;walk_at "rg";have Ia:=s2 _ _ ex;have sR:=AQ.same s2;have hv:=Dn HD tm;have rt:=sR.i5 _ tm;refine eY λ N2 vY=> ?_;walk_at "rd";refine⟨_,.tup Ia,_,Me K,gs (by decide) ⟨_,.inr (oh.of Ia),gs (by simp) (fc Ia rfl ⟨wi.1,rfl,_,rfl,gs (by decide) (fc Ia rfl ⟨_,.bl _,_,RO K,gs (by decide) (vY _ _ ?_)⟩)⟩)⟩⟩;clear vY N2
   have dg:lB H2 pt (V.int wi.1) (some (.ref ad)):=by
    rw [<-hv];exact lB.k (k:=.inl wi.1) sR.at_
   refine eY λ N2 vY=> ?_;walk_at "rd";refine fc Ia rfl ⟨_,dg,gs (λ z=>by cases z) (vY _ _ ?_)⟩;clear vY N2;refine eY λ N2 vY=> ?_;walk_at "rd";refine fc Ia rfl ⟨_,dg,vY _ _ ?_⟩;clear vY N2
   have c1:xh [V.str (tx fX.start),V.str (tx fX.stop)] (if wi.2=true then 1 else 0)=some (V.str (tx (j_ fX wi.2))):=by
    unfold j_
    cases wi.2<;>rfl
   have c2:xh [V.str (tx fX.stop),V.str (tx fX.start)] (if wi.2=true then 1 else 0)=some (V.str (tx (i7 fX wi.2))):=by
    unfold i7
    cases wi.2<;>rfl
   refine eY λ N2 vY=> ?_;walk_at "rd";refine fc rt rfl (fc rt rfl ⟨by decide,λ l5 YQ=> ?_⟩);have n5:=fh.new (o:=.lst [.str (tx fX.start),.str (tx fX.stop)]) YQ;have q5:upd H2 l5 (.lst [.str (tx fX.start),.str (tx fX.stop)]) l5=some (.lst [.str (tx fX.start),.str (tx fX.stop)]):=eX;generalize upd H2 l5 (.lst [.str (tx fX.start),.str (tx fX.stop)])=H5 at n5 q5;refine fc (n5 _ _ Ia) rfl (.inr ⟨wi.2,rfl,fK q5 c1 ?_⟩);rw [ef];refine⟨rfl,gs (λ z=>z rfl) (vY _ _ ?_)⟩;clear vY N2;have s5:=s2.trans n5;have Û:=n5 _ _ rt;refine eY λ N2 vY=> ?_;walk_at "rd";refine fc Û rfl (fc Û rfl ⟨by decide,λ l6 YO=> ?_⟩);have n6:=fh.new (o:=.lst [.str (tx fX.stop),.str (tx fX.start)]) YO;have q6:upd H5 l6 (.lst [.str (tx fX.stop),.str (tx fX.start)]) l6=some (.lst [.str (tx fX.stop),.str (tx fX.start)]):=eX;generalize upd H5 l6 (.lst [.str (tx fX.stop),.str (tx fX.start)])=H6 at n6 q6;have NZ:=n5.trans n6;refine fc (NZ _ _ Ia) rfl (.inr ⟨wi.2,rfl,fK q6 c2 (vY _ _ ?_)⟩);clear vY N2;have s6:=s2.trans NZ;have Ú:=NZ _ _ rt;obtain⟨WN,esd,ţ⟩:=YE;have Vn:=NZ _ _ esd;have lad:=ţ.len;walk_at "rd";refine⟨gp (fZ.of Vn),fc Ú rfl (fc Ú rfl (fc (NZ _ _ Ia) rfl ⟨by decide,λ b7 hb7=> ?_⟩))⟩;have n7:=fh.new (o:=.tup [.str (tx fX.name),.int fX.weight,.bl wi.2]) hb7;have q7:upd H6 b7 (.tup [.str (tx fX.name),.int fX.weight,.bl wi.2]) b7=some (.tup (Hj ⟨fX.name,fX.weight,wi.2⟩)):=eX;generalize upd H6 b7 (.tup [.str (tx fX.name),.int fX.weight,.bl wi.2])=H7 at n7 q7;have Vm:=n7 _ _ Vn;have Ξ:=NZ.trans n7;have sO:∀(y:Addr) (s:EK),H7 y=some (.tup (Hj s))->upd H7 sl (.lst (WN.map V.ref ++ [V.ref b7])) y=some (.tup (Hj s)):=λ y s e=>(e_ (gN e Vm (λ z=>nomatch z))).trans e;refine⟨_,Vm,?_,(s6.trans n7).fS Wi,sd ++ [⟨fX.name,fX.weight,wi.2⟩],⟨WN ++ [b7],?_,?_⟩,by rw [aq,bx,ï],Ι,by rw [WI,esr];simp,Ŵ⟩
   .rw [ae];exact aC (show WN.length<3000 from Zb (Ze lad) (Zb (Ze ï) (Za il (Zc lw (Zd rfl))))) (fW (by decide))
   .rw [eX,av];rfl
   .exact fN.snoc (R:=λ x s=>upd H7 sl (.lst (WN.map V.ref ++ [V.ref b7])) x=some (.tup (Hj s))) (sO _ _ q7) (ţ.imp λ y s e=>sO y s (Ξ _ _ e))
  .rintro σ H2 ⟨h,v6,v7,sd,sr,rfl,s2,YE,ï,WI,Tp⟩;refine hN _ _ ?_;rw [ae,XW,List.drop_length] at Tp;obtain⟨rfl,rfl⟩:=Tp;rw [bK] at WI;subst WI;refine eY λ N hN=> ?_;walk_at "rd";refine hN _ _ ?_;walk_at "rd";exact k sl H2 Wi s2 YE
theorem mS:fG ["way","far","grown","ties","start","end","steps","fitted"] ["way","far","grown","ties","start","end"] (fw oy):=by walk_at "sc"
theorem zY (T:Txt K mg t):f_ P w K mg base (ir P w) 43 t.uG t.ur ["way","far","grown","ties","start","end"] (rH):=by
 have Ak:=(yw (P:=P) (w:=w) (base:=base) T).mono (show 2<=42 by decide);have n_:=FJ (P:=P) (w:=w) (base:=base) T;have C7:=(DP (P:=P) (w:=w) (base:=base) T).mono (show 1<=42 by decide);refine T.yI.fn.okN mS (λ ik A outer s H vs Q E hr h=> ?_)
 .obtain⟨wl,gr,sa,ml,pt,n,st,en,sh,ms,ws,rs,ss,rfl,eg,JL,O9,Dd,Gh,XR,hw,lw,EV,AQ,HD,wk,Wd,ZJ,k⟩:=h
  refine⟨_,Bx.un (c_ (fM (kU (jw (hZ (fD jq (by rfl) T.iY bF (a_ (fb 0) (a_ (sZ T.kW bz) d_))))) (mI (fB lX (fD fH (by rfl) T.gW PySem.boot_len (a_ (fb 0) d_)) (fb 1) (fI _)))).Io
   (eZ (fA jc))
   fC)
   (c_ (fu 6 mS.nd (fF T.vV Ak hr fE (a_ (fb 0) (a_ (fb 3) (a_ (fb 4) (a_ (fb 5) d_))))))
   (c_ (fM (fB Rp (fb 6) uB (fI _))
   (eZ (fA jc))
   fC)
   (c_ (J_ (i:=7) mS.nd rfl (by walk_at "o") rfl (N:= ["mark","far","steps"]) (fr:= [1,6]) (vK.of (by kernel_rfl)) (gi (eW fk (fb 2) b_)) (λ _ _ _ _ _=>gu)
    (λ _ _ _ _ _=>(iS rfl (N:= ["at","mark","steps"]) (fr:= [0,2]) (tG.of (by kernel_rfl)) (gI rfl T.iz (a_ (fb 1) d_)) (λ _ _ _ _ _=>(zm (hZ (fF T.l_fit C7 hr fE (a_ (fb 1) (a_ (eW (iF K) (fb 2) (fb 0)) d_))))))
    (λ _ _ _ _ _=>(fb 0)))))
   (eZ (fA (iT AD (fb 1) (eW fJ (fF T.qR n_ hr fE (a_ (eW fk (fb 2) b_) (a_ (fb 7) (a_ (fb 1) d_)))) b_) (by with_unfolding_all rfl)))))))),?_⟩
  walk_at "rs";obtain⟨aw,ew,WO⟩:=id hw;have XW:=WO.len;refine eY λ N hN=> ?_;walk_at "rd";refine⟨_,.lst ew,_,Mf K,gs (by decide) ⟨_,.inl (fZ.of ew),gs (λ z=>z (by rw [ae];exact Yq (Yo (Zc (Ze XW) (Ze lw))) (Yo (Zc (Zg lw) (Zg XW))))) (hN _ _ ?_)⟩⟩;refine eY λ N hN=> ?_;walk_at "rd";refine⟨wl,pt,st,en,ws,rs,ss,rfl,hw,AQ,HD,wk,Zc (Ze lw) (Zc EV (Zd rfl)),λ sl H1 Wi s1 hss=>hN _ _ ?_⟩;refine eY λ N hN=> ?_;walk_at "rd";refine hN _ _ ?_;obtain⟨as,es,als⟩:=hss;obtain⟨am,em,xO⟩:=Dd.same s1;have lam:=xO.len;have ŏ:=s1 _ _ eg;refine eY λ N hN=> ?_;refine⟨_,rfl,_,_,_,_,rfl,rfl,oh.of ŏ,rfl,ml,rfl,⟨_,fZ.of em⟩,jo (cs:=am.zip ms) (g:=λ c=>V.ref c.1) (gH (by rw [qK lam];exact fZ.of em)) (λ Aj c p=>Aj p=some (.lst ((vf ss c.2).map V.int))) (λ Aj c p e z=>by rw [e] at z;cases z) (λ c p Aj Tc s e=>s _ _ e) (fW (by rw [b9];lia)) (λ c Aj Q2 hc Uk h=> ?_) (λ Aj c p D o n e=>(e_ n).trans e) λ fl Aj af hfl Uk Z4 Z8 _ _=>hN _ _ ?_⟩
  .obtain⟨ec,wc⟩:=xO.zip c hc;refine⟨_,rfl,_,rfl,by lia,by lia,CM (iE (n:=((n:Nat):Int).toNat)) (λ j=>match ss[j]? with|some s=>nU c.2 s|none=>false) (λ (j:Nat)=>V.int (j:Int)) (fW (by rw [aI];lia)) (λ j Tc Q3 hj wO h2=> ?_) (λ j Tc Q3 hj _ wO h2=>⟨_,rfl,?_⟩) λ D Tc hD wO Z3=>h D Tc hD wO ?_⟩
   .have jl:j<ss.length:=by
     have:=aU.mp hj;lia
    have ă:ss[j]? = some ss[j]:=by simp
    obtain⟨x,hx,ex⟩:=als.at ă;have s:=Uk.trans wO;walk_at "rd";refine fK (s _ _ es) (v:=.ref x) (gn Qaf (by rw [ak,show (0+(j:Int)).toNat=j from Nat.add_comm _ _,hx];rfl)) ⟨c.1,x,c.2,ss[j],rfl,s _ _ ec,s _ _ ex,wc,λ ŧ Hq=>⟨_,rfl,?_⟩⟩;have:=h2 ŧ Hq;rw [ă] at this;exact this
   .have:=h2 Tc (fh.refl _)
    rwa [show (0:Int)+(j:Int)=(j:Int) from Yw]
   .rw [Z3,au,<-Wd];unfold vf;rw [aQ];rfl
  have rF:jF Aj fl (ms.map (vf ss)):=by
   refine⟨af,Z4,?_⟩
   have go:∀{as:List Addr} {mm:List jQ} {bs:List Addr},as.length=mm.length->fN (λ (c:Addr×jQ) p=>Aj p=some (.lst ((vf ss c.2).map V.int))) (as.zip mm) bs->fN (λ x (l:List Int)=>Aj x=some (.lst (l.map V.int))) bs (mm.map (vf ss)):=by
    intro as
    induction as with
    | nil=>
     intro mm bs hl h
     cases mm with
     | nil=>cases h;exact .nil
     | cons _ _=>cases hl
    | cons a as ih=>
     intro mm bs hl h
     cases mm with
     | nil=>cases hl
     | cons m mm=>
      cases h with
      | cons r t=>exact .cons r (ih (by simpa using hl) t)
   exact go lam Z8
  walk_at "rg";walk_at "rd";refine fc (Uk _ _ ŏ) rfl ⟨sa,fl,n,sh,_,rfl,(JL.same s1).same Uk,O9,rF,λ i hi=>by rw [ae];exact Gh i hi,λ l hl x hx=> ?_,λ l hl=> ?_,EV,λ q2 Tc rows R8 wO rR sp=> ?_⟩
  .obtain⟨m,_,rfl⟩:=aE.mp hl;rw [<-Wd];exact Lf x hx
  .obtain⟨m,_,rfl⟩:=aE.mp hl;have:=Lg ss m;exact Zc this (Zc (Ze Wd) (Zc EV (Zd rfl)))
  obtain⟨ar,er,S5⟩:=rR;have lr:=sp.len;have h0:rows[0]? = some (rows[0]'(Qai lr)):=by simp
  obtain⟨x0,RY,SG⟩:=S5.at h0;have m0:=sp.mem 0 _ h0;generalize rows[0]'(Qai lr)=Xh at h0 SG m0
  have Vu:((n:Nat):Int)∈Xh:=by
   rw [m0];exact⟨n,rfl,ZJ.imp λ i p q=>MB.mpr q⟩
  refine fK er (v:=.ref x0) (gn (by decide) (by rw [ak];rw [show (0:Int).toNat=0 from rfl,RY];rfl)) (Lj (fZ.of SG) ?_);rw [if_neg (by decide),decide_eq_true Vu];exact k _ ((s1.trans Uk).trans wO)
theorem nJ:fG ["found","grown","things","ties","start","fars","due","k","thing"] ["found","grown","things","ties","start"] (fw yn):=by walk_at "sc"
theorem Jt (T:Txt K mg t):f_ P w K mg base (ir P w) 44 t.EG t.Ew ["found","grown","things","ties","start"] (Au):=by
 have uL:=LS (P:=P) (w:=w) (base:=base) T;have C6:=zY (P:=P) (w:=w) (base:=base) T;refine T.Cr.fn.okN nJ (λ ik A outer s H vs Q E hr h=> ?_)
 .obtain⟨q,gr,sa,ml,lt,pt,B,ps,fs,ts,rs,sh,ms,a,st,rfl,hf,eg,JL,O9,Dd,Gh,XR,iJ,nd,PV,AQ,HD,PX,Dm,ha,gf,k⟩:=h
  refine⟨_,Bx.un (c_ (fu 5 nJ.nd (eW fJ (fF T.AK uL hr fE (a_ (eW fk (fb 1) b_) (a_ (eW fk (fb 1) b_) (a_ (fb 2) (a_ (fb 3) d_))))) (iy aH cD cC ua (fb 2) (a_ (fb 4) d_))))
   (c_ (jC (i:=6) nJ.nd rfl (by walk_at "o") rfl (N:= ["k","fars"]) (fr:= [5]) (tG.of (by kernel_rfl)) (gI rfl T.iz (a_ (fD fH (by rfl) T.gW PySem.boot_len (a_ (fb 2) d_)) d_)) (λ _ _ _ _ _=>(zm (fB ph (eW (iF K) (fb 1) (fb 0)) b_ (fI _))))
    (λ _ _ _ _ _=>(fb 0)))
   (c_ (fM (kU (jw (hZ (fD jq (by rfl) T.iY bF (a_ (fb 0) (a_ (sZ T.kW bz) d_))))) (mI (fB lX (fD fH (by rfl) T.gW PySem.boot_len (a_ (fb 0) d_)) (fD fH (by rfl) T.gW PySem.boot_len (a_ (fb 6) d_)) (fI _)))).Io
   (eZ (fA jc))
   fC)
   (c_ (gL PassesOwn.never rfl (gI rfl T.iz (a_ (fD fH (by rfl) T.gW PySem.boot_len (a_ (fb 6) d_)) d_)) (gb 7 nJ.nd)
   (c_ (fu 8 nJ.nd (eW fJ (fb 2) (eW fJ (fb 6) (fb 7))))
   (c_ (fM (kU (jw (hZ (fD jq (by rfl) T.iY bF (a_ (eW fJ (fb 0) (fb 7)) (a_ (sZ T.Ir PyProof.Rows.boot_tuple) d_))))) (kU (fB lX (fD fH (by rfl) T.gW PySem.boot_len (a_ (eW fJ (fb 0) (fb 7)) d_)) b_ (fI _)) (mI (fB lX (eW fk (eW fJ (fb 0) (fb 7)) b_) (fb 8) (fI _))))).Io
   (eZ (fA jc))
   fC)
   (eZ (fM (jw (hZ (fF T.yI C6 hr fE (a_ (eW fk (eW fJ (fb 0) (fb 7)) b_) (a_ (eW fJ (fb 5) (eW fJ (fb 6) (fb 7))) (a_ (fb 1) (a_ (fb 3) (a_ (fb 4) (a_ (fb 8) d_)))))))))
   (eZ (fA jc))
   fC)))))
   (eZ (fA jc)))))),?_⟩
  walk_at "rs";obtain⟨ja,ċ,va,ea,na⟩:=Ck nd (ai ha);have eja:ja=a:=(cw (ag.mp ċ).1 nd).mp (ċ.trans ha.symm);subst eja;have al:=(ag.mp ha).1;refine eY λ N hN=> ?_;walk_at "rd";refine fc eg rfl (fc eg rfl ⟨sa,ml,lt,pt,sh,ms,ts,rs,rfl,JL,O9,Dd,Gh,iJ,nd,PV,AQ,HD,PX,Dm,λ qf H1 rows hqf s1 r1 f1=> ?_⟩);obtain⟨ar,er,S5⟩:=r1;obtain⟨l0,Kq,ll0⟩:=f1.1.row al;obtain⟨x0,RY,SG⟩:=S5.at Kq;have Sf:=s1 _ _ iJ;refine⟨gp (fZ.of Sf),_,Sf,rfl,sS ts,ja,_,va,ea,na,fK er (v:=.ref x0) (gn Yt (by rw [ak,au,RY];rfl)) (hN _ _ ?_)⟩;generalize hW:(oi (λ i a b=>∃m,ms[i]? = some m/\wU ts rs m a b) sh)=W at f1
  have fv:∀b,b<ts.length->l0[b]? = some (jA W ja b):=λ b hb=>by
   rw [f1.1.at Kq hb,lu (f1.2 ja b al hb)]
  refine eY λ N hN=> ?_;refine⟨_,rfl,lt,_,rfl,.inl (fZ.of Sf),_,rfl,by lia,by rw [ae];lia,CM (iE (n:=(((ts.map λ l=>V.str (tx l)).length:Nat):Int).toNat)) (λ b=>decide (jA W ja b<1000000)) (λ (b:Nat)=>V.int (b:Int)) (fW (by rw [aI,ae];lia)) (λ b H2 Q2 hb s2 h=> ?_) (λ b H2 Q2 hb _ s2 h=>⟨_,rfl,?_⟩) λ du H2 hdu s2 d2=>hN _ _ ?_⟩
  .have bl:b<ts.length:=by
    have:=aU.mp hb;rw [ae] at this;lia
   walk_at "rd";refine fK (s2 _ _ SG) (v:=.int (jA W ja b)) (gn Qaf (by rw [ak,show (0+(b:Int)).toNat=b from Nat.add_comm _ _,fv b bl];rfl)) ⟨_,rfl,h _ (fh.refl _)⟩
  .have:=h H2 (fh.refl _)
   rwa [show (0:Int)+(b:Int)=(b:Int) from Yw]
  rw [ae,au] at d2;have dm:∀b∈(List.range ts.length).filter (λ b=>decide (jA W ja b<1000000)),b<ts.length:=λ b hb=>aU.mp (bG.mp hb).1;have gd:=gf.Vu;rw [hW] at gd;have gw:=gf.way;rw [hW] at gw
  have ldl:((List.range ts.length).filter (λ b=>decide (jA W ja b<1000000))).length<=ts.length:=by
   have:=bB (λ b=>decide (jA W ja b<1000000)) (List.range ts.length);rw [aI] at this;exact this
  generalize (List.range ts.length).filter (λ b=>decide (jA W ja b<1000000))=dl at d2 dm gd ldl;have ò:fs.length=dl.length:=by simpa using congrArg List.length gd
  have lps:=hf.rows.len;have wO:=s1.trans s2;have ZV:=wO _ _ hf.at_;refine eY λ N hN=> ?_;walk_at "rd";refine⟨_,.lst ZV,_,Mf K,gs (by decide) ⟨_,.inl (fZ.of ZV),_,.inl (fZ.of d2),gs (λ z=>z (by rw [ae,ae];exact Yq (Yo (Zc (Zg lps) (Ze ò))) (Yo (Zc (Zg ò) (Ze lps))))) (hN _ _ ?_)⟩⟩;refine eY λ N hN=> ?_;refine⟨_,rfl,du,_,rfl,.inl (fZ.of d2),_,rfl,by lia,by rw [ae];lia,km (λ i σ H3=>∃(v7 v8:Option V),σ = [some (.ref q),some (.ref gr),some (.ref lt),some (.ref pt),some (.str (tx st)),some (.ref x0),some (.ref du),v7,v8]/\fh H2 H3) ⟨none,none,rfl,fh.refl _⟩ ?_ ?_⟩
  .rintro i σ H3 hi ⟨v7,v8,rfl,s3⟩;rw [ae,au] at hi;clear hN;have Hq:=wO.trans s3;have Ww:dl[i]? = some dl[i]:=by simp
   have bl:=dm _ (ai Ww);have Qa:fs[i]? = some (fs[i]'(Za hi (Zg ò))):=by simp
   have YF:ps[i]? = some (ps[i]'(Za hi (Zc (Zg ò) (Ze lps)))):=by simp
   have R6:=hf.rows.get Qa YF
   have ME:(fs[i]'(Za hi (Zg ò))).1=(ts[dl[i]]?).getD []:=by
    have:=congrArg (λ l=>l[i]?) gd;simp only [ak,Qa,Ww,Option.map_some] at this;exact Option.some.inj this
   generalize fs[i]'(Za hi (Zg ò))=f at Qa R6 ME;generalize ps[i]'(Za hi (Zc (Zg ò) (Ze lps)))=pp at YF R6;generalize dl[i]=b at Ww bl ME
   have Ă:ts[b]? = some f.1:=by
    rw [ME];simp [bl]
   obtain⟨b',ss,xI,fl,Ŷ,wk,Wd,fit⟩:=gw f.1 f.2 (ai Qa);have eb:b'=b:=(cw (ag.mp xI).1 nd).mp (xI.trans Ă.symm);subst eb;obtain⟨er1,hws⟩:=R6;walk_at "rg";rw [show (0:Int)+(i:Int)=(i:Int) from Yw];have d3:=s3 _ _ d2;have WK:=s3 _ _ ZV;have WH:=Hq _ _ er1;have eg3:=Hq _ _ eg;have Š:xh (dl.map λ (b:Nat)=>V.int (b:Int)) (i:Int)=some (V.int (b':Int)):=gn Yt (by rw [ak,au,Ww];rfl);have WL:xh (ps.map λ x=>V.ref x.1) (i:Int)=some (V.ref pp.1):=gn Yt (by rw [ak,au,YF];rfl);refine eY λ N hN=> ?_;walk_at "rd";refine fK d3 Š (fK (Hq _ _ iJ) (v:=.str (tx f.1)) (gn Yt (by rw [ak,au,Ă];rfl)) (hN _ _ ?_));refine eY λ N hN=> ?_;walk_at "rd";refine fK WK WL ⟨_,.tup WH,_,Me K,gs (by decide) (fK WK WL ⟨_,rfl,_,.inr (oh.of WH),gs (by simp) (fK WK WL (fc WH rfl ⟨rfl,gs (λ z=>z rfl) (hN _ _ ?_)⟩))⟩)⟩;walk_at "rd";refine fK WK WL (fc WH rfl (fK d3 Š (fK ((s2.trans s3) _ _ SG) (v:=.int (jA W ja b')) (gn Yt (by rw [ak,au,fv b' bl];rfl)) ?_)));rw [fl];exact⟨pp.2,gr,sa,ml,pt,f.2.length,st,f.1,sh,ms,f.2,rs,ss,rfl,eg3,JL.same Hq,O9,Dd.same Hq,Gh,XR,hws.same Hq,rfl,Ŷ,AQ.same Hq,HD,wk,Wd,fit,λ H4 s4=>⟨_,rfl,gs (by decide) (s3.trans s4)⟩⟩
  .rintro σ H3 ⟨v7,v8,rfl,s3⟩;refine hN _ _ ?_;walk_at "rd";exact k H3 (wO.trans s3)
theorem g9:fG ["cell","mark","names","base","turn","name","far","weight"] ["cell","mark","names","base"] (fw ox):=by walk_at "sc"
theorem zX (T:Txt K mg t):f_ P w K mg base (ir P w) 3 t.uF t.uq ["cell","mark","names","base"] (rG):=by
 have kx:=(oG (P:=P) (w:=w) (base:=base) T).mono (show 1<=2 by decide);have mh:=qk (P:=P) (w:=w) (base:=base) T;refine T.yH.fn.okN g9 (λ ik A outer s H vs Q E hr h=> ?_)
 .obtain⟨c,mk,nm,b,m,ns,rfl,hk,om,UO,hn,hb,k⟩:=h
  refine⟨_,Bx.un (c_ (fu 4 g9.nd (fF T.uf kx hr fE (a_ (fb 0) d_)))
   (c_ (fu 5 g9.nd (eW fk (fb 1) b_))
   (c_ (fM (fB g8 (fb 5) fP (fI _))
   (eZ (fu 5 g9.nd (eW fJ (fb 2) (fo fU (fb 4) b_))))
   fC)
   (c_ (fu 6 g9.nd (fo gY b_ (eW fJ (gh (a_ b_ (a_ (fo fU (fb 0) (fo sM b_ b_)) d_))) (fo fU (fo fY (fb 4) b_) b_))))
   (c_ (fu 7 g9.nd (eW fk (fb 1) b_))
   (c_ (fM (fB g8 (eW fk (fb 1) b_) fP (fI _))
   (eZ (fu 7 g9.nd (fF T.ue mh hr fE (a_ (fb 0) (a_ (fo fY (fb 4) b_) (a_ (fb 3) d_))))))
   fC)
   (c_ (fM (kU (fB g8 (eW fk (fb 1) b_) fP (fI _)) (mI (qU (fB g8 (eW fk (fb 1) b_) fP (fI _)) (nX (fB g8 (fo fU (fo fY (fb 4) b_) b_) b_ (fI _)))).Io)).Io
   (eZ (fu 7 g9.nd (fo mY (fb 7) (fb 6))))
   fC)
   (c_ (fM (kU (fB g8 (eW fk (fb 1) b_) fP (fI _)) (mI (qU (fB g8 (eW fk (fb 1) b_) fP (fI _)) (nX (fB g8 (fo fU (fo fY (fb 4) b_) b_) b_ (fI _)))).Io)).Io
   (eZ (fu 7 g9.nd (fo gY (fb 7) (fb 6))))
   fC)
   (eZ (fA (gj (a_ (fb 5) (a_ (fb 7) (a_ (eW fk (fb 1) b_) d_)))))))))))))),?_⟩
  walk_at "rs";obtain⟨YK,OO,P'⟩:=hn;have big:(10:Nat) ^ 60=1000000000000000000000000000000000000000000000000000000000000:=by decide
  refine eY λ N hN=> ?_;walk_at "rd";refine⟨_,rfl,λ tu t0 t1=>hN _ _ ?_⟩;refine eY λ N hN=> ?_;walk_at "rd";refine fc hk rfl (hN _ _ ?_);refine eY λ N hN=> ?_
  have hM:∀l:List Nat,wI l->N [some (.int c),some (.ref mk),some (.ref nm),some (.int b),some (.int tu),some (.str (tx l)),none,none] H:=by
   intro l Rt;refine hN _ _ ?_;refine eY λ N hN=> ?_;walk_at "rd";refine⟨by decide,by decide,λ p hp=>Hu (Int.emod_nonneg _ (by decide)) (by show tu/4%2<2;exact Int.emod_lt_of_pos _ (by decide)) λ v hv=> ?_⟩
   obtain⟨fr,rfl,WG,fr1⟩:∃fr:Int,v = .int fr/\0<=fr/\fr<10000000000000000000000000000000000000000000000000000000000:=by
    simp only [aA,bb,or_false] at hv;rcases hv with rfl|rfl
    .exact⟨_,rfl,by decide,by decide⟩
    .exact⟨_,rfl,Int.emod_nonneg _ (by decide),Int.emod_lt_of_pos _ (by decide)⟩
   have s1:=fh.new (o:=.lst [V.int 0,V.int (c%10000000000000000000000000000000000000000000000000000000000)]) hp;refine⟨_,rfl,hN _ _ ?_⟩;generalize upd H p (.lst [V.int 0,V.int (c%10000000000000000000000000000000000000000000000000000000000)])=H1 at s1;have Sl:=s1 _ _ hk;refine eY λ N hN=> ?_;walk_at "rd";refine fc Sl rfl (hN _ _ ?_);refine eY λ N hN=> ?_
   have hM:∀w0:Int,w0.natAbs<=500000000000000000000000000000000000000000000000000000000001->N [some (.int c),some (.ref mk),some (.ref nm),some (.int b),some (.int tu),some (.str (tx l)),some (.int (1+fr)),some (.int w0)] H1:=by
    intro w0 bw;refine hN _ _ ?_;refine eY λ N hN=> ?_
    have hM:∀w0:Int,w0.natAbs<=510000000000000000000000000000000000000000000000000000000001->N [some (.int c),some (.ref mk),some (.ref nm),some (.int b),some (.int tu),some (.str (tx l)),some (.int (1+fr)),some (.int w0)] H1:=by
     intro w0 bw;refine hN _ _ ?_;refine eY λ N hN=> ?_
     have hM:∀w0:Int,w0.natAbs<=520000000000000000000000000000000000000000000000000000000001->N [some (.int c),some (.ref mk),some (.ref nm),some (.int b),some (.int tu),some (.str (tx l)),some (.int (1+fr)),some (.int w0)] H1:=by
      intro w0 bw;refine hN _ _ ?_;walk_at "rd";exact fc Sl rfl ⟨by decide,λ q hq=>k ⟨l,w0,_⟩ q _ ⟨Rt,by show w0.natAbs<_;rw [big];exact Zb bw (Zd rfl)⟩ (s1.free hq) (s1.fS (s1.free hq)) eX⟩
     walk_at "rd";refine fc Sl rfl ⟨rfl,fO (λ _=>hM _ (by omega)) λ _=>fc Sl rfl ⟨rfl,fO (λ _=>fO (λ _=>hM _ (by omega)) λ _=>hM _ (Zc bw (Zd rfl))) λ _=>hM _ (Zc bw (Zd rfl))⟩⟩
    walk_at "rd";refine fc Sl rfl ⟨rfl,fO (λ _=>hM _ (by lia)) λ _=>fc Sl rfl ⟨rfl,fO (λ _=>fO (λ _=>hM _ (by lia)) λ _=>hM _ (Zc bw (Zd rfl))) λ _=>hM _ (Zc bw (Zd rfl))⟩⟩
   walk_at "rd";exact fc Sl rfl ⟨rfl,fO (λ _=>⟨_,_,_,rfl,hb,λ n hn=>hM n hn⟩) λ _=>hM _ UO⟩
  walk_at "rd";refine fO (λ _=> ?_) λ h=>hM _ (om.nm.resolve_left λ z=>h (by rw [z]));obtain⟨v,e1,e2⟩:=kX (xs:=ns.map λ l=>V.str (tx l)) (i:=tu%4) (Int.emod_nonneg _ (by decide)) (by rw [ae,OO];exact Int.emod_lt_of_pos _ (by decide));obtain⟨z,hz,rfl⟩:=g_ e2;exact fK YK e1 (hM z (P' z (ai hz)))
theorem gq:fG ["cells","things","names","base","marks","web","thing","ties","many","given","cell","turn","number","weight","tie","step"] ["cells","things","names","base","marks"] (fw sE):=by walk_at "sc"
theorem DN (T:Txt K mg t):f_ P w K mg base (ir P w) 5 t.zw t.yZ ["cells","things","names","base","marks"] (vM t):=by
 have G3:=(DS (P:=P) (w:=w) (base:=base) T).mono (show 1<=3 by decide);have xp:=(vm (P:=P) (w:=w) (base:=base) T).mono (show 3<=4 by decide);have kx:=(oG (P:=P) (w:=w) (base:=base) T).mono (show 1<=4 by decide);have nv:=(qm (P:=P) (w:=w) (base:=base) T).mono (show 2<=4 by decide);have mh:=(qk (P:=P) (w:=w) (base:=base) T).mono (show 2<=4 by decide);have ny:=(qo (P:=P) (w:=w) (base:=base) T).mono (show 3<=4 by decide);have C5:=(zX (P:=P) (w:=w) (base:=base) T).mono (show 3<=4 by decide);refine T.Ef.fn.okN gq (λ ik A outer s H vs Q E hr h=> ?_)
 .obtain⟨lc,lt,ln,lm,b,cs,ts,ns,ms,rfl,hc,lcs,iJ,Ż,Ñ,Pu,Ð,hn,hb,Dd,XD,XR,UO,k⟩:=h
  refine⟨_,Bx.un (c_ (fu 5 gq.nd (Bf T.RD G3 hr (by rfl) T.Vi T.EJ.b .nil fE))
   (c_ (gL PassesOwn.never rfl (gi (fb 1)) (gb 6 gq.nd)
   (eZ (fQ (iL (fb 5) T.iA T.su xp hr fE (a_ (fb 6) d_)))))
   (c_ (fu 7 gq.nd jP)
   (c_ (fu 8 gq.nd (fD fH (by rfl) T.gW PySem.boot_len (a_ (fb 1) d_)))
   (c_ (fu 9 gq.nd b_)
   (c_ (gL PassesOwn.never rfl (gi (fb 0)) (gb 10 gq.nd)
   (c_ (fu 11 gq.nd (fF T.uf kx hr fE (a_ (fb 10) d_)))
   (eZ (fM (qU (fB g8 (fo fU (fb 11) b_) b_ (fI _)) (nX (fB AE (fD lF (by rfl) T.gW PySem.boot_len (a_ (fb 7) d_)) b_ (fI _)))).Io
   (c_ (fu 12 gq.nd (eW fJ (h_ (j6 rfl) (by rfl) T.kW bz (a_ (fb 7) d_)) (fo fU (fo fY (fb 11) b_) (fD lF (by rfl) T.gW PySem.boot_len (a_ (fb 7) d_)))))
   (c_ (fQ (iL (fb 5) T.iA T.qC nv hr fE (a_ (fb 12) d_)))
   (eZ (fQ (vE (fb 7) (fb 12))))))
   (c_ (fu 11 gq.nd (fo fY (fb 11) b_))
   (c_ (fu 13 gq.nd (fF T.ue mh hr fE (a_ (fb 10) (a_ (fo fY (fb 11) (fo qi (fo qi b_ (fb 8)) (fb 8))) (a_ (fb 3) d_)))))
   (c_ (fu 14 gq.nd (gj (a_ (eW fJ (fb 1) (fo fU (fb 11) (fb 8))) (a_ (eW fJ (fb 2) (fo fU (fo fY (fb 11) (fo qi (fb 8) (fb 8))) b_)) (a_ (eW fJ (fb 1) (fo fU (fo fY (fb 11) (fb 8)) (fb 8))) (a_ (fb 13) d_))))))
   (c_ (fM (fB AE (fo fU (fo fY (fb 11) b_) b_) b_ (fI _))
   (c_ (fu 15 gq.nd (fF T.yH C5 hr fE (a_ (fb 10) (a_ (eW fJ (fb 4) (fo fU (fo fY (fb 11) b_) (fD fH (by rfl) T.gW PySem.boot_len (a_ (fb 4) d_)))) (a_ (fb 2) (a_ (fb 3) d_))))))
   (eZ (fu 14 gq.nd (gj (a_ (eW fk (fb 14) b_) (a_ (eW fk (fb 15) b_) (a_ (eW fk (fb 14) b_) (a_ (eW fk (fb 15) b_) d_))))))))
   fC)
   (c_ (fQ (Ip (fb 5) T.iA T.qD ny hr fE (a_ (eW fk (fb 14) b_) (a_ (eW fk (fb 14) b_) (a_ (eW fk (fb 14) b_) (a_ (eW fk (fb 14) b_) d_))))))
   (c_ (nY (j4 hr) (fb 7) (fb 9) (fb 14))
   (eZ (fu 9 gq.nd (fo gY (fb 9) b_)))))))))))))
   (eZ (fA (gj (a_ (fb 5) (a_ (fb 7) d_))))))))))),?_⟩
  walk_at "rs";refine eY λ N hN=> ?_;walk_at "rd";intro pw dx hp Wu Wm;refine⟨pw,dx,rfl,eX,λ H1 W0 w0 e1 e2 e3 off own=>⟨rfl,hN _ _ ?_⟩⟩;have XF:zF H H1 (W0.own pw):=NA hp Wu off own;clear off own hp Wu Wm dx;refine eY λ N hN=> ?_
  refine⟨_,rfl,lt,rfl,⟨_,fZ.of (XF.same _ _ iJ)⟩,iG (K:=K) (a:=lt) (xs:=ts.map λ l=>V.str (tx l)) (λ i σ H2=>∃(v:Option V) (W:WS),σ = [some (.ref lc),some (.ref lt),some (.ref ln),some (.int b),some (.ref lm),some (.ref pw),v,none,none,none,none,none,none,none,none,none]/\gy t.hX H2 pw W/\zF H H2 (W.own pw)/\W.abs=⟨(ts.take i).map λ l=>(l,[]),[],0⟩)
   ⟨none,W0,rfl,w0,XF,by unfold WS.abs;rw [e1,e2,e3];rfl⟩ (λ i σ H2 _ hz=>by obtain⟨_,_,_,_,m2,_⟩:=hz;exact fZ.of (m2.same _ _ iJ)) ?_ ?_⟩
  .rintro i y σ H2 hi ⟨v,W,rfl,w2,m2,ea⟩;obtain⟨l,hl,rfl⟩:=g_ hi;have il:i<ts.length:=(ag.mp hl).1;have gl:=Ð l (ai hl);have gc:nT l=true:=CA gl
   have ε:l∉(⟨(ts.take i).map λ l=>(l,[]),[],0⟩:WA).names:=λ z=>by
    unfold WA.names at z;rw [aQ,show ((λ x:Nm×List (Nm×Int)=>x.1)∘λ l=>(l,[]))=id from rfl,List.map_id] at z;have:=bL.mp (by rw [<-List.take_append_drop i ts] at Pu;exact Pu);refine this.2.2 l z l ?_ rfl;rw [List.drop_eq_getElem_cons il];have:=(ag.mp hl).2;rw [this];exact aZ
   walk_at "rg";walk_at "rd";refine⟨_,_,w2.obj,rfl,pw,W,l,rfl,w2,fW (by have:=gl.2.1;exact Zc this (Zd rfl)),?_⟩;unfold WA.zu;rw [ea,gc,if_neg (by decide),if_neg ε,if_neg (by show ¬100<=((ts.take i).map λ l=>(l,([]:List (Nm×Int)))).length;rw [ae,aT];lia)];intro H3 W3 w3 e3' s3;refine⟨W3,w3,?_,?_⟩
   .have:=m2.step s3 (λ b hb=>hb);exact this.mono λ b hb=>aN _ hb
   .rw [e3',ic hl,av];rfl
  .rintro σ H2 ⟨v,W,rfl,w2,m2,ea⟩;rw [ae,bh] at ea;refine hN _ _ ?_;clear hN N XF w0 e1 e2 e3;refine eY λ N hN=> ?_;walk_at "rd";intro pt Wk;refine hN _ _ ?_;have n3:=fh.new (o:=.dK []) Wk;have p3:upd H2 pt (.dK []) pt=some (.dK (fR [])):=eX;generalize upd H2 pt (.dK [])=H3 at n3 p3
   have md:Made t H H3 pw pt W [] ts:=by
    refine⟨w2.same n3,⟨p3,λ x hx=>(by cases hx)⟩,m2.new,m2.fresh Wk,λ z=> ?_,m2.same.trans n3,?_,?_,List.Pairwise.nil,λ x hx=>(by cases hx),λ x hx=>(by cases hx),by decide⟩
    .obtain⟨o,e,_⟩:=w2.LO z;rw [Wk] at e
     cases e
    .rw [ea];unfold WA.names;rw [aQ];exact List.map_id _
    .rw [ea];rfl
   have â:W.next=0:=by
    have:=congrArg WA.next ea;exact this
   clear ea p3 n3 Wk w2 m2;refine eY λ N hN=> ?_;walk_at "rd";refine⟨_,.inl (fZ.of (md.old _ _ iJ)),hN _ _ ?_⟩;rw [ae];refine eY λ N hN=> ?_;walk_at "rd";refine hN _ _ ?_;have tl:0<ts.length:=cZ.mpr Ż;refine eY λ N hN=> ?_
   refine⟨_,rfl,lc,rfl,⟨_,fZ.of (md.old _ _ hc)⟩,iG (K:=K) (a:=lc) (xs:=cs.map V.int) (λ i σ H4=>∃(v9 v10 v11 VV Na T_:Option V) (W:WS) (rs:List (Int×Addr×ni)),σ = [some (.ref lc),some (.ref lt),some (.ref ln),some (.int b),some (.ref lm),some (.ref pw),v,some (.ref pt),some (.int (ts.length:Int)),some (.int W.next),v9,v10,v11,VV,Na,T_]/\Made t H H4 pw pt W rs ts/\0<=W.next/\rs.length<=i)
    ⟨none,none,none,none,none,none,W,[],by rw [â],md,Yg â,ay _⟩ (λ i σ H4 _ hz=>by obtain⟨_,_,_,_,_,_,_,_,_,m4,_⟩:=hz;exact fZ.of (m4.old _ _ hc)) ?_ ?_⟩
   .clear md â hN;rintro i y σ H4 hi ⟨v9,v10,v11,VV,Na,T_,W,rs,rfl,m4,w0,rl⟩;obtain⟨c,TV,rfl⟩:=g_ hi;have il:i<cs.length:=(ag.mp TV).1;walk_at "rg";refine Cj λ N3 ě=> ?_;refine eY λ N2 hN=> ?_;walk_at "rd";refine⟨_,rfl,λ tu t0 t1=>hN _ _ ?_⟩
    have RG:∀x∈W.fL.map (·.1),x<W.next:=λ x hx=>by
     have e:L2.plain rs=W.abs.fL:=m4.eq
     have:x∈(L2.plain rs).map (·.1):=by
      rw [e];unfold WS.abs
      rwa [aQ]
     rw [oC] at this;exact(m4.low x this).2
    have WY:W.abs.fL.length=rs.length:=by
     rw [<-m4.eq];unfold L2.plain;rw [ae]
    have UK:∀l∈ts,l∈W.abs.names:=λ l hl=>by rwa [m4.Dc]
    refine jf λ A B hA hB=> ?_;walk_at "rd";refine Im (λ SM=>fO (λ _=>⟨_,m4.rows.at_,fO (λ Kq=>hA _ _ ?_) λ _=>SM⟩) λ _=>SM) (hB _ _ ?_)
    .clear SM hA hB A B;refine eY λ N2 hN=> ?_;walk_at "rd";refine⟨_,.inl m4.rows.at_,λ l hl=> ?_⟩;rw [AM];have n5:=fh.new (o:=.lst ((rs.map (·.1)).map V.int)) hl;have m5:=m4.same n5;have l5:upd H4 l (.lst ((rs.map (·.1)).map V.int)) l=some (.lst ((rs.map (·.1)).map V.int)):=eX;generalize upd H4 l (.lst ((rs.map (·.1)).map V.int))=H5 at n5 m5 l5
     have Xg:0<rs.length:=by
      unfold fR at Kq;rw [ae] at Kq;lia
     refine⟨_,m5.rows.at_,by unfold fR;rw [ae];exact YA Xg,?_⟩;have kl:(fR rs).length=rs.length:=by unfold fR;rw [ae]
     rw [kl];obtain⟨u,e1,e2⟩:=kX (xs:=(rs.map (·.1)).map V.int) (i:=tu/7%(rs.length:Int)) (bN _ (Ym (YA Xg))) (by rw [ae,ae];exact bI _ (YA Xg));obtain⟨x,hx,rfl⟩:=g_ e2;have WX:x∈rs.map (·.1):=ai hx;have xW:x∈W.abs.fL.map (·.1):=by rwa [<-m5.eq,oC]
     refine fK l5 e1 (hN _ _ ?_);refine eY λ N2 hN=> ?_;walk_at "rd";refine⟨_,_,m5.G8.obj,rfl,pw,W,x,rfl,m5.G8,?_⟩;unfold WA.CK;rw [if_neg (λ z=>z xW)];intro H6 W6 w6 GI s6;have p6:H6 pt=some (.dK (fR rs)):=s6.off _ _ m5.po m5.rows.at_;have ks:(gT (fR rs) (.inl x)).isSome=true:=by rw [kC,decide_eq_true WX]
     obtain⟨vv,X8⟩:=Option.isSome_iff_exists.mp ks;refine hN _ _ ?_;walk_at "rd";refine⟨.inl ⟨_,.inl p6⟩,_,p6,.inl x,rfl,vv,X8,?_⟩;rw [sV]
     have UE:W6.next=W.next:=by
      have:=congrArg WA.next GI;exact this
     have sub:(rs.filter λ y=>decide (y.1≠x)).map (·.1) |>.Sublist (rs.map (·.1)):=dY.map _;have ZH:(rs.filter λ y=>decide (y.1≠x)).length<=rs.length:=bB _ _;refine ě _ _ ⟨some (.int c),some (.int tu),some (.int x),VV,Na,T_,W6,rs.filter λ y=>decide (y.1≠x),by rw [UE],m5.OU s6 w6 (λ y hy=>s6.tup _ _ (m5.rows.i5 y (bG.mp hy).1)) ?_ ?_ (m5.PB.sublist sub) (λ y hy=> ?_) (λ y hy=>m5.fX y (bG.mp hy).1) (by have:=m5.iD;exact Zc ZH this),Yc w0 (Yg UE),Zc ZH (Zc rl Zk)⟩
     .rw [GI];exact m5.Dc
     .rw [GI,DE,m5.eq]
     .have:=m5.low y (sub.subset hy);lia
    .have sq:1<=(ts.length:Int)*ts.length/\(ts.length:Int)*ts.length<=144:=by
      have h1:ts.length*ts.length<=12*12:=cp Ñ Ñ;have h2:1*1<=ts.length*ts.length:=cp tl tl;constructor
      .exact_mod_cast h2
      .exact_mod_cast h1
     have e4:4*(ts.length:Int)*ts.length=4*((ts.length:Int)*ts.length):=Int.mul_assoc ..;have Sb:kB H4 ln ns:=⟨m4.old _ _ hn.1,hn.2⟩
     have Sg:=m4.old _ _ iJ
     have pick:∀j:Int,0<=j->j<ts.length->∃l∈ts,xh (ts.map λ l=>V.str (tx l)) j=some (.str (tx l)):=λ j j0 j1=>by
      obtain⟨u,e1,e2⟩:=kX (xs:=ts.map λ l=>V.str (tx l)) j0 (by rwa [ae]);obtain⟨l,hl,rfl⟩:=g_ e2;exact⟨l,ai hl,e1⟩
     clear hA hB A B;refine eY λ N2 hN=> ?_;walk_at "rd";refine hN _ _ ?_;refine eY λ N2 hN=> ?_;walk_at "rd";refine⟨.inl (by decide),.inl ⟨by lia,by lia⟩,by rw [e4];lia,by rw [e4];lia,_,_,_,rfl,hb,λ wt þ=>hN _ _ ?_⟩;refine eY λ N2 hN=> ?_;walk_at "rd";refine⟨YA tl,?_⟩;obtain⟨l1,xH,ZT⟩:=pick (tu/7%(ts.length:Int)) (bN _ (Ym (YA tl))) (bI _ (YA tl));obtain⟨l2,zO,O6⟩:=pick (tu/7/(ts.length:Int)%(ts.length:Int)) (bN _ (Ym (YA tl))) (bI _ (YA tl));obtain⟨u,e1,e2⟩:=kX (xs:=ns.map λ l=>V.str (tx l)) (i:=tu/7/((ts.length:Int)*ts.length)%4) (Int.emod_nonneg _ (by decide)) (by rw [ae,Sb.2.1];exact Int.emod_lt_of_pos _ (by decide));obtain⟨n3,P',rfl⟩:=g_ e2;have Nw:=Sb.2.2 n3 (ai P');refine fK Sg ZT ⟨.inl ⟨by lia,by lia⟩,Ya (by decide) sq.1,Yb sq.2 (by decide),fK Sb.1 e1 ⟨YA tl,Yr (Zb Ñ (Zd rfl)),YA tl,fK Sg O6 ⟨by decide,λ p hp=>hN _ _ ?_⟩⟩⟩;have n5:=fh.new (o:=.tup [.str (tx l1),.str (tx n3),.str (tx l2),.int wt]) hp;have m5:=m4.same n5;have p5:upd H4 p (.tup [.str (tx l1),.str (tx n3),.str (tx l2),.int wt]) p=some (.tup (wK ⟨l1,n3,l2,wt⟩)):=eX;generalize upd H4 p (.tup [.str (tx l1),.str (tx n3),.str (tx l2),.int wt])=H5 at n5 m5 p5;refine eY λ N4 Ě=> ?_
     have fin:∀(WZ:Option V) (p':Addr) (n3:Nm) (To:Int) (H5:Hp),Made t H H5 pw pt W rs ts->H5 p'=some (.tup (wK ⟨l1,n3,l2,To⟩))->wI n3->To.natAbs<10 ^ 60->N4 [some (.ref lc),some (.ref lt),some (.ref ln),some (.int b),some (.ref lm),some (.ref pw),v,some (.ref pt),some (.int (ts.length:Int)),some (.int W.next),some (.int c),some (.int (tu/7)),v11,some (.int wt),some (.ref p'),WZ] H5:=by
      clear p5 m5 n5 hp Nw P' e2 e1;intro WZ p n3 To H5 m5 p5 Nw þ;refine Ě _ _ ?_;clear Ě N4;refine eY λ N2 hN=> ?_;walk_at "rd";refine⟨_,_,m5.G8.obj,rfl,fc p5 rfl (fc p5 rfl (fc p5 rfl (fc p5 rfl ⟨pw,W,l1,n3,l2,To,rfl,m5.G8,RG,fW (by have:=Nw.2.1;exact Zc this (Zd rfl)),?_⟩)))⟩
      have fresh:W.next∉rs.map (·.1):=λ z=>by
       have:=(m5.low _ z).2;exact Yf this (Int.le_refl _)
      unfold WA.CW;rw [if_neg (λ z=>by rcases z with z|z;exact z (UK l1 xH);exact z (UK l2 zO)),CA Nw,if_neg (by decide),if_neg (Zy þ),if_neg (by rw [WY];have:=m5.iD;exact Zy (Zb this (Zd rfl)))];intro H6 W6 w6 GI s6;have p6:H6 pt=some (.dK (fR rs)):=s6.off _ _ m5.po m5.rows.at_
      have UE:W6.next=W.next+1:=by
       have:=congrArg WA.next GI;exact this
      refine hN _ _ ?_;refine eY λ N2 hN=> ?_;walk_at "rd";refine⟨_,xq.k (k:=.inl W.next) p6 (by unfold fR;rw [ae];exact aC (show rs.length<3000 by have:=m5.iD;exact Zb this (Zd rfl)) (fW (by decide))),?_⟩;rw [DD (x:=⟨l1,n3,l2,To⟩) fresh];refine hN _ _ ?_;walk_at "rd";have Rt:∀l∈ts,LU l:=λ l hl x hx=>vF ((Ð l hl).2.2 x hx);refine ě _ _ ⟨some (.int c),some (.int (tu/7)),v11,some (.int wt),some (.ref p),WZ,W6,rs ++ [(W.next,p,⟨l1,n3,l2,To⟩)],by rw [UE],m5.OU s6 w6 (λ y hy=> ?_) ?_ ?_ ?_ (λ y hy=> ?_) (λ y hy=> ?_) (by rw [aq];simp only [aF,aV];lia),by lia,by rw [aq];simp only [aF,aV];exact Zv rl⟩
      .rcases ax.mp hy with z|z
       .exact s6.tup _ _ (m5.rows.i5 y z)
       .rw [ao.mp z];exact s6.tup _ _ p5
      .rw [GI];exact m5.Dc
      .rw [GI,<-m5.eq];unfold L2.plain;rw [av];rfl
      .rw [av,dU];refine⟨m5.PB,by simp,λ x hx y hy=> ?_⟩;rw [show y=W.next by simpa using hy];exact(m5.low x hx).2
      .rw [av] at hy;rcases ax.mp hy with z|z
       .have:=m5.low y z;lia
       .rw [show y=W.next by simpa using z];exact ⟨w0,(Yg UE)⟩
      .rcases ax.mp hy with z|z
       .exact m5.fX y z
       .rw [ao.mp z];exact⟨xH,zO,⟨Rt l1 xH,λ x hx=>vF (Nw.2.2 x hx),Rt l2 zO⟩⟩
     walk_at "rd";refine fO (λ _=> ?_) λ _=>fin T_ p n3 wt H5 m5 p5 Nw þ.lt;obtain⟨am,em,xO⟩:=Dd;have Ŏ:=m5.old _ _ em;have lam:=xO.len;have π:0<ms.length:=cZ.mpr XD;refine⟨_,.inl (fZ.of Ŏ),by rw [ae];exact YA (Za π (Zg lam)),?_⟩;rw [ae,lam];have j0:=bN (tu/7/39) (show (ms.length:Int)≠0 from Ym (YA π));have j1:=bI (tu/7/39) (show (0:Int)<ms.length from YA π);generalize tu/7/39%(ms.length:Int)=j at j0 j1;have Wn:ms[j.toNat]? = some (ms[j.toNat]'(by lia)):=by simp
     obtain⟨y,hy,ey,wy⟩:=xO.at Wn;refine fK Ŏ (v:=.ref y) (gn j0 (by rw [ak,hy];rfl)) ⟨c,y,ln,b,_,ns,rfl,m5.old _ _ ey,wy,UO _ (ai Wn),⟨m5.old _ _ hn.1,hn.2⟩,hb,λ s sp H6 ws JK s6 e6=> ?_⟩;have p6:=s6 _ _ p5;exact fc p6 rfl (fc e6 rfl (fc p6 rfl (fc e6 rfl ⟨by decide,λ p' YG=>fin _ p' s.nm s.wt _ ((m5.same s6).same (fh.new YG)) eX ws.nm ws.wt⟩)))
   .rintro σ H4 ⟨v9,v10,v11,VV,Na,T_,W,rs,rfl,m4,w0,rl⟩;refine hN _ _ ?_;walk_at "rd";exact⟨by decide,λ p hp=>k p pw pt _ W rs (m4.same (fh.new hp)) (by rw [ae] at rl;exact rl) w0 eX (m4.old.free hp)⟩
theorem iV:fG ["script","head","names","base","things","body","cut","grown","tree","web","ties","start","found","row","kept","number","tie","again"] ["script"] (fw La):=by walk_at "sc"
def Hm (K:aj):Sp:=λ vs H Q _=>∃(a:Addr) (ns:List Int),vs = [.ref a]/\fZ K H a (ns.map V.int)/\ns.length<=63/\∀H',Q (.bl true) H'
theorem Ru (F:M' K "law" "law" La f fd) (T:Txt K mg t):f_ P w K mg base (ir P w) 86 f fd ["script"] (Hm K):=by
 have Kh:=(FK (P:=P) (w:=w) (base:=base) T).mono (show 1<=85 by decide);have zK:=(AF (P:=P) (w:=w) (base:=base) T).mono (show 1<=85 by decide);have G1:=(DO (P:=P) (w:=w) (base:=base) T).mono (show 1<=85 by decide);have Kj:=(FO (P:=P) (w:=w) (base:=base) T).mono (show 4<=85 by decide);have qH:=(Js (P:=P) (w:=w) (base:=base) T).mono (show 41<=85 by decide);have G0:=(DN (P:=P) (w:=w) (base:=base) T).mono (show 5<=85 by decide);have vI:=FF (P:=P) (w:=w) (base:=base) T;have mM:=(Cd (P:=P) (w:=w) (base:=base) T).mono (show 1<=85 by decide);have zI:=(Jt (P:=P) (w:=w) (base:=base) T).mono (show 44<=85 by decide);have nv:=(qm (P:=P) (w:=w) (base:=base) T).mono (show 2<=85 by decide);have ny:=(qo (P:=P) (w:=w) (base:=base) T).mono (show 3<=85 by decide);refine F.okN iV (len:=λ vs H Q E h=>by obtain⟨_,_,rfl,_⟩:=h;rfl) (λ ik A outer s H vs Q E hr h=> ?_)
 .obtain⟨a,ns,rfl,hS,hlen,k⟩:=h
  refine⟨_,Bx.un (c_ (fu 1 iV.nd (fo fU (fF T.nP mM hr fE (a_ (fb 0) (a_ b_ d_))) (fo sM b_ b_)))
   (c_ (fu 2 iV.nd (fF T.HK Kh hr fE (a_ (fF T.nP mM hr fE (a_ (fb 0) (a_ b_ d_))) d_)))
   (c_ (fu 3 iV.nd (fF T.Gm zK hr fE (a_ (fF T.nP mM hr fE (a_ (fb 0) (a_ b_ d_))) d_)))
   (c_ (fu 4 iV.nd (fF T.Eg G1 hr fE (a_ (fF T.nP mM hr fE (a_ (fb 0) (a_ b_ d_))) (a_ (fo gY b_ (fo fU (fb 1) b_)) d_))))
   (c_ (fu 5 iV.nd (i9 lq (fb 0) (jD b_) jE))
   (c_ (fu 6 iV.nd (fo gY (fo fY (fD fH (by rfl) T.gW PySem.boot_len (a_ (fb 5) d_)) b_) (fo fU (fo fY (fb 1) b_) (fo gY (fo fY (fD fH (by rfl) T.gW PySem.boot_len (a_ (fb 5) d_)) b_) b_))))
   (c_ (fu 7 iV.nd (fF T.HM Kj hr fE (a_ (i9 lq (fb 5) jE (jD (fb 6))) (a_ (fb 2) (a_ (fb 3) (a_ b_ d_))))))
   (c_ (fu 8 iV.nd (fF T.vt qH hr fE (a_ (eW fk (fb 7) b_) (a_ (eW fk (fb 7) b_) d_))))
   (c_ (oQ (fF T.Ef G0 hr fE (a_ (i9 lq (i9 lq (fb 5) (jD (fb 6)) jE) jE (jD b_)) (a_ (fb 4) (a_ (fb 2) (a_ (fb 3) (a_ (eW fk (fb 7) b_) d_)))))) (CP rfl (lH (gb 9 iV.nd) (lH (gb 10 iV.nd) zo))))
   (c_ (fu 11 iV.nd (eW fJ (fb 4) (fo fU (fo fY (fb 1) b_) (fD fH (by rfl) T.gW PySem.boot_len (a_ (fb 4) d_)))))
   (c_ (fu 12 iV.nd (fF T.xy vI hr fE (a_ (fb 9) (a_ (fb 8) (a_ (fb 11) d_)))))
   (c_ (fM (jw (hZ (fF T.Cr zI hr fE (a_ (fb 12) (a_ (fb 7) (a_ (fb 4) (a_ (fb 10) (a_ (fb 11) d_))))))))
   (eZ (fA jc))
   fC)
   (c_ (gL PassesOwn.never rfl (gi (fb 12)) (gb 13 iV.nd)
   (eZ (fQ (iy aH aX aW gR (eW fk (fb 13) b_) (a_ (gj (a_ b_ (a_ jc d_))) d_)))))
   (c_ (fQ (uC aH PySem.F.slot_list_clear PySem.F.type_list_clear L0 (fb 12)))
   (c_ (fu 12 iV.nd (fF T.xy vI hr fE (a_ (fb 9) (a_ (fb 8) (a_ (fb 11) d_)))))
   (c_ (fM (jw (hZ (fF T.Cr zI hr fE (a_ (fb 12) (a_ (fb 7) (a_ (fb 4) (a_ (fb 10) (a_ (fb 11) d_))))))))
   (eZ (fA jc))
   fC)
   (c_ (jC (i:=14) iV.nd rfl (by walk_at "o") rfl (N:= ["row"]) (fr:= []) (tG.of (by kernel_rfl)) (gi (fb 12)) (λ _ _ _ _ _=>gu)
    (λ _ _ _ _ _=>(gj (a_ (eW (xE K) (fb 0) b_) (a_ (h_ (ng K) (by rfl) T.kW bz (a_ (eW (xE K) (fb 0) b_) d_)) d_)))))
   (c_ (fM (qU (fB g8 (fo fU (fo fY (fb 1) b_) b_) b_ (fI _)) (nX (fB AE (fD lF (by rfl) T.gW PySem.boot_len (a_ (fb 10) d_)) b_ (fI _)))).Io
   (c_ (fu 15 iV.nd (eW fJ (h_ (j6 rfl) (by rfl) T.kW bz (a_ (fb 10) d_)) (fo fU (fo fY (fb 1) b_) (fD lF (by rfl) T.gW PySem.boot_len (a_ (fb 10) d_)))))
   (c_ (fQ (iL (fb 9) T.iA T.qC nv hr fE (a_ (fb 15) d_)))
   (eZ (fQ (vE (fb 10) (fb 15))))))
   (c_ (fu 16 iV.nd (gj (a_ (eW fJ (fb 4) (fo fU (fo fY (fb 1) b_) (fD fH (by rfl) T.gW PySem.boot_len (a_ (fb 4) d_)))) (a_ (eW fJ (fb 2) (fo fU (fo fY (fb 1) b_) b_)) (a_ (eW fJ (fb 4) (fo fU (fo fY (fb 1) b_) (fD fH (by rfl) T.gW PySem.boot_len (a_ (fb 4) d_)))) (a_ (fb 3) d_))))))
   (eZ (nY (j4 hr) (fb 10) (Ip (fb 9) T.iA T.qD ny hr fE (a_ (eW fk (fb 16) b_) (a_ (eW fk (fb 16) b_) (a_ (eW fk (fb 16) b_) (a_ (eW fk (fb 16) b_) d_))))) (fb 16)))))
   (c_ (fu 17 iV.nd (fF T.xy vI hr fE (a_ (fb 9) (a_ (fb 8) (a_ (fb 11) d_)))))
   (eZ (fA (uD (iT (Rr (X9 hr)) (fb 12) (fb 14) (fI _)) (mJ (fF T.Cr zI hr fE (a_ (fb 17) (a_ (fb 7) (a_ (fb 4) (a_ (fb 10) (a_ (fb 11) d_))))))))))))))))))))))))))))),?_⟩
  walk_at "rs";refine eY λ N hN=> ?_;walk_at "rd";refine⟨_,_,_,rfl,hS,by decide,λ c0=>⟨by decide,_,rfl,hN _ _ ?_⟩⟩;have Mr:0<=c0%1000000000:=by lia
  generalize c0%1000000000=hd at Mr;refine eY λ N hN=> ?_;walk_at "rd";refine⟨_,_,_,rfl,hS,by decide,λ c1=>⟨_,rfl,λ nm H1 Dc hnm s1 hn=>hN _ _ ?_⟩⟩;refine eY λ N hN=> ?_;walk_at "rd";refine⟨_,_,_,rfl,s1.seq hS,by decide,λ c2=>⟨_,rfl,λ b hb=>hN _ _ ?_⟩⟩;refine eY λ N hN=> ?_;walk_at "rd";refine⟨_,_,_,rfl,s1.seq hS,by decide,λ c3=>⟨_,_,rfl,by lia,by lia,λ lt H2 ts iJ s2 t2 tl Pu tg=>hN _ _ ?_⟩⟩;have Ù:=s1.trans s2;have UM:kB H2 nm Dc:=⟨s2 _ _ hn.1,hn.2⟩
  have W4:1<=ts.length/\ts.length<=5:=by lia
  refine eY λ N hN=> ?_;walk_at "rd";refine⟨a,_,rfl,Ù.seq hS,λ bd ė=>hN _ _ ?_⟩;obtain⟨bs,ebs,lbs⟩:=Ey ns (some 4) none;rw [ebs];have n3:=fh.new (o:=.lst (bs.map V.int)) ė;have b3:upd H2 bd (.lst (bs.map V.int)) bd=some (.lst (bs.map V.int)):=eX;generalize upd H2 bd (.lst (bs.map V.int))=H3 at n3 b3;refine eY λ N hN=> ?_;walk_at "rd";refine⟨_,.inl (fZ.of b3),_,.inl (fZ.of b3),by lia,hN _ _ ?_⟩
  have ŕ:0<=(((bs.map V.int).length:Nat):Int)/3+hd/30%((((bs.map V.int).length:Nat):Int)/3+1):=by
   have:=bN (hd/30) (show ((((bs.map V.int).length:Nat):Int)/3+1)≠0 by lia);lia
  generalize (((bs.map V.int).length:Nat):Int)/3+hd/30%((((bs.map V.int).length:Nat):Int)/3+1)=ct at ŕ;refine eY λ N hN=> ?_;walk_at "rd";refine⟨bd,_,rfl,fZ.of b3,λ q hq=> ?_⟩;rw [vA _ _ ŕ];have n4:=fh.new (o:=.lst ((bs.take ct.toNat).map V.int)) hq;have q4:upd H3 q (.lst ((bs.take ct.toNat).map V.int)) q=some (.lst ((bs.take ct.toNat).map V.int)):=eX;generalize upd H3 q (.lst ((bs.take ct.toNat).map V.int))=H4 at n4 q4;have Ng:=n3.trans n4;refine⟨_,_,_,12,_,Dc,rfl,q4,(by rw [aT];lia),⟨Ng _ _ UM.1,UM.2⟩,hb,by decide,by decide,λ gr sa ml H5 sh ms hgr YM s5 eg JL Dd lv iD _ on UO=>hN _ _ ?_⟩;have Xe:=Ng.trans s5;have b5:=s5 _ _ (n4 _ _ b3);have UL:kB H5 nm Dc:=⟨Xe _ _ UM.1,UM.2⟩
  have t5:=Xe _ _ t2;have kn:=JL.kinds
  have O9:sh.deep<=40:=by
   have:=sh.xM;rw [lv,aI] at this;lia
  have XD:ms≠[]:=λ z=>by
   have:=sh.kj;rw [lv,z] at this;simp at this
  have iR:=Sh.DG (ms:=ms) lv
  have wms:∀m∈ms,tj m:=by
   obtain⟨am,_,al⟩:=Dd;intro m hm;obtain⟨i,hi⟩:=aL.mp hm;obtain⟨x,_,r⟩:=al.at hi;exact r.2
  have Gh:∀i∈sh.leaves,i<ms.length:=λ i hi=>by
   rw [lv,aU] at hi;exact hi
  refine eY λ N hN=> ?_;walk_at "rd";refine fc eg rfl (fc eg rfl ⟨sa,ml,sh,ms,rfl,JL,O9,Dd,Gh,λ tr H6 s6 ht=>hN _ _ ?_⟩);obtain⟨Qk,ec1,lc1⟩:=Ey bs (some ct) none;obtain⟨cs,ec2,lcs⟩:∃cs:List Int,uw (Qk.map V.int) none (some 60)=cs.map V.int/\cs.length<=60:=⟨Qk.take (60:Int).toNat,vA _ _ (by decide),by rw [aT];exact Nat.min_le_left ..⟩
  refine eY λ N hN=> ?_;walk_at "rd";refine⟨bd,_,rfl,fZ.of (s6 _ _ b5),λ p1 Nn=>⟨p1,_,rfl,fZ.of eX,λ lc ĉ=> ?_⟩⟩;rw [ec1,ec2] at *;have n7:=(fh.new (o:=.lst (Qk.map V.int)) Nn).trans (fh.new (o:=.lst (cs.map V.int)) ĉ);have c7:upd (upd H6 p1 (.lst (Qk.map V.int))) lc (.lst (cs.map V.int)) lc=some (.lst (cs.map V.int)):=eX;generalize upd (upd H6 p1 (.lst (Qk.map V.int))) lc (.lst (cs.map V.int))=H7 at n7 c7;have Nf:=s6.trans n7;refine fc (Nf _ _ eg) rfl ⟨lc,lt,nm,ml,b,cs,ts,Dc,ms,rfl,c7,by lia,Nf _ _ t5,λ z=>(by rw [z] at W4;simp at W4),by lia,Pu,tg,⟨Nf _ _ UL.1,UL.2⟩,hb,Dd.same Nf,XD,by lia,UO,λ pp pw pt H8 W rs md rl w0 U2 _=>⟨pp,rfl,_,oh.of U2,rfl,_,_,rfl,_,_,rfl,rfl,hN _ _ ?_⟩⟩;have Ν:=md.old;have t7:=Nf _ _ t5;have ZU:=Nf _ _ eg;have R4:=JL.same Nf;have Se:=Dd.same Nf;have X':=ht.same n7;have æ:kB H7 nm Dc:=⟨Nf _ _ UL.1,UL.2⟩
  clear Nf Ν U2 c7 n7 ĉ Nn b5 eg JL Dd ht s6 UL t5 s5 Ng Xe n3 n4 q4 b3 hq ė Ù UM t2
  have sm:ts.length*ms.length<=62:=by
   have:=cp W4.2 iD;lia
  have x0:0<=hd/5%(ts.length:Int):=bN _ (by lia);have x1:hd/5%(ts.length:Int)<ts.length:=bI _ (by lia);obtain⟨st,pM⟩:∃st,ts[(hd/5%(ts.length:Int)).toNat]? = some st:=⟨ts[(hd/5%(ts.length:Int)).toNat]'(by lia),by simp⟩
  have stm:=ai pM;have t8:=md.old _ _ t7;refine eY λ N hN=> ?_;walk_at "rd";refine⟨_,.inl (fZ.of t8),by rw [ae];lia,?_⟩;rw [ae];refine fK t8 (gn x0 (by rw [ak,pM];rfl)) (hN _ _ ?_);generalize (hd/5%(ts.length:Int)).toNat=ja at pM;clear x0 x1
  have good:∀{H8 H9:Hp} {W:WS} {rs:List (Int×Addr×ni)} {q:Addr} {ps:List (Addr×Addr)} {M:xP} {es:List En},Made t H7 H8 pw pt W rs ts->pG M->j7 (sh.real ms) M->iC M.iR (Goes W) st es->es.length<=2500->(∀e∈es,e.th∈W.vals.map (·.1))->(es.map iN).Nodup->gQ (jB M) (uK W M) es es.length->iZ H8 H9 q ps (yV (W.vals.map (·.1)) M es)->∃fs,iZ H8 H9 q ps fs/\ID ts rs ms sh ja st fs:=by
   intro H8 H9 W rs q ps M es md EU OE bk fe th LY full fd;rw [md.names] at th fd;exact⟨_,fd,Gy md.eq EU kn lv OE bk fe th LY full Pu pM sm⟩
  have ψ:∀{rs:List (Int×Addr×ni)} {fs:List (Nm×List (Int×Bool))},ID ts rs ms sh ja st fs->∀f∈fs,f.2.length<=100:=λ g f hf=>by
   obtain⟨_,_,_,_,h,_⟩:=g.way f.1 f.2 hf;lia
  have Qw:∀{H8:Hp} {W:WS} {rs:List (Int×Addr×ni)},Made t H7 H8 pw pt W rs ts->C0 ts rs:=λ m x hx=>⟨(m.fX x hx).1,(m.fX x hx).2.1⟩
  refine eY λ N hN=> ?_;walk_at "rd";refine⟨pw,tr,W,sh.real ms,st,rfl,md.G8,by rwa [md.names],by rw [md.SA];exact md.iD,md.ends,X'.same md.old,by rwa [Sh.lE],by rw [iR];lia,by rwa [iR],λ q H9 ps M es s9 EU OE bk fe th LY full SF=>hN _ _ ?_⟩;obtain⟨fs,fd,gf⟩:=good md EU OE bk fe th LY full SF;clear SF bk fe th LY full EU OE M es;have m9:=md.same s9;refine eY λ N hN=> ?_;walk_at "rd";refine⟨q,gr,sa,ml,lt,pt,_,ps,fs,ts,rs,sh,ms,ja,st,rfl,fd,m9.old _ _ ZU,R4.same m9.old,O9,Se.same m9.old,Gh,by lia,m9.old _ _ t7,Pu,by lia,m9.rows,m9.nd,m9.iD,Qw m9,pM,gf,λ E4 Ø=>⟨_,rfl,gs (by decide) (hN _ _ ?_)⟩⟩;have Xi:uJ H8 E4 q ps (100+0):=(fd.vS s9 (ψ gf)).same Ø
  have Ý:ps.length<=12:=by
   have h1:=fd.rows.len;have h2:=congrArg List.length gf.Vu;rw [ae,ae] at h2;have h3:=bB (λ b=>decide (jA (oi (λ i a b=>∃m,ms[i]? = some m/\wU ts rs m a b) sh) ja b<1000000)) (List.range ts.length);rw [aI] at h3;lia
  refine eY λ N hN=> ?_;refine⟨_,rfl,q,rfl,⟨_,fZ.of Xi.at_⟩,iG (K:=K) (a:=q) (xs:=ps.map λ x=>V.ref x.1) (λ i σ Aj=>∃v:Option V,σ = [some (.ref a),some (.int hd),some (.ref nm),some (.int b),some (.ref lt),some (.ref bd),some (.int ct),some (.ref gr),some (.ref tr),some (.ref pw),some (.ref pt),some (.str (tx st)),some (.ref q),v,none,none,none,none]/\uJ H8 Aj q ps (100+i)) ⟨none,rfl,Xi⟩ (λ i σ Aj _ hz=>by obtain⟨_,_,h⟩:=hz;exact fZ.of h.at_) ?_ ?_⟩
  .rintro i y σ Aj hi ⟨v,rfl,QO⟩;obtain⟨x,hx,rfl⟩:=g_ hi;have xm:=ai hx;have il:=(ag.mp hx).1;obtain⟨z,ys,e1,e2,e3⟩:=QO.rows x xm;clear hN;walk_at "rg";walk_at "rd";refine fc e1 rfl ⟨gp (fZ.of e2),by decide,λ p hp=>⟨x.2,rfl,ys,(fh.new hp) _ _ e2,aC (show ys.length<3000 by lia) (fW (by decide)),?_⟩⟩;exact(QO.same (fh.new (o:=.tup [V.int 0,V.bl false]) hp)).put xm ((fh.new hp) _ _ e2) e3
  rintro σ Aj ⟨Na,rfl,QO⟩;refine hN _ _ ?_;refine eY λ N hN=> ?_;walk_at "rd";refine⟨gp (fZ.of QO.at_),q,_,rfl,rfl,QO.at_,hN _ _ ?_⟩;have wO:fh H8 (upd Aj q (.lst [])):=QO.old.fS fd.own;generalize upd Aj q (.lst [])=Tc at wO;have PU:=md.same wO;clear QO Xi Ý Ø m9 s9 gf fd ps fs md wO;refine eY λ N hN=> ?_;walk_at "rd";refine⟨pw,tr,W,sh.real ms,st,rfl,PU.G8,by rwa [PU.names],by rw [PU.SA];exact PU.iD,PU.ends,X'.same PU.old,by rwa [Sh.lE],by rw [iR];lia,by rwa [iR],λ q ŧ ps M es Hq EU OE bk fe th LY full SF=>hN _ _ ?_⟩;obtain⟨fs,fd,gf⟩:=good PU EU OE bk fe th LY full SF;clear SF bk fe th LY full EU OE M es;have OG:=PU.same Hq;refine eY λ N hN=> ?_;walk_at "rd";refine⟨q,gr,sa,ml,lt,pt,_,ps,fs,ts,rs,sh,ms,ja,st,rfl,fd,OG.old _ _ ZU,R4.same OG.old,O9,Se.same OG.old,Gh,by lia,OG.old _ _ t7,Pu,by lia,OG.rows,OG.nd,OG.iD,Qw OG,pM,gf,λ H14 Pz=>⟨_,rfl,gs (by decide) (hN _ _ ?_)⟩⟩;have τ:=OG.same Pz;have O4:=fd.same Pz
  have Χ:∀f∈fs,LU f.1:=λ f hf x hx=>by
   obtain⟨b',_,xI,_⟩:=gf.way f.1 f.2 hf;exact vF ((tg _ (ai xI)).2.2 x hx)
  have ò:fs.length=ps.length:=fd.rows.len
  have Ý:ps.length<=12:=by
   have h2:=congrArg List.length gf.Vu;rw [ae,ae] at h2;have h3:=bB (λ b=>decide (jA (oi (λ i a b=>∃m,ms[i]? = some m/\wU ts rs m a b) sh) ja b<1000000)) (List.range ts.length);rw [aI] at h3;lia
  refine eY λ N hN=> ?_;refine⟨_,rfl,q,rfl,⟨_,fZ.of O4.at_⟩,?_⟩
  have zp:(fs.zip ps).map (λ c=>V.ref c.2.1)=ps.map λ x=>V.ref x.1:=by
   rw [show (λ c:(Nm×List (Int×Bool))×(Addr×Addr)=>V.ref c.2.1)=(λ x:Addr×Addr=>V.ref x.1)∘Prod.snd from rfl,<-aQ,eI (by lia)]
  refine Bb (cs:=fs.zip ps) (g:=λ c=>V.ref c.2.1) (gH (by rw [zp];exact fZ.of O4.at_)) (λ _=>true) (λ H6 c x=>H6 x.1=some (.tup [.str (tx c.1.1),.ref x.2])/\iB H6 x.2 c.1.2) (λ H6 c x ⟨_,_,h,_⟩ z=>by rw [h] at z;cases z) (λ c x H6 H7 s ⟨h1,h2⟩=>⟨s _ _ h1,h2.same s⟩) (fW (by rw [b9];lia)) (λ c H6 Q2 hc s6 h=>h _ (fh.refl _)) (λ c H6 Q2 hc hp s6 h=> ?_) (λ H6 c x D ys zs hD h1 h2 ⟨g1,as,g2,g3⟩=>⟨(e_ h1).trans g1,as,(e_ h2).trans g2,g3.imp λ (y:Addr) (v:Int×Bool) (e:H6 y=some (.tup [.int v.1,.bl v.2]))=>(e_ (gN e hD (λ z=>nomatch z))).trans e⟩) λ kq M7 TJ hkq Ö Z2 VI XA UA=>hN _ _ ?_
  .obtain⟨r1,as,r2,r3⟩:=O4.rows.zip c hc;walk_at "rd";refine fc (s6 _ _ r1) rfl (fc (s6 _ _ r1) rfl ⟨_,rfl,_,.inl (fZ.of (s6 _ _ r2)),λ l hl=>⟨by decide,λ p hp=>h (p,l) _ ((fh.new hl).free hp) hl ((fh.new hl).trans (fh.new hp)) ⟨eX,as,(fh.new hp) _ _ eX,r3.imp λ y v e=>(fh.new hp) _ _ ((fh.new hl) _ _ (s6 _ _ e))⟩⟩⟩)
  have kf:iZ H14 M7 kq TJ fs:=by
   refine⟨Z2,?_,XA,λ x hx=>(UA x hx).2,hkq⟩;rw [List.filter_eq_self.mpr λ _ _=>rfl] at VI
   have go:∀{fs:List (Nm×List (Int×Bool))} {ps TJ:List (Addr×Addr)},fs.length=ps.length->fN (λ (c:(Nm×List (Int×Bool))×(Addr×Addr)) (x:Addr×Addr)=>M7 x.1=some (.tup [.str (tx c.1.1),.ref x.2])/\iB M7 x.2 c.1.2) (fs.zip ps) TJ->fN (λ (f:Nm×List (Int×Bool)) (x:Addr×Addr)=>M7 x.1=some (.tup [.str (tx f.1),.ref x.2])/\iB M7 x.2 f.2) fs TJ:=by
    intro fs
    induction fs with
    | nil=>
     intro ps TJ hl h
     cases ps with
     | nil=>cases h;exact .nil
     | cons _ _=>cases hl
    | cons a fs ih=>
     intro ps TJ hl h
     cases ps with
     | nil=>cases hl
     | cons m ps=>
      cases h with
      | cons r t=>exact .cons r (ih (by simpa using hl) t)
   exact go ò VI
  have Nk:=τ.same Ö;have ZN:=O4.same Ö;refine eY λ N hN=> ?_;walk_at "rg"
  have hM:∀(Ì Ë:Option V) (WV:Hp) (W:WS) (rs:List (Int×Addr×ni)),Made t H7 WV pw pt W rs ts->qG [] M7 WV->N [some (.ref a),some (.int hd),some (.ref nm),some (.int b),some (.ref lt),some (.ref bd),some (.int ct),some (.ref gr),some (.ref tr),some (.ref pw),some (.ref pt),some (.str (tx st)),some (.ref q),Na,some (.ref kq),Ì,Ë,none] WV:=by
   intro Ì Ë WV W rs PR Wf;refine hN _ _ ?_;have ZM:=ZN.keep Wf.tup λ b ys _ e=>Wf.lst b ys (by simp) e;have X0:=kf.keep Wf.tup λ b ys _ e=>Wf.lst b ys (by simp) e;refine eY λ N hN=> ?_;walk_at "rd";refine⟨pw,tr,W,sh.real ms,st,rfl,PR.G8,by rwa [PR.names],by rw [PR.SA];exact PR.iD,PR.ends,X'.same PR.old,by rwa [Sh.lE],by rw [iR];lia,by rwa [iR],λ q2 H17 Τ M es Xf EU OE bk fe th LY full SF=>hN _ _ ?_⟩;obtain⟨fs2,fd2,gf2⟩:=good PR EU OE bk fe th LY full SF;have PQ:=PR.same Xf;walk_at "rd";exact⟨GD fs,(ZM.same Xf).dat,(X0.same Xf).dat,(JX Χ).shaped (by decide),q2,gr,sa,ml,lt,pt,_,Τ,fs2,ts,rs,sh,ms,ja,st,rfl,fd2,PQ.old _ _ ZU,R4.same PQ.old,O9,Se.same PQ.old,Gh,by lia,PQ.old _ _ t7,Pu,by lia,PQ.rows,PQ.nd,PQ.iD,Qw PQ,pM,gf2,λ H18 s18=>k _⟩
  clear hN
  have RG:∀x∈W.fL.map (·.1),x<W.next:=λ x hx=>by
   have e:L2.plain rs=W.abs.fL:=Nk.eq
   have:x∈(L2.plain rs).map (·.1):=by
    rw [e];unfold WS.abs
    rwa [aQ]
   rw [oC] at this;exact(Nk.low x this).2
  have WY:W.abs.fL.length=rs.length:=by
   rw [<-Nk.eq];unfold L2.plain;rw [ae]
  have UK:∀l∈ts,l∈W.abs.names:=λ l hl=>by rwa [Nk.Dc]
  refine jf λ A B hA hB=> ?_;walk_at "rd";refine Im (λ SM=>fO (λ _=>⟨_,Nk.rows.at_,fO (λ Kq=>hA _ _ ?_) λ _=>SM⟩) λ _=>SM) (hB _ _ ?_)
  .clear SM hA hB A B;refine eY λ N2 vY=> ?_;walk_at "rd";refine⟨_,.inl Nk.rows.at_,λ l hl=> ?_⟩;rw [AM];have n5:=fh.new (o:=.lst ((rs.map (·.1)).map V.int)) hl;have m5:=Nk.same n5;have l5:upd M7 l (.lst ((rs.map (·.1)).map V.int)) l=some (.lst ((rs.map (·.1)).map V.int)):=eX;generalize upd M7 l (.lst ((rs.map (·.1)).map V.int))=H5 at n5 m5 l5
   have Xg:0<rs.length:=by
    unfold fR at Kq;rw [ae] at Kq;lia
   refine⟨_,m5.rows.at_,by unfold fR;rw [ae];lia,?_⟩;have kl:(fR rs).length=rs.length:=by unfold fR;rw [ae]
   rw [kl];obtain⟨u,e1,e2⟩:=kX (xs:=(rs.map (·.1)).map V.int) (i:=hd/50%(rs.length:Int)) (bN _ (by lia)) (by rw [ae,ae];exact bI _ (by lia));obtain⟨x,hx,rfl⟩:=g_ e2;have WX:x∈rs.map (·.1):=ai hx;have xW:x∈W.abs.fL.map (·.1):=by rwa [<-m5.eq,oC]
   refine fK l5 e1 (vY _ _ ?_);clear vY N2;refine eY λ N2 vY=> ?_;walk_at "rd";refine⟨_,_,m5.G8.obj,rfl,pw,W,x,rfl,m5.G8,?_⟩;unfold WA.CK;rw [if_neg (λ z=>z xW)];intro H6 W6 w6 GI s6;have p6:H6 pt=some (.dK (fR rs)):=s6.off _ _ m5.po m5.rows.at_;have ks:(gT (fR rs) (.inl x)).isSome=true:=by rw [kC,decide_eq_true WX]
   obtain⟨vv,X8⟩:=Option.isSome_iff_exists.mp ks;refine vY _ _ ?_;clear vY N2;walk_at "rd";refine⟨.inl ⟨_,.inl p6⟩,_,p6,.inl x,rfl,vv,X8,?_⟩;rw [sV]
   have UE:W6.next=W.next:=by
    have:=congrArg WA.next GI;exact this
   have sub:(rs.filter λ y=>decide (y.1≠x)).map (·.1) |>.Sublist (rs.map (·.1)):=dY.map _;have ZH:(rs.filter λ y=>decide (y.1≠x)).length<=rs.length:=bB _ _;refine hM _ _ _ W6 (rs.filter λ y=>decide (y.1≠x)) (m5.OU s6 w6 (λ y hy=>s6.tup _ _ (m5.rows.i5 y (bG.mp hy).1)) ?_ ?_ (m5.PB.sublist sub) (λ y hy=> ?_) (λ y hy=>m5.fX y (bG.mp hy).1) (by have:=m5.iD;lia)) (((fh.Eh n5).trans (m5.G8.Eh s6)).trans (qG.Ŕ p6))
   .rw [GI];exact m5.Dc
   .rw [GI,DE,m5.eq]
   .have:=m5.low y (sub.subset hy);lia
  .have Sg:=Nk.old _ _ t7;have Sb:kB M7 nm Dc:=⟨Nk.old _ _ æ.1,æ.2⟩
   have pick:∀j:Int,0<=j->j<ts.length->∃l∈ts,xh (ts.map λ l=>V.str (tx l)) j=some (.str (tx l)):=λ j j0 j1=>by
    obtain⟨u,e1,e2⟩:=kX (xs:=ts.map λ l=>V.str (tx l)) j0 (by rwa [ae]);obtain⟨l,hl,rfl⟩:=g_ e2;exact⟨l,ai hl,e1⟩
   obtain⟨l1,xH,ZT⟩:=pick (hd/2%(ts.length:Int)) (bN _ (by lia)) (bI _ (by lia));obtain⟨l2,zO,O6⟩:=pick (hd/7%(ts.length:Int)) (bN _ (by lia)) (bI _ (by lia));obtain⟨u,e1,e2⟩:=kX (xs:=Dc.map λ l=>V.str (tx l)) (i:=hd/3%4) (by lia) (by rw [ae,Sb.2.1];lia);obtain⟨n3,P',rfl⟩:=g_ e2;have Nw:=Sb.2.2 n3 (ai P');clear hA hB A B;refine eY λ N2 vY=> ?_;walk_at "rd";refine⟨_,.inl (fZ.of Sg),by rw [ae];lia,?_⟩;rw [ae];refine fK Sg ZT (fK Sb.1 e1 ⟨_,.inl (fZ.of Sg),by rw [ae];lia,?_⟩);rw [ae];refine fK Sg O6 ⟨by decide,λ p hp=>vY _ _ ?_⟩;clear vY N2;have n5:=fh.new (o:=.tup [.str (tx l1),.str (tx n3),.str (tx l2),.int b]) hp;have m5:=Nk.same n5;have p5:upd M7 p (.tup [.str (tx l1),.str (tx n3),.str (tx l2),.int b]) p=some (.tup (wK ⟨l1,n3,l2,b⟩)):=eX;generalize upd M7 p (.tup [.str (tx l1),.str (tx n3),.str (tx l2),.int b])=H5 at n5 m5 p5;walk_at "rd";refine⟨_,_,m5.G8.obj,rfl,fc p5 rfl (fc p5 rfl (fc p5 rfl (fc p5 rfl ⟨pw,W,l1,n3,l2,b,rfl,m5.G8,RG,fW (by have:=Nw.2.1;lia),?_⟩)))⟩
   have fresh:W.next∉rs.map (·.1):=λ z=>by
    have:=(m5.low _ z).2;lia
   have aai:b.natAbs<10 ^ 60:=by
    have big:(10:Nat) ^ 60=1000000000000000000000000000000000000000000000000000000000000:=by decide
    unfold rT at hb;rw [big];lia
   unfold WA.CW;rw [if_neg (λ z=>by rcases z with z|z;exact z (UK l1 xH);exact z (UK l2 zO)),CA Nw,if_neg (by decide),if_neg (by lia),if_neg (by rw [WY];have:=m5.iD;lia)];intro H6 W6 w6 GI s6;have p6:H6 pt=some (.dK (fR rs)):=s6.off _ _ m5.po m5.rows.at_
   have UE:W6.next=W.next+1:=by
    have:=congrArg WA.next GI;exact this
   refine⟨_,xq.k (k:=.inl W.next) p6 (by unfold fR;rw [ae];exact aC (show rs.length<3000 by have:=m5.iD;lia) (fW (by decide))),?_⟩;rw [DD (x:=⟨l1,n3,l2,b⟩) fresh];have Rt:∀l∈ts,LU l:=λ l hl x hx=>vF ((tg l hl).2.2 x hx);refine hM _ _ _ W6 (rs ++ [(W.next,p,⟨l1,n3,l2,b⟩)]) (m5.OU s6 w6 (λ y hy=> ?_) ?_ ?_ ?_ (λ y hy=> ?_) (λ y hy=> ?_) (by rw [aq];simp only [aF,aV];lia)) (((fh.Eh n5).trans (m5.G8.Eh s6)).trans (qG.Ŕ p6))
   .rcases ax.mp hy with z|z
    .exact s6.tup _ _ (m5.rows.i5 y z)
    .rw [ao.mp z];exact s6.tup _ _ p5
   .rw [GI];exact m5.Dc
   .rw [GI,<-m5.eq];unfold L2.plain;rw [av];rfl
   .rw [av,dU];refine⟨m5.PB,by simp,λ x hx y hy=> ?_⟩;rw [show y=W.next by simpa using hy];exact(m5.low x hx).2
   .rw [av] at hy;rcases ax.mp hy with z|z
    .have:=m5.low y z;lia
    .rw [show y=W.next by simpa using z];lia
   .rcases ax.mp hy with z|z
    .exact m5.fX y z
    .rw [ao.mp z];exact⟨xH,zO,⟨Rt l1 xH,λ x hx=>vF (Nw.2.2 x hx),Rt l2 zO⟩⟩
end
theorem all_mk {l:eP} {w:World} {K:aj} {h:Heap} {mg:Str->Option Value} {fa:Addr} (X:K.In h) (G:h.Ns mainGlobals mg) (hfa:mg "law" = some (.ref fa))
  {qI:Addr} (CC:aS K mainGlobals "SeekError" = some (some (.ref qI)))
  {mj:Addr} (JT:aS K mainGlobals "NoName" = some (some (.ref mj)))
  {jO:Addr} (Ep:aS K mainGlobals "NoNumber" = some (some (.ref jO)))
  {ky:Addr} (GA:aS K mainGlobals "NoThing" = some (some (.ref ky)))
  {oY:Addr} (Mv:aS K mainGlobals "NoTie" = some (some (.ref oY)))
  {oX:Addr} (Mu:aS K mainGlobals "Twice" = some (some (.ref oX)))
  {tF:Addr} (OW:aS K mainGlobals "Full" = some (some (.ref tF)))
  {gS:Addr} (GB:aS K mainGlobals "Builder" = some (some (.ref gS)))
  {jG:Addr} (Su:aS K mainGlobals "Web" = some (some (.ref jG)))
  {f0:Addr} {d0:FuncData} (D0:gF K "good_name" qa f0 d0)
  {f1:Addr} {d1:FuncData} (D1:gF K "few_figures" mV f1 d1)
  {f2:Addr} {d2:FuncData} (D2:gF K "marks_of" sD f2 d2)
  {f3:Addr} {d3:FuncData} (D3:gF K "machine" uZ f3 d3)
  {f4:Addr} {d4:FuncData} (D4:gF K "weight_meets" lQ f4 d4)
  {f5:Addr} {d5:FuncData} (D5:gF K "fits" Fo f5 d5)
  {f6:Addr} {d6:FuncData} (D6:gF K "gone_step" qb f6 d6)
  {f7:Addr} {d7:FuncData} (D7:gF K "gone_from" qc f7 d7)
  {f8:Addr} {d8:FuncData} (D8:gF K "gone_to" vc f8 d8)
  {f9:Addr} {d9:FuncData} (D9:gF K "moves_by" sC f9 d9)
  {ō:Addr} {d10:FuncData} (D10:gF K "book" Fp ō d10)
  {Ō:Addr} {Z4:FuncData} (D11:gF K "way_in" yl Ō Z4)
  {ŋ:Addr} {Z3:FuncData} (D12:gF K "ends_in" vd ŋ Z3)
  {Ŋ:Addr} {d13:FuncData} (D13:gF K "reached" uY Ŋ d13)
  {ň:Addr} {d14:FuncData} (D14:gF K "check_name" oz ň d14)
  {Ň:Addr} {Z2:FuncData} (D15:gF K "check_number" lR Ň Z2)
  {ņ:Addr} {d16:FuncData} (D16:gF K "_law_cell_at" p8 ņ d16)
  {Ņ:Addr} {d17:FuncData} (D17:gF K "_law_mixed" u6 Ņ d17)
  {ń:Addr} {d18:FuncData} (D18:gF K "_law_names" u5 ń d18)
  {Ń:Addr} {d19:FuncData} (D19:gF K "_law_whole" u0 Ń d19)
  {ł:Addr} {d20:FuncData} (D20:gF K "_law_base" yo ł d20)
  {Ł:Addr} {d21:FuncData} (D21:gF K "_law_number" sG Ł d21)
  {ŀ:Addr} {d22:FuncData} (D22:gF K "_law_mark_by" pY ŀ d22)
  {Ŀ:Addr} {d23:FuncData} (D23:gF K "_law_fit" B0 Ŀ d23)
  {ľ:Addr} {d24:FuncData} (D24:gF K "_law_grown" u9 ľ d24)
  {Ľ:Addr} {d25:FuncData} (D25:gF K "_law_real" ym Ľ d25)
  {ļ:Addr} {d26:FuncData} (D26:gF K "_law_closure" pZ ļ d26)
  {Ļ:Addr} {d27:FuncData} (D27:gF K "_law_behind" sH Ļ d27)
  {ĺ:Addr} {d28:FuncData} (D28:gF K "_law_spans" u4 ĺ d28)
  {Ĺ:Addr} {d29:FuncData} (D29:gF K "_law_things" sF Ĺ d29)
  {ĸ:Addr} {d30:FuncData} (D30:gF K "_law_step_for" ox ĸ d30)
  {ķ:Addr} {d31:FuncData} (D31:gF K "_law_web_by" sE ķ d31)
  {Ķ:Addr} {d32:FuncData} (D32:gF K "_law_least" u7 Ķ d32)
  {ĵ:Addr} {d33:FuncData} (D33:gF K "_law_again" u_ ĵ d33)
  {Ĵ:Addr} {d34:FuncData} (D34:gF K "_law_still" u3 Ĵ d34)
  {ĳ:Addr} {d35:FuncData} (D35:gF K "_law_by_mark" p_ ĳ d35)
  {Ĳ:Addr} {d36:FuncData} (D36:gF K "_law_far" B1 Ĳ d36)
  {ı:Addr} {d37:FuncData} (D37:gF K "_law_way_steps" mU ı d37)
  {İ:Addr} {d38:FuncData} (D38:gF K "_law_good_way" oy İ d38)
  {į:Addr} {d39:FuncData} (D39:gF K "_law_good" yn į d39)
  {f40:Addr} {d40:FuncData} (Ç:gF K "law" La f40 d40)
  {Į:Addr} {d41:FuncData} (Æ:je K gS "__init__" "Builder.__init__" lU Į d41)
  {ĭ:Addr} {d42:FuncData} (D42:je K gS "link" "Builder.link" lT ĭ d42)
  {Ĭ:Addr} {d43:FuncData} (D43:je K gS "part" "Builder.part" lS Ĭ d43)
  {ī:Addr} {d44:FuncData} (D44:je K gS "mark_part" "Builder.mark_part" jz ī d44)
  {Ī:Addr} {d45:FuncData} (D45:je K gS "or_part" "Builder.or_part" jY Ī d45)
  {ĩ:Addr} {d46:FuncData} (D46:je K gS "row_part" "Builder.row_part" jK ĩ d46)
  {Ĩ:Addr} {d47:FuncData} (D47:je K gS "repeat_part" "Builder.repeat_part" i_ Ĩ d47)
  {ħ:Addr} {d48:FuncData} (Å:je K jG "__init__" "Web.__init__" sJ ħ d48)
  {Ħ:Addr} {d49:FuncData} (D49:je K jG "check_thing" "Web.check_thing" jX Ħ d49)
  {ĥ:Addr} {d50:FuncData} (D50:je K jG "check_tie" "Web.check_tie" kQ ĥ d50)
  {Ĥ:Addr} {d51:FuncData} (D51:je K jG "add_thing" "Web.add_thing" kR Ĥ d51)
  {TY:Addr} {Xv S4:Option Addr} {Xa:Array (Option Value)} {Xw RV SR QX Pd SU:Value}
  (a52:bp K (.ref jG) "add_tie" = some (some (.ref TY))) (ξ:dE K (.ref TY)=true)
  {O8:Addr}
  (l52:K.lookup TY=some ⟨Xw,Xv,.func (cb "add_tie" "Web.add_tie" (mD gx) (j5 gx) (fw gx) (.ref O8) RV SR QX S4 Pd SU),Xa⟩) (c52:dR K Pd "Web.add_tie" = true) (ù:ck K (.ref TY)=true)
  {Z0:Option Addr} {ZZ:Nat} {ZY:Array (Option Value)} {ML:Tok}
  (Vw:K.lookup O8=some ⟨.type "tuple",Z0,.seq #[.int 0 ML] ZZ,ZY⟩)
  {ģ:Addr} {d53:FuncData} (D53:je K jG "cut_tie" "Web.cut_tie" mW ģ d53)
  {Ģ:Addr} {d54:FuncData} (D54:je K jG "has_thing" "Web.has_thing" kP Ģ d54)
  {ġ:Addr} {d55:FuncData} (D55:je K jG "things" "Web.things" oA ġ d55)
  {Ġ:Addr} {d56:FuncData} (D56:je K jG "ties" "Web.ties" sI Ġ d56)
  {ğ:Addr} {d57:FuncData} (D57:je K jG "tie" "Web.tie" ve ğ d57)
  {Η:Tok} (g0:aS K mainGlobals "LETTERS" = some (some (Value.str (uR) Η)))
  {Ζ:Tok} (g1:aS K mainGlobals "MOST_LETTERS" = some (some (Value.int (12) Ζ)))
  {Î:Tok} (g2:aS K mainGlobals "ANY_NAME" = some (some (Value.str (sx) Î)))
  {Ε:Tok} (g3:aS K mainGlobals "MARKS" = some (some (Value.int (0) Ε)))
  {Δ:Tok} (g4:aS K mainGlobals "FOLLOWS" = some (some (Value.int (1) Δ)))
  {Β:Tok} (g5:aS K mainGlobals "ENDS" = some (some (Value.int (2) Β)))
  {Α:Tok} (g6:aS K mainGlobals "MOST_THINGS" = some (some (Value.int (100) Α)))
  {ž:Tok} (g7:aS K mainGlobals "MOST_TIES" = some (some (Value.int (400) ž)))
  (z0:aS K mainGlobals "len" = some none)
  (z1:aS K mainGlobals "isinstance" = some none)
  (z2:aS K mainGlobals "bool" = some none)
  (z3:aS K mainGlobals "int" = some none)
  (z4:aS K mainGlobals "range" = some none)
  (z5:aS K mainGlobals "list" = some none)
  (z6:aS K mainGlobals "min" = some none)
  (z7:aS K mainGlobals "tuple" = some none)
  (z8:aS K mainGlobals "sorted" = some none)
  (z9:aS K mainGlobals "set" = some none)
  (ű:aS K mainGlobals "reversed" = some none)
  (Ű:aS K mainGlobals "str" = some none)
  (ů:aS K mainGlobals "ValueError" = some none)
  (Ů:aS K mainGlobals "abs" = some none)
  (ŭ:aS K mainGlobals "enumerate" = some none)
  (Ŭ:aS K mainGlobals "dict" = some none)
  (ū:aS K mainGlobals "all" = some none)
  (F0:cy K gS Str.empty=true) (FZ:cH K gS=true) (FY:dn K gS=true) (FX:bp K (.ref gS) "__setattr__" = some (some (.builtin "object.__setattr__"))) (FW:dI K gS=true) (FV:ck K (.ref gS)=true)
  (iX:bp K (.ref gS) "followers" = some none)
  (RA:cy K jG Str.empty=true) (Rz:cH K jG=true) (Ry:dn K jG=true) (Rx:bp K (.ref jG) "__setattr__" = some (some (.builtin "object.__setattr__"))) (Rw:dI K jG=true) (Rv:ck K (.ref jG)=true)
  (gO:bp K (.ref jG) "kept_values" = some none)
  (ij:bp K (.ref jG) "kept_ties" = some none)
  (iQ:bp K (.ref jG) "coming_number" = some none)
  (xs:([mj,jO,ky,oY,oX,tF]:List Addr).map (Qs K qI [mj,jO,ky,oY,oX,tF])=([mj,jO,ky,oY,oX,tF]:List Addr).map (Kx [mj,jO,ky,oY,oX,tF]))
  (Ų:decide (@List.Nodup Nat [mj,jO,ky,oY,oX,tF])=true)
  : ∃fd:FuncData,(∀(s:Shared) (v:Value),BindsTo s fd ⟨[v],[]⟩ [("script",v)])/\∀base:Heap,K.In base->base.Ns mainGlobals mg->f_ l.prog w K mg base (ir l.prog w) 86 fa fd ["script"] (Hm K):=by
 have e:=hfa.symm.trans (br X G Ç.at_)
 cases e;have FL:=Ç.fn;obtain⟨_,_,_,_,_,_,_,_,_,rfl,_⟩:=Ç.fn.ex;have F52:Pt K _ _ gx TY _:=⟨⟨_,_,_,_,_,_,_,_,_,_,rfl,l52,c52⟩,ù⟩
 have b52:Binds K (cb "add_tie" "Web.add_tie" (mD gx) (j5 gx) (fw gx) (.ref O8) RV SR QX S4 Pd SU) ["self","start","name","end","weight"] []:=λ s us hK hl=>(match us,hl with|[_,_,_,_,_],_=>by first|exact .of_eq rfl|exact PySem.W.binds_K hK rfl Vw rfl rfl rfl);have e52:Binds K (cb "add_tie" "Web.add_tie" (mD gx) (j5 gx) (fw gx) (.ref O8) RV SR QX S4 Pd SU) ["self","start","name","end","weight"] [.int 0 ML]:=λ s us hK hl=>(match us,(show us.length=4 by simp only [aq,aF,aV] at hl;lia) with|[_,_,_,_],_=>PySem.W.binds_K hK rfl Vw rfl rfl rfl);have T:Txt K mg ⟨f0,_,f1,_,f2,_,f3,_,f4,_,f5,_,f6,_,f7,_,f8,_,f9,_,ō,_,Ō,_,ŋ,_,Ŋ,_,ň,_,Ň,_,ņ,_,Ņ,_,ń,_,Ń,_,ł,_,Ł,_,ŀ,_,Ŀ,_,ľ,_,Ľ,_,ļ,_,Ļ,_,ĺ,_,Ĺ,_,ĸ,_,ķ,_,Ķ,_,ĵ,_,Ĵ,_,ĳ,_,Ĳ,_,ı,_,İ,_,į,_,Į,_,ĭ,_,Ĭ,_,ī,_,Ī,_,ĩ,_,Ĩ,_,ħ,_,Ħ,_,ĥ,_,Ĥ,_,TY,_,ģ,_,Ģ,_,ġ,_,Ġ,_,ğ,_,qI,mj,jO,ky,oY,oX,tF,gS,jG⟩:=⟨D0.ok X G,D1.ok X G,D2.ok X G,D3.ok X G,D4.ok X G,D5.ok X G,D6.ok X G,D7.ok X G,D8.ok X G,D9.ok X G,D10.ok X G,D11.ok X G,D12.ok X G,D13.ok X G,D14.ok X G,D15.ok X G,D16.ok X G,D17.ok X G,D18.ok X G,D19.ok X G,D20.ok X G,D21.ok X G,D22.ok X G,D23.ok X G,D24.ok X G,D25.ok X G,D26.ok X G,D27.ok X G,D28.ok X G,D29.ok X G,D30.ok X G,D31.ok X G,D32.ok X G,D33.ok X G,D34.ok X G,D35.ok X G,D36.ok X G,D37.ok X G,D38.ok X G,D39.ok X G,Æ.ok,D42.ok,D43.ok,D44.ok,D45.ok,D46.ok,D47.ok,Å.ok,D49.ok,D50.ok,D51.ok,⟨⟨a52,ξ,ù⟩,F52,b52,⟨_,(.cons ⟨_,rfl⟩ .nil),e52⟩⟩,D53.ok,D54.ok,D55.ok,D56.ok,D57.ok,⟨_,br X G g0,⟨_,rfl⟩⟩,⟨_,br X G g1,⟨_,rfl⟩⟩,⟨_,br X G g2,⟨_,rfl⟩⟩,⟨_,br X G g3,⟨_,rfl⟩⟩,⟨_,br X G g4,⟨_,rfl⟩⟩,⟨_,br X G g5,⟨_,rfl⟩⟩,⟨_,br X G g6,⟨_,rfl⟩⟩,⟨_,br X G g7,⟨_,rfl⟩⟩,ba X G z0,ba X G z1,ba X G z2,ba X G z3,ba X G z4,ba X G z5,ba X G z6,ba X G z7,ba X G z8,ba X G z9,ba X G ű,ba X G Ű,ba X G ů,ba X G Ů,ba X G ŭ,ba X G Ŭ,ba X G ū,br X G CC,br X G JT,br X G Ep,br X G GA,br X G Mv,br X G Mu,br X G OW,br X G GB,br X G Su,⟨xs,Ų⟩,⟨F0,FZ,FY,FX⟩,⟨FW,Æ.at_,Æ.n,FV⟩,iX,⟨RA,Rz,Ry,Rx⟩,⟨Rw,Å.at_,Å.n,Rv⟩,gO,ij,iQ⟩
 exact⟨_,λ s v=>.of_eq rfl,λ base _ _=>Ru FL T⟩
theorem walk {l:eP} {q:Program} {loose:List Str} {XP:(Str->Option Value)->Heap->Prop} {YP:World->Heap->Prop} {d:DefRec} {K:Params->aj} (hn:l.most=some 63) (Vb:d.params.defaults = [])
  (hY:∀(w:World) (h:Heap),YP w h->(K w.params).In h)
  (F:∀(w:World) (mg:Str->Option Value) (fa:Addr) (h:Heap),(K w.params).In h->h.Ns mainGlobals mg->mg d.name=some (.ref fa)->
   ∃fd:FuncData,(∀(s:Shared) (u:Value),BindsTo s fd ⟨[u],[]⟩ [("script",u)])/\∀base:Heap,(K w.params).In base->base.Ns mainGlobals mg->f_ l.prog w (K w.params) mg base (ir l.prog w) 86 fa fd ["script"] (Hm (K w.params))) :
  PySem.W.WalkO q loose XP YP l.row.toRowW d [] (λ f vs=>PySem.call f vs):=
 L2.NB (n:=63) (k:=86) (x:="script") (CX:=λ w=>ir l.prog w) (sp:=λ w=>Hm (K w.params)) hn (by decide) Vb ⟨rfl,by decide,by decide⟩ hY F (λ _ _ a ns hl _ hS=>⟨a,ns,rfl,hS,hl,λ _=>rfl⟩) λ _ _ _ _ _ ⟨_,_,_,_,_,_,_,z⟩=>z
end Á
open PySem PySem.W PyProof.Rows
local macro_rules
 | `(tactic| o_head $H)=> `(tactic|
  refine holds_open (q:=jS) (loose:= []) (Xt:=tX)
   (XP:=XL jS []) (Yf:=Hook.obs $H) (Ya:=Hook.val $H)
   (YP:=Hook.says $H) (N:=8310) (two_looks GG Sr) (Hook.of $H) (Hook.keeps $H)
   (λ s e=>xl_of s (cX.mp e).1) XL.keeps
   (by rfl) (by rfl) (by rfl)
   (λ s e=>recFacts_of (cX.mp e).2)
   (by rfl) (by first|assumption|decide +kernel)
   (by decide +kernel) ⟨rfl,rfl,rfl,rfl,rfl,by decide +kernel⟩ ?hw ?hc)
theorem PySem.Challenge.cw_tieseek_k31_whole_reached_by_least_ways_holds : PySem.Challenge.rw_tieseek_k31_whole_reached_by_least_ways.Holds := by
 w_on;refine holds_law wSaid9 fun said=> ?_;o_head (kHook Cz.heap_1 Pl S2);(case hw=>w_witness2)
 k_fill
 refine Á.walk (l:=PySem.Challenge.rw_tieseek_k31_whole_reached_by_least_ways) rfl rfl (λ w h Y=>PySem.W.kIn_of Y) ?F
 case F=>
  intro w mg fa h KX G U7;refine' Á.all_mk KX G U7 ?_ ?_ ?_ ?_ ?_ ?_ ?_ ?_ ?_ ?_ ?_ ?_ ?_ ?_ ?_ ?_ ?_ ?_ ?_ ?_ ?_ ?_ ?_ ?_ ?_ ?_ ?_ ?_ ?_ ?_ ?_ ?_ ?_ ?_ ?_ ?_ ?_ ?_ ?_ ?_ ?_ ?_ ?_ ?_ ?_ ?_ ?_ ?_ ?_ ?_ ?_ ?_ ?_ ?_ ?_ ?_ ?_ ?_ ?_ ?_ ?_ ?_ ?_ ?_ ?_ ?_ ?_ ?_ ?_ ?_ ?_ ?_ ?_ ?_ ?_ ?_ ?_ ?_ ?_ ?_ ?_ ?_ ?_ ?_ ?_ ?_ ?_ ?_ ?_ ?_ ?_ ?_ ?_ ?_ ?_ ?_ ?_ ?_ ?_ ?_ ?_ ?_ ?_ ?_ ?_ ?_ ?_ ?_ ?_ ?_ ?_ ?_ ?_ ?_ ?_
  any_goals first|exact⟨by k_is,L2.Sw (by k_is) (by k_is) (by k_is)⟩|exact⟨by k_is,by k_is,L2.Sw (by k_is) (by k_is) (by k_is)⟩|k_is|kernel_rfl
