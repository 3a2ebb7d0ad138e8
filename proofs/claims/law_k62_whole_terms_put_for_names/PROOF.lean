import PyProof.Rows.All
import Wide.All
import OpenK.AllK
import Wide.FinOn
import PySem.Challenge.RW_clashbook_k62_whole_terms_put_for_names
namespace PySem.W.Fast
def tw17991838465754536032:=0
def tw11790601053982697251:=0
def tw837651501209189736:=0
def tw9415579778237670303:=0
def tw14351204249235430842:=0
def tw3108219213515383774:=0
def tw1441677777453098381:=0
def tw14587353438580439005:=0
def tw3723778428323739074:=0
def tw15703145857899255552:=0
def tw4702510233398670585:=0
def tw2048359829475924887:=0
def tw10993733472065540477:=0
def tw15271721180925232856:=0
def tw7676872500592081699:=0
def tw5438040513207524021:=0
def tw13507254297110284032:=0
def tw1952879932894631916:=0
def tw6457196969386866641:=0
def tw17005187245379096122:=0
def tw2377067088706496048:=0
def tw1854850223455949114:=0
def tw16156651200937737616:=0
def tw819286460773205509:=0
def tw8752438521567759610:=0
def tw13712060020500361391:=0
def tw4074516344504616926:=0
def tw10241559225817077095:=0
def tw16778018075663349126:=0
def tw155117190630705631:=0
def tw3873254080537265818:=0
def tw698752104088181893:=0
def tw48796669881639288:=0
def tw7644378915406714898:=0
def tw13409869807677725749:=0
def tw5606748456115736233:=0
def tw17804466626526430870:=0
def tw10475061432815630289:=0
def tw14154568304026628449:=0
def tw16494250324106259133:=0
def tw15501934948110985870:=0
def tw10918324855740760557:=0
def tw13779809312946986625:=0
def tw16986420134667549919:=0
def tw12651396554232281671:=0
def tw5667294164506498181:=0
def tw3998014790496325459:=0
def tw1804623339521021722:=0
def tw11843186204660677920:=0
def tw12588394657828623432:=0
def tw17008375290544984093:=0
def tw10403524340518705037:=0
def tw13762271022489081356:=0
def tw14033531327091036697:=0
def tw5458703090470975235:=0
def tw8223968462499856140:=0
def tw11997538668116045080:=0
def tw13141290203159546652:=0
def tw12764444487827652927:=0
def tw7819930583384996078:=0
def tw5771626009685555982:=0
def tw14044911351788284376:=0
def tw14937752660284014495:=0
def tw8913549363882805174:=0
def tw16039060077002834863:=0
def tw7110408467307193899:=0
def tw10362024446798775866:=0
def tw9934848771135610447:=0
def tw2235815572786960661:=0
def tw16656449380948263394:=0
def tw16109207628063730427:=0
def tw2196816649814587633:=0
def tw15902366566363441565:=0
def tw3371794673943104083:=0
def tw779847876751716040:=0
def tw13436341114244099759:=0
def tw11031786524312641484:=0
def tw13529454987981412330:=0
def tw11567400056532541441:=0
def tw17513666485327404624:=0
def tw5065591679226057444:=0
def tw8496001788026274908:=0
def tw14507873582446045390:=0
def tw5170987522800639232:=0
def tw14711883916902777855:=0
def tw5037420871715394943:=0
def tw5816974011267401591:=0
def tw7361712975126921151:=0
def tw16800844291166905623:=0
def tw17690077286733914769:=0
def tw5142577090202888042:=0
def tw18239481407118753817:=0
def tw6843528847875374579:=0
def tw322262369765796993:=0
def tw6911856231612267920:=0
def tw4421451765853234619:=0
def tw14222307626662524103:=0
def tw15705200527071215276:=0
def tw8364779289285476220:=0
def tw14485177736020623078:=0
def tw9516060965695894844:=0
def tw8703313253319817139:=0
def tw8848341291451968138:=0
def tw5459997142197979291:=0
def tw3587766685567161795:=0
def tw2045717563860937897:=0
def tw5736096393754317966:=0
def tw14635486097694391054:=0
def tw3505083160020196315:=0
def tw18364075887162888023:=0
def tw2134440934139394571:=0
def tw3074709892814918793:=0
def tw7257719771453023489:=0
def tw10795316818534793917:=0
def tw14674710707180544318:=0
def tw10101771461849702639:=0
def tw16034392768986369514:=0
def tw12544720907369761735:=0
def tw14366623884837513156:=0
def tw3402340093276281216:=0
def tw2092458335807262638:=0
def tw9272675211829975923:=0
def tw10897758489257332047:=0
def tw13408449123289091964:=0
def tw13902015281963452123:=0
def tw9125851011411996519:=0
def tw9276799181044551269:=0
def tw15416889009811051998:=0
def tw13026233277927704195:=0
def tw8905572000759446214:=0
def tw779934071634349901:=0
def tw8457193423891836901:=0
def tw10746382280701088454:=0
def tw3421333142212249118:=0
def tw4316690218203247860:=0
def tw12347627230201545891:=0
def tw6533101831924707399:=0
def tw17488607670615391784:=0
def tw2979681986161056136:=0
def tw6042451210288278414:=0
def tw1769770977327255974:=0
def tw9876663139413079778:=0
def tw6564538533539933946:=0
def tw18241526220408643753:=0
def tw13823040417025814302:=0
def tw1654726320735051186:=0
def tw4692025434704318890:=0
def tw16234541848915282824:=0
def tw11630870808592961024:=0
def tw16080197335798134051:=0
def tw4226857957808177090:=0
def tw14272581784677396002:=0
def tw322322332596953390:=0
def tw7386014260137890693:=0
def tw13702321413231980033:=0
def tw10350426937515379738:=0
def tw5523910918075627894:=0
def tw10804859800569315835:=0
def tw7420547534239879686:=0
def tw15180894570840562168:=0
def tw14870292981734434789:=0
def tw912036960779863598:=0
def tw2912307990884257577:=0
def tw14991951197483480267:=0
def tw12986691873612440823:=0
def tw7276275483480668200:=0
def tw5619875351398049685:=0
def tw10436748684316783936:=0
def tw1019105342629257542:=0
def tw936209199191039671:=0
def tw6109704168689971812:=0
def tw4401551614946797138:=0
def tw7640953478416550870:=0
def tw4228410212600691478:=0
def tw15411367755141062257:=0
def tw12267532450630003110:=0
def tw3554935079433008535:=0
def tw3259094804224769378:=0
def tw8453211440998331333:=0
def tw15026201308600403468:=0
def tw7595539481111153795:=0
def tw4972667595368223219:=0
def tw4380293025708683871:=0
def tw371592711722280946:=0
def tw18330893614722013306:=0
def tw14115341390459734318:=0
def tw13613217279829350098:=0
def tw4620924889932628203:=0
def tw10239907792584838971:=0
def tw8914195520190017806:=0
def tw630343191937523375:=0
def tw4727189319976189721:=0
def tw13318439202146076201:=0
def tw13101056499585017287:=0
def tw15688745686938528038:=0
def tw11009857252039903708:=0
def tw5421946739803562206:=0
def tw8411486130230384645:=0
def tw1638787781570836207:=0
def tw13291179752116857085:=0
def tw6718062519557000959:=0
def tw6025230061731547334:=0
def tw5063878645536053261:=0
def tw3338366584599595300:=0
def tw2883581535329587791:=0
def tw17001832321766726184:=0
def tw1620637794487609985:=0
def tw13913321901267765047:=0
def tw12387354210752690151:=0
def tw16390596360443280586:=0
def tw11835775287471826579:=0
def tw12520607837529354969:=0
def tw9905673548409505254:=0
def tw8983806117973904336:=0
def tw7929232310436034745:=0
def tw7389677332868877705:=0
def tw4027204967841531808:=0
def tw3131407635259822164:=0
def tw17992307999937740745:=0
def tw15160550149025273951:=0
def tw14142122365847159860:=0
def tw11932367178056614655:=0
def tw11527814567634013548:=0
def tw10472780039463152667:=0
def tw17743034199103205771:=0
def tw14484389988169992213:=0
def tw3426386672827795267:=0
def tw9749881917950305518:=0
def tw5957131305711503617:=0
def tw9424546424541717491:=0
def tw7047877623442263526:=0
def tw6453298959615815158:=0
def tw6422657643017176679:=0
def tw6106644883824060412:=0
def tw6101857901308536677:=0
def tw5704051029033314426:=0
def tw5267562693535663122:=0
def tw5024704046664770195:=0
def tw4858692247307008694:=0
def tw4348431310490102311:=0
def tw4078926643810386351:=0
def tw3989831846918077487:=0
def tw3933068301662934222:=0
def tw3393528798414362441:=0
def tw3392069884507515752:=0
def tw3277392702131468432:=0
def tw2681871509429324474:=0
def tw232615284731965297:=0
def tw2175922383265948257:=0
def tw18214662624211060188:=0
def tw18014610242106046334:=0
def tw17894861114496744129:=0
def tw17636317842049393393:=0
def tw17607499436452944293:=0
def tw17598082235331597272:=0
def tw17124018337571695031:=0
def tw16381043061038409486:=0
def tw16336180621193288937:=0
def tw16154374139855654420:=0
def tw16025622093334268629:=0
def tw15981553759274309764:=0
def tw15960180694739137521:=0
def tw15565696161868418800:=0
def tw15194979546125786030:=0
def tw14772593276079233495:=0
def tw14355095033938928512:=0
def tw14155592207432457760:=0
def tw14133140171627564445:=0
def tw14009435529215425845:=0
def tw12805921756212703454:=0
def tw12793562035129025140:=0
def tw12761124714819575089:=0
def tw119582643373798032:=0
def tw11942733041341558416:=0
def tw11707809263231791095:=0
def tw11623751839379238546:=0
def tw11580687656411947209:=0
def tw11217937238897606562:=0
def tw11193605037278835879:=0
def tw10856172134070657967:=0
def tw10629010207480415222:=0
def tw7982560011385949677:=0
def tw8265560294056168436:=0
def tw6116427636676993465:=0
def tw18398338562985671435:=0
def tw7634826703567306297:=0
def tw2277202718495783856:=0
def tw18435747658419978256:=0
def tw18430409884034678614:=0
def tw15879141489415186940:=0
def tw14913208457581607447:=0
def tw14813976068154075149:=0
def tw10376561876952570099:=0
def tw16019625699652540683:=0
def tw13019916565480556707:=0
def tw3521879095331349426:=0
def tw16333532140994478000:=0
def tw15361080858425896384:=0
def tw12101254987615742956:=0
def tw11325239055707242650:=0
end PySem.W.Fast
set_option Elab.async false
set_option linter.all false
set_option maxRecDepth 100000
abbrev aH:=@if_neg
abbrev aL:=@if_pos
abbrev bO:=@decide_eq_true_eq
abbrev cS:=@beq_iff_eq
abbrev cV:=@beq_eq_false_iff_ne
abbrev dE:=@decide_eq_false
abbrev dH:=@congrArg
abbrev dO:=@if_false
abbrev dR:=@beq_self_eq_true
abbrev dX:=@decide_eq_true
open Array renaming length_toList->bV,toList_append->cO,getElem?_toList->dA,toList_extract->eW,perm_iff_toList_perm->iW,toList_reverse->nK,size_extract->oN,toArray_toList->sD,getElem?_eq_none_iff->jv,getElem?_eq_getElem->l6
open Bool renaming not_false->bI,not_true->bL,false_ne_true->bQ,and_eq_true->bY,false_eq_true->cA,eq_iff_iff->cD,eq_false_iff->dS,false_and->fK,or_eq_true->nU,and_false->oM,true_and->pF,or_false->tI,not_eq_true'->HD
open Classical renaming byContradiction->oT
open Int renaming toNat_natCast->cE,eq_ofNat_of_zero_le->dU,le_refl->iC,le_of_lt->pX
open List renaming getElem?_eq_getElem->aA,getElem?_eq_some_iff->aC,length_map->aE,length_append->aI,getElem?_map->aK,take_succ_eq_append_getElem->aM,take_of_length_le->aQ,size_toArray->aR,mem_singleton->aT,map_append->aU,mem_of_getElem?->aV,mem_append_right->aZ,mem_cons_self->bB,mem_cons_of_mem->bC,getElem?_append_left->bE,length_cons->bF,lookup_cons->bH,mem_cons->bK,getElem?_append_right->bN,mem_map->bP,mem_range->bR,mem_append->bS,length_take->bU,getD_eq_getElem?_getD->bZ,map_cons->cF,length_singleton->cJ,append_assoc->cM,append_nil->cN,mem_append_left->cP,getElem_mem->cW,all_eq_true->cX,mem_filter->cY,getElem_of_mem->dJ,pairwise_iff_getElem->dM,extract_eq_take_drop->dP,pairwise_lt_range->dQ,map_map->eC,take_append_drop->eJ,find?_cons->eN,getElem_toArray->eU,any_eq_true->eV,length_range->eY,filter_append->fI,replicate_succ->fN,not_mem_nil->fU,mem_flatMap->fV,length_drop->fW,findIdx?_eq_some_iff_getElem->gC,drop_eq_getElem_cons->gG,range_succ->gH,getElem?_set_ne->gP,flatMap_append->hV,getElem?_set_self->iG,nodup_cons->iI,any_cons->iK,length_filter_le->iN,mem_of_mem_take->iU,getElem?_of_mem->iV,filter_cons->lA,getElem?_take_of_lt->lL,length_set->lO,mem_filterMap->lW,length_eq_zero_iff->lZ,pairwise_map->mK,nodup_append->mL,flatten_cons->mM,length_nil->nT,map_congr_left->nX,all_map->oE,filterMap_map->oJ,getElem?_cons_zero->pQ,map_nil->pW,perm_append_comm->rK,length_replicate->rL,reverse_reverse->rX,drop_zero->rY,drop_drop->rZ,reverse_append->sU,filterMap_cons->sV,map_take->tE,map_drop->tF,all_cons->tH,zip_cons_cons->DM,reverse_perm->HB,getElem_take->HC,getElem_map->NZ,getElem_inj->OA,of_mem_zip->av,nil_append->aw,getElem?_zip_eq_some->ly
open List.Pairwise renaming filter->gQ
open List.Perm renaming refl->sC
open List.cons renaming inj->tG
open Nat renaming le_refl->aG,ne_of_lt->bW,zero_le->cG,lt_of_lt_of_le->cI,le_trans->cR,lt_irrefl->dY,lt_of_le_of_lt->fH,sub_self->fJ,lt_succ_of_lt->gO,testBit_div_two->hJ,zero_add->iE,lt_or_eq_of_le->iF,testBit_zero->iZ,testBit_two_pow->lE,testBit_and->lN,le_of_lt_succ->mJ,eq_of_testBit_eq->nH,testBit_two_pow_sub_one->oC,add_sub_cancel_left->pP,le_of_lt->pV,testBit_or->rV,le_succ->rW,lt_succ_self->NY,mul_one->OL,mul_add->OM,two_pow_pos->au,ge_two_pow_of_testBit->lw
open Nat.succ renaming inj->mI
open Ne renaming symm->cH
open Option renaming map_eq_some_iff->aO,bind_eq_some_iff->cZ,isSome_map->gL,map_eq_none_iff->pU
open Option.some renaming inj->dC,injEq->HA
open PyProof.Rows renaming wpS_bind->aY,wpS_pure->bJ,slot_tuple_getitem->dW,wpS_forRange->eE,wpS_mono->fP,callWith_type1->fQ,wpS_modify->mO,wpS_get->DK,listUpdate_at->DO,wpS_lift->lq,seqEpoch_at->lr
open PySem renaming wpAny_bind->aF,wpAny_pure->aS,sizeLine_eq->dG,tupleKind_room_in1->eD,mem_of_lookup->eF,wpAny_newObj_type->eO,wpAny_holding->eS,wpAny_truthy_bool->fR,wpAny_call_entry->gF,wpAny_typeNameOfWhole_keyiter->iO,wpAny_rule->iP,wpAny_Call_Name_kw->iQ,wpAny_passesOwn->iT,wpAny_mono->lJ,wpAny_typeOf->lV,wpAny_typeNameOf_keyiter->mG,wpAny_callSpecial?_slot->mS,wpAny_dictEntries->nF,wpAny_notOrdered_dict->nW,wpAny_pyIter_list->rD,atKey_none_of_get->rE,wpAny_newList->rJ,wpAny_pyNext_list_item->sP,call_meetsIn->sQ,call_meets->sR,wpAny_execs_nil->sY,codeAny_builtin->sZ,wpAny_pyNext_list_end->DL,storedH_new->GY,wpAny_attempt->OH,plainId_quiet->OI,builtinLookup_eq_fast->bn,wpAny_Call_method->jr,codeAny_mono->jt
open PySem.Around renaming under_plainId->oO
open PySem.AutoSeq1 renaming wpAny_loadPart'->NX
open PySem.Calls renaming spliced_cons->gR,callWith_builtin->iR,spliced_nil->nJ,evalArgs_plain->oK,call_function_entry->pY
open PySem.F renaming plainAttrs_list->bT,type_list_append->cK,slot_list_append->cL,slot_dict_keyiterator_next->eP,slot_list_extend->gU,slot_list_getattribute->hW,slot_dict_get->iM,type_list_extend->lK,args_tuple_add_2->pE,plainAttrs_dict->pN,entry_tuple_add->pO,slot_tuple_add->pS,entry_dict_get->pT,args_dict_keyiterator_next_1->sT,entry_dict_keyiterator_next->tD,slot_dict_setdefault->aq,kt_typeCall_dict_1->ju,slot_dict_getitem->lu
open PySem.Heap renaming get?_push_of_some->aP,lt_size->bD,get?_push_size->bX,get?_push_ne->lB,get?_update_other->nI,get?_update_self->nY,size_update->oF
open PySem.Heap.SameBut renaming update->mC
open PySem.Obj renaming data_mapFields->ar
open PySem.Paired renaming length->eT
open PySem.PassesOwn renaming never->bM
open PySem.W renaming mg_of->aW,mg_none_of->dB,kia_one->eM,callWith_K->oI,plainGet_of->sS
open Sum.inl renaming inj->rT
open Sum.inr renaming inj->OJ
namespace L2
open PySem PySem.Spec PyProof.Rows
variable {a b f it:Addr} {A:Around} {CX:lp} {op:CmpOp} {X:Cx} {D:sO} {c e o tg:Expr} {fd:FuncData} {base h h':Heap} {H H':Hp} {aJ:List (Addr×Obj)} {kw:List (Str×Value)} {ch fp:List Addr} {outer:List Env} {es:List Expr} {N ns ps:List Str} {vs xs:List V} {its us:List Value} {M:Model} {i j n t':Nat} {lY pos':Pos} {P prog:Program} {K:W.Frag} {R:Result->Shared->Prop} {s:Shared} {sp:Sp} {σ:St} {qual:Str} {mA mg:Str->Option Value} {T:String} {ta te:TE} {tb:TS} {α:Type} {v y:V} {u:Value} {E Q:Value->Shared->Prop} {w:World}
local macro_rules | `(()) => `(by lia)
abbrev eI:=Sum Int Str
def ZP:eI->Value->Bool
 | .inl k,v=>Value.isInt k v
 | .inr x,v=>Value.isStrOf x v
def keyH(w:World):eI->Int
 | .inl k=>hashInt k
 | .inr x=>hashStr w x
theorem yR:∀{k:eI}{v:Value},ZP k v=true->(∃i t,k=Sum.inl i/\v=Value.int i t)\/(∃x t,k=Sum.inr x/\v=Value.str x t)
 | .inl i,v,h=>by
   obtain⟨t,e⟩:=Value.isInt_shape (k:=i) (v:=v) h;exact .inl ⟨i,t,rfl,e⟩
 | .inr x,v,h=>by
   obtain⟨t,e⟩:=Value.isStrOf_shape (x:=x) (v:=v) h;exact .inr ⟨x,t,rfl,e⟩
theorem NB(i:Int)(t:Tok):ZP (.inl i) (.int i t)=true:=by simp[ZP,Value.isInt]
theorem NA(x:Str)(t:Tok):ZP (.inr x) (.str x t)=true:=by simp[ZP,Value.isStrOf]
theorem ql(a b:Int):decide ((Sum.inl a:eI)=Sum.inl b)=(a==b):=by
 by_cases e:a=b
 ·subst e;simp
 ·have h:¬(Sum.inl a:eI)=Sum.inl b:=λq=>e (rT q)
  rw[dE h];exact(cV.mpr e).symm
theorem qi(a b:Str):decide ((Sum.inr a:eI)=Sum.inr b)=decide (a=b):=by
 by_cases e:a=b
 ·subst e;simp
 ·have h:¬(Sum.inr a:eI)=Sum.inr b:=λq=>e (OJ q)
  rw[dE h,dE e]
theorem qk(a:Int)(b:Str):decide ((Sum.inl a:eI)=Sum.inr b)=false:=dE (λq=>nomatch q)
theorem qj(a:Str)(b:Int):decide ((Sum.inr a:eI)=Sum.inl b)=false:=dE (λq=>nomatch q)
def yB(prog:Program)(w:World):PySem.KeyKind prog w eI where
 is:=ZP
 hash:=keyH w
 inj:=λv a b ha hb=>by
  rcases yR ha with⟨i,t,rfl,rfl⟩ |⟨x,t,rfl,rfl⟩
  ·rcases yR hb with⟨j,u,rfl,e⟩ |⟨y,u,rfl,e⟩
   ·injection e with e1 _;rw[e1]
   ·exact nomatch e
  ·rcases yR hb with⟨j,u,rfl,e⟩ |⟨y,u,rfl,e⟩
   ·exact nomatch e
   ·injection e with e1 _;rw[e1]
 byValue:=λk v h=>by
  rcases yR h with⟨i,t,rfl,rfl⟩ |⟨x,t,rfl,rfl⟩<;>rfl
 pyHash:=λhv h=>by
  rcases yR hv with⟨i,t,rfl,rfl⟩ |⟨x,t,rfl,rfl⟩
  ·exact wpAny_pyHash_int h
  ·exact wpAny_pyHash_str h
 eqBool:=λhu hv h=>by
  rcases yR hu with⟨i,t,rfl,rfl⟩ |⟨x,t,rfl,rfl⟩
  ·rcases yR hv with⟨j,u,rfl,rfl⟩ |⟨y,u,rfl,rfl⟩
   ·rw[ql]at h;exact wpAny_eqBool_int h
   ·rw[qk]at h;exact SeqAt.EqAt.int_str i t y u _ _ _ _ h
  ·rcases yR hv with⟨j,u,rfl,rfl⟩ |⟨y,u,rfl,rfl⟩
   ·rw[qj]at h;exact SeqAt.EqAt.str_int x t j u _ _ _ _ h
   ·rw[qi]at h;exact wpAny_eqBool_str h
 «strs»:=λk x t v h=>by
  rcases yR h with⟨i,u,rfl,e⟩ |⟨y,u,rfl,e⟩
  ·exact nomatch e
  ·injection e with e1 _
   subst e1;cases v<;>rfl
theorem BR(prog:Program)(w:World)(i:Int)(t:Tok):(yB prog w).is (.inl i) (.int i t)=true:=NB i t
theorem vE(prog:Program)(w:World)(x:Str)(t:Tok):(yB prog w).is (.inr x) (.str x t)=true:=NA x t
inductive V where
 |non |bl (b:Bool) |int (i:Int) |str (x:Str) |byt (b:Array UInt8) |flt (b:UInt64) |ref (a:Addr) |ty (n:String)
 deriving DecidableEq
def RelV:V->Value->Prop
 | .non,u=>u=Value.none
 | .bl b,u=>u=Value.bool b
 | .int i,u=>∃t,u=Value.int i t
 | .str x,u=>∃t,u=Value.str x t
 | .byt b,u=>∃t,u=Value.bytes b t
 | .flt b,u=>∃t,u=Value.float b t
 | .ref a,u=>u=Value.ref a
 | .ty n,u=>u=Value.type n
abbrev dD:List V->List Value->Prop:=Paired RelV
theorem dD.length(r:dD xs us):xs.length=us.length:=eT r
theorem dD.get:∀{xs:List V}{us:List Value}{i:Nat}{x:V},dD xs us->xs[i]?=some x->∃u,us[i]?=some u/\RelV x u
 |_,_,_,_,.nil,e=>by simp at e
 |_,_,0,_,.cons r _,e=>by simp at e;subst e;exact⟨_,rfl,r⟩
 |_,_,i+1,x,.cons _ t,e=>by
  obtain⟨u,h1,h2⟩:=dD.get (i:=i) (x:=x) t (by simpa using e);exact⟨u,by simpa using h1,h2⟩
theorem dD.set{x:V}{u:Value}(r:RelV x u):∀{xs:List V}{us:List Value}(i:Nat),dD xs us->dD (xs.set i x) (us.set i u)
 |_,_,_,.nil=>.nil
 |_,_,0,.cons _ t=>.cons r t
 |_,_,i+1,.cons q t=>.cons q (dD.set r i t)
theorem dD.append:∀{xs ys:List V}{us ws:List Value},dD xs us->dD ys ws->dD (xs++ys) (us++ws)
 |_,_,_,_,.nil,s=>s
 |_,_,_,_,.cons r t,s=>.cons r (dD.append t s)
theorem dD.take:∀{xs:List V}{us:List Value}(n:Nat),dD xs us->dD (xs.take n) (us.take n)
 |_,_,0,_=>.nil
 |_,_,_+1,.nil=>.nil
 |_,_,n+1,.cons r t=>.cons r (dD.take n t)
theorem dD.drop:∀{xs:List V}{us:List Value}(n:Nat),dD xs us->dD (xs.drop n) (us.drop n)
 |_,_,0,r=>r
 |_,_,_+1,.nil=>.nil
 |_,_,n+1,.cons _ t=>dD.drop n t
def mQ:Option V->Option Value->Prop
 |some v,some u=>RelV v u
 |none,none=>True
 |_,_=>False
def KV{κ:Type}:List (κ×V)->List (κ×Value)->Prop:=Paired λ(p:κ×V)(q:κ×Value)=>p.1=q.1/\RelV p.2 q.2
def kV:eI->V
 | .inl i=>.int i
 | .inr x=>.str x
inductive HO where
 |lst (xs:List V)
 |tup (xs:List V)
 |dK (kvs:List (eI×V)) |dT (kvs:List (List eI×V))
 |set (S:Int->Bool) (n:Nat)
 |ins (C dx:Addr) (fs:List (Str×V))
 |own (x:Addr)
 |xd (fs:List (Str×V))
 |met (f x:Addr)
 |rng (lo hi:Int)
 |frz (o:Obj) (u:HO)
 |tbl (ps:Array Value)
 |ext (φ:Heap->Prop)
abbrev Hp:=Addr->Option HO
def upd(H:Hp)(a:Addr)(o:HO):Hp:=λb=>if b=a then some o else H b
theorem zB{o:HO}:upd H a o a=some o:=by unfold upd;rw[aL rfl]
theorem zJ{o:HO}(h:b≠a):upd H a o b=H b:=by unfold upd;rw[aH h]
theorem YD{o u:HO}:upd (upd H a o) a u=upd H a u:=by
 funext b;unfold upd;split<;>rfl
theorem jK{o u:HO}(h:H a=some o)(h':H b=some u)(d:o≠u):a≠b:=by
 intro e;subst e;rw[h]at h';exact d (dC h')
theorem xD{o:HO}(h:H a=some o)(h':H b=none):a≠b:=by
 intro e;subst e;rw[h]at h';cases h'
section
variable (P:Program) (w:World)
def fA(H:Hp)(h:Heap)(a:Addr):HO->Prop
 | .lst xs=>xs.length<=sizeLine/\∃(its:List Value)(n:Nat),dD xs its/\h.get? a=some {cls:=.type "list",data:=.seq its.toArray n}
 | .tup xs=>xs.length<=sizeLine/\∃its:List Value,dD xs its/\IsTup h a its.toArray
 | .dK kvs=>kvs.length<=sizeLine/\(a==sysModules)=false/\∃vs,KV kvs vs/\h.DictOf (yB P w) a vs
 | .dT kvs=>kvs.length<=sizeLine/\(a==sysModules)=false/\∃xs:List (List eI×Addr×Value),
  Paired (λ(p:List eI×V) (q:List eI×Addr×Value)=>p.1=q.1/\H q.2.1=some (.tup (p.1.map kV))/\RelV p.2 q.2.2) kvs xs/\
  ∃o es ep,h.get? a=some o/\o.ExactDict/\o.data=.dict es ep/\es.toList=xs.map (entryOfKey (tupleKind (yB P w)))/\(xs.map (·.1)).Nodup
 | .set S n=>h.SetOf (intKind P w) a S n
 | .ins C dx fs=>H dx=some (.own a)/\fs.length<=1000/\dx≠a/\h.get? a=some (W.instObj C dx)/\
  ∃mA,h.Ns1 dx mA/\(∀f,mQ (fs.lookup f) (mA f))/\PySem.Within mA (fs.map (·.1))
 | .own _=>∃o,h.get? a=some o
 | .xd fs=>∃mA,h.Ns1 a mA/\∀f,mQ (fs.lookup f) (mA f)
 | .rng lo hi=>∃t u v,h.get? a=some {cls:=.type "range",data:=.fields #[.int lo t,.int hi u,.int 1 v]}
 | .frz o u=>h.get? a=some o/\fA H h a u
 | .tbl ps=>h.get? a=some {cls:=.none,data:=.fields ps}
 | .met f x=>h.get? a=some (W.methodObj (.ref f) (.ref x))
 | .ext φ=>φ h/\(∃o,h.get? a=some o)/\∀h1 h2:Heap,φ h1->(∀o,h1.get? a=some o->h2.get? a=some o)->φ h2
def mR(H:Hp)(h:Heap):Prop:=∀a o,H a=some o->fA P w H h a o
end
section
variable {o:HO}
theorem fA.lt(x:fA P w H h a o):a<h.objs.size:=by
 cases o with
 |lst xs=>obtain⟨_,_,_,_,e⟩:=x;exact bD e
 |tup xs=>obtain⟨_,_,_,p⟩:=x;exact p.lt
 |dK kvs=>obtain⟨_,_,_,_,o,_,_,e,_⟩:=x;exact bD e
 |dT kvs=>obtain⟨_,_,_,_,o,_,_,e,_⟩:=x;exact bD e
 |set S n=>obtain⟨o,_,_,_,e,_⟩:=x;exact bD e
 |ins C dx fs=>obtain⟨_,_,_,e,_⟩:=x;exact bD e
 |own y=>obtain⟨_,e⟩:=x;exact bD e
 |xd fs=>obtain⟨_,⟨_,_,_,e,_⟩,_⟩:=x;exact bD e
 |rng lo hi=>obtain⟨_,_,_,e⟩:=x;exact bD e
 |frz ob u=>obtain⟨e,_⟩:=x;exact bD e
 |tbl ps=>exact bD (show h.get? a=some _ from x)
 |met f y=>exact bD (show h.get? a=some _ from x)
 |ext φ=>obtain⟨_,⟨_,e⟩,_⟩:=x;exact bD e
theorem Paired.mapP{α β:Type}{F G:α->β->Prop}:∀{l₁:List α}{l₂:List β},Paired F l₁ l₂->(∀a b,F a b->G a b)->Paired G l₁ l₂
 |_,_,.nil,_=>.nil
 |_,_,.cons r t,f=>.cons (f _ _ r) (Paired.mapP t f)
theorem fA.stay(x:fA P w H h a o)(k:∀b u,(b=a\/H b=some (.own a))->h.get? b=some u->h'.get? b=some u)
 (ho:∀b,H b=some (.own a)->H' b=some (.own a)) (ht:∀b xs,H b=some (.tup xs)->H' b=some (.tup xs)):fA P w H' h' a o:=by
 induction o with
 |lst xs=>obtain⟨z,its,n,r,e⟩:=x;exact⟨z,its,n,r,k _ _ (.inl rfl) e⟩
 |tup xs=>obtain⟨z,its,r,ob,e,c⟩:=x;exact⟨z,its,r,ob,k _ _ (.inl rfl) e,c⟩
 |dK kvs=>obtain⟨z,y,vs,r,ob,es,ep,e,c⟩:=x;exact⟨z,y,vs,r,ob,es,ep,k _ _ (.inl rfl) e,c⟩
 |dT kvs=>
  obtain⟨z,y,xs,r,ob,es,ep,e,c⟩:=x;exact⟨z,y,xs,Paired.mapP r λp q z=>⟨z.1,ht _ _ z.2.1,z.2.2⟩,ob,es,ep,k _ _ (.inl rfl) e,c⟩
 |set S n=>obtain⟨ob,es,ep,t,e,c⟩:=x;exact⟨ob,es,ep,t,k _ _ (.inl rfl) e,c⟩
 |ins C dx fs=>
  obtain⟨d,z,ne,e,mA,⟨od,es,ep,e2,c⟩,r⟩:=x;exact⟨ho _ d,z,ne,k _ _ (.inl rfl) e,mA,⟨od,es,ep,k _ _ (.inr d) e2,c⟩,r⟩
 |own y=>obtain⟨ob,e⟩:=x;exact⟨ob,k _ _ (.inl rfl) e⟩
 |xd fs=>obtain⟨mA,⟨od,es,ep,e,c⟩,r⟩:=x;exact⟨mA,⟨od,es,ep,k _ _ (.inl rfl) e,c⟩,r⟩
 |rng lo hi=>obtain⟨t,u,v,e⟩:=x;exact⟨t,u,v,k _ _ (.inl rfl) e⟩
 |frz ob u ih=>obtain⟨e,q⟩:=x;exact⟨k _ _ (.inl rfl) e,ih q⟩
 |tbl ps=>
  have e:h.get? a=some {cls:=.none,data:=.fields ps}:=x;show h'.get? a=some {cls:=.none,data:=.fields ps};exact k a _ (.inl rfl) e
 |met f y=>
  have e:h.get? a=some (W.methodObj (.ref f) (.ref y)):=x;show h'.get? a=some (W.methodObj (.ref f) (.ref y));exact k a _ (.inl rfl) e
 |ext φ=>obtain⟨p,⟨o,e⟩,st⟩:=x;exact⟨st _ _ p λo q=>k _ _ (.inl rfl) q,⟨o,k _ _ (.inl rfl) e⟩,st⟩
theorem mR.lt(x:mR P w H h)(e:H a=some o):a<h.objs.size:=(x a o e).lt
theorem mR.fresh(x:mR P w H h)(e:h.objs.size<=a):H a=none:=by
 cases q:H a with
 |none=>rfl
 |some u=>exact absurd (cI (x.lt q) e) (dY _)
theorem mR.kept(x:mR P w H h)(k:∀b u,h.get? b=some u->h'.get? b=some u):mR P w H h':=λa o e=>
 (x a o e).stay (λb u _ q=>k b u q) (λ_ q=>q) λ_ _ q=>q
theorem mR.laid(x:mR P w H h)(k:∀b u,h.get? b=some u->h'.get? b=some u)(hp:h.objs.size<=a)(new:fA P w (upd H a o) h' a o):mR P w (upd H a o) h':=λb u e=>by
 have hn:=x.fresh hp;by_cases hb:b=a
 ·subst hb;rw[zB]at e;cases e;exact new
 ·rw[zJ hb]at e;exact(x b u e).stay (λc v _ q=>k c v q) (λc q=>by rw[zJ (xD q hn)];exact q) λc xs q=>by rw[zJ (xD q hn)];exact q
end
def Rd(H:Hp)(a:Addr)(u:HO):Prop:=H a=some u\/∃o,H a=some (.frz o u)
theorem Rd.ok{u:HO}(r:Rd H a u)(x:mR P w H h):fA P w H h a u:=by
 rcases r with r |⟨o,r⟩
 ·exact x a u r
 ·obtain⟨_,q⟩:=x a _ r;exact q
def Mut:Option HO->Prop
 |some (.lst _)=>True
 |some (.dK _)=>True
 |some (.dT _)=>True
 |some (.set _ _)=>True
 |some (.ins _ _ _)=>True
 |some (.ext _)=>True
 |_=>False
section
variable {x e:Addr} {o':HO}
theorem mR.write(ok:mR P w H h)(mu:Mut (H x))(he:e=x\/H e=some (.own x))(k:∀b u,b≠e->h.get? b=some u->h'.get? b=some u)(heo:∃u,h'.get? e=some u)
 (new:fA P w (upd H x o') h' x o'):mR P w (upd H x o') h':=λb u q=>by
 have nown:∀c y,H c=some (.own y)->c≠x:=λc y r z=>by subst z;rw[r]at mu;exact mu
 have ntup:∀c xs,H c=some (.tup xs)->c≠x:=λc xs r z=>by subst z;rw[r]at mu;exact mu
 by_cases hb:b=x
 ·subst hb;rw[zB]at q;cases q;exact new
 ·rw[zJ hb]at q;by_cases hbe:b=e
  ·have q':H b=some (.own x):=by
    rcases he with z |z
    ·exact absurd (hbe.trans z) hb
    ·rw[hbe];exact z
   rw[q]at q';cases q';obtain⟨v,hv⟩:=heo;exact⟨v,by rw[hbe];exact hv⟩
  ·refine(ok b u q).stay (λc v hc r=>k c v ?_ r) (λc r=>by rw[zJ (nown c b r)];exact r) λc xs r=>by rw[zJ (ntup c xs r)];exact r
   rcases hc with rfl |hc
   ·exact hbe
   ·rintro rfl;rcases he with z |z
    ·exact nown c b hc z
    ·rw[hc]at z;cases z;exact hb rfl
end
structure Un(fs ex:List Addr)(H H':Hp)(h h':Heap):Prop where
 keep:∀b o,h.get? b=some o->H b=none->b∉fs->b∉ex->h'.get? b=some o
 slot:∀b o,h.get? b=some o->H b=none->b∈fs->b∉ex->∃sl,h'.get? b=some {o with slots:=sl}
 free:∀b o,h.get? b=some o->H b=none->b∉ex->H' b=none
 there:∀b o,h.get? b=some o->b∉ex->∃o',h'.get? b=some o'
 tups:∀b xs,H b=some (.tup xs)->H' b=some (.tup xs)
 frzs:∀b o u,H b=some (.frz o u)->H' b=some (.frz o u)
 tbls:∀b ps,H b=some (.tbl ps)->∃more,H' b=some (.tbl (ps++more))
section
variable {fs fs' ex ex':List Addr} {H1 H2:Hp} {h1 h2:Heap} {x e:Addr} {o:HO}
theorem Un.any(u:Un fs ex H H1 h h1){ob:Obj}(q:h.get? b=some ob)(n:H b=none)(hx:b∉ex):∃sl,h1.get? b=some {ob with slots:=sl}:=by
 by_cases hb:b∈fs
 ·exact u.slot b ob q n hb hx
 ·exact⟨ob.slots,u.keep b ob q n hb hx⟩
theorem Un.trans(a:Un fs ex H H1 h h1)(b:Un fs ex H1 H2 h1 h2):Un fs ex H H2 h h2 where
 keep:=λc ob q n hc hx=>b.keep c ob (a.keep c ob q n hc hx) (a.free c ob q n hx) hc hx
 slot:=λc ob q n hc hx=>by
  obtain⟨sl,e1⟩:=a.slot c ob q n hc hx;obtain⟨sl',e2⟩:=b.slot c _ e1 (a.free c ob q n hx) hc hx;exact⟨sl',e2⟩
 free:=λc ob q n hx=>by
  obtain⟨o',e1⟩:=a.there c ob q hx;exact b.free c o' e1 (a.free c ob q n hx) hx
 there:=λc ob q hx=>by
  obtain⟨o',e1⟩:=a.there c ob q hx;exact b.there c o' e1 hx
 tups:=λc xs q=>b.tups c xs (a.tups c xs q)
 frzs:=λc ob xs q=>b.frzs c ob xs (a.frzs c ob xs q)
 tbls:=λc ps q=>by
  obtain⟨m1,e1⟩:=a.tbls c ps q;obtain⟨m2,e2⟩:=b.tbls c _ e1;exact⟨m1++m2,by rw[e2,Array.append_assoc]⟩
theorem Un.kept(k:∀b u,h.get? b=some u->h'.get? b=some u):Un fs ex H H h h':=
 ⟨λb ob q _ _ _=>k b ob q,λb ob q _ _ _=>⟨ob.slots,k b ob q⟩,λ_ _ _ n _=>n,λb ob q _=>⟨ob,k b ob q⟩,λ_ _ q=>q,λ_ _ _ q=>q,λ_ ps q=>⟨#[],by rw[q];simp⟩⟩
theorem Un.refl:Un fs ex H H h h:=Un.kept λ_ _ q=>q
theorem Un.laid(k:∀b u,h.get? b=some u->h'.get? b=some u)(hp:h.objs.size<=a)(hn:H a=none):Un fs ex H (upd H a o) h h' where
 keep:=λb u q _ _ _=>k b u q
 slot:=λb u q _ _ _=>⟨u.slots,k b u q⟩
 free:=λb u q n _=>by rw[zJ (bW (cI (bD q) hp))];exact n
 there:=λb u q _=>⟨u,k b u q⟩
 tups:=λb xs q=>by rw[zJ (xD q hn)];exact q
 frzs:=λb u xs q=>by rw[zJ (xD q hn)];exact q
 tbls:=λb ps q=>⟨#[],by rw[zJ (xD q hn),q];simp⟩
theorem Un.write(mu:Mut (H x))(he:e=x\/H e=some (.own x))(k:∀b u,b≠e->h.get? b=some u->h'.get? b=some u)(heo:∃u,h'.get? e=some u):Un fs ex H (upd H x o) h h':=by
 have hx:∀b,H b=none->b≠x:=λb n z=>by subst z;rw[n]at mu;exact mu
 have hb:∀b,H b=none->b≠e:=λb n z=>by
  subst z;rcases he with r |r
  ·exact hx b n r
  ·rw[n]at r;cases r
 have hm:∀b u,H b=some u->¬Mut (some u)->b≠x:=λb u q nm z=>by subst z;rw[q]at mu;exact nm mu
 refine⟨λb u q n _ _=>k b u (hb b n) q,λb u q n _ _=>⟨u.slots,k b u (hb b n) q⟩,λb u q n _=>by rw[zJ (hx b n)];exact n,λb u q _=>?_,
  λb xs q=>by rw[zJ (hm b _ q λz=>z)];exact q,λb u xs q=>by rw[zJ (hm b _ q λz=>z)];exact q,λb ps q=>⟨#[],by rw[zJ (hm b _ q λz=>z),q];simp⟩⟩
 by_cases hbe:b=e
 ·subst hbe;exact heo
 ·exact⟨u,k b u hbe q⟩
end
def trk(h:Heap)(H:Hp):List Addr:=(List.range h.objs.size).filter λa=>(H a).isSome
def VD(h:Heap)(H:Hp):Heap:=W.hideAll h (trk h H)
theorem NF(h:Heap)(H:Hp):(VD h H).objs.size=h.objs.size:=W.hideAll_size _ _
theorem WA{o:Obj}(e:h.get? b=some o)(n:H b=none):(VD h H).get? b=some o:=
 W.hideAll_get _ e λhm=>by
  have q:(H b).isSome=true:=(cY.mp hm).2;rw[n]at q;simp at q
theorem f8{o:Obj}(e:(VD h H).get? b=some o):h.get? b=some o/\H b=none:=by
 have e':h.get? b=some o:=W.of_hideAll (trk h H) e;refine⟨e',?_⟩;cases q:H b with
 |none=>rfl
 |some x=>
  have hm:b∈trk h H:=cY.mpr ⟨bR.mpr (bD e'),by simp[q]⟩;have z:(VD h H).get? b=none:=W.hideAll_none (trk h H) hm;rw[z]at e;cases e
def jc(g h:Heap)(L:Addr):List (Addr×Obj):=(List.range h.objs.size).filterMap λa=>if a=L\/(g.get? a).isSome=true then none else(h.get? a).map λo=>(a,o)
def rest(g h:Heap)(L d:Addr):List (Addr×Obj):=(jc g h L).filter λp=>decide (p.1≠d)
structure Mod(K:W.Frag)(mg:Str->Option Value)(base:Heap):Prop where
 kin:K.In base
 glob:base.Ns mainGlobals mg
 blt:∃mb,base.Ns builtinsNs mb/\∀x:Str,x≠"__name__"->mb x=bootBuiltins x
 nolimit:base.NoLimit
structure Cx where
 prog:Program
 w:World
 K:W.Frag
 mg:Str->Option Value
 base:Heap
 A:Around
 N:List Str
 s₀:Shared
 H₀:Hp
 env:Env
 outer:List Env
 stack:List Env
 ex:List Addr
 fn:Str->Bool
 calm:Bool
 pn:List (Addr×Obj)
 xe:Value->Shared->Prop
def GA(l:List Env):List Addr:=l.filterMap (·.frame)
abbrev Cx.fs(X:Cx):List Addr:=GA X.outer
def Vis(sc:Scope)(x:Str):Prop:=sc.names.lookup x=some .local\/sc.names.lookup x=some .cell\/sc.names.lookup x=some .free
def Loc(sc:Scope)(x:Str):Prop:=sc.names.lookup x=some .local\/sc.names.lookup x=some .cell
def Look(env:Env)(h:Heap)(m:Str->Option Value)(x:Str)(u:Value):Prop:=
 (env.kindOf x=some .local/\m x=some u)\/((env.kindOf x=some .cell\/env.kindOf x=some .free)/\∃c,env.cells.lookup x=some c/\h.IsCell c (some u))
structure Cx.Ok(X:Cx):Prop where
 mod:Mod X.K X.mg X.base
 kind:X.env.scope.kind=.function
 glob:X.env.globals=mainGlobals
 blt:X.env.builtins=builtinsNs
 above:X.s₀.heap.objs.size<=X.env.locals
 inj:∀x y c,X.env.cells.lookup x=some c->X.env.cells.lookup y=some c->x=y
 has:∀x,(X.env.kindOf x=some .cell\/X.env.kindOf x=some .free)->∃c,X.env.cells.lookup x=some c
 cab:∀x c,X.fn x=true->X.env.cells.lookup x=some c->X.s₀.heap.objs.size<=c
 hd:X.calm=true->X.A.handled=none
 frames:X.A.frames=some X.stack
 stk:X.stack=X.outer\/(X.stack=X.env::X.outer/\X.env.frame=some X.env.locals)
 exf:∀b∈X.ex,b≠X.env.locals/\∀x c,X.env.cells.lookup x=some c->c≠b
 bs:∀b o,X.base.get? b=some o->X.s₀.heap.get? b=some o/\X.H₀ b=none
 bsz:X.base.objs.size<=X.s₀.heap.objs.size
 noex:∀b o,X.base.get? b=some o->b∉X.ex
 exfs:∀b∈X.ex,b∉X.fs
 funs:X.s₀.heap.FunFrames X.base X.outer
 frf:∀b∈X.fs,X.H₀ b=none
structure Inv(X:Cx)(aJ:List (Addr×Obj))(σ:List (Option V))(H:Hp)(s:Shared):Prop where
 ok:X.Ok
 os:s.os=X.s₀.os
 bare:AllBare s.gens
 base:Un X.fs X.ex X.H₀ H X.s₀.heap s.heap
 loc:∃m,s.heap.Ns X.env.locals m/\∀(i:Nat)(x:Str)(v:V),X.N[i]?=some x->σ[i]?=some (some v)->Vis X.env.scope x->∃u,RelV v u/\Look X.env s.heap m x u
 cell:∀x c,X.env.cells.lookup x=some c->∃v,s.heap.IsCell c v
 free:H X.env.locals=none
 freeC:∀x c,X.env.cells.lookup x=some c->H c=none
 pin:∀p∈X.pn++aJ,s.heap.get? p.1=some p.2/\H p.1=none/\p.1≠X.env.locals/\p.1∉X.fs/\∀v,p.2.data≠.cell v
 hok:mR X.prog X.w H s.heap
 len:σ.length=X.N.length
section
variable {σ:List (Option V)}
theorem Cx.Ok.nofr(ok:X.Ok){o:Obj}(e:X.base.get? b=some o):b∉X.fs:=λhb=>by
 have :=(ok.funs.mem hb).1;rw[e]at this;cases this
theorem Inv.bs(I:Inv X aJ σ H s):∀b o,X.base.get? b=some o->s.heap.get? b=some o/\H b=none:=λb o e=>
 ⟨I.base.keep b o (I.ok.bs b o e).1 (I.ok.bs b o e).2 (I.ok.nofr e) (I.ok.noex b o e),I.base.free b o (I.ok.bs b o e).1 (I.ok.bs b o e).2 (I.ok.noex b o e)⟩
theorem Inv.bk(I:Inv X aJ σ H s):∀b o,X.base.get? b=some o->s.heap.get? b=some o:=λb o e=>(I.bs b o e).1
theorem Inv.mod(I:Inv X aJ σ H s):Mod X.K X.mg X.base:=I.ok.mod
theorem Inv.kIn(I:Inv X aJ σ H s):X.K.In s.heap:=I.ok.mod.kin.keeps I.bk
theorem Inv.lt(I:Inv X aJ σ H s):X.env.locals<s.heap.objs.size:=let ⟨_,hn,_⟩:=I.loc;hn.lt
theorem Inv.sz(I:Inv X aJ σ H s):X.s₀.heap.objs.size<=s.heap.objs.size:=cR I.ok.above (pV I.lt)
theorem Inv.nofs(I:Inv X aJ σ H s)(h:s.heap.objs.size<=a):a∉X.fs:=λhb=>by
 obtain⟨_,o,ho,_⟩:=I.ok.funs.mem hb;exact absurd (cI (bD ho) (cR I.sz h)) (dY _)
theorem Inv.cne(I:Inv X aJ σ H s):∀x c,X.env.cells.lookup x=some c->c≠X.env.locals:=λx c e z=>by
 obtain⟨v,o,ho,hd⟩:=I.cell x c e;obtain⟨m,⟨o',es,ep,ho',hd',_⟩,_⟩:=I.loc;rw[z,ho']at ho;cases ho;rw[hd']at hd;cases hd
theorem Inv.funs(I:Inv X aJ σ H s):s.heap.FunFrames X.base X.outer:=by
 have all:∀(l:List Env),(∀b∈GA l,b∈X.fs)->X.s₀.heap.FunFrames X.base l->s.heap.FunFrames X.base l:=by
  intro l
  induction l with
  |nil=>intro _ _;trivial
  |cons env r ih=>
   intro hs hl;obtain⟨hk,⟨L,o,hf,hn,ho,hd⟩,hr⟩:=hl;have hL:L∈X.fs:=hs L (by unfold GA;rw[sV,hf];exact bB);obtain⟨sl,e⟩:=I.base.slot L o ho (I.ok.frf L hL) hL λz=>I.ok.exfs L z hL
   exact⟨hk,⟨L,_,hf,hn,e,hd⟩,ih (λb hb=>hs b (by unfold GA;rw[sV,hf];exact bC _ hb)) hr⟩
 exact all X.outer (λ_ hb=>hb) I.ok.funs
theorem Inv.stack(I:Inv X aJ σ H s):s.heap.FunFrames X.base X.stack:=by
 rcases I.ok.stk with e |⟨e,hf⟩
 ·rw[e];exact I.funs
 ·rw[e];obtain⟨m,hn,_⟩:=I.loc;refine .cons (by rw[I.ok.kind];decide) hf hn ?_ I.funs;exact Heap.get?_none_of_le (cR I.ok.bsz I.ok.above)
theorem Inv.stkSub(I:Inv X aJ σ H s):∀b∈GA X.stack,b∈X.env.locals::X.fs:=λb hb=>by
 rcases I.ok.stk with e |⟨e,hf⟩
 ·rw[e]at hb;exact bC _ hb
 ·rw[e]at hb;unfold GA at hb;rw[sV,hf]at hb;exact hb
theorem Inv.stkFree(I:Inv X aJ σ H s):∀b∈GA X.stack,H b=none:=λb hb=>by
 rcases bK.mp (I.stkSub b hb)with e |hb
 ·rw[e];exact I.free
 ·obtain⟨_,o,ho,_⟩:=I.ok.funs.mem hb;exact I.base.free b o ho (I.ok.frf b hb) λz=>I.ok.exfs b z hb
theorem Inv.step{g':Array GenState}{d':Drawn}(I:Inv X aJ σ H s)
 (hch:∀b∈ch,(b∈X.ex\/X.s₀.heap.objs.size<=b)/\b≠X.env.locals/\(∀x c,X.env.cells.lookup x=some c->c≠b)/\∀p∈X.pn++aJ,p.1≠b)
 (keep:∀b o,b≠X.env.locals->b∉X.fs->b∉ch->s.heap.get? b=some o->H b=none->h'.get? b=some o)
 (slot:∀b o,b≠X.env.locals->b∈X.fs->b∉ch->s.heap.get? b=some o->H b=none->∃sl,h'.get? b=some {o with slots:=sl}) (free:∀b o,b∉ch->s.heap.get? b=some o->H b=none->H' b=none)
 (there:∀b o,b∉ch->s.heap.get? b=some o->∃o',h'.get? b=some o')
 (tups:∀b xs,H b=some (.tup xs)->H' b=some (.tup xs)) (frzs:∀b o u,H b=some (.frz o u)->H' b=some (.frz o u)) (tbls:∀b ps,H b=some (.tbl ps)->∃more,H' b=some (.tbl (ps++more)))
 (ns:∀m,s.heap.Ns X.env.locals m->h'.Ns X.env.locals m) (hok:mR X.prog X.w H' h') (hg:AllBare g'):
 Inv X aJ σ H' {s with heap:=h',gens:=g',drawn:=d',toks:=t'}:=by
 have neL:∀b o,X.s₀.heap.get? b=some o->b≠X.env.locals:=λb o e=>bW (cI (bD e) I.ok.above)
 have neC:∀b o,X.s₀.heap.get? b=some o->b∉X.ex->b∉ch:=λb o e hx hb=>by
  rcases(hch b hb).1 with z |z
  ·exact hx z
  ·exact absurd (cI (bD e) z) (dY _)
 have cellK:∀x c,X.env.cells.lookup x=some c->∀v,s.heap.IsCell c v->h'.IsCell c v:=λx c e v ⟨o,ho,hd⟩=>by
  have nch:c∉ch:=λz=>(hch c z).2.2.1 x c e rfl
  by_cases hc:c∈X.fs
  ·obtain⟨sl,q⟩:=slot c o (I.cne x c e) hc nch ho (I.freeC x c e);exact⟨_,q,hd⟩
  ·exact⟨o,keep c o (I.cne x c e) hc nch ho (I.freeC x c e),hd⟩
 refine⟨I.ok,I.os,hg,⟨λb o e n hb hx=>?_,λb o e n hb hx=>?_,λb o e n hx=>?_,λb o e hx=>?_,λb xs e=>tups b xs (I.base.tups b xs e),λb o xs e=>frzs b o xs (I.base.frzs b o xs e),λb ps e=>?_⟩,?_,λx c e=>?_,?_,λx c e=>?_,λp hp=>?_,hok,I.len⟩
 ·exact keep b o (neL b o e) hb (neC b o e hx) (I.base.keep b o e n hb hx) (I.base.free b o e n hx)
 ·obtain⟨sl,e1⟩:=I.base.slot b o e n hb hx;obtain⟨sl',e2⟩:=slot b _ (neL b o e) hb (neC b o e hx) e1 (I.base.free b o e n hx);exact⟨sl',e2⟩
 ·obtain⟨o',e1⟩:=I.base.there b o e hx;exact free b o' (neC b o e hx) e1 (I.base.free b o e n hx)
 ·obtain⟨o',e1⟩:=I.base.there b o e hx;exact there b o' (neC b o e hx) e1
 ·obtain⟨m1,e1⟩:=I.base.tbls b ps e;obtain⟨m2,e2⟩:=tbls b _ e1;exact⟨m1++m2,by rw[e2,Array.append_assoc]⟩
 ·obtain⟨m,hn,hl⟩:=I.loc;refine⟨m,ns m hn,λi x v e1 e2 e3=>?_⟩;obtain⟨u,r,l⟩:=hl i x v e1 e2 e3;refine⟨u,r,?_⟩;rcases l with l |⟨k,c,e,z⟩
  ·exact .inl l
  ·exact .inr ⟨k,c,e,cellK x c e _ z⟩
 ·obtain⟨v,z⟩:=I.cell x c e;exact⟨v,cellK x c e v z⟩
 ·obtain⟨m,⟨o,_,_,ho,_⟩,_⟩:=I.loc;exact free _ o (λz=>(hch _ z).2.1 rfl) ho I.free
 ·obtain⟨v,o,ho,hd⟩:=I.cell x c e;exact free c o (λz=>(hch c z).2.2.1 x c e rfl) ho (I.freeC x c e)
 ·obtain⟨e,n,ne,nf,d⟩:=I.pin p hp;have nch:p.1∉ch:=λz=>(hch p.1 z).2.2.2 p hp rfl
  exact⟨keep p.1 p.2 ne nf nch e n,free p.1 p.2 nch e n,ne,nf,d⟩
theorem Inv.un(I:Inv X aJ σ H s)(u:Un X.fs [] H H' s.heap h')(hok:mR X.prog X.w H' h'):Inv X aJ σ H' {s with heap:=h',toks:=t'}:=by
 obtain⟨m,⟨o,es,ep,ho,r⟩,_⟩:=id I.loc;obtain⟨sl,hL⟩:=u.any ho I.free (by simp);exact I.step (g':=s.gens) (d':=s.drawn) (ch:=[]) (λ_ z=>nomatch z) (λb o _ hb _ e n=>u.keep b o e n hb (by simp)) (λb o _ hb _ e n=>u.slot b o e n hb (by simp)) (λb o _ e n=>u.free b o e n (by simp)) (λb o _ e=>u.there b o e (by simp)) u.tups u.frzs u.tbls (λm' hm=>by
  obtain⟨o',es',ep',ho',r'⟩:=hm;rw[ho]at ho';cases ho';exact⟨_,es',ep',hL,r'⟩) hok I.bare
theorem Inv.call{g':Array GenState}{d':Drawn}(I:Inv X aJ σ H s)(u:Un (GA X.stack) ch H H' s.heap h')(hok:mR X.prog X.w H' h')(hg:AllBare g')
 (hch:∀b∈ch,(b∈X.ex\/X.s₀.heap.objs.size<=b)/\b≠X.env.locals/\(∀x c,X.env.cells.lookup x=some c->c≠b)/\∀p∈X.pn++aJ,p.1≠b):
 Inv X aJ σ H' {s with heap:=h',gens:=g',drawn:=d',toks:=t'}:=by
 obtain⟨m,⟨o,es,ep,ho,r⟩,_⟩:=id I.loc;obtain⟨sl,hL⟩:=u.any ho I.free λz=>(hch _ z).2.1 rfl
 exact I.step (ch:=ch) hch (λb o hL hb hc e n=>u.keep b o e n (λz=>(bK.mp (I.stkSub b z)).elim hL hb) hc) (λb o _ _ hc e n=>u.any e n hc) (λb o hc e n=>u.free b o e n hc) (λb o hc e=>u.there b o e hc) u.tups u.frzs u.tbls (λm' hm=>by
  obtain⟨o',es',ep',ho',r'⟩:=hm;rw[ho]at ho';cases ho';exact⟨_,es',ep',hL,r'⟩) hok hg
theorem Inv.turned(I:Inv X aJ σ H s)(k:∀b o,b≠it->s.heap.get? b=some o->h'.get? b=some o)(hn:H it=none)(hL:it≠X.env.locals)
 (h1:it∈X.ex\/X.s₀.heap.objs.size<=it) (h2:∀x c,X.env.cells.lookup x=some c->c≠it) (h3:∀p∈X.pn++aJ,p.1≠it):Inv X aJ σ H {s with heap:=h',toks:=t'}:=by
 have nit:∀b u,H b=some u->b≠it:=λb u e z=>by rw[z,hn]at e;cases e
 refine I.step (g':=s.gens) (d':=s.drawn) (ch:=[it]) (λb hb=>?_) (λb o _ _ hc e _=>k b o (λz=>hc (by simp[z])) e) (λb o _ _ hc e _=>⟨o.slots,k b o (λz=>hc (by simp[z])) e⟩) (λ_ _ _ _ n=>n)
  (λb o hc e=>⟨o,k b o (λz=>hc (by simp[z])) e⟩) (λ_ _ e=>e) (λ_ _ _ e=>e) (λb ps e=>⟨#[],by rw[e];simp⟩) (λm hm=>?_) (λb u e=>?_) I.bare
 ·have e:b=it:=by simpa using hb
  subst e;exact⟨h1,hL,h2,h3⟩
 ·obtain⟨o,es,ep,ho,r⟩:=hm;exact⟨o,es,ep,k _ o (cH hL) ho,r⟩
 ·refine(I.hok b u e).stay (λc v hc q=>k c v ?_ q) (λ_ q=>q) λ_ _ q=>q
  rcases hc with z |z
  ·rw[z];exact nit b u e
  ·exact nit c _ z
theorem Inv.tok(I:Inv X aJ σ H s)(t:Nat):Inv X aJ σ H {s with toks:=t}:=I.un (h':=s.heap) (t':=t) Un.refl I.hok
theorem Inv.kept(I:Inv X aJ σ H s)(k:∀b u,s.heap.get? b=some u->h'.get? b=some u):Inv X aJ σ H {s with heap:=h',toks:=t'}:=I.un (Un.kept k) (I.hok.kept k)
theorem Inv.laid{o:HO}(I:Inv X aJ σ H s)(k:∀b u,s.heap.get? b=some u->h'.get? b=some u)(hp:s.heap.objs.size<=a)(new:fA X.prog X.w (upd H a o) h' a o):
 Inv X aJ σ (upd H a o) {s with heap:=h',toks:=t'}:=I.un (Un.laid k hp (I.hok.fresh hp)) (I.hok.laid k hp new)
theorem Inv.write{x e:Addr}{o:HO}(I:Inv X aJ σ H s)(mu:Mut (H x))(he:e=x\/H e=some (.own x))(k:∀b u,b≠e->s.heap.get? b=some u->h'.get? b=some u)(heo:∃u,h'.get? e=some u)
 (new:fA X.prog X.w (upd H x o) h' x o):Inv X aJ σ (upd H x o) {s with heap:=h',toks:=t'}:=I.un (Un.write mu he k heo) (I.hok.write mu he k heo new)
theorem Inv.pins_of{pins':List (Addr×Obj)}(I:Inv X aJ σ H s)(h:∀p∈pins',s.heap.get? p.1=some p.2/\H p.1=none/\p.1≠X.env.locals/\p.1∉X.fs/\∀v,p.2.data≠.cell v):Inv X pins' σ H s:=
 ⟨I.ok,I.os,I.bare,I.base,I.loc,I.cell,I.free,I.freeC,λp hp=>(bS.mp hp).elim (λz=>I.pin p (cP _ z)) (h p),I.hok,I.len⟩
theorem BO(hN:N.Nodup){x:Str}(a:N[i]?=some x)(b:N[j]?=some x):i=j:=by
 obtain⟨h1,e1⟩:=aC.mp a;obtain⟨h2,e2⟩:=aC.mp b;exact(OA hN).mp (e1.trans e2.symm)
theorem JW{x:Str}{Q:Unit->Shared->Prop}(I:Inv X aJ σ H s)(hN:X.N.Nodup)(hi:X.N[i]?=some x)(hx:Loc X.env.scope x)(r:RelV v u)
 (h:∀s',Inv X aJ (σ.set i (some v)) H s'->(∃a,Heap.SameBut a s.heap s'.heap/\(a=X.env.locals\/X.env.cells.lookup x=some a))->Q Unit.unit s') (hf:X.fn x=true\/X.env.scope.names.lookup x=some .local:=by first |exact .inl rfl |exact .inr rfl |assumption):wpAny M A (storeName X.env x u) Q E s:=by
 obtain⟨m,hn,hl⟩:=id I.loc;have hcls:(X.env.scope.kind==.class ||(X.env.scope.kind==.module&&X.env.locals !=X.env.globals))=false:=by rw[I.ok.kind];rfl
 have hiσ:i<σ.length:=by rw[I.len];exact(aC.mp hi).1
 have cne:=I.cne;have tracked:∀{a:Addr}{h':Heap},(∃o,s.heap.get? a=some o/\H a=none)->Heap.SameBut a s.heap h'->mR X.prog X.w H h':=λ{a h'} ha hs b ob e=>by
  obtain⟨_,_,hfree⟩:=ha;refine(I.hok b ob e).stay (λc w' hc q=>(hs.2 c ?_).trans q) (λ_ q=>q) λ_ _ q=>q
  rintro rfl;rcases hc with rfl |hc
  ·rw[hfree]at e;cases e
  ·rw[hfree]at hc;cases hc
 rcases hx with hk |hk
 ·refine wpAny_storeName_local hk hn (λh' hn' hs=>?_) hcls;obtain⟨oL,_,_,hoL,_⟩:=id hn;refine h _ ⟨I.ok,I.os,I.bare,⟨λb o e n hb hx=>?_,λb o e n hb hx=>?_,I.base.free,λb o e hx=>?_,I.base.tups,I.base.frzs,I.base.tbls⟩,⟨_,hn',λj y v' e1 e2 e3=>?_⟩,λy c e=>?_,I.free,I.freeC,λp hp=>?_,tracked ⟨oL,hoL,I.free⟩ hs,by simpa using I.len⟩ ⟨_,hs,.inl rfl⟩
  ·exact(hs.2 b (bW (cI (bD e) I.ok.above))).trans (I.base.keep b o e n hb hx)
  ·obtain⟨sl,e1⟩:=I.base.slot b o e n hb hx;exact⟨sl,(hs.2 b (bW (cI (bD e) I.ok.above))).trans e1⟩
  ·obtain⟨o',e1⟩:=I.base.there b o e hx;exact⟨o',(hs.2 b (bW (cI (bD e) I.ok.above))).trans e1⟩
  ·by_cases hj:j=i
   ·subst hj;rw[hi]at e1;cases e1;rw[iG hiσ]at e2;cases e2;exact⟨u,r,.inl ⟨hk,by simp⟩⟩
   ·rw[gP (cH hj)]at e2;obtain⟨u',r',q⟩:=hl j y v' e1 e2 e3;refine⟨u',r',?_⟩;rcases q with⟨k,e⟩ |⟨k,c,e,z⟩
    ·refine .inl ⟨k,?_⟩;have :y≠x:=λe=>hj (BO hN e1 (e▸hi))
     simp[this,e]
    ·exact .inr ⟨k,c,e,z.sameBut hs (cne y c e)⟩
  ·obtain⟨w',z⟩:=I.cell y c e;exact⟨w',z.sameBut hs (cne y c e)⟩
  ·obtain⟨e,n,ne,nf,d⟩:=I.pin p hp;exact⟨(hs.2 p.1 ne).trans e,n,ne,nf,d⟩
 ·have hfn:X.fn x=true:=by
   rcases hf with z |z
   ·exact z
   ·rw[z]at hk;cases hk
  obtain⟨c,hc⟩:=I.ok.has x (.inl hk);obtain⟨w',z⟩:=I.cell x c hc;refine wpAny_storeName_cell I.ok.kind hk hc z (λh' hc' hs=>?_);obtain⟨oc,hoc,hocd⟩:=id z;refine h {s with heap:=h'} ⟨I.ok,I.os,I.bare,⟨λb o e n hb hx=>?_,λb o e n hb hx=>?_,I.base.free,λb o e hx=>?_,I.base.tups,I.base.frzs,I.base.tbls⟩,⟨m,hn.sameBut hs (cH (cne x c hc)),λj y v' e1 e2 e3=>?_⟩,λy c' e=>?_,I.free,I.freeC,λp hp=>?_,tracked ⟨oc,hoc,I.freeC x c hc⟩ hs,by simpa using I.len⟩ ⟨c,hs,.inr hc⟩
  ·exact(hs.2 b (bW (cI (bD e) (I.ok.cab x c hfn hc)))).trans (I.base.keep b o e n hb hx)
  ·obtain⟨sl,e1⟩:=I.base.slot b o e n hb hx;exact⟨sl,(hs.2 b (bW (cI (bD e) (I.ok.cab x c hfn hc)))).trans e1⟩
  ·obtain⟨o',e1⟩:=I.base.there b o e hx;exact⟨o',(hs.2 b (bW (cI (bD e) (I.ok.cab x c hfn hc)))).trans e1⟩
  ·by_cases hj:j=i
   ·subst hj;rw[hi]at e1;cases e1;rw[iG hiσ]at e2;cases e2;exact⟨u,r,.inr ⟨.inl hk,c,hc,hc'⟩⟩
   ·rw[gP (cH hj)]at e2;obtain⟨u',r',q⟩:=hl j y v' e1 e2 e3;refine⟨u',r',?_⟩;rcases q with q |⟨k,c',e,z'⟩
    ·exact .inl q
    ·refine .inr ⟨k,c',e,z'.sameBut hs ?_⟩;rintro rfl;exact hj (BO hN e1 (I.ok.inj _ _ _ e hc▸hi))
  ·by_cases hcc:c'=c
   ·subst hcc;exact⟨_,hc'⟩
   ·obtain⟨w2,z2⟩:=I.cell y c' e;exact⟨w2,z2.sameBut hs hcc⟩
  ·obtain⟨e,n,ne,nf,d⟩:=I.pin p hp;refine⟨(hs.2 p.1 ?_).trans e,n,ne,nf,d⟩;intro q;rw[q,hoc]at e;have q':oc=p.2:=dC e;exact d w' (by rw[←q'];exact hocd)
theorem YZ{x:Str}{Q:Unit->Shared->Prop}(I:Inv X aJ σ H s)(hN:X.N.Nodup)(hi:X.N[i]?=some x)(hx:Loc X.env.scope x)(r:RelV v u)
 (h:∀s',Inv X aJ (σ.set i (some v)) H s'->Q Unit.unit s') (hf:X.fn x=true\/X.env.scope.names.lookup x=some .local:=by first |exact .inl rfl |exact .inr rfl |assumption):wpAny M A (storeName X.env x u) Q E s:=
 JW I hN hi hx r (λs' I' _=>h s' I') hf
theorem Inv.call'{s':Shared}(I:Inv X aJ σ H s)(ho:s'.os=s.os)(u:Un (GA X.stack) ch H H' s.heap s'.heap)(hok:mR X.prog X.w H' s'.heap)(hg:AllBare s'.gens)
 (hch:∀b∈ch,(b∈X.ex\/X.s₀.heap.objs.size<=b)/\b≠X.env.locals/\(∀x c,X.env.cells.lookup x=some c->c≠b)/\∀p∈X.pn++aJ,p.1≠b):Inv X aJ σ H' s':=by
 obtain⟨h',g',d',t',o'⟩:=s';have e:o'=s.os:=ho;subst e;exact I.call (g':=g') (t':=t') (d':=d') u hok hg hch
end
abbrev XK:=Value->Option Addr->Hp->Prop
abbrev St:=List (Option V)
abbrev VK:=V->Hp->Prop
abbrev TE:=St->Hp->VK->Prop
abbrev TT:=St->Hp->(Bool->Hp->Prop)->Prop
abbrev TA:=St->Hp->(List V->Hp->Prop)->Prop
structure sO where
 nx:St->Hp->Prop
 rt:VK
 bk:St->Hp->Prop:=λ_ _=>False
 ct:St->Hp->Prop:=λ_ _=>False
abbrev TS:=sO->St->Hp->Prop
def EP(X:Cx)(aJ:List (Addr×Obj))(σ:St)(Q:VK)(u:Value)(s':Shared):Prop:=∃v H',Inv X aJ σ H' s'/\RelV v u/\Q v H'
def TP(X:Cx)(aJ:List (Addr×Obj))(σ:St)(Q:Bool->Hp->Prop)(b:Bool)(s':Shared):Prop:=∃H',Inv X aJ σ H' s'/\Q b H'
def AP(X:Cx)(aJ:List (Addr×Obj))(σ:St)(Q:List V->Hp->Prop)(us:List Value)(s':Shared):Prop:=∃vs H',Inv X aJ σ H' s'/\dD vs us/\Q vs H'
def SP(X:Cx)(aJ:List (Addr×Obj))(D:sO)(f:Flow)(s':Shared):Prop:=
 match f with
 | .next=>∃σ' H',Inv X aJ σ' H' s'/\D.nx σ' H'
 | .brk=>∃σ' H',Inv X aJ σ' H' s'/\D.bk σ' H'
 | .cont=>∃σ' H',Inv X aJ σ' H' s'/\D.ct σ' H'
 | .ret u=>∃v σ' H',Inv X aJ σ' H' s'/\RelV v u/\D.rt v H'
def PE(X:Cx)(e:Expr)(t:TE):Prop:=
 ∀(aJ:List (Addr×Obj))(s:Shared)(σ:St)(H:Hp)(Q:VK),Inv X aJ σ H s->t σ H Q->wpAny (model X.prog X.w) X.A (eval e X.env) (EP X aJ σ Q) X.xe s
def PT(X:Cx)(e:Expr)(t:TT):Prop:=
 ∀(aJ:List (Addr×Obj))(s:Shared)(σ:St)(H:Hp)(Q:Bool->Hp->Prop),Inv X aJ σ H s->t σ H Q->wpAny (model X.prog X.w) X.A (isTrue e X.env (eval e X.env)) (TP X aJ σ Q) X.xe s
def PW(X:Cx)(e:Expr)(t:TT):Prop:=
 ∀(whole:Sem Value)(aJ:List (Addr×Obj))(s:Shared)(σ:St)(H:Hp)(Q:Bool->Hp->Prop),Inv X aJ σ H s->t σ H Q->wpAny (model X.prog X.w) X.A (isTrue e X.env whole) (TP X aJ σ Q) X.xe s
theorem PW.pt{t:TT}(h:PW X e t):PT X e t:=h _
def PA(X:Cx)(es:List Expr)(t:TA):Prop:=
 ∀(pos:Pos)(aJ:List (Addr×Obj))(s:Shared)(σ:St)(H:Hp)(Q:List V->Hp->Prop),Inv X aJ σ H s->t σ H Q->wpAny (model X.prog X.w) X.A (spliced (backTo pos (starEach es X.env))) (AP X aJ σ Q) X.xe s
def PS(X:Cx)(st:Stmt)(t:TS):Prop:=
 ∀(aJ:List (Addr×Obj))(s:Shared)(σ:St)(H:Hp)(D:sO),Inv X aJ σ H s->t D σ H->wpAny (model X.prog X.w) X.A (exec st X.env) (SP X aJ D) X.xe s
def GS(X:Cx)(st:List Stmt)(t:TS):Prop:=
 ∀(aJ:List (Addr×Obj))(s:Shared)(σ:St)(H:Hp)(D:sO),Inv X aJ σ H s->t D σ H->wpAny (model X.prog X.w) X.A (execs st X.env) (SP X aJ D) X.xe s
theorem eL{t:Sem α}{Q Q':α->Shared->Prop}(h:wpAny M A t Q E s)(hQ:∀a s,Q a s->Q' a s):wpAny M A t Q' E s:=lJ h hQ λ_ _ x=>x
def sH(x:V)(k:Int->Prop):Prop:=match x with | .int i=>k i |_=>False
def mN(x:V)(k:Addr->Prop):Prop:=match x with | .ref i=>k i |_=>False
def ja(x:V)(k:Bool->Prop):Prop:=match x with | .bl i=>k i |_=>False
def asS(x:V)(k:Str->Prop):Prop:=match x with | .str i=>k i |_=>False
def asV(x:Option (Option V))(k:V->Prop):Prop:=match x with |some (some i)=>k i |_=>False
def asC(x:List V)(k:V->List V->Prop):Prop:=match x with |v::r=>k v r |_=>False
def pG(x:List V)(k:V->Prop):Prop:=match x with |[v]=>k v |_=>False
def bd(x:List V)(k:V->V->Prop):Prop:=match x with |[v,u]=>k v u |_=>False
def as0(x:List V)(k:Prop):Prop:=match x with |[]=>k |_=>False
def bb(x:Bool)(k:Prop):Prop:=match x with |true=>k |false=>False
theorem qB{x:V}{k:Int->Prop}(h:sH x k):∃i,x=.int i/\k i:=by cases x<;>first |exact⟨_,rfl,h⟩ |exact h.elim
theorem xI{x:V}{k:Addr->Prop}(h:mN x k):∃i,x=.ref i/\k i:=by cases x<;>first |exact⟨_,rfl,h⟩ |exact h.elim
theorem GO{x:V}{k:Bool->Prop}(h:ja x k):∃i,x=.bl i/\k i:=by cases x<;>first |exact⟨_,rfl,h⟩ |exact h.elim
theorem asS_{x:V}{k:Str->Prop}(h:asS x k):∃i,x=.str i/\k i:=by cases x<;>first |exact⟨_,rfl,h⟩ |exact h.elim
theorem su{x:Option (Option V)}{k:V->Prop}(h:asV x k):∃i,x=some (some i)/\k i:=by
 rcases x with _ |_ |i
 ·exact h.elim
 ·exact h.elim
 ·exact⟨i,rfl,h⟩
theorem asC_{x:List V}{k:V->List V->Prop}(h:asC x k):∃v r,x=v::r/\k v r:=by
 cases x
 ·exact h.elim
 ·exact⟨_,_,rfl,h⟩
theorem wE{x:List V}{k:V->Prop}(h:pG x k):∃v,x=[v]/\k v:=by
 rcases x with _ |⟨v,_ |_⟩
 ·exact h.elim
 ·exact⟨_,rfl,h⟩
 ·exact h.elim
theorem as2_{x:List V}{k:V->V->Prop}(h:bd x k):∃v u,x=[v,u]/\k v u:=by
 rcases x with _ |⟨v,_ |⟨u,_ |_⟩⟩
 ·exact h.elim
 ·exact h.elim
 ·exact⟨_,_,rfl,h⟩
 ·exact h.elim
theorem as0_{x:List V}{k:Prop}(h:as0 x k):x=[]/\k:=by
 cases x
 ·exact⟨rfl,h⟩
 ·exact h.elim
theorem DF{x:Bool}{k:Prop}(h:bb x k):x=true/\k:=by
 cases x
 ·exact h.elim
 ·exact⟨rfl,h⟩
theorem asT_e{x:Bool}{k:Prop}:bb x k=(x=true/\k):=propext ⟨DF,by rintro⟨rfl,h⟩;exact h⟩
theorem asT_i{k:Prop}:bb true k=k:=rfl
theorem mapC{β:Type}{f:α->β}{a:α}{l:List α}:List.map f (a::l)=f a::List.map f l:=rfl
theorem mapN{β:Type}{f:α->β}:List.map f []=[]:=rfl
theorem asI_e{x:V}{k:Int->Prop}:sH x k=∃i,x=.int i/\k i:=propext ⟨qB,by rintro⟨i,rfl,h⟩;exact h⟩
theorem asR_e{x:V}{k:Addr->Prop}:mN x k=∃i,x=.ref i/\k i:=propext ⟨xI,by rintro⟨i,rfl,h⟩;exact h⟩
theorem asB_e{x:V}{k:Bool->Prop}:ja x k=∃i,x=.bl i/\k i:=propext ⟨GO,by rintro⟨i,rfl,h⟩;exact h⟩
theorem asS_e{x:V}{k:Str->Prop}:asS x k=∃i,x=.str i/\k i:=propext ⟨asS_,by rintro⟨i,rfl,h⟩;exact h⟩
theorem asV_e{x:Option (Option V)}{k:V->Prop}:asV x k=∃i,x=some (some i)/\k i:=propext ⟨su,by rintro⟨i,rfl,h⟩;exact h⟩
theorem asC_e{x:List V}{k:V->List V->Prop}:asC x k=∃v r,x=v::r/\k v r:=propext ⟨asC_,by rintro⟨v,r,rfl,h⟩;exact h⟩
theorem as1_e{x:List V}{k:V->Prop}:pG x k=∃v,x=[v]/\k v:=propext ⟨wE,by rintro⟨v,rfl,h⟩;exact h⟩
theorem as2_e{x:List V}{k:V->V->Prop}:bd x k=∃v u,x=[v,u]/\k v u:=propext ⟨as2_,by rintro⟨v,u,rfl,h⟩;exact h⟩
theorem as0_e{x:List V}{k:Prop}:as0 x k=(x=[]/\k):=propext ⟨as0_,by rintro⟨rfl,h⟩;exact h⟩
theorem asI_i{i:Int}{k:Int->Prop}:sH (.int i) k=k i:=rfl
theorem asR_i{i:Addr}{k:Addr->Prop}:mN (.ref i) k=k i:=rfl
theorem asB_i{i:Bool}{k:Bool->Prop}:ja (.bl i) k=k i:=rfl
theorem asS_i{i:Str}{k:Str->Prop}:asS (.str i) k=k i:=rfl
theorem asV_i{i:V}{k:V->Prop}:asV (some (some i)) k=k i:=rfl
theorem asC_i{r:List V}{k:V->List V->Prop}:asC (v::r) k=k v r:=rfl
theorem as1_i{k:V->Prop}:pG [v] k=k v:=rfl
theorem as2_i{u:V}{k:V->V->Prop}:bd [v,u] k=k v u:=rfl
theorem as0_i{k:Prop}:as0 [] k=k:=rfl
section
def tVar(i:Nat):TE:=λσ H Q=>asV σ[i]? λv=>Q v H
def tC(v:V):TE:=λ_ H Q=>Q v H
theorem RX{x:Str}{pos:Pos}(hN:X.N[i]?=some x)(hv:Vis X.env.scope x)(hd:(x==("__debug__":Str))=false:=by decide)(hcd:(x==("__classdict__":Str))=false:=by decide):PE X (.Name x pos) (tVar i):=by
 intro aJ s σ H Q I h;replace h:=su h;obtain⟨v,e,h⟩:=h;obtain⟨m,hn,hl⟩:=I.loc;obtain⟨u,r,l⟩:=hl i x v hN e hv;have fin:EP X aJ σ Q u s:=⟨v,H,I,r,h⟩
 rcases l with⟨hk,hm⟩ |⟨hk,c,hc,hcell⟩
 ·exact wpAny_Name (wpAny_loadName_local I.ok.kind hk hn hm fin) hd
 ·rcases hk with hk |hk
  ·exact wpAny_Name (wpAny_loadName_cell I.ok.kind hk hc hcell fin) hd
  ·exact wpAny_Name (wpAny_loadName_free I.ok.kind hk hc hcell fin hcd) hd
theorem zE{i j pos}:PE X (.Constant (.int i) j pos) (tC (.int i)):=λ_ _ _ H _ I h=>wpAny_Constant_int ⟨.int i,H,I.tok _,⟨_,rfl⟩,h⟩
theorem IN{b j pos}:PE X (.Constant (.bool b) j pos) (tC (.bl b)):=λ_ _ _ H _ I h=>Constant_bool ⟨.bl b,H,I,rfl,h⟩
theorem uI{j pos}:PE X (.Constant .none j pos) (tC .non):=λ_ _ _ H _ I h=>Constant_none ⟨.non,H,I,rfl,h⟩
theorem zT{x j pos}:PE X (.Constant (.str x) j pos) (tC (.str x)):=λ_ _ _ H _ I h=>Calls.Constant_str ⟨.str x,H,I.tok _,⟨_,rfl⟩,h⟩
def Gl(X:Cx)(x:Str):Prop:=X.env.kindOf x=some .globalImplicit
theorem UX{x:Str}{pos:Pos}(I:Inv X aJ σ H s)(hg:Gl X x)(hm:X.mg x=some u)(h:Q u s)
 (hd:(x==("__debug__":Str))=false:=by decide):wpAny (model X.prog X.w) X.A (eval (.Name x pos) X.env) Q E s:=
 Calls.Name_function_global I.ok.kind hg (Calls.loadGlobal_global (by rw[I.ok.glob];exact I.mod.glob.keeps I.bk) hm h) hd
theorem wN{x:Str}{pos:Pos}(I:Inv X aJ σ H s)(hg:Gl X x)(hm:X.mg x=none)(hv:bootBuiltins x=some u)(h:Q u s)
 (hn:x≠"__name__":=by decide) (hd:(x==("__debug__":Str))=false:=by decide):wpAny (model X.prog X.w) X.A (eval (.Name x pos) X.env) Q E s:=by
 obtain⟨mb,h1,h2⟩:=I.mod.blt;exact Calls.Name_function_global I.ok.kind hg (Calls.loadGlobal_builtin (by rw[I.ok.glob];exact I.mod.glob.keeps I.bk) hm (by rw[I.ok.blt];exact h1.keeps I.bk) ((h2 x hn).trans hv) h) hd
theorem IL{x:Str}{pos:Pos}(hg:Gl X x)(hm:X.mg x=some u)(r:RelV v u)(hd:(x==("__debug__":Str))=false:=by decide):PE X (.Name x pos) (tC v):=
 λ_ _ _ H _ I h=>UX I hg hm ⟨v,H,I,r,h⟩ hd
theorem et{x:Str}{pos:Pos}(hg:Gl X x)(hm:X.mg x=none)(hv:bootBuiltins x=some u)(r:RelV v u)(hn:x≠"__name__":=by decide)(hd:(x==("__debug__":Str))=false:=by decide):PE X (.Name x pos) (tC v):=
 λ_ _ _ H _ I h=>wN I hg hm hv ⟨v,H,I,r,h⟩ hn hd
variable {a b:Expr} {tb:TE} {pos:Pos}
def PC(X:Cx)(op:CmpOp)(a b:Expr)(t:TE):Prop:=
 ∀(aJ:List (Addr×Obj)) (s:Shared) (σ:St) (H:Hp) (Q:VK),Inv X aJ σ H s->t σ H Q->
  wpAny (model X.prog X.w) X.A (eval a X.env) (λv s₁=>wpAny (model X.prog X.w) X.A (eval b X.env) (λu s₂=>wpAny (model X.prog X.w) X.A (compareOp op v u) (EP X aJ σ Q) X.xe s₂) X.xe s₁) X.xe s
theorem BP(b:Expr)(h:op≠.In)(h2:op≠.NotIn):behindInMarks op b=false:=by
 have e1:(op==CmpOp.In)=false:=by cases op<;>first |rfl |exact absurd rfl h
 have e2:(op==CmpOp.NotIn)=false:=by cases op<;>first |rfl |exact absurd rfl h2
 cases b<;>simp[behindInMarks,e1,e2]
def tB(t:TE):TT:=λσ H Q=>t σ H λx H1=>ja x λc=>Q c H1
theorem oz{t:TE}(h:PC X op a b t)(h1:behindInMarks op b=false:=by first |exact BP _ (by decide) (by decide) |rfl):PE X (.Compare a [op] [b] pos) t:=λaJ s σ H Q I hw=>wpAny_Compare1 (h aJ s σ H Q I hw) h1
theorem kU{t:TE}(h:PC X op a b t)(h1:behindInMarks op b=false:=by first |exact BP _ (by decide) (by decide) |rfl):PT X (.Compare a [op] [b] pos) (tB t):=by
 intro aJ s σ H Q I hw;refine wpAny_isTrue_Compare1 (eL (h aJ s σ H _ I hw) λv s1 h1=>eL h1 λu s2 h2=>eL h2 λc s3 ⟨x,H1,I1,r1,q1⟩=>?_) h1;replace q1:=GO q1;obtain⟨d,rfl,q⟩:=q1;cases r1;exact fR ⟨H1,I1,q⟩
theorem XG{t:TE}(h:PE X e t)(he:∀whole,isTrue e X.env whole=(do let v ←whole;standAt e.pos;holding [v] (truthy v)):=by intro _;rfl):PT X e (tB t):=by
 intro aJ s σ H Q I hw;refine isTrue_plain (eL (h aJ s σ H _ I hw) λv s1 ⟨x,H1,I1,r1,q1⟩=>?_) (he _);replace q1:=GO q1;obtain⟨d,rfl,q⟩:=q1;cases r1;exact fR ⟨H1,I1,q⟩
variable {tA tB':TT} {rest:List Expr}
def tAnd(t u:TT):TT:=λσ H Q=>t σ H λc H1=>if c=true then u σ H1 Q else Q false H1
def tOr(t u:TT):TT:=λσ H Q=>t σ H λc H1=>if c=true then Q true H1 else u σ H1 Q
def tNot(t:TT):TT:=λσ H Q=>t σ H λc H1=>Q (!c) H1
theorem vV(ha:PT X a tA):PW X (.BoolOp .And [a] pos) tA:=by
 intro wh aJ s σ H Q I h;refine isTrue_and (eL (ha aJ s σ H Q I h) λc s1 e=>?_);cases c with
 |true=>exact isTrue_and_nil e
 |false=>exact e
theorem om(ha:PT X a tA):PW X (.BoolOp .Or [a] pos) tA:=by
 intro wh aJ s σ H Q I h;refine isTrue_or (eL (ha aJ s σ H Q I h) λc s1 e=>?_);cases c with
 |false=>exact isTrue_or_nil e
 |true=>exact e
theorem uY(ha:PT X a tA)(hb:PW X (.BoolOp .And (b::rest) pos) tB'):PW X (.BoolOp .And (a::b::rest) pos) (tAnd tA tB'):=by
 intro wh aJ s σ H Q I h;refine isTrue_and (eL (ha aJ s σ H _ I h) λc s1 ⟨H1,I1,q1⟩=>?_);cases c with
 |true=>exact hb wh aJ s1 σ H1 Q I1 q1
 |false=>exact⟨H1,I1,q1⟩
theorem pw_or(ha:PT X a tA)(hb:PW X (.BoolOp .Or (b::rest) pos) tB'):PW X (.BoolOp .Or (a::b::rest) pos) (tOr tA tB'):=by
 intro wh aJ s σ H Q I h;refine isTrue_or (eL (ha aJ s σ H _ I h) λc s1 ⟨H1,I1,q1⟩=>?_);cases c with
 |true=>exact⟨H1,I1,q1⟩
 |false=>exact hb wh aJ s1 σ H1 Q I1 q1
theorem oq(ha:PT X a tA):PT X (.UnaryOp .Not a pos) (tNot tA):=by
 intro aJ s σ H Q I h;exact isTrue_not (ha aJ s σ H (λc H1=>Q (!c) H1) I h)
def tAndV(ta tb:TE):TE:=λσ H Q=>ta σ H λx H1=>ja x λc=>if c=true then tb σ H1 Q else Q (.bl false) H1
def tOrV(ta tb:TE):TE:=λσ H Q=>ta σ H λx H1=>ja x λc=>if c=true then Q (.bl true) H1 else tb σ H1 Q
def tNotV(ta:TE):TE:=λσ H Q=>ta σ H λx H1=>ja x λc=>Q (.bl (!c)) H1
theorem EN{op}{t:TE}(h:PE X a t):PE X (.BoolOp op [a] pos) t:=λaJ s σ H Q I hw=>BoolOp_one (h aJ s σ H Q I hw)
theorem EQ(ha:PE X a ta)(hb:PE X (.BoolOp .And (b::rest) pos) tb):PE X (.BoolOp .And (a::b::rest) pos) (tAndV ta tb):=by
 intro aJ s σ H Q I h;refine BoolOp_and (eL (ha aJ s σ H _ I h) λv s1 ⟨x,H1,I1,r1,q1⟩=>?_);replace q1:=GO q1;obtain⟨c,rfl,q1⟩:=q1;cases r1;refine fR ?_;cases c with
 |true=>exact hb aJ s1 σ H1 Q I1 q1
 |false=>exact⟨.bl false,H1,I1,rfl,q1⟩
theorem oy(ha:PE X a ta):PE X (.UnaryOp .Not a pos) (tNotV ta):=by
 intro aJ s σ H Q I h;refine UnaryOp_ (eL (ha aJ s σ H _ I h) λv s1 ⟨x,H1,I1,r1,q1⟩=>?_);replace q1:=GO q1;obtain⟨c,rfl,q1⟩:=q1;cases r1;exact not_of (fR ⟨.bl (!c),H1,I1,rfl,q1⟩)
def tIf(t:TT)(ta tb:TE):TE:=λσ H Q=>t σ H λc H1=>if c=true then ta σ H1 Q else tb σ H1 Q
theorem vB(hc:PT X c tA)(ha:PE X a ta)(hb:PE X b tb):PE X (.IfExp c a b pos) (tIf tA ta tb):=by
 intro aJ s σ H Q I h;refine wpAny_IfExp (eL (hc aJ s σ H _ I h) λd s1 ⟨H1,I1,q1⟩=>?_);cases d with
 |true=>exact ha aJ s1 σ H1 Q I1 q1
 |false=>exact hb aJ s1 σ H1 Q I1 q1
end
def dL(K:W.Frag)(H:Hp)(a:Addr)(xs:List V):Prop:=
 Rd H a (.lst xs)\/
  ∃(o:Obj)(its:Array Value)(n:Nat),K.lookup a=some o/\o.cls=.type "list"/\o.dict=none/\o.data=.seq its n/\its.size<=sizeLine/\dD xs its.toList
def dN(K:W.Frag)(H:Hp)(a:Addr)(xs:List V):Prop:=
 Rd H a (.tup xs)\/
  ∃(o:Obj)(its:Array Value)(n:Nat),K.lookup a=some o/\o.cls=.type "tuple"/\o.data=.seq its n/\its.size<=sizeLine/\dD xs its.toList
def absV:Value->Option V
 | .none=>some .non
 | .bool b=>some (.bl b)
 | .int i _=>some (.int i)
 | .str x _=>some (.str x)
 | .bytes b _=>some (.byt b)
 | .float b _=>some (.flt b)
 | .ref a=>some (.ref a)
 | .type n=>some (.ty n)
 |_=>none
theorem RelV.abs{x:V}(r:RelV x u):absV u=some x:=by
 cases x with
 |non=>cases r;rfl
 |bl _=>cases r;rfl
 |int _=>obtain⟨t,rfl⟩:=r;rfl
 |str _=>obtain⟨t,rfl⟩:=r;rfl
 |byt _=>obtain⟨t,rfl⟩:=r;rfl
 |flt _=>obtain⟨t,rfl⟩:=r;rfl
 |ref _=>cases r;rfl
 |ty _=>cases r;rfl
theorem RelV.inj{x:V}(r:RelV x u)(q:RelV y u):x=y:=dC (r.abs.symm.trans q.abs)
theorem dD.inj:∀{xs ys:List V}{us:List Value},dD xs us->dD ys us->xs=ys
 |_,_,_,.nil,.nil=>rfl
 |_,_,_,.cons r t,.cons r' t'=>by rw[r.inj r',dD.inj t t']
section
variable {ys:List V}
theorem dL.of(h:H a=some (.lst xs)):dL K H a xs:=.inl (.inl h)
theorem dN.of(h:H a=some (.tup xs)):dN K H a xs:=.inl (.inl h)
theorem Inv.list(I:Inv X aJ σ H s)(h:dL X.K H a xs):∃its:List Value,dD xs its/\PlainL s.heap a its.toArray/\xs.length<=sizeLine:=by
 rcases h with h |⟨o,its,n,hk,hc,hd,hs,hz,r⟩
 ·obtain⟨z,its,n,r,e⟩:=h.ok I.hok;exact⟨its,r,⟨_,n,e,rfl,rfl,rfl⟩,z⟩
 ·refine⟨its.toList,r,⟨o,n,I.kIn a o hk,hc,hd,by simpa using hs⟩,?_⟩;have e:=r.length;simp only[bV]at e;lia
theorem Inv.tuple(I:Inv X aJ σ H s)(h:dN X.K H a xs):∃its:List Value,dD xs its/\IsTup s.heap a its.toArray/\xs.length<=sizeLine:=by
 rcases h with h |⟨o,its,n,hk,hc,hs,hz,r⟩
 ·obtain⟨z,its,r,p⟩:=h.ok I.hok;exact⟨its,r,p,z⟩
 ·refine⟨its.toList,r,⟨o,I.kIn a o hk,hc,n,by simpa using hs⟩,?_⟩;have e:=r.length;simp only[bV]at e;lia
theorem Inv.list_inj(I:Inv X aJ σ H s)(h:dL X.K H a xs)(h':dL X.K H a ys):xs=ys:=by
 obtain⟨its,r,⟨o,n,e,_,_,d⟩,_⟩:=I.list h;obtain⟨its',r',⟨o',n',e',_,_,d'⟩,_⟩:=I.list h';rw[e]at e';cases e';rw[d]at d';injection d' with d1 _
 have :its=its':=by simpa using dH Array.toList d1
 subst this;exact r.inj r'
theorem Inv.tuple_inj(I:Inv X aJ σ H s)(h:dN X.K H a xs)(h':dN X.K H a ys):xs=ys:=by
 obtain⟨its,r,⟨o,e,_,n,d⟩,_⟩:=I.tuple h;obtain⟨its',r',⟨o',e',_,n',d'⟩,_⟩:=I.tuple h';rw[e]at e';cases e';rw[d]at d';injection d' with d1 _
 have :its=its':=by simpa using dH Array.toList d1
 subst this;exact r.inj r'
end
abbrev Cx.wish(X:Cx)(E:Value->Shared->Prop):Cx:={X with xe:=E}
abbrev Cx.nox(X:Cx):Cx:=X.wish λ_ _=>False
theorem Cx.Ok.wish(ok:X.Ok)(E:Value->Shared->Prop):(X.wish E).Ok:=
 ⟨ok.mod,ok.kind,ok.glob,ok.blt,ok.above,ok.inj,ok.has,ok.cab,ok.hd,ok.frames,ok.stk,ok.exf,ok.bs,ok.bsz,ok.noex,ok.exfs,ok.funs,ok.frf⟩
theorem Cx.Ok.unwish(ok:(X.wish E).Ok):X.Ok:=
 ⟨ok.mod,ok.kind,ok.glob,ok.blt,ok.above,ok.inj,ok.has,ok.cab,ok.hd,ok.frames,ok.stk,ok.exf,ok.bs,ok.bsz,ok.noex,ok.exfs,ok.funs,ok.frf⟩
theorem Inv.wish(I:Inv X aJ σ H s)(E:Value->Shared->Prop):Inv (X.wish E) aJ σ H s:=⟨I.ok.wish E,I.os,I.bare,I.base,I.loc,I.cell,I.free,I.freeC,I.pin,I.hok,I.len⟩
theorem Inv.unwish(I:Inv (X.wish E) aJ σ H s):Inv X aJ σ H s:=⟨I.ok.unwish,I.os,I.bare,I.base,I.loc,I.cell,I.free,I.freeC,I.pin,I.hok,I.len⟩
theorem SP.unwish{f:Flow}{s':Shared}(h:SP (X.wish E) aJ D f s'):SP X aJ D f s':=by
 cases f with
 |next=>obtain⟨σ',H',I,q⟩:=h;exact⟨σ',H',I.unwish,q⟩
 |brk=>obtain⟨σ',H',I,q⟩:=h;exact⟨σ',H',I.unwish,q⟩
 |cont=>obtain⟨σ',H',I,q⟩:=h;exact⟨σ',H',I.unwish,q⟩
 |ret u=>obtain⟨v,σ',H',I,r,q⟩:=h;exact⟨v,σ',H',I.unwish,r,q⟩
theorem GS.nox{st:List Stmt}{t:TS}(h:GS X.nox st t):GS X st t:=λaJ s σ H D I hw=>
 lJ (h aJ s σ H D (I.wish _) hw) (λ_ _ q=>q.unwish) λ_ _ z=>False.elim z
section
variable {st:Stmt} {rest:List Stmt} {t u:TS} {pos:Pos}
def tNext:TS:=λD σ H=>D.nx σ H
def PD(t u:TS):TS:=λD σ H=>t {D with nx:=u D} σ H
theorem zZ:GS X [] tNext:=λ_ _ σ H _ I h=>sY ⟨σ,H,I,h⟩
theorem zD(h1:PS X st t)(h2:GS X rest u):GS X (st::rest) (PD t u):=by
 intro aJ s σ H D I h;refine wpAny_execs_cons (eL (h1 aJ s σ H {D with nx:=u D} I h) λf s1 q=>?_);cases f with
 |next=>
  obtain⟨σ',H',I',q⟩:=q;exact h2 aJ s1 σ' H' D I' q
 |ret v=>exact q
 |brk=>exact q
 |cont=>exact q
theorem zG(h1:PS X st t):GS X [st] t:=by
 intro aJ s σ H D I h;refine wpAny_execs_cons (eL (h1 aJ s σ H D I h) λf s1 q=>?_);cases f with
 |next=>exact sY q
 |ret v=>exact q
 |brk=>exact q
 |cont=>exact q
theorem Inv.quiet(I:Inv X aJ σ H s):interactive X.env=false:=by simp[interactive,I.ok.kind]
def tDrop(te:TE):TS:=λD σ H=>te σ H λ_ H1=>D.nx σ H1
theorem zU(he:PE X e te)(hs:swapsWith e none pos.line X.env=pure false:=by rfl):PS X (.Expr e pos) (tDrop te):=by
 intro aJ s σ H D I h;exact wpAny_Expr_any (eL (he aJ s σ H _ I h) λv s1 ⟨x,H1,I1,r1,q1⟩=>⟨σ,H1,I1,q1⟩) I.quiet hs
def tRet(te:TE):TS:=λD σ H=>te σ H D.rt
theorem zO(he:PE X e te):PS X (.Return (some e) pos) (tRet te):=by
 intro aJ s σ H D I h;exact wpAny_Return_some (eL (he aJ s σ H _ I h) λv s1 ⟨x,H1,I1,r1,q1⟩=>⟨x,σ,H1,I1,r1,q1⟩)
def tRetN:TS:=λD _ H=>D.rt .non H
theorem IH:PS X (.Return none pos) tRetN:=λ_ _ σ H _ I h=>wpAny_Return_none ⟨.non,σ,H,I,rfl,h⟩
def me(c:TT)(t u:TS):TS:=λD σ H=>c σ H λb H1=>if b=true then t D σ H1 else u D σ H1
theorem yK{a b:List Stmt}{tc:TT}(hc:PT X c tc)(ha:GS X a t)(hb:GS X b u):PS X (.If c a b pos) (me tc t u):=by
 intro aJ s σ H D I h;refine wpAny_If (eL (hc aJ s σ H _ I h) λd s1 ⟨H1,I1,q1⟩=>?_);cases d with
 |true=>exact ha aJ s1 σ H1 D I1 q1
 |false=>exact hb aJ s1 σ H1 D I1 q1
def md:TS:=λ_ _ _=>False
theorem AF:PS X st md:=λ_ _ _ _ _ _ h=>h.elim
end
abbrev TG:=V->St->Hp->(St->Hp->Prop)->Prop
abbrev lf:=List V->St->Hp->(St->Hp->Prop)->Prop
def PG(X:Cx)(target:Expr)(t:TG):Prop:=
 ∀(aJ:List (Addr×Obj)) (s:Shared) (σ:St) (H:Hp) (v:V) (u:Value) (Q:St->Hp->Prop),Inv X aJ σ H s->RelV v u->t v σ H Q->
  wpAny (model X.prog X.w) X.A (assign target X.env u) (λ_ s'=>∃σ' H',Inv X aJ σ' H' s'/\Q σ' H') X.xe s
def PGs(X:Cx)(ts:List Expr)(t:lf):Prop:=
 ∀(aJ:List (Addr×Obj)) (s:Shared) (σ:St) (H:Hp) (vs:List V) (us:List Value) (Q:St->Hp->Prop),Inv X aJ σ H s->dD vs us->t vs σ H Q->
  wpAny (model X.prog X.w) X.A (assignInOrder ((assignEach ts X.env).map (·.2)) us) (λ_ s'=>∃σ' H',Inv X aJ σ' H' s'/\Q σ' H') X.xe s
abbrev sx:=V->V->V->Hp->(Hp->Prop)->Prop
def sy(X:Cx)(t:sx):Prop:=
 ∀(aJ:List (Addr×Obj)) (s:Shared) (σ:St) (H:Hp) (o i v:V) (ov iv u:Value) (Q:Hp->Prop),Inv X aJ σ H s->RelV o ov->RelV i iv->RelV v u->t o i v H Q->
  wpAny (model X.prog X.w) X.A (setItem ov iv u) (λ_ s'=>∃H',Inv X aJ σ H' s'/\Q H') X.xe s
abbrev TIp:=V->V->Hp->VK->Prop
def PIp(X:Cx)(op:Operator)(t:TIp):Prop:=
 ∀(aJ:List (Addr×Obj)) (s:Shared) (σ:St) (H:Hp) (x y:V) (v u:Value) (Q:VK),Inv X aJ σ H s->RelV x v->RelV y u->t x y H Q->
  wpAny (model X.prog X.w) X.A (inplaceOp op v u) (EP X aJ σ Q) X.xe s
section
variable {pos:Pos}
def kK(i:Nat):TG:=λv σ H Q=>Q (σ.set i (some v)) H
theorem US{x:Str}(hN:X.N.Nodup)(hi:X.N[i]?=some x)(hx:Loc X.env.scope x)(hf:X.fn x=true\/X.env.scope.names.lookup x=some .local:=by first |exact .inl rfl |exact .inr rfl |assumption):PG X (.Name x pos) (kK i):=by
 intro aJ s σ H v u Q I r h;exact wpAny_assign_Name (YZ I hN hi hx r (λs' I'=>⟨_,H,I',h⟩) hf)
def wD:lf:=λvs σ H Q=>vs=[]/\Q σ H
def jY(t:TG)(u:lf):lf:=λvs σ H Q=>asC vs λv r=>t v σ H λσ' H'=>u r σ' H' Q
theorem xG:PGs X [] wD:=by
 intro aJ s σ H vs us Q I r h;obtain⟨e,h⟩:=h;subst e;cases r;exact assignInOrder_nil ⟨σ,H,I,h⟩
theorem zX{t:TG}{u:lf}(h1:PG X e t)(h2:PGs X es u)
 (hs:(assignEach (e::es) X.env).map (·.2)=assign e X.env::(assignEach es X.env).map (·.2):=by rfl):PGs X (e::es) (jY t u):=by
 intro aJ s σ H vs us Q I r h;replace h:=asC_ h;obtain⟨v,vr,e1,h⟩:=h;subst e1;cases r with
 |cons r rr=>
  rw[hs];refine assignInOrder_cons (eL (h1 aJ s σ H _ _ _ I r h) λ_ s1 ⟨σ1,H1,I1,q1⟩=>?_);exact h2 aJ s1 σ1 H1 _ _ Q I1 rr q1
def vN(K:W.Frag)(n:Nat)(t:lf):TG:=λv σ H Q=>mN v λa=>∃xs,dN K H a xs/\xs.length=n/\t xs σ H Q
theorem vA{k:Nat}{t:lf}(hc:X.calm=true)(h:PGs X es t)
 (hn:(assignEach es X.env).length=n:=by rfl) (hst:(assignEach es X.env).findIdx? (·.1)=none:=by rfl):PG X (.Tuple es k pos) (vN X.K n t):=by
 intro aJ s σ H v u Q I r hw;replace hw:=xI hw;obtain⟨a,e1,xs,hq,hl,hw⟩:=hw;subst e1;cases r;obtain⟨its,rv,ht,hz⟩:=I.tuple hq;refine assign_Tuple_tuple (I.ok.hd hc) ht (by simp[hn,←hl,rv.length]) hst λh' hx=>?_
 have I1:Inv X aJ σ H {s with heap:=h'}:=I.kept (t':=s.toks) λb o e=>hx b o (bW (bD e)) e
 exact h aJ _ σ H xs _ Q I1 (by simpa using rv) hw
def b6(te:TE)(g:TG):TS:=λD σ H=>te σ H λx H1=>g x σ H1 D.nx
theorem qZ{x:Str}(hN:X.N.Nodup)(hi:X.N[i]?=some x)(hx:Loc X.env.scope x)(he:PE X e te)(hs:swapsWith e (some (.Name x pos')) pos.line X.env=pure false:=by rfl)(hf:X.fn x=true\/X.env.scope.names.lookup x=some .local:=by first |exact .inl rfl |exact .inr rfl |assumption):
 PS X (.Assign [.Name x pos'] e pos) (b6 te (kK i)):=by
 intro aJ s σ H D I h;refine wpAny_Assign_Name (eL (he aJ s σ H _ I h) λv s1 ⟨y,H1,I1,r1,q1⟩=>?_) hs;exact YZ I1 hN hi hx r1 (λs2 I2=>⟨_,H1,I2,q1⟩) hf
def PK(i:Nat)(te:TE)(ti:TIp):TS:=λD σ H=>asV σ[i]? λx=>te σ H λy H1=>ti x y H1 λz H2=>D.nx (σ.set i (some z)) H2
theorem UR{x:Str}{op:Operator}{ti:TIp}(hN:X.N.Nodup)(hi:X.N[i]?=some x)(hx:Loc X.env.scope x)(he:PE X e te)(ho:PIp X op ti)(hf:X.fn x=true\/X.env.scope.names.lookup x=some .local:=by first |exact .inl rfl |exact .inr rfl |assumption):
 PS X (.AugAssign (.Name x pos') op e pos) (PK i te ti):=by
 intro aJ s σ H D I h;replace h:=su h;obtain⟨v,e1,h⟩:=h;obtain⟨m,hn,hl⟩:=I.loc;have vis:Vis X.env.scope x:=by rcases hx with k |k;exact .inl k;exact .inr (.inl k)
 obtain⟨u,r,l⟩:=hl i x v hi e1 vis;refine wpAny_AugAssign_Name ?_;have go:wpAny (model X.prog X.w) X.A (eval e X.env) (λw s₂=>wpAny (model X.prog X.w) X.A (inplaceOp op u w) (λr s₃=>wpAny (model X.prog X.w) X.A (storeName X.env x r) (λ_=>SP X aJ D .next) X.xe s₃) X.xe s₂) X.xe s:=by
  refine eL (he aJ s σ H _ I h) λw s1 ⟨y,H1,I1,r1,q1⟩=>?_
  refine eL (ho aJ s1 σ H1 v y u w _ I1 r r1 q1) λz s2 ⟨zv,H2,I2,r2,q2⟩=>?_
  exact YZ I2 hN hi hx r2 (λs3 I3=>⟨_,H2,I3,q2⟩) hf
 rcases l with⟨hk,hm⟩ |⟨hk,c,hc,hcell⟩
 ·exact wpAny_loadName_local I.ok.kind hk hn hm go
 ·rcases hk with hk |hk
  ·exact wpAny_loadName_cell I.ok.kind hk hc hcell go
  ·rcases hx with k |k
   ·have :X.env.scope.names.lookup x=some .free:=hk;rw[k]at this;cases this
   ·have :X.env.scope.names.lookup x=some .free:=hk;rw[k]at this;cases this
def HN(to ti te:TE)(tget:V->V->Hp->VK->Prop)(tip:TIp)(tset:sx):TS:=λD σ H=>to σ H λo H1=>ti σ H1 λi H2=>tget o i H2 λx H3=>te σ H3 λy H4=>tip x y H4 λz H5=>tset o i z H5 λH6=>D.nx σ H6
def PGet(X:Cx)(t:V->V->Hp->VK->Prop):Prop:=
 ∀(aJ:List (Addr×Obj)) (s:Shared) (σ:St) (H:Hp) (o i:V) (ov iv:Value) (Q:VK),Inv X aJ σ H s->RelV o ov->RelV i iv->t o i H Q->
  wpAny (model X.prog X.w) X.A (getItem ov iv) (EP X aJ σ Q) X.xe s
theorem YH{i:Expr}{to ti:TE}{tget:V->V->Hp->VK->Prop}{tip:TIp}{tset:sx}{op:Operator}{tpos:Pos}(ho:PE X o to)(hi:PE X i ti)(hg:PGet X tget)(he:PE X e te)(hp:PIp X op tip)(hs:sy X tset)
 (ha:∀ov iv new,augStore i ov iv new=(do holding [new,ov,iv] (setItem ov iv new);release [new,ov,iv] [];pure .next):=by intros;rfl):PS X (.AugAssign (.Subscript o i tpos) op e pos) (HN to ti te tget tip tset):=by
 intro aJ s σ H D I h;refine wpAny_AugAssign_SubscriptAny (eL (ho aJ s σ H _ I h) λov s1 ⟨x1,H1,I1,r1,q1⟩=>?_) ha;refine eL (hi aJ s1 σ H1 _ I1 q1) λiv s2 ⟨x2,H2,I2,r2,q2⟩=>?_
 refine eL (hg aJ s2 σ H2 x1 x2 ov iv _ I2 r1 r2 q2) λold s3 ⟨x3,H3,I3,r3,q3⟩=>?_
 refine eL (he aJ s3 σ H3 _ I3 q3) λv s4 ⟨x4,H4,I4,r4,q4⟩=>?_
 refine eL (hp aJ s4 σ H4 x3 x4 old v _ I4 r3 r4 q4) λnew s5 ⟨x5,H5,I5,r5,q5⟩=>?_
 exact eL (hs aJ s5 σ H5 x1 x2 x5 ov iv new _ I5 r1 r2 r5 q5) λ_ s6 ⟨H6,I6,q6⟩=>⟨σ,H6,I6,q6⟩
def VX(f:Int->Int->Int):TIp:=λx y H Q=>sH x λi=>sH y λj=>Q (.int (f i j)) H
theorem qr:PIp X .Add (VX λi j=>i+j):=by
 intro aJ s σ H x y v u Q I r1 r2 h;replace h:=qB h;obtain⟨i,e1,h⟩:=h;replace h:=qB h;obtain⟨j,e2,q⟩:=h;subst e1;subst e2;obtain⟨t,rfl⟩:=r1;obtain⟨t',rfl⟩:=r2;exact iadd_int ⟨.int _,H,I.tok _,⟨_,rfl⟩,q⟩
end
section
variable {pos:Pos}
def DX(c:TT)(tb:TS):TS:=λD σ H=>∃W:Nat->St->Hp->Prop,(∃m,W m σ H)/\∀m σ H,W m σ H->
 c σ H λb H1=>if b=true then∃N:St->Hp->Prop,(∀σ' H',N σ' H'->∃m',m'<m/\W m' σ' H')/\tb {D with nx:=N,ct:=N,bk:=D.nx} σ H1 else D.nx σ H1
theorem AE{body:List Stmt}{tc:TT}(hp:PassesOwn (model X.prog X.w) X.A X.env X.xe)(hc:PT X c tc)(hb:GS X body tb):PS X (.While c body [] pos) (DX tc tb):=by
 intro aJ s σ H D I h;obtain⟨W,⟨m0,w0⟩,turn⟩:=h;refine wpAny_While (codeAny_whileLoop (λn s'=>∃σ' H',Inv X aJ σ' H' s'/\W n σ' H') ?_ m0 ⟨σ,H,I,w0⟩);rintro n s1 ⟨σ1,H1,I1,w1⟩;refine iT hp (eL (hc aJ s1 σ1 H1 _ I1 (turn n σ1 H1 w1)) λb s2 ⟨H2,I2,q2⟩=>?_);cases b with
 |true=>
  obtain⟨N,hN,q2⟩:=q2;rw[aL rfl];refine iT hp (eL (hb aJ s2 σ1 H2 _ I2 q2) λf s3 q3=>?_);cases f with
  |next=>
   obtain⟨σ3,H3,I3,n3⟩:=q3;obtain⟨m',hm,w3⟩:=hN σ3 H3 n3;exact⟨m',hm,σ3,H3,I3,w3⟩
  |cont=>
   obtain⟨σ3,H3,I3,n3⟩:=q3;obtain⟨m',hm,w3⟩:=hN σ3 H3 n3;exact⟨m',hm,σ3,H3,I3,w3⟩
  |brk=>exact q3
  |ret v=>exact q3
 |false=>
  rw[aH bQ];exact sY ⟨σ1,H2,I2,q2⟩
end
structure It where
 go:Nat->Hp->Prop
 yld:Nat->Hp->V->Hp->Prop
 stop:Nat->Hp->Prop
def JJ(X:Cx)(aJ:List (Addr×Obj))(H:Hp)(b:Addr):Prop:=
 H b=none/\b≠X.env.locals/\b∉X.fs/\(b∈X.ex\/X.s₀.heap.objs.size<=b)/\(∀x c,X.env.cells.lookup x=some c->c≠b)/\∀p∈X.pn++aJ,p.1≠b
theorem Inv.fpOk(I:Inv X aJ σ H s)(hb:s.heap.objs.size<=b)(hn:H' b=none):JJ X aJ H' b:=by
 refine⟨hn,Nat.ne_of_gt (cI I.lt hb),I.nofs hb,.inr (cR I.sz hb),λx c e z=>?_,λp hp z=>?_⟩
 ·obtain⟨v,q⟩:=I.cell x c e;exact absurd (cI q.lt (by rw[z];exact hb)) (dY _)
 ·exact absurd (cI (bD (I.pin p hp).1) (by rw[z];exact hb)) (dY _)
structure NS(P:Program)(w:World)(K:W.Frag)(tg:Expr)(J:It)(fp:List Addr)(it:Addr)(tn:Nat->Heap->Prop):Prop where
 mem:it∈fp
 obj:∀i h,tn i h->∀b∈fp,∃o,h.get? b=some o/\∀v,o.data≠.cell v
 keep:∀i h h',tn i h->(∀b∈fp,∀o,h.get? b=some o->h'.get? b=some o)->tn i h'
 item:∀(X:Cx),X.prog=P->X.w=w->X.K=K->X.calm=true->∀(i:Nat)(aJ:List (Addr×Obj))(s:Shared)(σ:St)(H:Hp)(E:Value->Shared->Prop),Inv X aJ σ H s->(∀b∈fp,JJ X aJ H b)->tn i s.heap->J.go i H->
  wpAny (model P w) X.A (pyNext (.ref it)) (λr s1=>∃u,r=some u/\
   wpAny (model P w) X.A (letOwnedTupleGo tg (.ref it) u) (λ_ s2=>∃x H',Inv X aJ σ H' s2/\RelV x u/\J.yld i H x H'/\tn (i+1) s2.heap/\∀b∈fp,H' b=none) E s1) E s
 done:∀(X:Cx),X.prog=P->X.w=w->X.K=K->X.calm=true->∀(i:Nat)(aJ:List (Addr×Obj))(s:Shared)(σ:St)(H:Hp)(E:Value->Shared->Prop),Inv X aJ σ H s->(∀b∈fp,JJ X aJ H b)->tn i s.heap->J.stop i H->
  wpAny (model P w) X.A (pyNext (.ref it)) (λr s1=>r=none/\Inv X aJ σ H s1) E s
 self:∀(A:Around)(i:Nat)(s:Shared)(Q:Value->Shared->Prop)(E:Value->Shared->Prop),tn i s.heap->Q (.ref it) s->wpAny (model P w) A (pyIter (.ref it)) Q E s
abbrev TI:=St->Hp->(It->Hp->Prop)->Prop
def PIE(X:Cx)(aJ:List (Addr×Obj))(σ:St)(tg:Expr)(R:It->Hp->Prop)(itv:Value)(s2:Shared):Prop:=
 ∃(it:Addr)(fp:List Addr)(tn:Nat->Heap->Prop)(J:It)(H':Hp),itv=.ref it/\Inv X aJ σ H' s2/\NS X.prog X.w X.K tg J fp it tn/\tn 0 s2.heap/\(∀b∈fp,JJ X aJ H' b)/\R J H'
def PI(X:Cx)(tg iter:Expr)(wi:TI):Prop:=
 ∀(aJ:List (Addr×Obj)) (s:Shared) (σ:St) (H:Hp) (R:It->Hp->Prop),Inv X aJ σ H s->wi σ H R->
  wpAny (model X.prog X.w) X.A (eval iter X.env) (λv s1=>wpAny (model X.prog X.w) X.A (pyIter v) (PIE X aJ σ tg R) X.xe s1) X.xe s
theorem KL{o:Obj}{n:String}{vs:Array Value}{Q:Unit->Shared->Prop}(ho:s.heap.get? it=some o)(hc:o.cls=.type n)(hd:o.data=.fields vs)
 (hn:["enumerate","zip","dict_itemiterator","dict_reverseitemiterator","odict_iterator","itertools.zip_longest","itertools.pairwise"].contains n=false) (hQ:Q Unit.unit s):wpAny M A (letOwnedTupleGo tg (.ref it) u) Q E s:=by
 unfold letOwnedTupleGo;cases tg<;>first
  |exact aS hQ
  |(cases u<;>first
   |exact aS hQ
   |(refine aF (wpAny_load ho ?_)
     rw[hc,hd];show wpAny M A (if(["enumerate","zip","dict_itemiterator","dict_reverseitemiterator","odict_iterator","itertools.zip_longest","itertools.pairwise"].contains n&&vs[0]?==some (rawInt _))=true then _ else _) Q E s;rw[aH (by intro h;rw[hn,fK]at h;cases h)];exact aS hQ))
def jk(K:W.Frag)(a:Addr):It:=
 ⟨λi H=>∃xs x,dL K H a xs/\xs[i]?=some x,λi H x H'=>H'=H/\∀xs,dL K H a xs->xs[i]?=some x,λi H=>∃xs,dL K H a xs/\xs.length<=i⟩
def ln(K:W.Frag)(a:Addr):It:=
 ⟨λi H=>∃xs x,dN K H a xs/\xs[i]?=some x,λi H x H'=>H'=H/\∀xs,dN K H a xs->xs[i]?=some x,λi H=>∃xs,dN K H a xs/\xs.length<=i⟩
def aj(lo:Int)(n:Nat):It:=⟨λi _=>i<n,λi H x H'=>H'=H/\x=.int (lo+i),λi _=>n<=i⟩
theorem LR(a it:Addr):NS P w K tg (jk K a) [it] it (λi h=>h.IsListIter it a i) where
 mem:=by simp
 obj:=λi h st b hb=>by
  have e:b=it:=by simpa using hb
  subst e;obtain⟨o,e,c,d⟩:=st;exact⟨o,e,λv z=>by rw[d]at z;cases z⟩
 keep:=λi h h' st k=>st.at λo e=>k it (by simp) o e
 item:=by
  intro X hP hw hK hc i aJ s σ H E I hf st hg;subst hP hw hK;obtain⟨xs,x,hq,hx⟩:=hg;obtain⟨its,rv,p,hz⟩:=I.list hq;obtain⟨u,hu,ru⟩:=rv.get hx;obtain⟨f0,f1,f2,f3,f4,f5⟩:=hf it (by simp);refine sP st p.isList (x:=u) (by simpa using hu) λh' cQ sb=>?_
  have I1:Inv X aJ σ H {s with heap:=h'}:=I.turned (t':=s.toks) (λb o hb e=>(sb.2 b hb).trans e) f0 f1 f3 f4 f5;obtain⟨o,e,c,d⟩:=id cQ;exact⟨u,rfl,KL (s:={s with heap:=h'}) e c d (by decide) ⟨x,H,I1,ru,⟨rfl,λys hy=>by rw[I.list_inj hy hq];exact hx⟩,cQ,λb hb=>(hf b hb).1⟩⟩
 done:=by
  intro X hP hw hK hc i aJ s σ H E I hf st hg;subst hP hw hK;obtain⟨xs,hq,hx⟩:=hg;obtain⟨its,rv,p,hz⟩:=I.list hq;obtain⟨f0,f1,f2,f3,f4,f5⟩:=hf it (by simp);have hl:=rv.length;exact DL (I.ok.hd hc) st p.isList (by simp;lia) λh' eb=>⟨rfl,I.turned (t':=s.toks) (λb o hb e=>eb b o hb e) f0 f1 f3 f4 f5⟩
 self:=λ_ _ _ _ _ st h=>wpAny_pyIter_listiter st h
theorem DT(a it:Addr):NS P w K tg (ln K a) [it] it (λi h=>h.IsTupleIter it a i) where
 mem:=by simp
 obj:=λi h st b hb=>by
  have e:b=it:=by simpa using hb
  subst e;obtain⟨o,e,c,d⟩:=st;exact⟨o,e,λv z=>by rw[d]at z;cases z⟩
 keep:=λi h h' st k=>st.at λo e=>k it (by simp) o e
 item:=by
  intro X hP hw hK hc i aJ s σ H E I hf st hg;subst hP hw hK;obtain⟨xs,x,hq,hx⟩:=hg;obtain⟨its,rv,p,hz⟩:=I.tuple hq;obtain⟨u,hu,ru⟩:=rv.get hx;obtain⟨f0,f1,f2,f3,f4,f5⟩:=hf it (by simp);refine wpAny_pyNext_tuple_item st (show s.heap.IsTuple a its.toArray from p) (x:=u) (by simpa using hu) λh' cQ sb=>?_
  have I1:Inv X aJ σ H {s with heap:=h'}:=I.turned (t':=s.toks) (λb o hb e=>(sb.2 b hb).trans e) f0 f1 f3 f4 f5;obtain⟨o,e,c,d⟩:=id cQ;exact⟨u,rfl,KL (s:={s with heap:=h'}) e c d (by decide) ⟨x,H,I1,ru,⟨rfl,λys hy=>by rw[I.tuple_inj hy hq];exact hx⟩,cQ,λb hb=>(hf b hb).1⟩⟩
 done:=by
  intro X hP hw hK hc i aJ s σ H E I hf st hg;subst hP hw hK;obtain⟨xs,hq,hx⟩:=hg;obtain⟨its,rv,p,hz⟩:=I.tuple hq;obtain⟨f0,f1,f2,f3,f4,f5⟩:=hf it (by simp);have hl:=rv.length;exact wpAny_pyNext_tuple_end (I.ok.hd hc) st (show s.heap.IsTuple a its.toArray from p) (by simp;lia) λh' eb=>⟨rfl,I.turned (t':=s.toks) (λb o hb e=>eb b o hb e) f0 f1 f3 f4 f5⟩
 self:=λ_ _ _ _ _ st h=>wpAny_pyIter_tupleiter st h
theorem DU(it:Addr)(lo:Int)(n:Nat):NS P w K tg (aj lo n) [it] it (λi h=>IsRangeIter h it (lo+(i:Nat)*1) ((n:Int)-(i:Nat)) 1) where
 mem:=by simp
 obj:=λi h st b hb=>by
  have e:b=it:=by simpa using hb
  subst e;exact⟨_,st,λv z=>by
   have z':Data.fields _=Data.cell v:=z;cases z'⟩
 keep:=λi h h' st k=>k it (by simp) _ st
 item:=by
  intro X hP hw hK hc i aJ s σ H E I hf st hg;subst hP hw hK;obtain⟨f0,f1,f2,f3,f4,f5⟩:=hf it (by simp);have W:=Walks.range (prog:=X.prog) (w:=X.w) (I.ok.hd hc) it lo 1 n;refine W.item i s _ _ hg st λv h' tk hv cQ kk=>?_
  obtain⟨t,rfl⟩:=hv;have I1:Inv X aJ σ H {s with heap:=h',toks:=tk}:=I.turned (λb o hb e=>kk b o (by simpa using hb) e) f0 f1 f3 f4 f5;refine⟨_,rfl,KL (s:={s with heap:=h',toks:=tk}) (n:="range_iterator") cQ rfl rfl (by decide) ⟨.int (lo+i),H,I1,⟨t,?_⟩,⟨rfl,rfl⟩,cQ,λb hb=>(hf b hb).1⟩⟩;rw[Int.mul_one]
 done:=by
  intro X hP hw hK hc i aJ s σ H E I hf st hg;subst hP hw hK;obtain⟨f0,f1,f2,f3,f4,f5⟩:=hf it (by simp);exact wpAny_pyNext_range_end (I.ok.hd hc) st (by have :n<=i:=hg;lia) λh' eb=>⟨rfl,I.turned (t':=s.toks) (λb o hb e=>eb b o hb e) f0 f1 f3 f4 f5⟩
 self:=λ_ _ _ _ _ st h=>wpAny_pyIter_rangeiter st h
def iList(K:W.Frag)(tl:TE):TI:=λσ H R=>tl σ H λx H1=>mN x λa=>(∃xs,dL K H1 a xs)/\R (jk K a) H1
def iTup(K:W.Frag)(tl:TE):TI:=λσ H R=>tl σ H λx H1=>mN x λa=>(∃xs,dN K H1 a xs)/\R (ln K a) H1
theorem yF{l:Expr}{tl:TE}(hl:PE X l tl):PI X tg l (iList X.K tl):=by
 intro aJ s σ H R I h;refine eL (hl aJ s σ H _ I h) λv s1 ⟨x,H1,I1,r1,q1⟩=>?_
 replace q1:=xI q1;obtain⟨a,e,⟨xs,hq⟩,q⟩:=q1;subst e;cases r1;obtain⟨its,rv,p,hz⟩:=I1.list hq;refine rD p.isList ?_;refine⟨s1.heap.objs.size,[s1.heap.objs.size],_,_,H1,rfl,I1.kept (t':=s1.toks) λb o e=>aP _ e,LR a _,⟨_,bX _ rfl,rfl,rfl⟩,λb hb=>?_,q⟩;have e:b=s1.heap.objs.size:=by simpa using hb
 subst e;exact I1.fpOk (aG _) (I1.hok.fresh (aG _))
theorem uZ{l:Expr}{tl:TE}(hl:PE X l tl):PI X tg l (iTup X.K tl):=by
 intro aJ s σ H R I h;refine eL (hl aJ s σ H _ I h) λv s1 ⟨x,H1,I1,r1,q1⟩=>?_
 replace q1:=xI q1;obtain⟨a,e,⟨xs,hq⟩,q⟩:=q1;subst e;cases r1;obtain⟨its,rv,p,hz⟩:=I1.tuple hq;refine wpAny_pyIter_tuple (show s1.heap.IsTuple a its.toArray from p) ?_;refine⟨s1.heap.objs.size,[s1.heap.objs.size],_,_,H1,rfl,I1.kept (t':=s1.toks) λb o e=>aP _ e,DT a _,⟨_,bX _ rfl,rfl,rfl⟩,λb hb=>?_,q⟩;have e:b=s1.heap.objs.size:=by simpa using hb
 subst e;exact I1.fpOk (aG _) (I1.hok.fresh (aG _))
theorem RM{R:It->Hp->Prop}{lo hi:Int}{t u v:Tok}{tk:Nat}(I:Inv X aJ σ H s)(h1: -(2^62)<=lo)(h2:lo<2^62)(h3: -(2^62)<=hi)(h4:hi<2^62)
 (q:R (aj lo (hi-lo).toNat) H):wpAny (model X.prog X.w) X.A (pyIter (.ref s.heap.objs.size)) (PIE X aJ σ tg R) E {s with heap:=s.heap.push {cls:=.type "range",data:=.fields #[.int lo t,.int hi u,.int 1 v]},toks:=tk}:=by
 refine wpAny_pyIter_range (IsRange.new ..) (small_one h1 h2 h3 h4) ?_;have I1:Inv X aJ σ H {s with heap:=s.heap.push {cls:=.type "range",data:=.fields #[.int lo t,.int hi u,.int 1 v]},toks:=tk}:=I.kept λb o e=>aP _ e
 refine⟨(s.heap.push {cls:=.type "range",data:=.fields #[.int lo t,.int hi u,.int 1 v]}).objs.size,[(s.heap.push {cls:=.type "range",data:=.fields #[.int lo t,.int hi u,.int 1 v]}).objs.size],_,_,H,rfl,
  I1.kept (t':=tk) λb o e=>aP _ e,DU _ lo (hi-lo).toNat,?_,λb hb=>?_,q⟩
 ·have e1:lo+((0:Nat):Int)*1=lo:=by simp
  have e2:(((hi-lo).toNat:Nat):Int)-((0:Nat):Int)=Builtin.Range.rangeSize lo hi 1:=by rw[rangeSize_one];split<;>lia
  show IsRangeIter _ _ (lo+((0:Nat):Int)*1) ((((hi-lo).toNat:Nat):Int)-((0:Nat):Int)) 1;rw[e1,e2];exact bX _ rfl
 ·have e:b=(s.heap.push {cls:=.type "range",data:=.fields #[.int lo t,.int hi u,.int 1 v]}).objs.size:=by simpa using hb
  subst e;exact I1.fpOk (aG _) (I1.hok.fresh (aG _))
def iRng1(ta:TA):TI:=λσ H R=>ta σ H λvs H1=>pG vs λx=>sH x λj=> -(2^62)<=j/\j<2^62/\R (aj 0 j.toNat) H1
def iRng2(ta:TA):TI:=λσ H R=>ta σ H λvs H1=>bd vs λx y=>sH x λi=>sH y λj=>(-(2^62)<=i/\i<2^62/\ -(2^62)<=j/\j<2^62)/\R (aj i (j-i).toNat) H1
theorem xX{a:Expr}{ta:TA}{p pos:Pos}(hg:Gl X "range")(hm:X.mg "range"=none)(ha:PA X [a] ta)(hs:starEach [a] X.env=[(false,eval a X.env)]:=by rfl):PI X tg (.Call (.Name "range" p) [a] [] pos) (iRng1 ta):=by
 intro aJ s σ H R I h;refine Call_ (wN I hg hm boot_range (fQ (eL (ha pos aJ s σ H _ I h) λus s1 ⟨vs,H1,I1,r1,q1⟩=>?_) hs rfl));replace q1:=wE q1;obtain⟨x,e,q1⟩:=q1;replace q1:=qB q1;obtain⟨j,rfl,q1,q2,q⟩:=q1;subst e;cases r1 with
 |cons r rr=>
  cases rr;obtain⟨t,rfl⟩:=r;exact call_range_1 (RM I1 () () q1 q2 (by simpa using q))
def tFor(wi:TI)(g:TG)(tb:TS):TS:=λD σ H=>wi σ H λJ H1=>∃W:Nat->Nat->St->Hp->Prop,(∃m,W 0 m σ H1)/\∀i m σ H,W i m σ H->
 (J.stop i H/\D.nx σ H)\/(J.go i H/\∃N:St->Hp->Prop,(∀σ' H',N σ' H'->∃m',m'<m/\W (i+1) m' σ' H')/\∀x H',J.yld i H x H'->g x σ H' λσ2 H2=>tb {D with nx:=N,ct:=N,bk:=D.nx} σ2 H2)
def uA(fp:List Addr)(h:Heap):List (Addr×Obj):=fp.filterMap λb=>(h.get? b).map λo=>(b,o)
theorem jN{o:Obj}(hb:b∈fp)(e:h.get? b=some o):(b,o)∈uA fp h:=lW.mpr ⟨b,hb,by rw[e];rfl⟩
theorem QF{p:Addr×Obj}(hp:p∈uA fp h):p.1∈fp/\h.get? p.1=some p.2:=by
 obtain⟨b,hb,e⟩:=lW.mp hp;cases q:h.get? b with
 |none=>rw[q]at e;cases e
 |some o=>
  rw[q]at e;have e':(b,o)=p:=dC e;subst e';exact⟨hb,q⟩
theorem Inv.pinned(I:Inv X aJ σ H s)(hf:∀b∈fp,JJ X aJ H b)(ho:∀b∈fp,∃o,s.heap.get? b=some o/\∀v,o.data≠.cell v):Inv X (aJ++uA fp s.heap) σ H s:=
 I.pins_of λp hp=>(bS.mp hp).elim (λz=>I.pin p (aZ _ z)) λz=>by
  obtain⟨hb,e⟩:=QF z;obtain⟨f0,f1,f2,_⟩:=hf p.1 hb;obtain⟨o,e',d⟩:=ho p.1 hb;rw[e]at e';cases e';exact⟨e,f0,f1,f2,d⟩
theorem Inv.unpinned{pl:List (Addr×Obj)}(I:Inv X (aJ++pl) σ H s):Inv X aJ σ H s:=I.pins_of λp hp=>I.pin p (aZ _ (cP _ hp))
theorem yI{iter:Expr}{body:List Stmt}{wi:TI}{g:TG}{pos:Pos}(hp:PassesOwn (model X.prog X.w) X.A X.env X.xe)(hc:X.calm=true)(hi:PI X tg iter wi)(hg:PG X tg g)(hb:GS X body tb)
 (hs:∀x,foldedSetIterable iter X.env x=pure x:=by intro _;rfl):PS X (.For tg iter body [] pos) (tFor wi g tb):=by
 intro aJ s σ H D I h;refine wpAny_For (eL (hi aJ s σ H _ I h) λv s1 h1=>eL h1 λitv s2 h2=>?_) hs;obtain⟨it,fp,tn,J,H2,e,I2,T,st2,f2,W,⟨m0,w0⟩,turn⟩:=h2;subst e;have stat:∀{H':Hp},(∀b∈fp,H' b=none)->∀b∈fp,JJ X aJ H' b:=λhn b hb=>⟨hn b hb,(f2 b hb).2⟩
 refine codeAny_forLoop_any (λn s'=>∃i σ' H',Inv X aJ σ' H' s'/\tn i s'.heap/\(∀b∈fp,H' b=none)/\W i n σ' H') ?_ m0 ⟨0,σ,H2,I2,st2,λb hb=>(f2 b hb).1,w0⟩;rintro n s3 ⟨i,σ3,H3,I3,st3,fr3,w3⟩;rcases turn i n σ3 H3 w3 with⟨stop,qn⟩ |⟨go,N,hN,step⟩
 ·refine iT hp (eL (T.done X rfl rfl rfl hc i aJ s3 σ3 H3 X.xe I3 (stat fr3) st3 stop) λr s4 ⟨hr,I4⟩=>?_);subst hr;exact sY ⟨σ3,H3,I4,qn⟩
 ·refine iT hp (eL (T.item X rfl rfl rfl hc i aJ s3 σ3 H3 X.xe I3 (stat fr3) st3 go) λr s4 ⟨u,hr,h4⟩=>?_);subst hr;refine iT hp (eL h4 λ_ s5 ⟨x,H5,I5,r5,y5,st5,fr5⟩=>?_);have I5':=I5.pinned (stat fr5) (T.obj _ _ st5);refine iT hp (eL (hg _ s5 σ3 H5 x u _ I5' r5 (step x H5 y5)) λ_ s6 ⟨σ6,H6,I6,q6⟩=>?_);refine iT hp (eL (hb _ s6 σ6 H6 _ I6 q6) λf s7 q7=>?_);have again:∀{σ7:St}{H7:Hp},Inv X (aJ++uA fp s5.heap) σ7 H7 s7->N σ7 H7->∃m,m<n/\∃i σ' H',Inv X aJ σ' H' s7/\tn i s7.heap/\(∀b∈fp,H' b=none)/\W i m σ' H':=λ{σ7 H7} I7 n7=>by
   obtain⟨m',hm,w7⟩:=hN σ7 H7 n7;refine⟨m',hm,i+1,σ7,H7,I7.unpinned,T.keep _ _ _ st5 λb hb o e=>(I7.pin (b,o) (aZ _ (aZ _ (jN hb e)))).1,λb hb=>?_,w7⟩;obtain⟨o,e,d⟩:=T.obj _ _ st5 b hb;exact(I7.pin (b,o) (aZ _ (aZ _ (jN hb e)))).2.1
  cases f with
  |next=>obtain⟨σ7,H7,I7,n7⟩:=q7;exact again I7 n7
  |cont=>obtain⟨σ7,H7,I7,n7⟩:=q7;exact again I7 n7
  |brk=>obtain⟨σ7,H7,I7,q7⟩:=q7;exact⟨σ7,H7,I7.unpinned,q7⟩
  |ret v=>obtain⟨x7,σ7,H7,I7,r7,q7⟩:=q7;exact⟨x7,σ7,H7,I7.unpinned,r7,q7⟩
theorem CF{g:TG}(Pv:Nat->St->Hp->Prop)(h0:Pv 0 σ H)(hl:∀i σ H,i<=xs.length->Pv i σ H->dL K H a xs)
 (hs:∀i x σ H,xs[i]?=some x->Pv i σ H->g x σ H λσ2 H2=>tb {D with nx:=Pv (i+1),ct:=Pv (i+1),bk:=D.nx} σ2 H2) (hd:∀σ H,Pv xs.length σ H->D.nx σ H):
 ∃W:Nat->Nat->St->Hp->Prop,(∃m,W 0 m σ H)/\∀i m σ H,W i m σ H->
  ((jk K a).stop i H/\D.nx σ H)\/((jk K a).go i H/\∃N:St->Hp->Prop,(∀σ' H',N σ' H'->∃m',m'<m/\W (i+1) m' σ' H')/\∀x H',(jk K a).yld i H x H'->g x σ H' λσ2 H2=>tb {D with nx:=N,ct:=N,bk:=D.nx} σ2 H2):=by
 refine⟨λi m σ H=>m=xs.length-i/\i<=xs.length/\Pv i σ H,⟨xs.length,by simp,cG _,h0⟩,?_⟩;rintro i m σ H ⟨rfl,hi,p⟩;have q:=hl i σ H hi p;by_cases iY:i<xs.length
 ·refine .inr ⟨⟨xs,xs[i],q,by simp[iY]⟩,Pv (i+1),λσ' H' p'=>⟨xs.length-(i+1),(),rfl,iY,p'⟩,λx H' y=>?_⟩;obtain⟨e,y⟩:=y;subst e;exact hs i x σ _ (y xs q) p
 ·have e:i=xs.length:=by lia
  subst e;exact .inl ⟨⟨xs,q,aG _⟩,hd σ H p⟩
theorem KP{g:TG}(Pv:Nat->St->Hp->Prop)(h0:Pv 0 σ H)(hl:∀i σ H,i<=xs.length->Pv i σ H->dN K H a xs)
 (hs:∀i x σ H,xs[i]?=some x->Pv i σ H->g x σ H λσ2 H2=>tb {D with nx:=Pv (i+1),ct:=Pv (i+1),bk:=D.nx} σ2 H2) (hd:∀σ H,Pv xs.length σ H->D.nx σ H):
 ∃W:Nat->Nat->St->Hp->Prop,(∃m,W 0 m σ H)/\∀i m σ H,W i m σ H->
  ((ln K a).stop i H/\D.nx σ H)\/((ln K a).go i H/\∃N:St->Hp->Prop,(∀σ' H',N σ' H'->∃m',m'<m/\W (i+1) m' σ' H')/\∀x H',(ln K a).yld i H x H'->g x σ H' λσ2 H2=>tb {D with nx:=N,ct:=N,bk:=D.nx} σ2 H2):=by
 refine⟨λi m σ H=>m=xs.length-i/\i<=xs.length/\Pv i σ H,⟨xs.length,by simp,cG _,h0⟩,?_⟩;rintro i m σ H ⟨rfl,hi,p⟩;have q:=hl i σ H hi p;by_cases iY:i<xs.length
 ·refine .inr ⟨⟨xs,xs[i],q,by simp[iY]⟩,Pv (i+1),λσ' H' p'=>⟨xs.length-(i+1),(),rfl,iY,p'⟩,λx H' y=>?_⟩;obtain⟨e,y⟩:=y;subst e;exact hs i x σ _ (y xs q) p
 ·have e:i=xs.length:=by lia
  subst e;exact .inl ⟨⟨xs,q,aG _⟩,hd σ H p⟩
theorem QL{lo:Int}{g:TG}(Pv:Nat->St->Hp->Prop)(h0:Pv 0 σ H)
 (hs:∀i σ H,i<n->Pv i σ H->g (.int (lo+i)) σ H λσ2 H2=>tb {D with nx:=Pv (i+1),ct:=Pv (i+1),bk:=D.nx} σ2 H2) (hd:∀σ H,Pv n σ H->D.nx σ H):
 ∃W:Nat->Nat->St->Hp->Prop,(∃m,W 0 m σ H)/\∀i m σ H,W i m σ H->
  ((aj lo n).stop i H/\D.nx σ H)\/((aj lo n).go i H/\∃N:St->Hp->Prop,(∀σ' H',N σ' H'->∃m',m'<m/\W (i+1) m' σ' H')/\∀x H',(aj lo n).yld i H x H'->g x σ H' λσ2 H2=>tb {D with nx:=N,ct:=N,bk:=D.nx} σ2 H2):=by
 refine⟨λi m σ H=>m=n-i/\i<=n/\Pv i σ H,⟨n,by simp,cG _,h0⟩,?_⟩;rintro i m σ H ⟨rfl,hi,p⟩;by_cases iY:i<n
 ·refine .inr ⟨iY,Pv (i+1),λσ' H' p'=>⟨n-(i+1),(),rfl,iY,p'⟩,λx H' y=>?_⟩;obtain⟨e,y⟩:=y;subst e y;exact hs i σ _ iY p
 ·have e:i=n:=by lia
  subst e;exact .inl ⟨aG _,hd σ H p⟩
abbrev R2:=V->V->Hp->VK->Prop
def oQ(X:Cx)(f:Value->Value->Sem Value)(r:R2):Prop:=
 ∀(aJ:List (Addr×Obj)) (s:Shared) (σ:St) (H:Hp) (x y:V) (v u:Value) (Q:VK),Inv X aJ σ H s->RelV x v->RelV y u->r x y H Q->
  wpAny (model X.prog X.w) X.A (f v u) (EP X aJ σ Q) X.xe s
def UnR(X:Cx)(f:Value->Sem Value)(r:V->Hp->VK->Prop):Prop:=
 ∀(aJ:List (Addr×Obj)) (s:Shared) (σ:St) (H:Hp) (x:V) (v:Value) (Q:VK),Inv X aJ σ H s->RelV x v->r x H Q->
  wpAny (model X.prog X.w) X.A (f v) (EP X aJ σ Q) X.xe s
def qQ(X:Cx)(f:Value)(r:List V->Hp->VK->Prop):Prop:=
 ∀(aJ:List (Addr×Obj)) (s:Shared) (σ:St) (H:Hp) (xs:List V) (us:List Value) (Q:VK),Inv X aJ σ H s->dD xs us->r xs H Q->
  wpAny (model X.prog X.w) X.A (call f us) (EP X aJ σ Q) X.xe s
def TruR(X:Cx)(r:V->Hp->(Bool->Hp->Prop)->Prop):Prop:=
 ∀(aJ:List (Addr×Obj)) (s:Shared) (σ:St) (H:Hp) (x:V) (v:Value) (Q:Bool->Hp->Prop),Inv X aJ σ H s->RelV x v->r x H Q->
  wpAny (model X.prog X.w) X.A (truthy v) (TP X aJ σ Q) X.xe s
def tOp(r:R2)(ta tb:TE):TE:=λσ H Q=>ta σ H λx H1=>tb σ H1 λy H2=>r x y H2 Q
def tUn(r:V->Hp->VK->Prop)(ta:TE):TE:=λσ H Q=>ta σ H λx H1=>r x H1 Q
def rI(C:Int->Int->Prop)(g:Int->Int->V):R2:=λx y H Q=>sH x λi=>sH y λj=>C i j/\Q (g i j) H
def du(g:Int->Int->V):R2:=λx y H Q=>sH x λi=>sH y λj=>Q (g i j) H
def rU(g:Int->V):V->Hp->VK->Prop:=λx H Q=>sH x λi=>Q (g i) H
section
variable {a b:Expr} {tb tc:TE} {pos:Pos}
theorem sm(ha:PE X a ta)(hb:PE X b tb){R:V->V->Hp->Prop}(I:Inv X aJ σ H s)
 (h:ta σ H λx H1=>tb σ H1 λy H2=>R x y H2) {f:Value->Value->Sem Value}
 (hf:∀v u s2 x y H2,Inv X aJ σ H2 s2->RelV x v->RelV y u->R x y H2->wpAny (model X.prog X.w) X.A (f v u) Q X.xe s2):
 wpAny (model X.prog X.w) X.A (eval a X.env) (λv s₁=>wpAny (model X.prog X.w) X.A (eval b X.env) (λu s₂=>wpAny (model X.prog X.w) X.A (f v u) Q X.xe s₂) X.xe s₁) X.xe s:=by
 refine eL (ha aJ s σ H _ I h) λv s1 ⟨x,H1,I1,r1,q1⟩=>?_
 refine eL (hb aJ s1 σ H1 _ I1 q1) λu s2 ⟨y,H2,I2,r2,q2⟩=>?_
 exact hf v u s2 x y H2 I2 r1 r2 q2
theorem zN{op:Operator}{r:R2}(ho:oQ X (binaryOp op) r)(ha:PE X a ta)(hb:PE X b tb):PE X (.BinOp a op b pos) (tOp r ta tb):=by
 intro aJ s σ H Q I h;exact wpAny_BinOp (sm ha hb I h λv u s2 x y H2 I2 rx ry q=>ho aJ s2 σ H2 x y v u Q I2 rx ry q)
theorem wF{op:UnaryOp}{r:V->Hp->VK->Prop}(ho:UnR X (unaryOp op) r)(ha:PE X a ta):PE X (.UnaryOp op a pos) (tUn r ta):=by
 intro aJ s σ H Q I h;exact UnaryOp_ (eL (ha aJ s σ H _ I h) λv s1 ⟨x,H1,I1,r1,q1⟩=>ho aJ s1 σ H1 x v Q I1 r1 q1)
theorem opI{f:Value->Value->Sem Value}{C:Int->Int->Prop}{g:Int->Int->Int}
 (rule:∀(i j:Int)(t u:Tok)(s:Shared)(Q:Value->Shared->Prop)(E:Value->Shared->Prop),C i j->Q (.int (g i j) s.toks) {s with toks:=s.toks+1}->wpAny (model X.prog X.w) X.A (f (.int i t) (.int j u)) Q E s):
 oQ X f (rI C λi j=>.int (g i j)):=by
 intro aJ s σ H x y v u Q I rx ry h;replace h:=qB h;obtain⟨i,rfl,h⟩:=h;replace h:=qB h;obtain⟨j,rfl,hc,q⟩:=h;obtain⟨t,rfl⟩:=rx;obtain⟨t',rfl⟩:=ry;exact rule i j t t' s _ _ hc ⟨.int (g i j),H,I.tok _,⟨_,rfl⟩,q⟩
theorem fh{f:Value->Value->Sem Value}{g:Int->Int->Int}
 (rule:∀(i j:Int)(t u:Tok)(s:Shared)(Q:Value->Shared->Prop)(E:Value->Shared->Prop),Q (.int (g i j) s.toks) {s with toks:=s.toks+1}->wpAny (model X.prog X.w) X.A (f (.int i t) (.int j u)) Q E s):
 oQ X f (du λi j=>.int (g i j)):=by
 intro aJ s σ H x y v u Q I rx ry h;replace h:=qB h;obtain⟨i,rfl,h⟩:=h;replace h:=qB h;obtain⟨j,rfl,q⟩:=h;obtain⟨t,rfl⟩:=rx;obtain⟨t',rfl⟩:=ry;exact rule i j t t' s _ _ ⟨.int (g i j),H,I.tok _,⟨_,rfl⟩,q⟩
theorem pj{f:Value->Value->Sem Value}{g:Int->Int->Bool}
 (rule:∀(i j:Int)(t u:Tok)(s:Shared)(Q:Value->Shared->Prop)(E:Value->Shared->Prop),Q (.bool (g i j)) s->wpAny (model X.prog X.w) X.A (f (.int i t) (.int j u)) Q E s):
 oQ X f (du λi j=>.bl (g i j)):=by
 intro aJ s σ H x y v u Q I rx ry h;replace h:=qB h;obtain⟨i,rfl,h⟩:=h;replace h:=qB h;obtain⟨j,rfl,q⟩:=h;obtain⟨t,rfl⟩:=rx;obtain⟨t',rfl⟩:=ry;exact rule i j t t' s _ _ ⟨.bl (g i j),H,I,rfl,q⟩
def CDiv(i j:Int):Prop:=0<j/\j<1073741824
def CPow(i j:Int):Prop:=0<=j/\j<=1000000/\i.natAbs<2^64
def uc(i j:Int):Prop:=(-(2^64)<i/\i<2^64)\/(-(2^64)<j/\j<2^64)
theorem uc.ok{i j:Int}(h:uc i j):IntMulOk i j:=by
 rcases h with⟨h1,h2⟩ |⟨h1,h2⟩
 ·exact .of_left (intBits_le_64 h1 h2)
 ·exact .of_right (intBits_le_64 h1 h2)
theorem XO:oQ X (binaryOp .Add) (du λi j=>.int (i+j)):=fh λ_ _ _ _ _ _ _ q=>add_int q
theorem SJ:oQ X (binaryOp .Sub) (du λi j=>.int (i-j)):=fh λ_ _ _ _ _ _ _ q=>sub_int q
theorem xR:oQ X (binaryOp .Mult) (rI uc λi j=>.int (i*j)):=opI λ_ _ _ _ _ _ _ hc q=>mul_int q hc.ok
theorem yT:oQ X (binaryOp .FloorDiv) (rI CDiv λi j=>.int (i/j)):=opI λi j _ _ _ _ _ hc q=>by
 have h1:(0:Int)<j:=hc.1;have h2:j<1073741824:=hc.2;exact floordiv_int () (by rw[Int.fdiv_eq_ediv_of_nonneg i ()];exact q) (.inl (PyProof.noPylong_small ()))
theorem yO:oQ X (binaryOp .Mod) (rI (λ_ j=>0<j) λi j=>.int (i % j)):=opI λi j _ _ _ _ _ hc q=>by
 have h1:(0:Int)<j:=hc;exact mod_int' () (by rw[Int.fmod_eq_emod_of_nonneg i ()];exact q)
theorem XM:oQ X (binaryOp .Pow) (rI CPow λi j=>.int (i^j.toNat)):=opI λ_ _ _ _ _ _ _ hc q=>pow_int_small hc.1 hc.2.1 hc.2.2 q
theorem kY:oQ X (binaryOp .LShift) (rI CPow λi j=>.int (i*2^j.toNat)):=opI λ_ _ _ _ _ _ _ hc q=>lshift_int_small hc.1 hc.2.1 hc.2.2 q
theorem EW:oQ X (binaryOp .BitAnd) (du λi j=>.int (Builtin.bitAnd i j)):=fh λ_ _ _ _ _ _ _ q=>and_int q
theorem kX:oQ X (binaryOp .BitXor) (du λi j=>.int (Builtin.bitXor i j)):=fh λ_ _ _ _ _ _ _ q=>xor_int q
theorem unI{f:Value->Sem Value}{g:Int->Int}
 (rule:∀(i:Int)(t:Tok)(s:Shared)(Q:Value->Shared->Prop)(E:Value->Shared->Prop),Q (.int (g i) s.toks) {s with toks:=s.toks+1}->wpAny (model X.prog X.w) X.A (f (.int i t)) Q E s):
 UnR X f (rU λi=>.int (g i)):=by
 intro aJ s σ H x v Q I rx h;replace h:=qB h;obtain⟨i,rfl,q⟩:=h;obtain⟨t,rfl⟩:=rx;exact rule i t s _ _ ⟨.int (g i),H,I.tok _,⟨_,rfl⟩,q⟩
theorem uT:UnR X (unaryOp .USub) (rU λi=>.int (-i)):=unI λ_ _ _ _ _ q=>neg_int q
theorem OV:UnR X (unaryOp .Invert) (rU λi=>.int (Builtin.bitNot i)):=unI λ_ _ _ _ _ q=>invert_int q
end
def scal:V->V->Bool
 | .non,.non=>true | .non,.int _=>true | .int _,.non=>true | .non,.bl _=>true | .bl _,.non=>true | .non,.str _=>true | .str _,.non=>true
 | .int _,.int _=>true | .bl _,.bl _=>true | .str _,.str _=>true | .byt _,.byt _=>true
 | .int _,.str _=>true | .str _,.int _=>true | .bl _,.str _=>true | .str _,.bl _=>true
 |_,_=>false
def rEq:R2:=λx y H Q=>scal x y=true/\Q (.bl (decide (x=y))) H
def rNe:R2:=λx y H Q=>scal x y=true/\Q (.bl (!decide (x=y))) H
theorem ix{i j:Int}:decide (V.int i=V.int j)=(i==j):=by
 rw[cD];simp
theorem r9{i j:Bool}:decide (V.bl i=V.bl j)=(i==j):=by
 rw[cD];simp
theorem iw{i j:Str}:decide (V.str i=V.str j)=(i==j):=by
 rw[cD];simp
theorem iy{i j:Array UInt8}:decide (V.byt i=V.byt j)=(i.toList==j.toList):=by
 rw[cD];cases i;cases j;simp
section
variable {a b:Expr} {tb tc:TE} {pos:Pos}
theorem yX{Q:VK}{k k':Bool}(I:Inv X aJ σ H s)(q:Q (.bl k) H)(e:k=k'):EP X aJ σ Q (.bool k') s:=by
 subst e;exact⟨.bl k,H,I,rfl,q⟩
theorem xK:oQ X (compareOp .Eq) rEq:=by
 intro aJ s σ H x y v u Q I rx ry h;obtain⟨hs,q⟩:=h;cases x with
 |non=>
  cases rx;cases y with
  |non=>cases ry;exact PySem.EqNone.eq_none_none (yX I q (by simp))
  |bl j=>cases ry;exact PySem.EqNone.eq_none_bool (yX I q (by simp))
  |int j=>obtain⟨t',rfl⟩:=ry;exact PySem.EqNone.eq_none_int (yX I q (by simp))
  |str j=>obtain⟨t',rfl⟩:=ry;exact PySem.EqNone.eq_none_str (yX I q (by simp))
  |_=>exact absurd (show false=true from hs) bQ
 |bl i=>
  cases rx;cases y with
  |non=>cases ry;exact PySem.EqNone.eq_bool_none (yX I q (by simp))
  |bl j=>cases ry;exact eq_bool (yX I q r9)
  |str j=>obtain⟨t',rfl⟩:=ry;exact PySem.EqMixed.eq_bool_str (yX I q (by simp))
  |_=>exact absurd (show false=true from hs) bQ
 |int i=>
  obtain⟨t,rfl⟩:=rx;cases y with
  |non=>cases ry;exact PySem.EqNone.eq_int_none (yX I q (by simp))
  |int j=>obtain⟨t',rfl⟩:=ry;exact eq_int (yX I q ix)
  |str j=>obtain⟨t',rfl⟩:=ry;exact PySem.EqMixed.eq_int_str (yX I q (by simp))
  |_=>exact absurd (show false=true from hs) bQ
 |str i=>
  obtain⟨t,rfl⟩:=rx;cases y with
  |non=>cases ry;exact PySem.EqNone.eq_str_none (yX I q (by simp))
  |bl j=>cases ry;exact PySem.EqMixed.eq_str_bool (yX I q (by simp))
  |int j=>obtain⟨t',rfl⟩:=ry;exact PySem.EqMixed.eq_str_int (yX I q (by simp))
  |str j=>obtain⟨t',rfl⟩:=ry;exact eq_str (yX I q iw)
  |_=>exact absurd (show false=true from hs) bQ
 |byt i=>
  obtain⟨t,rfl⟩:=rx;cases y with
  |byt j=>obtain⟨t',rfl⟩:=ry;exact W.eq_bytes (yX I q iy)
  |_=>exact absurd (show false=true from hs) bQ
 |_=>cases y<;>exact absurd (show false=true from hs) bQ
theorem ZM:oQ X (compareOp .Lt) (du λi j=>.bl (decide (i<j))):=pj λ_ _ _ _ _ _ _ q=>lt_int q
theorem op_le:oQ X (compareOp .LtE) (du λi j=>.bl (decide (i<=j))):=pj λ_ _ _ _ _ _ _ q=>le_int q
theorem QE:oQ X (compareOp .Gt) (du λi j=>.bl (decide (j<i))):=pj λ_ _ _ _ _ _ _ q=>gt_int q
theorem EV:oQ X (compareOp .Is) (λx y H Q=>y=.non/\Q (.bl (decide (x=.non))) H):=by
 intro aJ s σ H x y v u Q I rx ry h;obtain⟨rfl,q⟩:=h;cases ry;refine is_none_gen (yX I q ?_);cases x<;>first
  |(cases rx;rfl)
  |(obtain⟨t,rfl⟩:=rx;rfl)
theorem fc:oQ X (compareOp .IsNot) (λx y H Q=>y=.non/\Q (.bl (!decide (x=.non))) H):=by
 intro aJ s σ H x y v u Q I rx ry h;obtain⟨rfl,q⟩:=h;cases ry;refine isnot_none_gen (yX I q ?_);cases x<;>first
  |(cases rx;rfl)
  |(obtain⟨t,rfl⟩:=rx;rfl)
theorem zV(b:Expr)(h:op≠.In:=by decide)(h2:op≠.NotIn:=by decide):behindInMarks op b=false:=by
 have e1:(op==CmpOp.In)=false:=by cases op<;>first |rfl |exact absurd rfl h
 have e2:(op==CmpOp.NotIn)=false:=by cases op<;>first |rfl |exact absurd rfl h2
 cases b<;>simp[behindInMarks,e1,e2]
theorem UT{r:R2}(ho:oQ X (compareOp op) r)(ha:PE X a ta)(hb:PE X b tb)(hm:behindInMarks op b=false):PE X (.Compare a [op] [b] pos) (tOp r ta tb):=by
 intro aJ s σ H Q I h;exact wpAny_Compare1 (sm ha hb I h λv u s2 x y H2 I2 rx ry q=>ho aJ s2 σ H2 x y v u Q I2 rx ry q) hm
def tTest(t:TE):TT:=λσ H Q=>t σ H λx H'=>ja x λk=>Q k H'
theorem zP{r:R2}(ho:oQ X (compareOp op) r)(ha:PE X a ta)(hb:PE X b tb)(hm:behindInMarks op b=false):PT X (.Compare a [op] [b] pos) (tTest (tOp r ta tb)):=by
 intro aJ s σ H Q I h;refine wpAny_isTrue_Compare1 (eL (ha aJ s σ H _ I h) λv s1 ⟨x,H1,I1,r1,q1⟩=>eL (hb aJ s1 σ H1 _ I1 q1) λu s2 ⟨y,H2,I2,r2,q2⟩=>
  eL (ho aJ s2 σ H2 x y v u _ I2 r1 r2 q2) λc s3 ⟨z,H3,I3,r3,q3⟩=>?_) hm
 replace q3:=GO q3;obtain⟨k,rfl,q3⟩:=q3;cases r3;exact fR ⟨H3,I3,q3⟩
def mh(r r':R2)(ta tb tc:TE):TE:=λσ H Q=>ta σ H λx H1=>tb σ H1 λy H2=>r x y H2 λz H3=>ja z λk=>(if k=true then tc σ H3 λw' H4=>r' y w' H4 Q else Q (.bl false) H3)
theorem SF{op':CmpOp}{r r':R2}(ho:oQ X (compareOp op) r)(ho':oQ X (compareOp op') r')(ha:PE X a ta)(hb:PE X b tb)(hc:PE X c tc)
 (hm:lastMarks [op,op'] [b,c]=false:=by with_unfolding_all rfl):PE X (.Compare a [op,op'] [b,c] pos) (mh r r' ta tb tc):=by
 intro aJ s σ H Q I h;refine Compare_chain (eL (ha aJ s σ H _ I h) λv s1 ⟨x,H1,I1,r1,q1⟩=>chain_link (eL (hb aJ s1 σ H1 _ I1 q1) λu s2 ⟨y,H2,I2,r2,q2⟩=>
  eL (ho aJ s2 σ H2 x y v u _ I2 r1 r2 q2) λd s3 ⟨z,H3,I3,r3,q3⟩=>?_)) hm
 replace q3:=GO q3;obtain⟨k,rfl,q3⟩:=q3;cases r3;refine fR ?_;cases k with
 |false=>exact ite_ff ⟨.bl false,H3,I3,rfl,q3⟩
 |true=>exact ite_tt (chain_last (eL (hc aJ s3 σ H3 _ I3 q3) λw' s4 ⟨z',H4,I4,r4,q4⟩=>ho' aJ s4 σ H4 y z' u w' Q I4 r2 r4 q4))
def TruV(K:W.Frag)(x:V)(H:Hp)(k:Bool):Prop:=
 match x with
 | .non=>k=false
 | .bl b=>k=b
 | .int i=>k=(i !=0)
 | .str y=>y.length<=sizeLine/\k=((y.length:Int) !=0)
 | .byt y=>y.size<=sizeLine/\k=((y.size:Int) !=0)
 | .ref p=>(∃xs,dL K H p xs/\k=!xs.isEmpty)\/(∃xs,dN K H p xs/\k=!xs.isEmpty)\/∃kvs,H p=some (.dK kvs)/\k=!kvs.isEmpty
 |_=>False
theorem FT{κ:Type}{kvs:List (κ×V)}{vs:List (κ×Value)}(r:KV kvs vs):(!vs.isEmpty)=!kvs.isEmpty:=by
 cases r<;>rfl
theorem XX(r:dD xs its):(!its.toArray.isEmpty)=!xs.isEmpty:=by
 cases r<;>simp
theorem ZB:(sizeLine:Nat)<2^63:=by rw[dG];decide
theorem l9:TruR X (λx H Q=>∃k,TruV X.K x H k/\Q k H):=by
 intro aJ s σ H x v Q I rx h;obtain⟨k,e,q⟩:=h;have hl:=ZB;have hs:sizeLine=16777216:=dG;cases x with
 |non=>
  cases rx;have e':k=false:=e;subst e';exact truthy_none ⟨H,I,q⟩
 |bl b=>
  cases rx;have e':k=b:=e;subst e';exact fR ⟨H,I,q⟩
 |int i=>
  obtain⟨t,rfl⟩:=rx;have e':k=(i !=0):=e;subst e';exact PySem.P.truthy_int ⟨H,I,q⟩
 |str y=>
  obtain⟨t,rfl⟩:=rx;obtain⟨hy,e'⟩:y.length<=sizeLine/\k=((y.length:Int) !=0):=e;subst e';exact PySem.P.truthy_str () ⟨H,I.tok _,q⟩
 |byt y=>
  obtain⟨t,rfl⟩:=rx;obtain⟨hy,e'⟩:y.size<=sizeLine/\k=((y.size:Int) !=0):=e;subst e';exact W.truthy_bytes () ⟨H,I.tok _,q⟩
 |ref p=>
  cases rx;have e':(∃xs,dL X.K H p xs/\k=!xs.isEmpty)\/(∃xs,dN X.K H p xs/\k=!xs.isEmpty)\/∃kvs,H p=some (.dK kvs)/\k=!kvs.isEmpty:=e;rcases e' with⟨xs,hx,e'⟩ |⟨xs,hx,e'⟩ |⟨kvs,hx,e'⟩
  ·subst e';obtain⟨its,r,pl,hz⟩:=I.list hx;have eQ:=r.length;exact wpAny_truthy_list pl.isList (by simp only[aR];lia) ⟨H,I.tok _,by rw[XX r];exact q⟩
  ·subst e';obtain⟨its,r,pl,hz⟩:=I.tuple hx;have eQ:=r.length;exact truthy_tuple pl (by simp only[aR];lia) ⟨H,I.tok _,by rw[XX r];exact q⟩
  ·subst e';obtain⟨hz,hS,vs,r,m⟩:kvs.length<=sizeLine/\(p==sysModules)=false/\∃vs,KV kvs vs/\s.heap.DictOf (yB X.prog X.w) p vs:=I.hok p _ hx;have eQ:kvs.length=vs.length:=eT r;exact wpAny_truthy_dict hS m () ⟨H,I.tok _,by rw[FT r];exact q⟩
 |_=>exact(show False from e).elim
theorem RQ(ha:PE X a ta)(he:∀whole,isTrue a X.env whole=(do let v ←whole;standAt a.pos;holding [v] (truthy v))):
 PT X a (λσ H Q=>ta σ H λx H'=>∃k,TruV X.K x H' k/\Q k H'):=by
 intro aJ s σ H Q I h;exact isTrue_plain (eL (ha aJ s σ H _ I h) λv s1 ⟨x,H1,I1,r1,q1⟩=>l9 aJ s1 σ H1 x v Q I1 r1 q1) (he _)
theorem XN:oQ X (binaryOp .Add) (λx y H Q=>∃i j,x=.str i/\y=.str j/\i.length+j.length<=sizeLine/\Q (.str (i++j)) H):=by
 intro aJ s σ H x y v u Q I rx ry h;obtain⟨i,j,rfl,rfl,hz,q⟩:=h;obtain⟨t,rfl⟩:=rx;obtain⟨t',rfl⟩:=ry;exact add_str (λt' tk=>⟨.str (i++j),H,I.tok _,⟨_,rfl⟩,q⟩) hz
theorem uP{x:V}(r:dD [x] us):∃u,us=[u]/\RelV x u:=by
 cases r with
 |cons r1 r2=>cases r2;exact⟨_,rfl,r1⟩
theorem vals2{x:V}(r:dD [x,y] us):∃u w',us=[u,w']/\RelV x u/\RelV y w':=by
 cases r with
 |cons r1 r2=>
  cases r2 with
  |cons r3 r4=>cases r4;exact⟨_,_,rfl,r1,r3⟩
def jj(K:W.Frag)(x:V)(H:Hp)(n:Nat):Prop:=
 match x with
 | .str y=>y.length<=sizeLine/\n=y.length
 | .byt y=>y.size<=sizeLine/\n=y.size
 | .ref p=>(∃xs,dL K H p xs/\n=xs.length)\/∃xs,dN K H p xs/\n=xs.length
 |_=>False
theorem yL:qQ X (.builtin "len") (λxs H Q=>pG xs λx=>∃n,jj X.K x H n/\Q (.int n) H):=by
 intro aJ s σ H xs us Q I r h;replace h:=wE h;obtain⟨x,rfl,n,e,q⟩:=h;obtain⟨u,rfl,rx⟩:=uP r;have hl:=ZB;have hs:sizeLine=16777216:=dG;cases x with
 |str y=>
  obtain⟨t,rfl⟩:=rx;obtain⟨hy,e'⟩:y.length<=sizeLine/\n=y.length:=e;subst e';exact len_str () ⟨.int _,H,I.tok _,⟨_,rfl⟩,q⟩
 |byt y=>
  obtain⟨t,rfl⟩:=rx;obtain⟨hy,e'⟩:y.size<=sizeLine/\n=y.size:=e;subst e';exact W.len_bytes () ⟨.int _,H,I.tok _,⟨_,rfl⟩,q⟩
 |ref p=>
  cases rx;have e':(∃xs,dL X.K H p xs/\n=xs.length)\/∃xs,dN X.K H p xs/\n=xs.length:=e;rcases e' with⟨xs,hx,e'⟩ |⟨xs,hx,e'⟩
  ·subst e';obtain⟨its,r',pl,hz⟩:=I.list hx;have eQ:=r'.length;exact Calls.call_len_list pl.isList (by simp only[aR];lia) ⟨.int xs.length,H,I.tok _,⟨_,by simp only[aR];rw[eQ]⟩,q⟩
  ·subst e';obtain⟨its,r',pl,hz⟩:=I.tuple hx;have eQ:=r'.length;exact len_tuple pl (by simp only[aR];lia) ⟨.int xs.length,H,I.tok _,⟨_,by simp only[aR];rw[eQ]⟩,q⟩
 |_=>exact(show False from e).elim
end
structure GU(h:Heap)(x dx C:Addr)(mA:Str->Option Value):Prop where
 obj:h.get? x=some (W.instObj C dx)
 ns:h.Ns1 dx mA
 ne:dx≠x
theorem MY{dx:Addr}(n:h.Ns1 dx mA):∃od,h.get? dx=some od/\∀name,W.lookIn name od=some (mA name):=by
 obtain⟨o,es,ep,ho,hd,hk,_,hm⟩:=n;refine⟨o,ho,λname=>?_⟩;have e:=hm name;unfold nsFind findBy at e;rw[←Array.find?_toList]at e;unfold W.lookIn;rw[hd];dsimp only;split
 ·rename_i y q
  rw[q]at e;exact dH some e
 ·rename_i q
  rw[q]at e;have a:es.toList.any (·.refKey)=false:=by
   rw[List.any_eq_false];intro y hy;obtain⟨z,t,hkey⟩:=hk y (Array.mem_toList_iff.mp hy);simp[DictEntry.refKey,hkey]
  have a':¬es.toList.any (·.refKey)=true:=by rw[a];exact bQ
  rw[aH a'];exact dH some e
theorem GU.look{x dx C:Addr}(I:GU h x dx C mA):∃od,W.InstAt h x (W.instObj C dx) C (some od)/\∀name,W.lookIn name od=some (mA name):=
 let ⟨od,ho,hl⟩:=MY I.ns
 ⟨od,⟨I.obj,rfl,rfl,ho⟩,hl⟩
section
variable {x dx C:Addr} {name:Str} {v:Value}
theorem im{expr:Bool}(X:K.In s.heap)(I:GU s.heap x dx C mA)(hg:W.plainGet K C name=true)(hh:W.hasDictIn K C=true)
 (ha:W.findIn K (.ref C) name=some none) (hv:mA name=some v) (hv':W.handedIn v=true) (h:Q v {s with toks:=s.toks+1}):
 wpAny (model prog w) A (getAttr (.ref x) name expr) Q E s:=by
 obtain⟨od,J,hl⟩:=I.look;exact W.get_value X J (sS hg).1 (W.findObj_own hh ha rfl (by rw[hl,hv])) hv' h
theorem WC{pl:Sem Bool}{Q:Value×List Value->Shared->Prop}(X:K.In s.heap)(I:GU s.heap x dx C mA)(hg:W.plainGet K C name=true)
 (hf:W.findIn K (.ref C) name=some (some (.ref f))) (ht:W.isFn K (.ref f)=true) (hv:mA name=none) (h:Q (.ref f,[.ref x]) s):
 wpAny (model prog w) A (getMethod (.ref x) name pl) Q E s:=by
 obtain⟨od,J,hl⟩:=I.look;exact W.method_fn X J (sS hg).1 (sS hg).2 hf (cS.mp ht) (by show(W.lookIn name od).map (·.isSome)=some false;rw[hl,hv];rfl) h
theorem cv{Q:Unit->Shared->Prop}(X:K.In s.heap)(I:GU s.heap x dx C mA)
 (hs:W.findIn K (.ref C) "__setattr__"=some (some (.builtin "object.__setattr__"))) (hp:W.plainOver K C=true) (ht:W.takerIn K C name=some none) (hh:W.hasDictIn K C=true)
 (hw:PySem.Within mA ns) (hsz:ns.length<=sizeLine)
 (h:∀h',GU h' x dx C (λy=>if y=name then some v else mA y)->Heap.SameBut dx s.heap h'->Q Unit.unit {s with heap:=h',toks:=s.toks+2}):
 wpAny (model prog w) A (setAttr (.ref x) name v) Q E s:=by
 obtain⟨od,J,hl⟩:=I.look;refine W.set_plain X J hs (W.osa_open (s:={s with toks:=s.toks+1}) (r:=none) X J hp ht λb=>?_);obtain⟨cd,hc,hd'⟩:=W.any_some hh;have hx:s.heap.get? x=some ⟨.ref C,some dx,.plain,#[]⟩:=I.obj;refine aF (aS (aF (aF (wpAny_loadPart hx (aF (W.Looks.here (s:={s with toks:=s.toks+1}) (W.looks_clsIn X hc) ?_))))));rw[hd'];refine aS (a:=some dx) (aF (aS (aF ?_)));refine wpAny_nsSet1 (s:={s with toks:=s.toks+1}) I.ns λh' hn2 hs2=>?_
 obtain⟨oD,esD,epD,hoD,hdD,hcD⟩:=hn2.count (PySem.Within.cons name v hw);refine aF (wpAny_lookBehind hoD (by rw[hdD];exact pastItsLine_dict (cR hcD (by rw[bF];lia))) ?_);exact aS (h _ ⟨(hs2.2 _ (cH I.ne)).trans I.obj,hn2,I.ne⟩ hs2)
theorem TM{vs:List Value}(X:K.In s.heap)(hm:W.makesIn K C=true)
 (hi:W.findIn K (.ref C) "__init__"=some (some (.ref f))) (hf:W.typeIn K (.ref f)=some (.type "function"))
 (h:codeAny (model prog w) (A.under (.builtin "type.__call__" ⟨.ref C::vs,kw⟩)) (.call (.ref f) ⟨.ref (s.heap.objs.size+1)::vs,kw⟩) (W.InitBack (s.heap.objs.size+1) R)
  {s with heap:=(s.heap.push W.emptyDict).push (W.instObj C s.heap.objs.size)}):
 codeAny (model prog w) A (.call (.ref C) ⟨vs,kw⟩) R s:=by
 obtain⟨hh,g,d,t,os⟩:=s;exact W.make_core (W.makes_of X hm) (W.looks_findIn X hi) (λself=>W.bind_fn X self hf) (.inl rfl) h
end
def xA(f:Str)(v:V):List (Str×V)->List (Str×V)
 |[]=>[(f,v)]
 |(g,x)::r=>if g=f then(g,v)::r else(g,x)::xA f v r
theorem ZN(f g:Str)(v:V):∀fs:List (Str×V),(xA f v fs).lookup g=if g=f then some v else fs.lookup g
 |[]=>by
  show List.lookup g [(f,v)]=_;by_cases h:g=f
  ·have hb:(g==f)=true:=cS.mpr h;simp only[List.lookup,hb,aL h]
  ·have hb:(g==f)=false:=cV.mpr h;simp only[List.lookup,hb,aH h]
 |(k,x)::r=>by
  have ih:=ZN f g v r;rw[show xA f v ((k,x)::r)=(if k=f then(k,v)::r else(k,x)::xA f v r)from rfl];by_cases hk:k=f
  ·rw[aL hk];by_cases h:g=k
   ·have hb:(g==k)=true:=cS.mpr h;simp only[List.lookup,hb,aL (h.trans hk)]
   ·have hb:(g==k)=false:=cV.mpr h;simp only[List.lookup,hb,aH (λe:g=f=>h (e.trans hk.symm))]
  ·rw[aH hk];by_cases h:g=k
   ·have hb:(g==k)=true:=cS.mpr h;simp only[List.lookup,hb,aH (λe:g=f=>hk (h.symm.trans e))]
   ·have hb:(g==k)=false:=cV.mpr h;simp only[List.lookup,hb];exact ih
theorem ZD(f:Str)(v:V):∀fs:List (Str×V),f∈(xA f v fs).map (·.1)/\∀g,g∈fs.map (·.1)->g∈(xA f v fs).map (·.1)
 |[]=>⟨by simp[xA],λg h=>by simp at h⟩
 |(k,x)::r=>by
  obtain⟨i1,i2⟩:=ZD f v r;rw[show xA f v ((k,x)::r)=(if k=f then(k,v)::r else(k,x)::xA f v r)from rfl];by_cases hk:k=f
  ·rw[aL hk];subst hk;exact⟨by simp,λg h=>by simpa using h⟩
  ·rw[aH hk];refine⟨?_,λg h=>?_⟩
   ·rw[cF];exact bC _ i1
   ·rw[cF]at h⊢;rcases bK.mp h with e |e
    ·exact bK.mpr (.inl e)
    ·exact bC _ (i2 g e)
theorem ZO(f:Str)(v:V):∀fs:List (Str×V),(xA f v fs).length<=fs.length+1
 |[]=>by simp[xA]
 |(k,x)::r=>by
  have ih:=ZO f v r;rw[show xA f v ((k,x)::r)=(if k=f then(k,v)::r else(k,x)::xA f v r)from rfl];by_cases hk:k=f
  ·rw[aL hk,bF,bF];lia
  ·rw[aH hk,bF,bF];lia
theorem mQ.some_of{o:Option Value}(r:mQ (some v) o):∃u,o=some u/\RelV v u:=by
 cases o with
 |none=>exact(show False from r).elim
 |some u=>exact⟨u,rfl,r⟩
theorem mQ.none_of{o:Option Value}(r:mQ none o):o=none:=by
 cases o with
 |none=>rfl
 |some u=>exact(show False from r).elim
theorem NG(r:RelV v u):W.handedIn u=true:=by
 cases v with
 |non=>cases (show u=Value.none from r);rfl
 |bl b=>cases (show u=Value.bool b from r);rfl
 |int i=>obtain⟨t,e⟩:=(show∃t,u=Value.int i t from r);cases e;rfl
 |str x=>obtain⟨t,e⟩:=(show∃t,u=Value.str x t from r);cases e;rfl
 |byt b=>obtain⟨t,e⟩:=(show∃t,u=Value.bytes b t from r);cases e;rfl
 |flt b=>obtain⟨t,e⟩:=(show∃t,u=Value.float b t from r);cases e;rfl
 |ref a=>cases (show u=Value.ref a from r);rfl
 |ty n=>cases (show u=Value.type n from r);rfl
section
variable {C dx:Addr} {fs fs':List (Str×V)}
theorem YN(hok:mR P w H h)(e:H a=some (.ins C dx fs)):∃mA,GU h a dx C mA/\(∀f,mQ (fs.lookup f) (mA f))/\PySem.Within mA (fs.map (·.1))/\fs.length<=1000/\H dx=some (.own a):=by
 obtain⟨d,z,ne,ob,mA,n,r,q⟩:=(show fA P w H h a (.ins C dx fs)from hok a _ e)
 exact⟨mA,⟨ob,n,ne⟩,r,q,z,d⟩
end
structure LN(K:W.Frag)(C:Addr):Prop where
 pg:W.plainGet K C Str.empty=true
 hd:W.hasDictIn K C=true
 po:W.plainOver K C=true
 sa:W.findIn K (.ref C) "__setattr__"=some (some (.builtin "object.__setattr__"))
theorem LN.get{C:Addr}(c:LN K C)(f:Str):W.plainGet K C f=true:=c.pg
def lH(K:W.Frag)(C:Addr)(f:Str):Prop:=W.findIn K (.ref C) f=some none
theorem lH.taker{C:Addr}{f:Str}(n:lH K C f):W.takerIn K C f=some none:=by
 unfold W.takerIn;rw[show W.findIn K (.ref C) f=some none from n];rfl
structure Con(K:W.Frag)(C:Addr)(f:Str)(v:V)(u:Value):Prop where
 at_:W.findIn K (.ref C) f=some (some u)
 mU:RelV v u
 get:W.specialIn K u "__get__"=some none
 cp:W.copiedNames.contains f=false
structure pK(K:W.Frag)(C:Addr)(m:Str)(f:Addr):Prop where
 at_:W.findIn K (.ref C) m=some (some (.ref f))
 fn:W.isFn K (.ref f)=true
 kp:W.keepIn K (.ref f)=true
section
variable {C dx:Addr} {fs:List (Str×V)} {f:Str}
theorem FW{b:Bool}(I:Inv X aJ σ H s)(e:H a=some (.ins C dx fs))(c:LN X.K C)(n:lH X.K C f)(l:fs.lookup f=some v)
 (h:∀u s',Inv X aJ σ H s'->RelV v u->Q u s'):wpAny (model X.prog X.w) A (getAttr (.ref a) f b) Q E s:=by
 obtain⟨mA,O,r,_,_,_⟩:=YN I.hok e;obtain⟨u,hu,ru⟩:=mQ.some_of (v:=v) (o:=mA f) (by rw[←l];exact r f);exact im I.kIn O (c.get f) c.hd n hu (NG ru) (h u _ (I.tok _) ru)
theorem FV{m:Str}{g:Addr}{pl:Sem Bool}{Q:Value×List Value->Shared->Prop}(I:Inv X aJ σ H s)(e:H a=some (.ins C dx fs))(c:LN X.K C)(k:pK X.K C m g)(l:fs.lookup m=none)
 (h:Q (.ref g,[.ref a]) s):wpAny (model X.prog X.w) A (getMethod (.ref a) m pl) Q E s:=by
 obtain⟨mA,O,r,_,_,_⟩:=YN I.hok e;have hn:mA m=none:=mQ.none_of (by rw[←l];exact r m);exact WC I.kIn O (c.get m) k.at_ k.fn hn h
theorem ED{Q:Unit->Shared->Prop}(I:Inv X aJ σ H s)(e:H a=some (.ins C dx fs))(c:LN X.K C)(n:lH X.K C f)(hl:fs.length<1000)(ry:RelV y u)
 (h:∀s',Inv X aJ σ (upd H a (.ins C dx (xA f y fs))) s'->Q Unit.unit s'):wpAny (model X.prog X.w) A (setAttr (.ref a) f u) Q E s:=by
 obtain⟨mA,O,r,wi,_,ho⟩:=YN I.hok e;have hz:(fs.map (·.1)).length<=sizeLine:=by rw[aE,dG];lia
 refine cv I.kIn O c.sa c.po n.taker c.hd wi hz λh' O' sb=>h _ ?_
 have hd:∃o,h'.get? dx=some o:=let ⟨o,_,_,e',_⟩:=O'.ns;⟨o,e'⟩;refine I.write (x:=a) (e:=dx) (by rw[e];exact True.intro) (.inr ho) (λb q hb z=>(sb.2 b hb).trans z) hd ?_;refine⟨by rw[zJ O.ne];exact ho,?_,O.ne,O'.obj,_,O'.ns,λg=>?_,λg hg=>?_⟩
 ·have :=ZO f y fs;lia
 ·show mQ ((xA f y fs).lookup g) (if g=f then some u else mA g);rw[ZN];by_cases q:g=f
  ·rw[aL q,aL q];exact ry
  ·rw[aH q,aH q];exact r g
 ·by_cases q:g=f
  ·rw[q];exact(ZD f y fs).1
  ·refine(ZD f y fs).2 g (wi g λz=>hg ?_);show(if g=f then some u else mA g)=none;rw[aH q];exact z
theorem Inv.made(I:Inv X aJ σ H s):Inv X aJ σ (upd (upd H s.heap.objs.size (.own (s.heap.objs.size+1))) (s.heap.objs.size+1) (.ins C s.heap.objs.size []))
 {s with heap:=(s.heap.push W.emptyDict).push (W.instObj C s.heap.objs.size)}:=by
 have e1:(s.heap.push W.emptyDict).get? s.heap.objs.size=some W.emptyDict:=bX s.heap rfl;have e2:((s.heap.push W.emptyDict).push (W.instObj C s.heap.objs.size)).get? (s.heap.objs.size+1)=some (W.instObj C s.heap.objs.size):=by
  have :=bX (s.heap.push W.emptyDict) (o:=W.instObj C s.heap.objs.size) rfl;rwa[Heap.size_push]at this
 have e3:(s.heap.push W.emptyDict).Ns s.heap.objs.size (λ_=>none):=⟨W.emptyDict,#[],_,e1,rfl,(λe he=>absurd he (by simp)),λ_=>rfl⟩
 have I1:=I.laid (a:=s.heap.objs.size) (o:=.own (s.heap.objs.size+1)) (h':=s.heap.push W.emptyDict) (t':=s.toks) (λb u q=>aP _ q) (aG _) ⟨_,e1⟩;refine I1.laid (a:=s.heap.objs.size+1) (o:=.ins C s.heap.objs.size []) (t':=s.toks) (λb u q=>aP _ q) (Nat.le_of_eq (Heap.size_push _ _)) ?_;have ne:s.heap.objs.size≠s.heap.objs.size+1:=bW (NY _);refine⟨by rw[zJ ne,zB],cG _,ne,e2,λ_=>none,(Heap.Ns1.of_empty e3).at λo q=>aP _ q,λ_=>True.intro,λy hy=>absurd rfl hy⟩
theorem i8{env:Env}{f:Str}{pos:Pos}(hb:attributeBase e f env (eval e env)=eval e env)
 (h:wpAny (model prog w) A (eval e env) (λo s₁=>wpAny (model prog w) A (getAttr o f true) Q E s₁) E s):wpAny (model prog w) A (eval (.Attribute e f pos) env) Q E s:=
 Attribute_any_ h (by rw[arm_eval_Attribute,hb])
end
def xZ(K:W.Frag)(ta:TE)(f:Str):TE:=λσ H Q=>ta σ H λx H1=>mN x λa=>∃C dx fs,H1 a=some (.ins C dx fs)/\LN K C/\lH K C f/\∃v,fs.lookup f=some v/\Q v H1
def EG(K:W.Frag)(ta tv:TE)(f:Str):TS:=λD σ H=>tv σ H λy H1=>ta σ H1 λx H2=>mN x λa=>∃C dx fs,H2 a=some (.ins C dx fs)/\LN K C/\lH K C f/\fs.length<1000/\
 D.nx σ (upd H2 a (.ins C dx (xA f y fs)))
section
variable {value:Expr} {f:Str} {pos tpos:Pos} {tv:TE}
theorem xC(he:PE X e ta)(hb:attributeBase e f X.env (eval e X.env)=eval e X.env):PE X (.Attribute e f pos) (xZ X.K ta f):=by
 intro aJ s σ H Q I h;refine i8 hb (eL (he aJ s σ H _ I h) λu s1 ⟨x,H1,I1,rx,q⟩=>?_);replace q:=xI q;obtain⟨a,rfl,C,dx,fs,ea,c,n,v,l,q⟩:=q;obtain rfl:u=Value.ref a:=rx;exact FW I1 ea c n l λu' s2 I2 ru=>⟨v,H1,I2,ru,q⟩
theorem kW(ha:PE X o ta)(hv:PE X value tv)(hs:swapsWith value (some (.Attribute o f pos')) pos.line X.env=pure false):PS X (.Assign [.Attribute o f pos'] value pos) (EG X.K ta tv f):=by
 intro aJ s σ H D I h;refine plainObj_wpAny_Assign_Attribute (eL (hv aJ s σ H _ I h) λu s1 ⟨y,H1,I1,ry,q⟩=>eL (ha aJ s1 σ H1 _ I1 q) λov s2 ⟨x,H2,I2,rx,q2⟩=>?_) hs;replace q2:=xI q2;obtain⟨a,rfl,C,dx,fs,ea,c,n,l,q2⟩:=q2;obtain rfl:ov=Value.ref a:=rx;exact ED I2 ea c n l ry λs3 I3=>⟨σ,_,I3,q2⟩
end
section
variable {c:Value} {b:Bool}
inductive pI (K:W.Frag) (H:Hp):V->Value->Prop where
 |non:pI K H .non (.type "NoneType")
 |bl (x:Bool):pI K H (.bl x) (.type "bool")
 |int (i:Int):pI K H (.int i) (.type "int")
 |str (x:Str):pI K H (.str x) (.type "str")
 |flt (x:UInt64):pI K H (.flt x) (.type "float")
 |lst {a:Addr} {xs:List V} (e:H a=some (.lst xs)):pI K H (.ref a) (.type "list")
 |frz {a:Addr} {o:Obj} {xs:List V} (e:H a=some (.frz o (.lst xs))):pI K H (.ref a) (.type "list")
 |tup {a:Addr} {xs:List V} (e:H a=some (.tup xs)):pI K H (.ref a) (.type "tuple")
 |dK {a:Addr} {kvs:List (eI×V)} (e:H a=some (.dK kvs)):pI K H (.ref a) (.type "dict")
 |dT {a:Addr} {kvs:List (List eI×V)} (e:H a=some (.dT kvs)):pI K H (.ref a) (.type "dict")
 |ins {a C dx:Addr} {fs:List (Str×V)} (e:H a=some (.ins C dx fs)) (cl:LN K C) (ha:W.findIn K (.ref C) "__class__"=some (some (.builtin "object.__class__")))
  (hn:W.specialIn K (.builtin "object.__class__") "__get__"=some (some (.builtin "getset_descriptor.__get__"))) (htk:W.takesIn K (.builtin "object.__class__")=some true)
  (hm:W.mroIn K C (.type "object")=some true):pI K H (.ref a) (.ref C)
theorem ND{x:V}{t:Value}(I:Inv X aJ σ H s)(rx:RelV x u)(ty:pI X.K H x t)(e:W.kitOne X.K t c=some b)(h:∀tk,Q (.bool b) {s with toks:=tk}):
 wpAny (model X.prog X.w) A (call (.builtin "isinstance") [u,c]) Q E s:=by
 cases ty with
 |non=>cases (show u=Value.none from rx);exact eM W.kitx_none I.kIn True.intro e (λz=>nomatch z) h
 |bl y=>cases (show u=Value.bool y from rx);exact eM W.kitx_bool I.kIn True.intro e (λz=>nomatch z) h
 |int i=>obtain⟨t,q⟩:=(show∃t,u=Value.int i t from rx);cases q;exact eM W.kitx_int I.kIn True.intro e (λz=>nomatch z) h
 |str y=>obtain⟨t,q⟩:=(show∃t,u=Value.str y t from rx);cases q;exact eM W.kitx_str I.kIn True.intro e (λz=>nomatch z) h
 |flt y=>obtain⟨t,q⟩:=(show∃t,u=Value.float y t from rx);cases q;exact eM W.kitx_float I.kIn True.intro e (λz=>nomatch z) h
 |@lst a xs ea=>
  cases (show u=Value.ref a from rx);obtain⟨_,_,n,_,h1⟩:=(show fA X.prog X.w H s.heap a (.lst xs)from I.hok a _ ea)
  exact eM W.kitx_list I.kIn ⟨_,h1,rfl⟩ e (λz=>nomatch z) h
 |@frz a ob xs ea=>
  cases (show u=Value.ref a from rx);obtain⟨_,_,_,n,_,h1⟩:=(show fA X.prog X.w H s.heap a (.frz ob (.lst xs))from I.hok a _ ea)
  exact eM W.kitx_list I.kIn ⟨_,h1,rfl⟩ e (λz=>nomatch z) h
 |@tup a xs ea=>
  cases (show u=Value.ref a from rx);obtain⟨_,_,_,p⟩:=(show fA X.prog X.w H s.heap a (.tup xs)from I.hok a _ ea)
  obtain⟨o,h1,h2,_⟩:=p;exact eM W.kitx_tuple I.kIn ⟨o,h1,h2⟩ e (λz=>nomatch z) h
 |@dK a kvs ea=>
  cases (show u=Value.ref a from rx);obtain⟨_,_,vs,_,p⟩:=(show fA X.prog X.w H s.heap a (.dK kvs)from I.hok a _ ea)
  obtain⟨o,es,ep,h1,h2,_⟩:=p;exact eM W.kitx_dict I.kIn ⟨o,h1,h2.1⟩ e (λz=>nomatch z) h
 |@dT a kvs ea=>
  cases (show u=Value.ref a from rx);obtain⟨_,_,xs,_,o,es,ep,h1,h2,_⟩:=(show fA X.prog X.w H s.heap a (.dT kvs)from I.hok a _ ea)
  exact eM W.kitx_dict I.kIn ⟨o,h1,h2.1⟩ e (λz=>nomatch z) h
 |@ins a C dx fs ea cl ha hn htk hm=>
  cases (show u=Value.ref a from rx);obtain⟨mA,O,_⟩:=YN I.hok ea;obtain⟨od,J,_⟩:=O.look;exact eM (W.kitx_own (cl.get _) cl.hd ha hn htk hm) I.kIn J e (λz=>nomatch z) h
end
structure hZ(k:Nat)(A:Around):Prop where
 hd:A.handled=none
 dp:A.depth+3*k+5<recursionLimit
 un:A.units+16*k+200<cLine
theorem hZ.mono{k:Nat}(r:hZ k A)(h:j<=k):hZ j A:=⟨r.hd,by have :=r.dp;lia,by have :=r.un;lia⟩
theorem hZ.deeper{k:Nat}(r:hZ (k+1) A)(env:Env):hZ k (A.deeper env):=
 ⟨r.hd,by have :=r.dp;show A.depth+1+3*k+5<_;lia,by have :=r.un;show A.units+3+16*k+200<_;lia⟩
theorem FO{C:Addr}:(A.under (.builtin "type.__call__" ⟨.ref C::us,kw⟩)).depth=A.depth+1:=by
 first |rfl |simp[Around.under,Code.weight,Code.isCreation,Code.isGuard,Code.isCaller,Code.frames,Code.isFrame,guardIds]
theorem FN{C:Addr}:(A.under (.builtin "type.__call__" ⟨.ref C::us,kw⟩)).units=A.units+1:=by
 first |rfl |simp[Around.under,Code.cUnits,Code.frames,Code.isFrame]
theorem hZ.make{k:Nat}(r:hZ (k+1) A)(C:Addr)(us:List Value)(kw:List (Str×Value)):hZ k (A.under (.builtin "type.__call__" ⟨.ref C::us,kw⟩)):=
 ⟨r.hd,by have :=r.dp;rw[FO];lia,by have :=r.un;rw[FN];lia⟩
theorem hZ.depth{k:Nat}(r:hZ k A):A.depth<recursionLimit:=by have :=r.dp;lia
theorem hZ.units{k:Nat}(r:hZ k A):A.units+64<cLine:=by have :=r.un;lia
def tNil:TA:=λ_ H Q=>Q [] H
def tCons(ta:TE)(tr:TA):TA:=λσ H Q=>ta σ H λx H1=>tr σ H1 λxs H2=>Q (x::xs) H2
section
variable {t:TA} {pos:Pos}
theorem zC:PA X [] tNil:=λ_ _ _ _ H Q I h=>nJ ⟨[],H,I,.nil,h⟩
theorem zA(ha:PE X e te)(hr:PA X es t)(hs:starEach (e::es) X.env=(false,eval e X.env)::starEach es X.env:=by rfl):PA X (e::es) (tCons te t):=by
 intro pos aJ s σ H Q I h;rw[hs];show wpAny _ _ (spliced ((false,eval e X.env)::backTo pos (starEach es X.env))) _ _ s;refine gR (eL (ha aJ s σ H _ I h) λu s1 ⟨x,H1,I1,r1,q1⟩=>?_);exact eL (hr pos aJ s1 σ H1 _ I1 q1) λus s2 ⟨xs,H2,I2,r2,q2⟩=>⟨x::xs,H2,I2,.cons r1 r2,q2⟩
def tTup(t:TA):TE:=λσ H Q=>t σ H λxs H1=>xs.length<=sizeLine/\∀p,H1 p=none->Q (.ref p) (upd H1 p (.tup xs))
def tLst(t:TA):TE:=λσ H Q=>t σ H λxs H1=>xs.length<=sizeLine/\∀p,H1 p=none->Q (.ref p) (upd H1 p (.lst xs))
theorem zQ{x1}(h:PA X es t):PE X (.Tuple es x1 pos) (tTup t):=by
 intro aJ s σ H Q I hq;refine wpAny_Tuple_spliced (eL (h pos aJ s σ H _ I hq) λus s1 ⟨xs,H1,I1,r,z,q⟩=>⟨by rw[←r.length];exact z,?_⟩);have hf:H1 s1.heap.objs.size=none:=I1.hok.fresh (aG _);refine⟨.ref s1.heap.objs.size,upd H1 s1.heap.objs.size (.tup xs),I1.laid (t':=s1.toks) (λb u e=>aP _ e) (aG _) ?_,rfl,q _ hf⟩;exact⟨z,us,r,⟨_,bX _ rfl,rfl,_,rfl⟩⟩
theorem xH(h:PA X es t):PE X (.List es pos) (tLst t):=by
 intro aJ s σ H Q I hq;refine wpAny_List_spliced (eL (h pos aJ s σ H _ I hq) λus s1 ⟨xs,H1,I1,r,z,q⟩=>⟨by rw[←r.length];exact z,?_⟩);have hf:H1 s1.heap.objs.size=none:=I1.hok.fresh (aG _);refine⟨.ref s1.heap.objs.size,upd H1 s1.heap.objs.size (.lst xs),I1.laid (t':=s1.toks) (λb u e=>aP _ e) (aG _) ?_,rfl,q _ hf⟩;exact⟨z,us,0,r,bX _ rfl⟩
end
abbrev Sp:=List V->Hp->VK->XK->Prop
abbrev lp:=List Env->Hp->Shared->XK->Value->Shared->Prop
structure GV(P:Program)(w:World)(K:W.Frag)(mg:Str->Option Value)(base:Heap)(A:Around)(outer:List Env)(s:Shared)(H:Hp):Prop where
 frames:A.frames=some outer
 mod:Mod K mg base
 bs:∀b o,base.get? b=some o->s.heap.get? b=some o/\H b=none
 bsz:base.objs.size<=s.heap.objs.size
 funs:s.heap.FunFrames base outer
 frf:∀b∈GA outer,H b=none
 hok:mR P w H s.heap
 bare:AllBare s.gens
def CE(outer:List Env)(P:Program)(w:World)(H:Hp)(s:Shared)(Q:VK)(u:Value)(s':Shared):Prop:=
 ∃v H',s'.os=s.os/\AllBare s'.gens/\Un (GA outer) [] H H' s.heap s'.heap/\mR P w H' s'.heap/\RelV v u/\Q v H'
def CR(CX:lp)(outer:List Env)(P:Program)(w:World)(H:Hp)(s:Shared)(Q:VK)(E:XK)(r:Result)(s':Shared):Prop:=
 match r with
 | .ok (.ret u)=>CE outer P w H s Q u s'
 | .ok _=>False
 | .error e=>CX outer H s E e s'
structure dI(P:Program)(w:World)(K:W.Frag)(mg:Str->Option Value)(base:Heap)(CX:lp)(k:Nat)(f:Addr)(fd:FuncData)(ps:List Str)(sp:Sp):Prop where
 len:∀vs H Q E,sp vs H Q E->vs.length=ps.length
 run:∀(A:Around)(outer:List Env)(s:Shared)(H:Hp)(args:Args)(us:List Value)(vs:List V)(Q:VK)(E:XK),hZ k A->GV P w K mg base A outer s H->BindsTo s fd args (ps.zip us)->dD vs us->sp vs H Q E->
  codeAny (model P w) A (.call (.ref f) args) (CR CX outer P w H s Q E) s
theorem dI.mono{k:Nat}(F:dI P w K mg base CX j f fd ps sp)(h:j<=k):
 dI P w K mg base CX k f fd ps sp:=⟨F.len,λA outer s H args us vs Q E hr=>F.run A outer s H args us vs Q E (hr.mono h)⟩
theorem GV.make(e:GV P w K mg base A outer s H)(C:Addr)(us:List Value)(kw:List (Str×Value)):
 GV P w K mg base (A.under (.builtin "type.__call__" ⟨.ref C::us,kw⟩)) outer s H:=⟨by first |exact e.frames |(simpa[Around.under,Code.envs,Code.isFrame,pushEnvs]using e.frames),e.mod,e.bs,e.bsz,e.funs,e.frf,e.hok,e.bare⟩
section
variable {s':Shared}
theorem Inv.env0(I:Inv X aJ σ H s):GV X.prog X.w X.K X.mg X.base X.A X.stack s H:=
 ⟨I.ok.frames,I.ok.mod,I.bs,cR I.ok.bsz I.sz,I.stack,I.stkFree,I.hok,I.bare⟩
theorem Inv.after{Q:VK}(I:Inv X aJ σ H s)(h:CE X.stack X.prog X.w H s Q u s'):EP X aJ σ Q u s':=by
 obtain⟨v,H',os,bare,un,hok,r,q⟩:=h;obtain⟨hh,g,d,t,os'⟩:=s';obtain rfl:os'=s.os:=os;exact⟨v,H',I.call (h':=hh) (g':=g) (d':=d) (t':=t) (ch:=[]) un hok bare (λb z=>absurd z (by simp)),r,q⟩
end
def PJ(sp:Sp)(dvs:List V)(E:XK)(t:TA):TE:=λσ H Q=>t σ H λvs H1=>sp (vs++dvs) H1 Q E
def yV(C:Addr)(m:Str)(sp:Sp)(dvs:List V)(E:XK)(ta:TE)(t:TA):TE:=λσ H Q=>ta σ H λx H1=>mN x λa=>∃dx fs,H1 a=some (.ins C dx fs)/\fs.lookup m=none/\
 t σ H1 λvs H2=>sp (x::(vs++dvs)) H2 Q E
def HM(C:Addr)(sp:Sp)(dvs:List V)(E:XK)(t:TA):TE:=λσ H Q=>t σ H λvs H1=>∀x dx,H1 x=none->H1 dx=none->dx≠x->
 sp (.ref x::(vs++dvs)) (upd (upd H1 dx (.own x)) x (.ins C dx [])) (λv H2=>v=.non/\Q (.ref x) H2) E
def Binds(K:W.Frag)(fd:FuncData)(ps:List Str)(ds:List Value):Prop:=
 ∀(s:Shared)(us:List Value),K.In s.heap->(us++ds).length=ps.length->BindsTo s fd ⟨us,[]⟩ (ps.zip (us++ds))
theorem Binds.all(h:∀us:List Value,us.length=ps.length->bindArgs fd ⟨us,[]⟩=pure (ps.zip us)):Binds K fd ps []:=λs us _ hl=>by
 rw[cN]at hl⊢;exact .of_eq (h us hl)
def ZK(CX:lp)(X:Cx)(E:XK):Prop:=∀(aJ:List (Addr×Obj))(σ:St)(H:Hp)(s:Shared)(e:Value)(s':Shared),Inv X aJ σ H s->CX X.stack H s E e s'->X.xe e s'
section
variable {k:Nat} {C:Addr} {dvs:List V} {ds:List Value} {E:XK} {x m:Str} {p pos:Pos} {t:TA}
theorem EH{Q:VK}(F:dI X.prog X.w X.K X.mg X.base CX k f fd ps sp)(hr:hZ k X.A)(hb:Binds X.K fd ps ds)(hd:dD dvs ds)(hx:ZK CX X E)
 (I:Inv X aJ σ H s) (r:dD vs us) (h:sp (vs++dvs) H Q E):wpAny (model X.prog X.w) X.A (call (.ref f) us) (EP X aJ σ Q) X.xe s:=by
 have r2:dD (vs++dvs) (us++ds):=r.append hd;have hl:(us++ds).length=ps.length:=by rw[←r2.length];exact F.len _ _ _ _ h
 refine wpAny_call (jt (F.run X.A X.stack s H ⟨us,[]⟩ (us++ds) (vs++dvs) Q E hr I.env0 (hb s us I.kIn hl) r2 h) λr s' hq=>?_);cases r with
 |error e=>exact hx aJ σ H s e s' I hq
 |ok fl=>
  cases fl with
  |ret u=>exact I.after hq
  |next=>exact False.elim hq
  |brk=>exact False.elim hq
  |cont=>exact False.elim hq
theorem eo(F:dI X.prog X.w X.K X.mg X.base CX k f fd ps sp)(hr:hZ k X.A)(hg:Gl X x)(hm:X.mg x=some (.ref f))(hk:W.keepIn X.K (.ref f)=true)(hb:Binds X.K fd ps ds)(hd:dD dvs ds)(hx:ZK CX X E)
 (ha:PA X (e::es) t) (hdb:(x==("__debug__":Str))=false:=by decide) (he:starEach (e::es) X.env=(false,eval e X.env)::starEach es X.env:=by rfl) (hpl:(backTo pos (starEach es X.env)).any (·.1)=false:=by rfl):
 PE X (.Call (.Name x p) (e::es) [] pos) (PJ sp dvs E t):=by
 intro aJ s σ H Q I h;refine iQ (UX I hg hm ?_ hdb);refine oI (h₀:=X.base) I.ok.mod.kin hk (eL (ha pos aJ s σ H _ I h) λus s1 ⟨vs,H1,I1,r,q⟩=>⟨I1.kIn,?_⟩) he hpl;exact EH F hr hb hd hx I1 r q
theorem ef{pl:Sem Bool}(he:PE X o ta)(c:LN X.K C)(hm:pK X.K C m f)(F:dI X.prog X.w X.K X.mg X.base CX k f fd ps sp)(hr:hZ k X.A)(hb:Binds X.K fd ps ds)(hd:dD dvs ds)(hx:ZK CX X E)(ha:PA X (e::es) t)
 (hst:starEach (e::es) X.env=(false,eval e X.env)::starEach es X.env:=by rfl) (hpl:(backTo pos (starEach es X.env)).any (·.1)=false:=by rfl)
 (ht:eval (.Call (.Attribute o m lY) (e::es) [] pos) X.env=(do
  let ov ←eval o X.env
  standAt lY.atName
  let (f,first) ←holding [ov] (getMethod ov m pl)
  callWith pos f first (backTo pos (starEach (e::es) X.env)) (backToKw pos (keywordEach [] X.env))):=by rfl):
 PE X (.Call (.Attribute o m lY) (e::es) [] pos) (yV C m sp dvs E ta t):=by
 intro aJ s σ H Q I h;refine W.methodCall_KW (pl:=pl) (eL (he aJ s σ H _ I h) λu s1 ⟨x,H1,I1,rx,q⟩=>?_) ht;replace q:=xI q;obtain⟨a,rfl,dx,fs,ea,l,q⟩:=q;obtain rfl:u=Value.ref a:=rx;refine FV I1 ea c hm l ?_;refine oI (first:=[.ref a]) (h₀:=X.base) I.ok.mod.kin hm.kp (eL (ha pos aJ s1 σ H1 _ I1 q) λus s2 ⟨vs,H2,I2,r,q2⟩=>⟨I2.kIn,?_⟩) hst hpl;exact EH (us:=.ref a::us) (vs:=.ref a::vs) F hr hb hd hx I2 (.cons rfl r) q2
structure Mk(K:W.Frag)(C f:Addr):Prop where
 makes:W.makesIn K C=true
 init:W.findIn K (.ref C) "__init__"=some (some (.ref f))
 fn:W.isFn K (.ref f)=true
 kp:W.keepIn K (.ref C)=true
theorem RG{Q:VK}(M:Mk X.K C f)(F:dI X.prog X.w X.K X.mg X.base CX k f fd ps sp)(hr:hZ (k+1) X.A)(hb:Binds X.K fd ps ds)(hd:dD dvs ds)
 (hx:ZK CX X E) (I:Inv X aJ σ H s) (r:dD vs us)
 (h:∀x dx,H x=none->H dx=none->dx≠x->sp (.ref x::(vs++dvs)) (upd (upd H dx (.own x)) x (.ins C dx [])) (λv H2=>v=.non/\Q (.ref x) H2) E):
 wpAny (model X.prog X.w) X.A (call (.ref C) us) (EP X aJ σ Q) X.xe s:=by
 have hq:=h (s.heap.objs.size+1) s.heap.objs.size (I.hok.fresh (rW _)) (I.hok.fresh (aG _)) (bW (NY _));have I2:=Inv.made (C:=C) I;have r2:dD (V.ref (s.heap.objs.size+1)::(vs++dvs)) (Value.ref (s.heap.objs.size+1)::(us++ds)):=.cons rfl (r.append hd);have hl:(Value.ref (s.heap.objs.size+1)::us++ds).length=ps.length:=by
  have e:=r2.length;rw[F.len _ _ _ _ hq]at e;exact e.symm
 refine wpAny_call (TM (f:=f) I.kIn M.makes M.init (cS.mp M.fn) (jt (F.run _ X.stack _ _ ⟨Value.ref (s.heap.objs.size+1)::us,[]⟩ (Value.ref (s.heap.objs.size+1)::(us++ds)) _ _ E (hr.make C us [])
  (I2.env0.make C us []) (hb _ (Value.ref (s.heap.objs.size+1)::us) I2.kIn hl) r2 hq) λr s' hq'=>?_))
 cases r with
 |error e=>exact hx aJ σ _ _ e s' I2 hq'
 |ok fl=>
  cases fl with
  |ret u=>
   obtain⟨v,H',I3,rv,ev,q3⟩:=I2.after hq';subst ev;exact⟨rv,⟨V.ref (s.heap.objs.size+1),H',I3,rfl,q3⟩⟩
  |next=>exact False.elim hq'
  |brk=>exact False.elim hq'
  |cont=>exact False.elim hq'
theorem eg(M:Mk X.K C f)(F:dI X.prog X.w X.K X.mg X.base CX k f fd ps sp)(hr:hZ (k+1) X.A)(hg:Gl X x)(hm:X.mg x=some (.ref C))(hb:Binds X.K fd ps ds)(hd:dD dvs ds)(hx:ZK CX X E)
 (ha:PA X (e::es) t) (hdb:(x==("__debug__":Str))=false:=by decide) (he:starEach (e::es) X.env=(false,eval e X.env)::starEach es X.env:=by rfl) (hpl:(backTo pos (starEach es X.env)).any (·.1)=false:=by rfl):
 PE X (.Call (.Name x p) (e::es) [] pos) (HM C sp dvs E t):=by
 intro aJ s σ H Q I h;refine iQ (UX I hg hm ?_ hdb);refine oI (h₀:=X.base) I.ok.mod.kin M.kp (eL (ha pos aJ s σ H _ I h) λus s1 ⟨vs,H1,I1,r,q⟩=>⟨I1.kIn,?_⟩) he hpl;exact RG M F hr hb hd hx I1 r q
end
section
variable {k:Nat} {C:Addr} {ks:List Str} {E:XK} {x m:Str} {p pos kpos:Pos} {kws:List Keyword} {t tk:TA} {nm:Option Str}
structure KBinds(K:W.Frag)(fd:FuncData)(ps ks:List Str)(g:List Value->List Value->List Value)(gV:List V->List V->List V):Prop where
 to:∀(s:Shared)(us ws:List Value),K.In s.heap->(g us ws).length=ps.length->BindsTo s fd ⟨us,ks.zip ws⟩ (ps.zip (g us ws))
 mU:∀{vs:List V}{us:List Value}{zs:List V}{ws:List Value},dD vs us->dD zs ws->dD (gV vs zs) (g us ws)
variable {g:List Value->List Value->List Value} {gV:List V->List V->List V}
end
structure cC(N P:List Str)(sc:Scope):Prop where
 kind:sc.kind=.function
 co:sc.isCoroutine=false
 gen:sc.isGenerator=false
 nd:N.Nodup
 pre:N.take P.length=P
 par:∀x∈P,sc.names.lookup x=some .local\/sc.names.lookup x=some .cell
 nofree:∀y∈sc.names,y.2≠.free
theorem QP{kindOf:Str->Option NameKind}{x:Str}:∀{binds:List (Str×Value)}{m:Str->Option Value},(∀v,(x,v)∉binds)->bindL kindOf binds m x=m x
 |[],_,_=>rfl
 |(n,v)::r,m,h=>by
  unfold bindL;rw[QP λw hw=>h w (bC _ hw)];split
  ·have :x≠n:=by rintro rfl;exact h v bB
   simp[this]
  ·rfl
theorem QR{kindOf:Str->Option NameKind}{x:Str}:∀{binds:List (Str×Value)}{m:Str->Option Value},(∀v,(x,v)∉binds)->bindC kindOf binds m x=m x
 |[],_,_=>rfl
 |(n,v)::r,m,h=>by
  unfold bindC;rw[QR λw hw=>h w (bC _ hw)];split
  ·rfl
  ·have :x≠n:=by rintro rfl;exact h v bB
   simp[this]
theorem QQ{kindOf:Str->Option NameKind}{x:Str}{v:Value}:∀{P:List Str}{vs:List Value}{i:Nat}{m:Str->Option Value},P.Nodup->P[i]?=some x->vs[i]?=some v->kindOf x=some .local->
 bindL kindOf (P.zip vs) m x=some v
 |[],_,_,_,_,h,_,_=>by simp at h
 |_::_,[],_,_,_,_,h,_=>by simp at h
 |p::P,w::vs,0,m,nd,h1,h2,hk=>by
  simp at h1 h2;subst h1;subst h2;show bindL kindOf ((p,w)::P.zip vs) m p=_;unfold bindL;rw[QP λv hv=>(iI.mp nd).1 (av hv).1,aL hk];simp
 |p::P,w::vs,i+1,m,nd,h1,h2,hk=>by
  show bindL kindOf ((p,w)::P.zip vs) m x=_;unfold bindL;exact QQ (i:=i) (iI.mp nd).2 (by simpa using h1) (by simpa using h2) hk
theorem QS{kindOf:Str->Option NameKind}{x:Str}{v:Value}:∀{P:List Str}{vs:List Value}{i:Nat}{m:Str->Option Value},P.Nodup->P[i]?=some x->vs[i]?=some v->kindOf x≠some .local->
 bindC kindOf (P.zip vs) m x=some v
 |[],_,_,_,_,h,_,_=>by simp at h
 |_::_,[],_,_,_,_,h,_=>by simp at h
 |p::P,w::vs,0,m,nd,h1,h2,hk=>by
  simp at h1 h2;subst h1;subst h2;show bindC kindOf ((p,w)::P.zip vs) m p=_;unfold bindC;rw[QR λv hv=>(iI.mp nd).1 (av hv).1,aH hk];simp
 |p::P,w::vs,i+1,m,nd,h1,h2,hk=>by
  show bindC kindOf ((p,w)::P.zip vs) m x=_;unfold bindC;exact QS (i:=i) (iI.mp nd).2 (by simpa using h1) (by simpa using h2) hk
def uU(N:List Str)(vs:List V):St:=vs.map some++List.replicate (N.length-vs.length) none
def JC(CX:lp)(P:Program)(w:World)(K:W.Frag)(mg:Str->Option Value)(base:Heap)(N:List Str)(qual:Str)(scope:Scope)(f:Addr)(cd:Value)(A:Around)(outer:List Env)(s:Shared)(H:Hp)(E:XK):Cx where
 prog:=P
 w:=w
 K:=K
 mg:=mg
 base:=base
 A:=A.deeper (envOfC qual scope s.heap.objs.size f cd)
 N:=N
 s₀:=s
 H₀:=H
 env:=envOfC qual scope s.heap.objs.size f cd
 outer:=outer
 stack:=envOfC qual scope s.heap.objs.size f cd::outer
 ex:=[]
 calm:=true
 fn:=λ_=>true
 pn:=[]
 xe:=λe s'=>wpAny (model P w) (A.deeper (envOfC qual scope s.heap.objs.size f cd)) (leaving (envOfC qual scope s.heap.objs.size f cd) e) (λ_ s''=>CX outer H s E e s'') (λe' s''=>CX outer H s E e' s'') s'
theorem CN{sc:Scope}{x:Str}(h:sc.names.lookup x=some .cell):∃c,(cellsFrom n sc.names []).lookup x=some c:=by
 have q:=W.cellsFrom_some sc.names n [] (.inl h);exact Option.isSome_iff_exists.mp q
theorem NE{scope:Scope}{cd:Value}{s1:Shared}{E:XK}
 (S:cC N ps scope) (hd:A.handled=none) (e0:GV P w K mg base A outer s H) (hl:vs.length=ps.length) (r:dD vs us)
 (x:InCallC s s.heap.objs.size (bindL (envOfC qual scope s.heap.objs.size f cd).kindOf (ps.zip us) λ_=>none) (cellsFrom (s.heap.objs.size+1) scope.names []) (bindC (envOfC qual scope s.heap.objs.size f cd).kindOf (ps.zip us) λ_=>none) s1):
 Inv (JC CX P w K mg base N qual scope f cd A outer s H E) [] (uU N vs) H s1:=by
 have hpl:ps.length<=N.length:=by have :=dH List.length S.pre;rw[bU]at this;lia
 obtain⟨h1,tk,rfl,hk⟩:=x.done;have noA:∀b:Addr,b∉(JC CX P w K mg base N qual scope f cd A outer s H E).ex:=λb z=>absurd (show b∈([]:List Addr)from z) (by simp)
 refine⟨⟨e0.mod,S.kind,rfl,rfl,aG _,λy z c h1 h2=>?_,λy hy=>?_,λy c _ h=>?_,λ_=>hd,Around.frames_deeper e0.frames,.inr ⟨rfl,rfl⟩,λb z=>absurd z (noA b),e0.bs,e0.bsz,λb _ _=>noA b,λb z=>absurd z (noA b),e0.funs,e0.frf⟩,
  rfl,e0.bare,Un.kept hk,⟨_,x.toInCall.ns,λi y v h1 h2 h3=>?_⟩,λy c h=>⟨_,x.cell y c h⟩,e0.hok.fresh (aG _),λy c h=>?_,λp hp=>absurd (show p∈([]:List (Addr×Obj))from hp) (by simp),e0.hok.kept hk,?_⟩
 ·exact name_of_addr x.apart (eF h1) (eF h2)
 ·have hy:scope.names.lookup y=some .cell\/scope.names.lookup y=some .free:=hy;rcases hy with hy |hy
  ·exact CN hy
  ·exact absurd rfl (S.nofree _ (eF hy))
 ·exact pV (x.above y c (eF h))
 ·have hi:i<vs.length:=by
   unfold uU at h2;by_cases hi:i<vs.length
   ·exact hi
   ·rw[bN (by simpa using hi)]at h2;rw[List.getElem?_replicate]at h2;split at h2<;>cases h2
  have ha:vs[i]?=some v:=by
   unfold uU at h2;rw[bE (by simpa using hi),aK]at h2;cases e:vs[i]? with
   |none=>rw[e]at h2;cases h2
   |some a=>rw[e]at h2;cases h2;rfl
  obtain⟨u,hu,rv⟩:=r.get ha;have hp:ps[i]?=some y:=by
   rw[←S.pre,lL ()];exact h1
  have ndP:ps.Nodup:=by rw[←S.pre];exact S.nd.sublist (List.take_sublist _ _)
  refine⟨u,rv,?_⟩;rcases S.par y (aV hp)with k |k
  ·exact .inl ⟨k,QQ ndP hp hu k⟩
  ·obtain⟨c,e⟩:=CN (n:=s.heap.objs.size+1) k;refine .inr ⟨.inl k,c,e,?_⟩;have q:=x.cell y c e;rw[QS ndP hp hu (by show scope.names.lookup y≠_;rw[k];decide)]at q;exact q
 ·exact e0.hok.fresh (pV (x.above y c (eF h)))
 ·unfold uU;show _=N.length;rw[aI,aE,rL];lia
theorem fn_of{k:Nat}{name:Str}{params:Arguments}{body:List Stmt}{scope:Scope}{dV kV doc pm fD ct oc:Value}{an od:Option Addr}
 {osl:Array (Option Value)} (lk:K.lookup f=some ⟨oc,od,.func (W.fnOf name qual params body scope dV kV doc pm an fD ct),osl⟩) (hcd:W.codeIn K fD qual=true) (S:cC N ps scope)
 (len:∀vs H Q E,sp vs H Q E->vs.length=ps.length)
 (hbody:∀(A:Around)(outer:List Env)(s:Shared)(H:Hp)(vs:List V)(Q:VK)(E:XK),hZ k (A.deeper (envOfC qual scope s.heap.objs.size f fD))->sp vs H Q E->
  ∃t,GS (JC CX P w K mg base N qual scope f fD A outer s H E) body t/\t {nx:=λ_ H'=>Q .non H',rt:=Q} (uU N vs) H):
 dI P w K mg base CX (k+1) f (W.fnOf name qual params body scope dV kV doc pm an fD ct) ps sp:=by
 refine⟨len,λA outer s H args us vs Q E hr e0 hb r hsp=>?_⟩;have hl:=len _ _ _ _ hsp;have KX:K.In s.heap:=e0.mod.kin.keeps λb o e=>(e0.bs b o e).1
 have lim:s.heap.NoLimit:=e0.mod.nolimit.keeps λb o e=>(e0.bs b o e).1
 have hkind:∀y∈ps.zip us,scope.names.lookup y.1=some .local\/(scope.names.lookup y.1=some .cell/\((cellsFrom (s.heap.objs.size+1) scope.names []).lookup y.1).isSome=true):=λ⟨n,v⟩ hy=>by
  rcases S.par n (av hy).1 with q |q
  ·exact .inl q
  ·exact .inr ⟨q,W.cellsFrom_some _ _ _ (.inl q)⟩
 refine codeAny_call_function hr.depth (KX _ _ lk) rfl S.co S.gen rfl (W.codeRec_of KX hcd) (hb _ _ _ _ ?_);refine wpAny_newFunctionEnv_cells S.kind hkind λenv he s1 x=>?_
 subst he;refine⟨lim.keeps x.toInCall.keep,codeAny_func ?_⟩;obtain⟨t,ht,hq⟩:=hbody A outer s H vs Q E (hr.deeper _) hsp;have I:Inv (JC CX P w K mg base N qual scope f fD A outer s H E) [] (uU N vs) H s1:=NE S hr.hd e0 hl r x;refine lJ (ht [] s1 (uU N vs) H _ I hq) (λfl s' hs=>?_) λe s' hs=>hs
 have fin:∀{σ':St}{H':Hp}{v:V}{u:Value},Inv (JC CX P w K mg base N qual scope f fD A outer s H E) [] σ' H' s'->RelV v u->Q v H'->CE outer P w H s Q u s':=
  λ{σ' H' v u} J rv q=>⟨v,H',J.os,J.bare,J.base,J.hok,rv,q⟩
 cases fl with
 |ret u=>
  obtain⟨v,σ',H',J,rv,q⟩:=hs;exact fin J rv q
 |next=>
  obtain⟨σ',H',J,q⟩:=hs;exact fin (v:=V.non) (u:=Value.none) J rfl q
 |brk=>
  obtain⟨_,_,_,q⟩:=hs;exact False.elim q
 |cont=>
  obtain⟨_,_,_,q⟩:=hs;exact False.elim q
section
variable {x:Str} {p pos:Pos} {t:TA} {id:String} {r:List V->Hp->VK->Prop}
def tCB(r:List V->Hp->VK->Prop)(t:TA):TE:=λσ H Q=>t σ H λvs H1=>r vs H1 Q
theorem yC(hc:qQ X (.builtin id) r)(hg:Gl X x)(hm:X.mg x=none)(hv:bootBuiltins x=some (.builtin id))(ha:PA X (e::es) t)(hn:x≠"__name__":=by decide)(hdb:(x==("__debug__":Str))=false:=by decide)
 (he:starEach (e::es) X.env=(false,eval e X.env)::starEach es X.env:=by rfl) (hpl:(backTo pos (starEach es X.env)).any (·.1)=false:=by rfl):PE X (.Call (.Name x p) (e::es) [] pos) (tCB r t):=by
 intro aJ s σ H Q I h;refine iQ (wN I hg hm hv ?_ hn hdb);exact PyProof.Rows.callWith_builtin1 (eL (ha pos aJ s σ H _ I h) λus s1 ⟨vs,H1,I1,r1,q1⟩=>hc aJ s1 σ H1 vs us Q I1 r1 q1) he hpl
theorem xO(hc:qQ X (.type T) r)(hg:Gl X x)(hm:X.mg x=none)(hv:bootBuiltins x=some (.type T))(ha:PA X (e::es) t)(hn:x≠"__name__":=by decide)(hdb:(x==("__debug__":Str))=false:=by decide)
 (he:starEach (e::es) X.env=(false,eval e X.env)::starEach es X.env:=by rfl) (hpl:(backTo pos (starEach es X.env)).any (·.1)=false:=by rfl):PE X (.Call (.Name x p) (e::es) [] pos) (tCB r t):=by
 intro aJ s σ H Q I h;refine iQ (wN I hg hm hv ?_ hn hdb);exact fQ (eL (ha pos aJ s σ H _ I h) λus s1 ⟨vs,H1,I1,r1,q1⟩=>hc aJ s1 σ H1 vs us Q I1 r1 q1) he hpl
end
end L2
namespace HT
open PySem PyProof.Rows
section
open PySem.SeqAt
open PySem.AutoSeq1 (wpAny_loadPart')
open PySem.MeetsSeq PySem.MeetsSeq2 PySem.MeetsSeq3
end
section
variable {prog:Program} {w:World} {A:Around} {E:Value->Shared->Prop} {s:Shared}
theorem cat_tup{t b:Addr}{vs ws:List Value}{Q:Value->Shared->Prop}(ht:IsTup s.heap t vs.toArray)(hb:IsTup s.heap b ws.toArray)(hv:vs≠[])
 (h1:ws=[]->Q (.ref t) s) (h2:ws≠[]->Q (.ref s.heap.objs.size) {s with heap:=s.heap.push {cls:=.type "tuple",data:=.seq (vs++ws).toArray}})
 (hsz:vs.length+ws.length<=sizeLine):wpAny (model prog w) A (binaryOp .Add (.ref t) (.ref b)) Q E s:=by
 obtain⟨⟨cls,dd,data,sl⟩,ho,hc,n,hd⟩:=id ht;obtain⟨⟨cls2,dd2,data2,sl2⟩,ho2,hc2,n2,hd2⟩:=id hb;simp only at hc hd hc2 hd2;subst hc hd hc2 hd2;have e:vs.toArray++ws.toArray=(vs++ws).toArray:=by simp
 by_cases hw:ws=[]
 ·exact concat_meets ⟨_,ho,rfl⟩ ⟨_,ho2,rfl⟩ noFill_tuple_add seq_tuple_add pS pO (pE _ _)
   (tuple_addW1 t b vs.toArray ws.toArray n n2 dd dd2 sl sl2 (by simpa using hv) (by simp[hw])) ⟨ho,ho2,h1 hw⟩
 ·refine concat_meets ⟨_,ho,rfl⟩ ⟨_,ho2,rfl⟩ noFill_tuple_add seq_tuple_add pS pO (pE _ _)
   (tuple_addW2 t b vs.toArray ws.toArray n n2 dd dd2 sl sl2 (by simpa using hv) (by simpa using hw) (by rw[aR,aR];exact hsz)) ⟨ho,ho2,?_⟩
  rw[e];exact h2 hw
def sIx(n d:Nat):Option Int->Nat
 |none=>d
 |some v=>if v<0 then(v+(n:Int)).toNat else min v.toNat n
theorem sIx_none(n d:Nat):sIx n d none=d:=rfl
theorem sIx_nat(n d k:Nat):sIx n d (some (k:Int))=min k n:=by
 show(if(k:Int)<0 then((k:Int)+(n:Int)).toNat else min (k:Int).toNat n)=min k n;rw[aH (by lia),cE]
theorem oa(n d:Nat)(hd:d<=n)(o:Option Int):sIx n d o<=n:=by
 cases o with
 |none=>exact hd
 |some v=>
  show(if v<0 then(v+(n:Int)).toNat else min v.toNat n)<=n;by_cases hv:v<0
  ·rw[aL hv];lia
  ·rw[aH hv];exact Nat.min_le_right _ _
theorem LB(v:Int)(n d:Nat):(if v<0 then max (v+(n:Int)) 0 else min v (n:Int))=((sIx n d (some v):Nat):Int):=by
 show(if v<0 then max (v+(n:Int)) 0 else min v (n:Int))=(((if v<0 then(v+(n:Int)).toNat else min v.toNat n):Nat):Int)
 by_cases hv:v<0
 ·simp only[aL hv];lia
 ·simp only[aH hv];lia
theorem GP(lo hi:Option Int)(n:Nat):Builtin.Slice.sliceAdjust lo hi 1 (n:Int)=(((sIx n 0 lo:Nat):Int),((sIx n n hi:Nat):Int)):=by
 have h1:¬((1:Int)<0):=by lia
 unfold Builtin.Slice.sliceAdjust;simp only[h1,dO];refine Prod.ext ?_ ?_
 ·cases lo with
  |none=>rfl
  |some v=>exact LB v n 0
 ·cases hi with
  |none=>rfl
  |some v=>exact LB v n n
theorem EM(i j:Nat):Builtin.Slice.slicePlaces (i:Int) (j:Int) 1=j-i:=by
 unfold Builtin.Slice.slicePlaces;have h1:(1:Int)>0:=by lia
 simp only[h1,if_true,Int.ediv_one];split<;>lia
theorem XA{v:Value}{o:Option Int}{Q:Option Int->Shared->Prop}(p:IsPart v o)(h:Q o s):wpAny (model prog w) A (Builtin.Slice.slicePartIndex v) Q E s:=by
 cases p with
 |none=>exact slicePart_none h
 |int i t=>exact slicePart_int h
theorem sliceApplied_gen{sl:Addr}{vl vu:Value}{lo hi:Option Int}{n:Nat}{Q:Int×Int×Nat->Shared->Prop}(hs:s.heap.IsSliceOf sl vl vu .none)(pl:IsPart vl lo)(pu:IsPart vu hi)
 (h:Q (((sIx n 0 lo:Nat):Int),1,sIx n n hi-sIx n 0 lo) s):wpAny (model prog w) A (Builtin.Slice.sliceApplied (.ref sl) (pure (n:Int))) Q E s:=by
 obtain⟨os,hos,hcs,hds⟩:=id hs;unfold Builtin.Slice.sliceApplied Builtin.Slice.sliceFields;refine aF (aF (wpAny_field hos hds (x:=vl) rfl (aF (wpAny_field hos hds (x:=vu) rfl (aF (wpAny_field hos hds (x:=.none) rfl (aS ?_)))))));refine aF (slicePart_none ?_);show wpAny _ _ (if((1:Int)==0)=true then _ else _) _ _ s;rw[aH (by decide)];refine aF (XA pl (aF (XA pu (aF (aS ?_)))));show wpAny _ _ (match Builtin.Slice.sliceAdjust lo hi 1 (n:Int)with |(lo,hi)=>pure (lo,(1:Int),Builtin.Slice.slicePlaces lo hi 1)) _ _ s;rw[GP lo hi n];show wpAny _ _ (pure (((sIx n 0 lo:Nat):Int),(1:Int),Builtin.Slice.slicePlaces ((sIx n 0 lo:Nat):Int) ((sIx n n hi:Nat):Int) 1)) _ _ s;rw[EM];exact aS h
theorem RV(xs:Array Value)(i k:Nat):((List.range k).filterMap λ(m:Nat)=>xs[((i:Int)+(m:Int)*1).toNat]?).toArray=((xs.toList.drop i).take k).toArray:=by
 have e:(λ(m:Nat)=>xs[((i:Int)+(m:Int)*1).toNat]?)=λm=>xs[i+m]?:=by
  funext m
  have :((i:Int)+(m:Int)*1).toNat=i+m:=by lia
  rw[this]
 rw[e];have :=pick_run xs i k;rw[oJ]at this;have e2:((λx=>xs[x]?) ∘ λx=>i+x)=λm=>xs[i+m]?:=rfl
 rw[e2]at this;rw[this]
theorem getItem_tuple_cut{t sl:Addr}{dF:Array Value}{vl vu:Value}{lo hi:Option Int}{Q:Value->Shared->Prop}(ht:IsTup s.heap t dF)(hs:s.heap.IsSliceOf sl vl vu .none)(pl:IsPart vl lo)(pu:IsPart vu hi)
 (hw:¬(sIx dF.size 0 lo=0/\sIx dF.size dF.size hi=dF.size))
 (h:Q (.ref s.heap.objs.size) {s with heap:=s.heap.push {cls:=.type "tuple",data:=.seq ((dF.toList.drop (sIx dF.size 0 lo)).take (sIx dF.size dF.size hi-sIx dF.size 0 lo)).toArray}})
 (hsz:dF.size<=sizeLine):wpAny (model prog w) A (getItem (.ref t) (.ref sl)) Q E s:=by
 have htake:sizeOk (.seq ((dF.toList.drop (sIx dF.size 0 lo)).take (sIx dF.size dF.size hi-sIx dF.size 0 lo)).toArray):=by
  show((dF.toList.drop (sIx dF.size 0 lo)).take (sIx dF.size dF.size hi-sIx dF.size 0 lo)).toArray.size<=sizeLine;rw[aR,bU,fW,bV];lia
 have hj:sIx dF.size dF.size hi<=dF.size:=oa _ _ (aG _) hi;obtain⟨os,hos,hcs,hds⟩:=id hs;have hTs:s.TypeIs (.ref sl) "slice":=⟨os,hos,hcs⟩
 unfold getItem
 try with_reducible refine eS ?_
 first |refine aF (aS ?_) |skip
 refine aF (wpAny_sequenceKey ht.typeIs (by decide) ?_);refine aF (mS (name:=Str.ofString "__getitem__") ht.typeIs dW
  (gF dW ht.typeIs entry_tuple_getitem ?_ (args_tuple_getitem _ _)))
 show wpAny _ _ (Builtin.Tuple.tupleItemsOf (.ref t) >>= _) _ _ s;refine aF (tupleItemsOf_ ht ?_);refine aF (lV hTs ?_);rw[aL (by decide)];refine aF (sliceApplied_gen hs pl pu ?_);have hno:¬((((sIx dF.size 0 lo:Nat):Int)==0&&(1:Int)==1&&(sIx dF.size dF.size hi-sIx dF.size 0 lo)==dF.size)=true):=by
  intro q;rw[bY,bY]at q;have q1:((sIx dF.size 0 lo:Nat):Int)=0:=eq_of_beq q.1.1;have q2:sIx dF.size dF.size hi-sIx dF.size 0 lo=dF.size:=eq_of_beq q.2;exact hw ⟨by lia,by lia⟩
 show wpAny _ _ (if(((sIx dF.size 0 lo:Nat):Int)==0&&(1:Int)==1&&(sIx dF.size dF.size hi-sIx dF.size 0 lo)==dF.size)=true then _ else _) _ _ s;rw[aH hno,RV]
 first
  |exact aF (m:=Builtin.Tuple.tupleExact _) (eO (aS ⟨_,rfl,aS h⟩) htake)
  |exact aF (m:=Builtin.Tuple.tupleExact _) (eO (aF (aS (aS ⟨_,rfl,aS h⟩))) htake)
  |exact aF (aF (m:=Builtin.Tuple.tupleExact _) (eO (aS (aS ⟨_,rfl,aS h⟩)) htake))
  |exact aF (aF (m:=Builtin.Tuple.tupleExact _) (eO (aS ⟨_,rfl,aS h⟩) htake))
end
end HT
namespace L2
open PySem PySem.Spec PyProof.Rows
variable {a b l:Addr} {A:Around} {X:Cx} {e o:Expr} {h h':Heap} {H H':Hp} {aJ:List (Addr×Obj)} {kvs:List (List eI×V)} {es:List Expr} {xs:List V} {its its' us:List Value} {j n t':Nat} {lY pos':Pos} {P prog:Program} {s:Shared} {σ:St} {T:String} {ta te:TE} {α:Type} {v y:V} {u:Value} {E Q:Value->Shared->Prop} {w:World}
local macro_rules | `(()) => `(by lia)
abbrev TO:=St->Hp->(Option Int->Hp->Prop)->Prop
def PO(X:Cx)(e:Option Expr)(t:TO):Prop:=
 ∀(aJ:List (Addr×Obj)) (s:Shared) (σ:St) (H:Hp) (Q:Option Int->Hp->Prop),Inv X aJ σ H s->t σ H Q->
  wpAny (model X.prog X.w) X.A (evalPart e X.env) (λu s'=>∃o H',Inv X aJ σ H' s'/\IsPart u o/\Q o H') X.xe s
def UA:TO:=λ_ H Q=>Q none H
def tPart(t:TE):TO:=λσ H Q=>t σ H λx H1=>sH x λi=>Q (some i) H1
section
variable {lo hi:Option Expr} {tl th:TO} {pos p2:Pos}
theorem qS:PO X none UA:=by
 intro aJ s σ H Q I h;rw[evalPart_none];exact aS ⟨none,H,I,.none,h⟩
theorem jQ(h:PE X e te):PO X (some e) (tPart te):=by
 intro aJ s σ H Q I hw;rw[evalPart_some];refine eL (h aJ s σ H _ I hw) λu s1 ⟨x,H1,I1,r1,q1⟩=>?_
 replace q1:=qB q1;obtain⟨i,rfl,q⟩:=q1;obtain⟨t,rfl⟩:=r1;exact⟨some i,H1,I1,.int i t,q⟩
def SlR(X:Cx)(r:V->Option Int->Option Int->Hp->VK->Prop):Prop:=
 ∀(aJ:List (Addr×Obj)) (s:Shared) (σ:St) (H:Hp) (x:V) (v vl vu:Value) (lo hi:Option Int) (sl:Addr) (Q:VK),Inv X aJ σ H s->RelV x v->s.heap.IsSliceOf sl vl vu .none->IsPart vl lo->IsPart vu hi->r x lo hi H Q->
  ∃T id,typeLookup (.type T) "__getitem__"=pure (some (.builtin id))/\s.TypeIs v T/\wpAny (model X.prog X.w) X.A (getItem v (.ref sl)) (EP X aJ σ Q) X.xe s
def tSl(r:V->Option Int->Option Int->Hp->VK->Prop)(te:TE)(tl th:TO):TE:=λσ H Q=>te σ H λx H1=>tl σ H1 λl H2=>th σ H2 λu H3=>r x l u H3 Q
theorem jC{r:V->Option Int->Option Int->Hp->VK->Prop}(hr:SlR X r)(he:PE X e te)(hl:PO X lo tl)(hu:PO X hi th):PE X (.Subscript e (.Slice lo hi none p2) pos) (tSl r te tl th):=by
 intro aJ s σ H Q I h;refine Subscript_ (eL (he aJ s σ H _ I h) λv s1 ⟨x,H1,I1,r1,q1⟩=>?_);refine wpAny_Slice (eL (hl aJ s1 σ H1 _ I1 q1) λvl s2 ⟨l,H2,I2,pl,q2⟩=>eL (hu aJ s2 σ H2 _ I2 q2) λvu s3 ⟨u,H3,I3,pu,q3⟩=>?_);rw[evalPart_none];refine aS ?_;have I4:Inv X aJ σ H3 {s3 with heap:=s3.heap.push {cls:=.type "slice",data:=.fields #[vl,vu,.none]}}:=I3.kept (t':=s3.toks) λb ob q=>aP _ q
 obtain⟨T,id,hT,ht,hg⟩:=hr aJ {s3 with heap:=s3.heap.push {cls:=.type "slice",data:=.fields #[vl,vu,.none]}} σ H3 x v vl vu l u s3.heap.objs.size Q I4 r1 (Heap.IsSliceOf.new ..) pl pu q3;show wpAny (model X.prog X.w) X.A (subscriptTail e (.Slice lo hi none p2) v (.ref s3.heap.objs.size)) (EP X aJ σ Q) X.xe {s3 with heap:=s3.heap.push {cls:=.type "slice",data:=.fields #[vl,vu,.none]}};exact tail_any (ops:=[.ref s3.heap.objs.size,v]) ht hT hg (by with_unfolding_all rfl)
def qM(xs:List V)(lo hi:Option Int):List V:=(xs.drop (HT.sIx xs.length 0 lo)).take (HT.sIx xs.length xs.length hi-HT.sIx xs.length 0 lo)
theorem qX(xs:List V)(lo hi:Option Int):(qM xs lo hi).length<=xs.length:=by
 unfold qM;rw[bU,fW];lia
def rSlT(K:W.Frag):V->Option Int->Option Int->Hp->VK->Prop:=λx lo hi H Q=>mN x λa=>∃xs,dN K H a xs/\
 ¬(HT.sIx xs.length 0 lo=0/\HT.sIx xs.length xs.length hi=xs.length)/\∀p,H p=none->Q (.ref p) (upd H p (.tup (qM xs lo hi)))
theorem UJ:SlR X (rSlT X.K):=by
 intro aJ s σ H x v vl vu lo hi sl Q I rx hs pl pu h;replace h:=xI h;obtain⟨a,rfl,xs,hx,hw,q⟩:=h;cases rx;obtain⟨its,r,ht,hz⟩:=I.tuple hx;have eQ:its.toArray.size=xs.length:=by rw[aR];exact r.length.symm
 refine⟨"tuple",_,dW.lookup,ht.typeIs,?_⟩;refine HT.getItem_tuple_cut ht hs pl pu (by rw[eQ];exact hw) ?_ (by rw[eQ];exact hz);rw[eQ];refine⟨.ref s.heap.objs.size,_,I.laid (t':=s.toks) (o:=.tup (qM xs lo hi)) (λb ob q=>aP _ q) (aG _) ?_,rfl,q _ (I.hok.fresh (aG _))⟩;exact⟨cR (qX xs lo hi) hz,_,(r.drop (HT.sIx xs.length 0 lo)).take (HT.sIx xs.length xs.length hi-HT.sIx xs.length 0 lo),IsTup.new _ _⟩
def rCatT(K:W.Frag):R2:=λx y H Q=>mN x λa=>mN y λb=>∃xs,dN K H a xs/\∃ys,dN K H b ys/\xs≠[]/\xs.length+ys.length<=sizeLine/\
 (ys=[]->Q (.ref a) H)/\(ys≠[]->∀p,H p=none->Q (.ref p) (upd H p (.tup (xs++ys))))
theorem dD.nil_iff(r:dD xs us):us=[]↔xs=[]:=by
 cases r with
 |nil=>simp
 |cons _ _=>simp
theorem fe:oQ X (binaryOp .Add) (rCatT X.K):=by
 intro aJ s σ H x y v u Q I rx ry h;replace h:=xI h;obtain⟨a,rfl,h⟩:=h;replace h:=xI h;obtain⟨b,rfl,xs,ha,ys,hb,hx,hz,q1,q2⟩:=h;cases rx;cases ry;obtain⟨its,r1,p1,_⟩:=I.tuple ha;obtain⟨its2,r2,p2,_⟩:=I.tuple hb;refine HT.cat_tup p1 p2 (λz=>hx (r1.nil_iff.mp z)) (λz=>⟨.ref a,H,I,rfl,q1 (r2.nil_iff.mp z)⟩) (λz=>?_) (by rw[←r1.length,←r2.length];exact hz);refine⟨.ref s.heap.objs.size,_,I.laid (t':=s.toks) (o:=.tup (xs++ys)) (λb ob q=>aP _ q) (aG _) ?_,rfl,q2 (λw=>z (r2.nil_iff.mpr w)) _ (I.hok.fresh (aG _))⟩;exact⟨by rw[aI];exact hz,_,r1.append r2,IsTup.new _ _⟩
end
def NC(n:Nat)(i:Int):Option Nat:=if 0<=i then(if i<n then some i.toNat else none)else if -(n:Int)<=i then some (i+n).toNat else none
def oV{α:Type}(xs:List α)(i:Int):Option α:=(NC xs.length i).bind λj=>xs[j]?
theorem KC{i:Int}(h:NC n i=some j):seqIndex? i n=some j/\j<n/\ -(n:Int)<=i/\i<n:=by
 unfold NC at h;by_cases h0:0<=i
 ·rw[aL h0]at h;by_cases h1:i<n
  ·rw[aL h1]at h;have e:i.toNat=j:=dC h;exact⟨by rw[seqIndex_of h0 h1,e],(),(),h1⟩
  ·rw[aH h1]at h;cases h
 ·rw[aH h0]at h;by_cases h1: -(n:Int)<=i
  ·rw[aL h1]at h;have e:(i+n).toNat=j:=dC h;exact⟨by rw[seqIndex_neg () h1,e],(),h1,()⟩
  ·rw[aH h1]at h;cases h
theorem VT{xs:List α}{i:Int}{v:α}(h:oV xs i=some v):∃j,seqIndex? i xs.length=some j/\xs[j]?=some v/\j<xs.length/\ -(xs.length:Int)<=i/\i<xs.length:=by
 unfold oV at h;cases e:NC xs.length i with
 |none=>rw[e]at h;cases h
 |some j=>
  rw[e]at h;obtain⟨h1,h2,h3,h4⟩:=KC e;exact⟨j,h1,h,h2,h3,h4⟩
theorem yD{xs:List α}{v:α}(h:xs[j]?=some v):oV xs (j:Int)=some v:=by
 have hj:j<xs.length:=(aC.mp h).1;have e:NC xs.length (j:Int)=some j:=by
  unfold NC;rw[aL (),aL ()];simp
 unfold oV;rw[e];exact h
theorem vS(xs:List α)(v:α):oV (xs++[v]) (-1)=some v:=by
 have hl:(xs++[v]).length=xs.length+1:=by simp
 have e:NC (xs++[v]).length (-1)=some xs.length:=by
  unfold NC;rw[hl,aH (by decide),aL ()]
  congr 1
  lia
 unfold oV;rw[e];show(xs++[v])[xs.length]?=some v;simp
def LK(b:Expr):Prop:=∀o i,subscripted b false o i=operate [o,i] (getItem o i)
def tz(X:Cx)(r:R2):Prop:=
 ∀(value slice:Expr) (aJ:List (Addr×Obj)) (s:Shared) (σ:St) (H:Hp) (x y:V) (v u:Value) (Q:VK),Inv X aJ σ H s->RelV x v->RelV y u->r x y H Q->
  subscripted slice false v u=operate [v,u] (getItem v u)->wpAny (model X.prog X.w) X.A (subscriptTail value slice v u) (EP X aJ σ Q) X.xe s
def MtR(X:Cx)(id:String)(r:V->List V->Hp->VK->Prop):Prop:=
 ∀(aJ:List (Addr×Obj)) (s:Shared) (σ:St) (H:Hp) (x:V) (xs:List V) (v:Value) (us:List Value) (Q:VK),Inv X aJ σ H s->RelV x v->dD xs us->r x xs H Q->
  wpAny (model X.prog X.w) X.A (call (.builtin id) (v::us)) (EP X aJ σ Q) X.xe s
section
variable {a b:Expr} {tb:TE} {pos:Pos}
theorem pe_ix{r:R2}(hr:tz X r)(ha:PE X a ta)(hb:PE X b tb)(hs:LK b):PE X (.Subscript a b pos) (tOp r ta tb):=by
 intro aJ s σ H Q I h;exact Subscript_ (sm ha hb I h λv u s2 x y H2 I2 rx ry q=>hr a b aJ s2 σ H2 x y v u Q I2 rx ry q (hs _ _))
def rIxL(K:W.Frag):R2:=λx y H Q=>mN x λp=>sH y λi=>∃xs,dL K H p xs/\∃v,oV xs i=some v/\Q v H
def rIxT(K:W.Frag):R2:=λx y H Q=>mN x λp=>sH y λi=>∃xs,dN K H p xs/\∃v,oV xs i=some v/\Q v H
def rIxS:R2:=λx y H Q=>asS x λz=>sH y λi=>z.length<=sizeLine/\∃c,oV z.cps.toList i=some c/\Q (.str ⟨#[c]⟩) H
theorem yH:tz X (rIxL X.K):=by
 intro value slice aJ s σ H x y v u Q I rx ry h hs;replace h:=xI h;obtain⟨p,rfl,h⟩:=h;replace h:=qB h;obtain⟨i,rfl,xs,hq,z,he,q⟩:=h;cases rx;obtain⟨t,rfl⟩:=ry;obtain⟨its,r,pl,hz⟩:=I.list hq;obtain⟨j,h1,h2,h3,h4,h5⟩:=VT he;obtain⟨w,ew,rw'⟩:=r.get h2;have hl:=r.length;have hn:=ZB;have fin:EP X aJ σ Q w s:=⟨z,H,I,rw',q⟩
 by_cases h0:0<=i
 ·have hj:i.toNat=j:=by
   rw[seqIndex_of h0 h5]at h1;exact dC h1
  exact item_listR pl.isList h0 () (by rw[hj];simpa using ew) fin hs
 ·have hj:(i+(its.toArray.size:Int)).toNat=j:=by
   rw[seqIndex_neg () h4]at h1;rw[aR,←hl];exact dC h1
  exact subscriptTail_builtinR (x:=w) pl.isList.typeIs slot_list_getitem.lookup
   (wpAny_getItem_list_neg (Q:=λr s'=>r=w/\EP X aJ σ Q r s') pl.isList () (by rw[aR]<;>lia) () (by rw[hj];simpa using ew) ⟨rfl,fin⟩) hs
theorem zM:tz X (rIxT X.K):=by
 intro value slice aJ s σ H x y v u Q I rx ry h hs;replace h:=xI h;obtain⟨p,rfl,h⟩:=h;replace h:=qB h;obtain⟨i,rfl,xs,hq,z,he,q⟩:=h;cases rx;obtain⟨t,rfl⟩:=ry;obtain⟨its,r,pl,hz⟩:=I.tuple hq;obtain⟨j,h1,h2,h3,h4,h5⟩:=VT he;obtain⟨w,ew,rw'⟩:=r.get h2;have hl:=r.length;have hn:=ZB;have fin:EP X aJ σ Q w s:=⟨z,H,I,rw',q⟩
 exact subscriptTail_builtinR (x:=w) pl.typeIs slot_tuple_getitem.lookup
  (getItem_tuple (j:=j) (Q:=λr s'=>r=w/\EP X aJ σ Q r s') pl () () (by rw[aR,←hl];exact h1) (by simpa using ew) ⟨rfl,fin⟩) hs
theorem qm:tz X rIxS:=by
 intro value slice aJ s σ H x y v u Q I rx ry h hs;replace h:=asS_ h;obtain⟨z,rfl,h⟩:=h;replace h:=qB h;obtain⟨i,rfl,hz,c,he,q⟩:=h;obtain⟨t,rfl⟩:=rx;obtain⟨t',rfl⟩:=ry;obtain⟨j,h1,h2,h3,h4,h5⟩:=VT he;have hl:z.cps.toList.length=z.length:=by simp[Str.length]
 rw[hl]at h1 h4 h5;have hn:=ZB;exact tail_any (typeIs_str s z t) slot_str_getitem.lookup (getItem_str (c:=c) (by
  have e1:decide (i< -(2^63:Int))=false:=dE ();have e2:decide (i≥2^63)=false:=dE ();rw[e1,e2,tI]) (by rw[h1];simpa using h2) ⟨.str ⟨#[c]⟩,H,I.tok _,⟨_,rfl⟩,q⟩) hs
theorem FM(its:List Value)(n j:Nat)(u:Value):Obj.mapSeq (·.setIfInBounds j u) {cls:=.type "list",data:=.seq its.toArray n}={cls:=.type "list",data:=.seq (its.set j u).toArray n}:=by
 simp[Obj.mapSeq]
theorem Inv.lst{aJ:List (Addr×Obj)}{σ:St}{H:Hp}{s:Shared}{p:Addr}{xs:List V}(I:Inv X aJ σ H s)(h:H p=some (.lst xs)):
 ∃(its:List Value)(n:Nat),dD xs its/\s.heap.get? p=some {cls:=.type "list",data:=.seq its.toArray n}/\xs.length<=sizeLine:=by
 obtain⟨z,its,n,r,e⟩:=I.hok p _ h;exact⟨its,n,r,e,z⟩
theorem Inv.lstUpd{p:Addr}{ys:List V}{n':Nat}{f:Obj->Obj}(I:Inv X aJ σ H s)(h:H p=some (.lst xs))
 (ho:s.heap.get? p=some {cls:=.type "list",data:=.seq its.toArray n}) (hf:f {cls:=.type "list",data:=.seq its.toArray n}={cls:=.type "list",data:=.seq its'.toArray n'}) (r:dD ys its') (hz:ys.length<=sizeLine) (t:Nat):
 Inv X aJ σ (upd H p (.lst ys)) {s with heap:=s.heap.update p f,toks:=t}:=by
 have e:(s.heap.update p f).get? p=some {cls:=.type "list",data:=.seq its'.toArray n'}:=by
  rw[nY f ho (by rw[hf]<;>rfl),hf]
 refine I.write (x:=p) (e:=p) (by rw[h];trivial) (.inl rfl) (λb u hb q=>(nI _ _ (cH hb)).trans q) ⟨_,e⟩ ?_;exact⟨hz,its',n',r,e⟩
def ID:V->V->V->Hp->(Hp->Prop)->Prop:=λo i v H Q=>mN o λp=>sH i λk=>∃xs,H p=some (.lst xs)/\∃j,NC xs.length k=some j/\Q (upd H p (.lst (xs.set j v)))
theorem wV:sy X ID:=by
 intro aJ s σ H o i v ov iv u Q I ro ri rv h;replace h:=xI h;obtain⟨p,rfl,h⟩:=h;replace h:=qB h;obtain⟨k,rfl,xs,hp,j,hj,q⟩:=h;cases ro;obtain⟨t,rfl⟩:=ri;obtain⟨its,n,r,ho,hz⟩:=I.lst hp;obtain⟨h1,h2,h3,h4⟩:=KC hj;have hl:=r.length;have hn:=ZB;have I':Inv X aJ σ (upd H p (.lst (xs.set j v))) {s with heap:=s.heap.update p (Obj.mapSeq (·.setIfInBounds j u))}:=
  I.lstUpd hp ho (FM its n j u) (r.set rv j) (by rw[lO];exact hz) s.toks
 by_cases h0:0<=k
 ·have hk:k.toNat=j:=by
   rw[seqIndex_of h0 h4]at h1;exact dC h1
  exact W.ki_setAt ho h0 () (by rw[aR,←hl];exact h4) (by rw[hk];exact⟨_,I',q⟩)
 ·have hk:(k+(its.toArray.size:Int)).toNat=j:=by
   rw[seqIndex_neg () h3]at h1;rw[aR,←hl];exact dC h1
  exact W.ki_setBack ho () (by rw[aR,←hl];exact h3) () (by rw[hk];exact⟨_,I',q⟩)
theorem UI(lo hi:Option Int)(n:Nat):(sliceBounds lo hi none n).1=((HT.sIx n 0 lo:Nat):Int)/\(sliceBounds lo hi none n).2.1=((HT.sIx n n hi:Nat):Int)/\(sliceBounds lo hi none n).2.2=1:=by
 refine⟨?_,?_,rfl⟩
 ·cases lo with
  |none=>simp[sliceBounds,HT.sIx]
  |some i=>
   simp only[sliceBounds,HT.sIx,Option.getD_none,show(1:Int)>0 by decide,if_true];by_cases h:i<0
   ·simp only[h,if_true]<;>lia
   ·simp only[h,dO]<;>lia
 ·cases hi with
  |none=>simp[sliceBounds,HT.sIx]
  |some i=>
   simp only[sliceBounds,HT.sIx,Option.getD_none,show(1:Int)>0 by decide,if_true];by_cases h:i<0
   ·simp only[h,if_true]<;>lia
   ·simp only[h,dO]<;>lia
theorem JK(its:List Value)(lo hi:Option Int):slicePick its.toArray lo hi none=((its.drop (HT.sIx its.length 0 lo)).take (HT.sIx its.length its.length hi-HT.sIx its.length 0 lo)).toArray:=by
 obtain⟨h1,h2,h3⟩:=UI lo hi its.toArray.size;unfold slicePick;rw[h1,h2,h3];simp only[sliceRange_one,pick_run,aR]<;>rfl
def rSlL(K:W.Frag):V->Option Int->Option Int->Hp->VK->Prop:=λx lo hi H Q=>mN x λa=>∃xs,dL K H a xs/\∀p,H p=none->Q (.ref p) (upd H p (.lst (qM xs lo hi)))
theorem HS:SlR X (rSlL X.K):=by
 intro aJ s σ H x v vl vu lo hi sl Q I rx hs pl pu h;replace h:=xI h;obtain⟨a,rfl,xs,hx,q⟩:=h;cases rx;obtain⟨its,r,ht,hz⟩:=I.list hx;have eQ:=r.length;refine⟨"list",_,slot_list_getitem.lookup,ht.isList.typeIs,?_⟩;refine wpAny_getItem_list_slice ht.isList hs pl pu .none (by simp) ?_ (by rw[aR]<;>lia);rw[JK,←eQ];refine⟨.ref s.heap.objs.size,_,I.laid (t':=s.toks) (o:=.lst (qM xs lo hi)) (λb ob q=>aP _ q) (aG _) ?_,rfl,q _ (I.hok.fresh (aG _))⟩;exact⟨cR (qX xs lo hi) hz,_,0,(r.drop (HT.sIx xs.length 0 lo)).take (HT.sIx xs.length xs.length hi-HT.sIx xs.length 0 lo),bX _ rfl⟩
def kM:V->Bool
 | .non=>true
 | .bl _=>true
 | .int _=>true
 | .str _=>true
 |_=>false
def ip:V->V->Bool
 | .non,.non=>true
 | .bl a,.bl b=>a==b
 | .bl a,.int b=>(if a then 1 else 0)==b
 | .int a,.bl b=>a==(if b then 1 else 0)
 | .int a,.int b=>a==b
 | .str a,.str b=>a==b
 |_,_=>false
theorem rp{x:V}{v:Value}(ry:RelV y u)(rx:RelV x v)(fy:kM y=true)(fx:kM x=true):SeqAt.EqAt A s u v (ip y x):=by
 cases y with
 |non=>
  cases ry;cases x with
  |non=>cases rx;exact SeqAt.EqAt.same _
  |bl b=>cases rx;exact SeqAt.EqAt.none_bool b
  |int b=>obtain⟨t,rfl⟩:=rx;exact SeqAt.EqAt.none_int b t
  |str b=>obtain⟨t,rfl⟩:=rx;exact SeqAt.EqAt.none_str b t
  |_=>exact absurd (show false=true from fx) bQ
 |bl a=>
  cases ry;cases x with
  |non=>cases rx;exact SeqAt.EqAt.bool_none a
  |bl b=>cases rx;exact SeqAt.EqAt.bool_bool a b
  |int b=>obtain⟨t,rfl⟩:=rx;exact SeqAt.EqAt.bool_int a b t
  |str b=>obtain⟨t,rfl⟩:=rx;exact SeqAt.EqAt.bool_str a b t
  |_=>exact absurd (show false=true from fx) bQ
 |int a=>
  obtain⟨t',rfl⟩:=ry;cases x with
  |non=>cases rx;exact SeqAt.EqAt.int_none a t'
  |bl b=>cases rx;exact SeqAt.EqAt.int_bool a t' b
  |int b=>obtain⟨t,rfl⟩:=rx;exact SeqAt.EqAt.int_int a t' b t
  |str b=>obtain⟨t,rfl⟩:=rx;exact SeqAt.EqAt.int_str a t' b t
  |_=>exact absurd (show false=true from fx) bQ
 |str a=>
  obtain⟨t',rfl⟩:=ry;cases x with
  |non=>cases rx;exact SeqAt.EqAt.str_none a t'
  |bl b=>cases rx;exact SeqAt.EqAt.str_bool a t' b
  |int b=>obtain⟨t,rfl⟩:=rx;exact SeqAt.EqAt.str_int a t' b t
  |str b=>obtain⟨t,rfl⟩:=rx;exact SeqAt.EqAt.str_str a t' b t
  |_=>exact absurd (show false=true from fx) bQ
 |_=>exact absurd (show false=true from fy) bQ
def iq(x:V)(u:Value):Bool:=match u with
 | .none=>ip .non x
 | .bool b=>ip (.bl b) x
 | .int i _=>ip (.int i) x
 | .str z _=>ip (.str z) x
 |_=>false
theorem WH{x:V}(r:RelV y u)(f:kM y=true):iq x u=ip y x:=by
 cases y with
 |non=>cases r;rfl
 |bl b=>cases r;rfl
 |int i=>obtain⟨t,rfl⟩:=r;rfl
 |str z=>obtain⟨t,rfl⟩:=r;rfl
 |_=>exact absurd (show false=true from f) bQ
theorem VU{x:V}:∀{xs:List V}{us:List Value},dD xs us->xs.all kM=true->us.any (iq x)=xs.any λy=>ip y x
 |_,_,.nil,_=>rfl
 |y::xs,u::us,.cons r t,f=>by
  rw[tH,bY]at f;rw[iK,iK,WH r f.1,VU t f.2]
theorem XW{A:Around}{s:Shared}{x:V}{v:Value}(rx:RelV x v)(fx:kM x=true):∀{xs:List V}{us:List Value},dD xs us->xs.all kM=true->∀u∈us,SeqAt.EqAt A s u v (iq x u)
 |_,_,.nil,_=>λu hu=>by cases hu
 |y::xs,u::us,.cons r t,f=>λu' hu=>by
  rw[tH,bY]at f;rcases bK.mp hu with rfl |hu
  ·rw[WH r f.1];exact rp r rx f.1 fx
  ·exact XW rx fx t f.2 u' hu
def inV(x:V)(xs:List V):Bool:=xs.any λy=>ip y x
def rIn(K:W.Frag)(neg:Bool):R2:=λx y H Q=>∃p xs,y=.ref p/\(dL K H p xs\/dN K H p xs)/\kM x=true/\xs.all kM=true/\Q (.bl (if neg then !inV x xs else inV x xs)) H
theorem MN:oQ X (compareOp .In) (rIn X.K false):=by
 intro aJ s σ H x y v u Q I rx ry h;obtain⟨p,xs,rfl,hq,fx,fs,q⟩:=h;cases ry;rcases hq with hq |hq
 ·obtain⟨its,r,pl,hz⟩:=I.list hq;refine SeqAt.in_listAt (iq x) pl.isList (λw hw=>XW rx fx r fs w (by simpa using hw)) ⟨.bl _,H,I,rfl,?_⟩;rw[show its.toArray.any (iq x)=its.any (iq x) by simp,VU r fs];exact q
 ·obtain⟨its,r,pl,hz⟩:=I.tuple hq;refine SeqAt.in_tupleAt (iq x) pl (λw hw=>XW rx fx r fs w (by simpa using hw)) ⟨.bl _,H,I,rfl,?_⟩;rw[show its.toArray.any (iq x)=its.any (iq x) by simp,VU r fs];exact q
theorem VQ:qQ X (.type "list") (λxs H Q=>pG xs λx=>mN x λp=>∃ys,(dL X.K H p ys\/dN X.K H p ys)/\∀l,H l=none->Q (.ref l) (upd H l (.lst ys))):=by
 intro aJ s σ H xs us Q I r h;replace h:=wE h;obtain⟨x,rfl,h⟩:=h;replace h:=xI h;obtain⟨p,rfl,ys,hq,q⟩:=h;obtain⟨u,rfl,rx⟩:=uP r;cases rx;have fin:∀(its:List Value),dD ys its->ys.length<=sizeLine->∀(h':Heap)(c':Nat),(∀b o',s.heap.get? b=some o'->h'.get? b=some o')->
  h'.get? s.heap.objs.size=some {cls:=.type "list",dict:=none,data:=.seq its.toArray c',slots:= #[]}->EP X aJ σ Q (.ref s.heap.objs.size) {s with heap:=h'}:=λits r' hz h' c' kp e=>
  ⟨.ref s.heap.objs.size,_,I.laid (t':=s.toks) kp (aG _) (show fA X.prog X.w _ h' _ (.lst ys)from⟨hz,its,c',r',e⟩),rfl,q _ (I.hok.fresh (aG _))⟩
 rcases hq with hq |hq
 ·obtain⟨its,r',pl,hz⟩:=I.list hq;have eQ:=r'.length;obtain⟨o,ho,hc,n,hd⟩:=pl.isList;exact call_list_seq p (.inl rfl) ho hc hd (λh' c' kp e=>fin its r' hz h' c' kp e) (by simp only[aR]<;>lia)
 ·obtain⟨its,r',pl,hz⟩:=I.tuple hq;have eQ:=r'.length;obtain⟨o,ho,hc,n,hd⟩:=pl;exact call_list_seq p (.inr rfl) ho hc hd (λh' c' kp e=>fin its r' hz h' c' kp e) (by simp only[aR]<;>lia)
theorem jU:qQ X (.type "tuple") (λxs H Q=>∃p ys,xs=[.ref p]/\((dL X.K H p ys/\∀l,H l=none->Q (.ref l) (upd H l (.tup ys)))\/(dN X.K H p ys/\Q (.ref p) H))):=by
 intro aJ s σ H xs us Q I r h;obtain⟨p,ys,rfl,h⟩:=h;obtain⟨u,rfl,rx⟩:=uP r;cases rx;rcases h with⟨hq,q⟩ |⟨hq,q⟩
 ·obtain⟨its,r',pl,hz⟩:=I.list hq;have eQ:=r'.length;refine call_tuple_list pl.isList (λh' kp=>?_) (by simp only[aR]<;>lia);have I1:Inv X aJ σ H {s with heap:=h'}:=I.kept (t':=s.toks) kp;have I2:Inv X aJ σ (upd H h'.objs.size (.tup ys)) {s with heap:=h'.push {cls:=.type "tuple",data:=.seq its.toArray}}:=
   I1.laid (t':=s.toks) (λb o e=>aP _ e) (aG _) (show fA X.prog X.w _ _ _ (.tup ys)from⟨hz,its,r',IsTup.new _ _⟩)
  exact⟨.ref h'.objs.size,_,I2,rfl,q _ (I1.hok.fresh (aG _))⟩
 ·obtain⟨its,r',pl,hz⟩:=I.tuple hq;exact call_tuple_same pl ⟨.ref p,H,I,rfl,q⟩
def tyV(K:W.Frag)(T:String)(x:V)(H:Hp):Prop:=match x with
 | .str _=>T="str"
 | .int _=>T="int"
 | .ref p=>(T="list"/\∃xs,dL K H p xs)\/(T="tuple"/\∃o,K.lookup p=some o/\o.cls=.type "tuple"/\o.dict=none)\/
  (T="dict"/\((∃kvs,H p=some (.dK kvs))\/∃kvs,H p=some (.dT kvs)))\/(T="set"/\∃S n,H p=some (.set S n))
 |_=>False
theorem OX{x:V}{v:Value}(I:Inv X aJ σ H s)(r:RelV x v)(ty:tyV X.K T x H):
 s.TypeIs v T/\∀a,v=.ref a->∃ob,s.heap.get? a=some ob/\ob.dict=none:=by
 cases x with
 |str z=>
  obtain⟨t,rfl⟩:=r;cases (show T="str" from ty);exact⟨typeIs_str s z t,λ_ e=>nomatch e⟩
 |int i=>
  obtain⟨t,rfl⟩:=r;cases (show T="int" from ty);exact⟨typeIs_int s i t,λ_ e=>nomatch e⟩
 |ref p=>
  cases r;rcases ty with⟨rfl,xs,hq⟩ |⟨rfl,o,hk,hc,hd⟩ |⟨rfl,hk⟩ |⟨rfl,S,n,hk⟩
  ·obtain⟨its,_,pl,_⟩:=I.list hq;refine⟨pl.isList.typeIs,λa e=>?_⟩;cases e;obtain⟨o,n,e,c,hd,_⟩:=pl;exact⟨o,e,hd⟩
  ·refine⟨⟨o,I.kIn p o hk,hc⟩,λa e=>?_⟩;cases e;exact⟨o,I.kIn _ o hk,hd⟩
  ·have z:∃o,s.heap.get? p=some o/\o.ExactDict:=by
    rcases hk with⟨kvs,hk⟩ |⟨kvs,hk⟩
    ·obtain⟨_,_,_,_,o,_,_,e,ex,_⟩:=I.hok p _ hk;exact⟨o,e,ex⟩
    ·obtain⟨_,_,_,_,o,_,_,e,ex,_⟩:=I.hok p _ hk;exact⟨o,e,ex⟩
   obtain⟨o,e,ex⟩:=z;refine⟨⟨o,e,ex.1⟩,λa e2=>?_⟩;cases e2;exact⟨o,e,ex.2.1⟩
  ·obtain⟨o,_,_,_,e,ex,_⟩:=I.hok p _ hk;refine⟨⟨o,e,ex.1⟩,λa e2=>?_⟩;cases e2;exact⟨o,e,ex.2.1⟩
 |_=>exact False.elim ty
def tBM0(K:W.Frag)(T:String)(r:V->List V->Hp->VK->Prop)(to:TE):TE:=λσ H Q=>to σ H λx H1=>tyV K T x H1/\r x [] H1 Q
def tBM(K:W.Frag)(T:String)(r:V->List V->Hp->VK->Prop)(to:TE)(t:TA):TE:=λσ H Q=>to σ H λx H1=>tyV K T x H1/\t σ H1 λxs H2=>r x xs H2 Q
variable {to:TE} {t:TA} {name:Str} {iS:Pos} {id:String} {r:V->List V->Hp->VK->Prop}
theorem o0(pa:PlainAttrs T)(slot:Slot T name id)(hty:typeOf (.builtin id)=pure (.type "method_descriptor"))(hm:MtR X id r)(ho:PE X o to)
 (hbase:attributeBase o name X.env (eval o X.env)=eval o X.env:=by rfl) (hline:(lY.endLine==iS.line)=true:=by rfl):PE X (.Call (.Attribute o name lY) [] [] iS) (tBM0 X.K T r to):=by
 intro aJ s σ H Q I h;refine wpAny_Call_method0_late hbase hline (eL (ho aJ s σ H _ I h) λv s1 ⟨x,H1,I1,r1,ty,q1⟩=>?_);obtain⟨h1,h2⟩:=OX I1 r1 ty;exact⟨T,id,pa,slot,hty,h1,h2,iR rfl (PySem.evalArgs_none (hm aJ s1 σ H1 x [] v [] Q I1 r1 .nil q1))⟩
theorem jD(pa:PlainAttrs T)(slot:Slot T name id)(hty:typeOf (.builtin id)=pure (.type "method_descriptor"))(hm:MtR X id r)(ho:PE X o to)(ha:PA X (e::es) t)
 (hbase:attributeBase o name X.env (eval o X.env)=eval o X.env:=by rfl)
 (hfew:((backTo iS (starEach (e::es) X.env)).all (λx=>!x.1)&&(backToKw iS (keywordEach [] X.env)).all (λx=>x.1.isSome)
  &&decide ((e::es).length+([]:List Keyword).length+(if([]:List Keyword).isEmpty then 0 else 1)<30))=true:=by rfl)
 (hline:(lY.endLine==iS.line)=true:=by rfl) (hs:starEach (e::es) X.env=(false,eval e X.env)::starEach es X.env:=by rfl) (hplain:(backTo iS (starEach es X.env)).any (·.1)=false:=by rfl):
 PE X (.Call (.Attribute o name lY) (e::es) [] iS) (tBM X.K T r to t):=by
 intro aJ s σ H Q I h;refine wpAny_Call_method_late hbase hfew hline rfl (eL (ho aJ s σ H _ I h) λv s1 ⟨x,H1,I1,r1,ty,q1⟩=>?_);obtain⟨h1,h2⟩:=OX I1 r1 ty;refine⟨T,id,pa,slot,hty,h1,h2,?_⟩;have hA:=ha iS aJ s1 σ H1 _ I1 q1;rw[hs]at hA⊢;refine iR (by show(false ||(backTo iS (starEach es X.env)).any (·.1))=false;rw[hplain]<;>rfl) (oK ?_);exact eL hA λus s2 ⟨vs,H2,I2,r2,q2⟩=>hm aJ s2 σ H2 x vs v us Q I2 r1 r2 q2
end
def MtM(X:Cx)(id:String)(r:V->List V->Hp->VK->Prop):Prop:=
 ∀(aJ:List (Addr×Obj)) (s:Shared) (σ:St) (H:Hp) (x:V) (xs:List V) (v:Value) (us:List Value) (Q:VK),Inv X aJ σ H s->RelV x v->dD xs us->r x xs H Q->
  wpAny (model X.prog X.w) X.A (call (.builtin id) (v::us)) (EP X aJ σ Q) X.xe s
theorem dD.one{x:V}(h:dD [x] us):∃u,us=[u]/\RelV x u:=uP h
theorem dD.two{x:V}(h:dD [x,y] us):∃u v,us=[u,v]/\RelV x u/\RelV y v:=vals2 h
theorem dD.dropLast(h:dD xs us):dD xs.dropLast us.dropLast:=by
 induction h with
 |nil=>exact .nil
 |cons r t ih=>
  cases t with
  |nil=>exact .nil
  |cons q t'=>exact .cons r ih
theorem dD.rep{xs:List V}{us:List Value}(h:dD xs us):∀k:Nat,dD (List.replicate k xs).flatten (List.replicate k us).flatten
 |0=>.nil
 |k+1=>by
  rw[fN,fN,mM,mM];exact dD.append h (dD.rep h k)
theorem QM(its:List Value):∀(k:Nat)(acc:List Value),
 List.foldl (λx1 x2=>x1++x2) acc.toArray (List.replicate k its.toArray)=(acc++(List.replicate k its).flatten).toArray
 |0,acc=>by simp
 |k+1,acc=>by
  have e:acc.toArray++its.toArray=(acc++its).toArray:=by simp
  have e2:(acc++its)++(List.replicate k its).flatten=acc++(List.replicate (k+1) its).flatten:=by
   rw[fN,mM,cM]
  rw[←e2,←QM its k (acc++its),←e,fN,List.foldl_cons]
section
variable {ys zs:List V}
theorem Inv.lset{f:Array Value->Array Value}(I:Inv X aJ σ H s)(hH:H l=some (.lst xs))
 (e:s.heap.get? l=some {cls:=.type "list",data:=.seq its.toArray n}) (hf:f its.toArray=its'.toArray) (hv:dD ys its') (hz:ys.length<=sizeLine):
 Inv X aJ σ (upd H l (.lst ys)) {s with heap:=s.heap.update l (Obj.mapSeq f),toks:=t'}:=by
 have q:=PySem.IsL.update e f;rw[hf]at q;refine I.write (x:=l) (e:=l) (by rw[hH];exact trivial) (.inl rfl) (λb' u hb hu=>(nI s.heap (Obj.mapSeq f) (cH hb)).trans hu) ⟨_,q⟩ ?_;exact⟨hz,its',_,hv,q⟩
theorem Inv.lnew(I:Inv X aJ σ H s)(hv:dD ys its)(hz:ys.length<=sizeLine):
 Inv X aJ σ (upd H s.heap.objs.size (.lst ys)) {s with heap:=s.heap.push {cls:=.type "list",data:=.seq its.toArray},toks:=t'}:=
 I.laid (λ_ _ q=>aP _ q) (aG _) ⟨hz,its,0,hv,bX _ rfl⟩
theorem Inv.fresh(I:Inv X aJ σ H s):H s.heap.objs.size=none:=I.hok.fresh (aG _)
theorem Inv.lstM(I:Inv X aJ σ H s)(hH:H l=some (.lst xs)):xs.length<=sizeLine/\∃(its:List Value)(n:Nat),dD xs its/\xs.length=its.length/\s.heap.get? l=some {cls:=.type "list",data:=.seq its.toArray n}:=by
 obtain⟨z,its,n,r,e⟩:=I.hok l _ hH;exact⟨z,its,n,r,r.length,e⟩
theorem XT(h:n<=sizeLine):Builtin.List.listTooLong n=false:=by
 unfold Builtin.List.listTooLong;exact dE ()
end
def UN:V->List V->Hp->VK->Prop:=λx vs H Q=>mN x λl=>pG vs λy=>∃xs,H l=some (.lst xs)/\xs.length<sizeLine/\Q .non (upd H l (.lst (xs++[y])))
theorem yU:MtM X "list.append" UN:=by
 intro aJ s σ H x vs v us Q I rx rv h;replace h:=xI h;obtain⟨l,rfl,h⟩:=h;replace h:=wE h;obtain⟨y,rfl,xs,hH,hz,q⟩:=h;cases rx;obtain⟨u,rfl,ru⟩:=rv.one;obtain⟨z,its,n,r,hl,e⟩:=I.lstM hH;refine sR F.slot_list_append ⟨_,e,rfl⟩ F.entry_list_append (F.args_list_append_2 _ _) (PySem.list_append l its.toArray n u (by rw[aR];lia)) ⟨e,?_⟩;refine⟨.non,_,I.lset (its':=its++[u]) hH e (by simp) (r.append (.cons ru .nil)) ?_,rfl,q⟩;rw[aI,cJ];lia
def IF:V->List V->Hp->VK->Prop:=λx vs H Q=>mN x λl=>pG vs λz=>mN z λb=>∃xs,H l=some (.lst xs)/\∃zs,H b=some (.lst zs)/\xs.length+zs.length<=sizeLine/\Q .non (upd H l (.lst (xs++zs)))
theorem MW:MtM X "list.extend" IF:=by
 intro aJ s σ H x vs v us Q I rx rv h;replace h:=xI h;obtain⟨l,rfl,h⟩:=h;replace h:=wE h;obtain⟨x,rfl,h⟩:=h;replace h:=xI h;obtain⟨b,rfl,xs,hH,zs,hB,hz,q⟩:=h;cases rx;obtain⟨u,rfl,ru⟩:=rv.one;cases ru;obtain⟨z,its,n,r,hl,e⟩:=I.lstM hH;obtain⟨z2,its2,n2,r2,hl2,e2⟩:=I.lstM hB;have hsz:its.toArray.size+its2.toArray.size<=sizeLine:=by rw[aR,aR];lia
 have hlong:¬(!its.toArray.isEmpty&&Builtin.List.listTooLong (its.toArray.size+its2.toArray.size))=true:=by
  rw[XT hsz,oM];exact bQ
 refine sR F.slot_list_extend ⟨_,e,rfl⟩ F.entry_list_extend (F.args_list_extend_2 _ _)
  (AutoSeq1.list_extend_list_list_0 l its.toArray n b its2.toArray n2 hlong (by rw[aR];lia) ()) ⟨e,e2,?_⟩
 refine⟨.non,_,I.lset (its':=its++its2) hH e (by simp) (r.append r2) ?_,rfl,q⟩;rw[aI];lia
def rPop:V->List V->Hp->VK->Prop:=λx vs H Q=>mN x λl=>as0 vs (∃xs,H l=some (.lst xs)/\∃y,xs[xs.length-1]?=some y/\Q y (upd H l (.lst xs.dropLast)))
def rCat:R2:=λx y H Q=>mN x λl=>mN y λb=>∃xs,H l=some (.lst xs)/\∃zs,H b=some (.lst zs)/\xs.length+zs.length<=sizeLine/\∀p,H p=none->Q (.ref p) (upd H p (.lst (xs++zs)))
def dr:R2:=λx y H Q=>mN x λl=>sH y λk=>∃xs,H l=some (.lst xs)/\ -(2^63)<=k/\k<2^63/\xs.length*k.toNat<=sizeLine/\
 ∀p,H p=none->Q (.ref p) (upd H p (.lst (List.replicate k.toNat xs).flatten))
theorem gw(xs:List α)(k:Nat):(List.replicate k xs).flatten.length=k*xs.length:=by
 induction k with
 |zero=>simp
 |succ k ih=>rw[fN,mM,aI,ih,Nat.succ_mul,Nat.add_comm]
theorem EU:oQ X (binaryOp .Mult) dr:=by
 intro aJ s σ H x y v u Q I rx ry h;replace h:=xI h;obtain⟨l,rfl,h⟩:=h;replace h:=qB h;obtain⟨k,rfl,xs,hH,h1,h2,hz,q⟩:=h;cases rx;obtain⟨t,rfl⟩:=ry;obtain⟨z,its,n,r,hl,e⟩:=I.lstM hH;have eQ:its.toArray.size*k.toNat<=sizeLine:=by rw[aR,←hl];exact hz
 have hcap:¬its.toArray.size*k.toNat>(2^63-1)/8:=by
  have :(sizeLine:Nat)<=(2^63-1)/8:=by decide
  lia
 have hfit:¬(!Builtin.List.listFitsIndex k)=true:=by
  rw[fitsIndex_both h1 h2];exact bQ
 have hlong:¬Builtin.List.listTooLong (its.toArray.size*k.toNat)=true:=by
  rw[XT eQ];exact bQ
 have hnew:List.foldl (λx1 x2=>x1++x2) #[] (List.replicate (if its.toArray.isEmpty=true then 0 else k.toNat) its.toArray)=(List.replicate k.toNat its).flatten.toArray:=by
  have f0:∀m:Nat,List.foldl (λx1 x2=>x1++x2) #[] (List.replicate m its.toArray)=(List.replicate m its).flatten.toArray:=λm=>by
   have :=QM its m [];rw[aw]at this;exact this
  rw[f0];cases its with
  |nil=>simp
  |cons a r'=>rw[aH (by simp)]
 refine wpAny_binaryOp_repeat_ref (T:="list") (U:="int") (by decide) ⟨_,e,rfl⟩ (λs'=>typeIs_int s' k t) noFill_list_mul F.fills_int_mul F.slot_int_rmul repeat_list F.slot_int_index.lookup
  (sR F.slot_int_rmul (typeIs_int s k t) F.entry_int_rmul (F.args_int_rmul_2 _ _) (int___rmul___int_list k t l its.toArray n)
   ⟨e,rfl,⟨_,e,rfl⟩,sR F.slot_list_mul ⟨_,e,rfl⟩ F.entry_list_mul (F.args_list_mul_2 _ _) (AutoListH.list___mul___list_int_3 l its.toArray n k t hfit hcap hlong) ⟨e,?_⟩⟩)
 rw[hnew];exact⟨.ref _,_,I.lnew (t':=s.toks) (r.rep k.toNat) (by rw[gw,Nat.mul_comm];exact hz),rfl,q _ I.fresh⟩
section
variable {κ:Type} [DecidableEq κ]
def yM(kvs:List (κ×V))(k:κ):Option V:=(kvs.find? λkv=>decide (kv.1=k)).map (·.2)
def jM(kvs:List (κ×V))(k:κ)(v:V):List (κ×V):=
 if(kvs.any λkv=>decide (kv.1=k))=true then kvs.map (λkv=>if kv.1=k then(kv.1,v)else kv)else kvs++[(k,v)]
def ko(kvs:List (κ×V))(k:κ):List (κ×V):=kvs.filter λkv=>decide (kv.1≠k)
theorem qC{p:κ×V}{r:List (κ×V)}{k:κ}(e:p.1=k):yM (p::r) k=some p.2:=by simp[yM,eN,e]
theorem qD{p:κ×V}{r:List (κ×V)}{k:κ}(e:¬p.1=k):yM (p::r) k=yM r k:=by simp[yM,eN,e]
theorem tN(k:κ):∀kvs:List (κ×V),(kvs.any λkv=>decide (kv.1=k))=(yM kvs k).isSome
 |[]=>rfl
 |p::r=>by
  rw[iK];by_cases e:p.1=k
  ·simp only[qC e,dX e,Bool.true_or,Option.isSome_some]
  ·rw[qD e,dE e,Bool.false_or];exact tN k r
theorem qU(kvs:List (κ×V))(k:κ)(v:V):(jM kvs k v).length<=kvs.length+1:=by
 unfold jM;split
 ·rw[aE];lia
 ·rw[aI,bF,nT];lia
theorem mQ.isSome_eq{o:Option V}{u:Option Value}(r:mQ o u):o.isSome=u.isSome:=by
 cases o with
 |none=>cases u with
  |none=>rfl
  |some _=>exact(show False from r).elim
 |some _=>cases u with
  |none=>exact(show False from r).elim
  |some _=>rfl
theorem mQ.getD{o:Option V}{u:Option Value}{d:V}{d':Value}(r:mQ o u)(rd:RelV d d'):RelV (o.getD d) (u.getD d'):=by
 cases o with
 |none=>cases u with
  |none=>exact rd
  |some _=>exact(show False from r).elim
 |some _=>cases u with
  |none=>exact(show False from r).elim
  |some _=>exact r
theorem KV.val{kvs:List (κ×V)}{vs:List (κ×Value)}(r:KV kvs vs)(k:κ):mQ (yM kvs k) (valueAt vs k):=by
 unfold KV at r
 induction r with
 |nil=>exact True.intro
 |@cons p q ps qs h t ih=>
  obtain⟨h1,h2⟩:=h;by_cases e:p.1=k
  ·have e':q.1=k:=h1.symm.trans e;have b:valueAt (q::qs) k=some q.2:=by simp[valueAt,eN,e']
   rw[qC e,b];exact h2
  ·have e':¬q.1=k:=λz=>e (h1.trans z)
   have b:valueAt (q::qs) k=valueAt qs k:=by simp[valueAt,eN,e']
   rw[qD e,b];exact ih
theorem KV.any{kvs:List (κ×V)}{vs:List (κ×Value)}(r:KV kvs vs)(k:κ):(kvs.any λkv=>decide (kv.1=k))=vs.any λkv=>decide (kv.1=k):=by
 unfold KV at r
 induction r with
 |nil=>rfl
 |cons h t ih=>rw[iK,iK,ih,h.1]
theorem KV.repl{kvs:List (κ×V)}{vs:List (κ×Value)}(r:KV kvs vs)(k:κ)(ry:RelV y u):
 KV (kvs.map λkv=>if kv.1=k then(kv.1,y)else kv) (vs.map λkv=>if kv.1=k then(kv.1,u)else kv):=by
 unfold KV at r⊢
 induction r with
 |nil=>exact .nil
 |@cons p q ps qs h t ih=>
  rw[cF,cF];refine .cons ?_ ih;obtain⟨h1,h2⟩:=h;by_cases e:p.1=k
  ·rw[aL e,aL (h1.symm.trans e)];exact⟨h1,ry⟩
  ·rw[aH e,aH (λz=>e (h1.trans z))];exact⟨h1,h2⟩
theorem KV.put{kvs:List (κ×V)}{vs:List (κ×Value)}(r:KV kvs vs)(k:κ)(ry:RelV y u):KV (jM kvs k y) (stored vs k u):=by
 unfold jM stored;rw[r.any k];by_cases e:(vs.any λkv=>decide (kv.1=k))=true
 ·rw[aL e,aL e];exact r.repl k ry
 ·rw[aH e,aH e];exact Paired.snoc r ⟨rfl,ry⟩
theorem KV.drop{kvs:List (κ×V)}{vs:List (κ×Value)}(r:KV kvs vs)(k:κ):KV (ko kvs k) (without vs k):=by
 unfold KV at r⊢;unfold ko without
 induction r with
 |nil=>exact .nil
 |@cons p q ps qs h t ih=>
  obtain⟨h1,h2⟩:=h;rw[lA,lA];by_cases e:p.1=k
  ·have a:¬decide (p.1≠k)=true:=by simp[e]
   have b:¬decide (q.1≠k)=true:=by simp[h1.symm.trans e]
   rw[aH a,aH b];exact ih
  ·have e':¬q.1=k:=λz=>e (h1.trans z)
   have a:decide (p.1≠k)=true:=by simp[e]
   have b:decide (q.1≠k)=true:=by simp[e']
   rw[aL a,aL b];exact .cons ⟨h1,h2⟩ ih
theorem KV.length{kvs:List (κ×V)}{vs:List (κ×Value)}(r:KV kvs vs):kvs.length=vs.length:=eT r
end
theorem ZQ{k:eI}(r:RelV (kV k) u):(yB P w).is k u=true:=by
 cases k with
 |inl i=>obtain⟨t,e⟩:=(show∃t,u=Value.int i t from r);subst e;exact BR P w i t
 |inr x=>obtain⟨t,e⟩:=(show∃t,u=Value.str x t from r);subst e;exact vE P w x t
theorem ZE{P:Program}{w:World}:∀{ks:List eI}{us:List Value},dD (ks.map kV) us->ItemsAre (yB P w) ks us
 |[],_,r=>by rw[pW]at r;cases r;exact .nil
 |k::ks,_,r=>by
  rw[cF]at r;cases r with
  |cons h t=>exact .cons (ZQ h) (ZE t)
abbrev KT(H:Hp):List (List eI×V)->List (List eI×Addr×Value)->Prop:=Paired λp q=>p.1=q.1/\H q.2.1=some (.tup (p.1.map kV))/\RelV p.2 q.2.2
theorem KT.val{xs:List (List eI×Addr×Value)}(r:KT H kvs xs)(k:List eI):mQ (yM kvs k) ((atKey xs k).map (·.2)):=by
 induction r with
 |nil=>exact True.intro
 |@cons p q ps qs h t ih=>
  obtain⟨h1,_,h2⟩:=h;by_cases e:p.1=k
  ·have e':q.1=k:=h1.symm.trans e;have b:atKey (q::qs) k=some q.2:=by simp[atKey,eN,e']
   rw[qC e,b];exact h2
  ·have e':¬q.1=k:=λz=>e (h1.trans z)
   have b:atKey (q::qs) k=atKey qs k:=by simp[atKey,eN,e']
   rw[qD e,b];exact ih
theorem KT.repl{xs:List (List eI×Addr×Value)}(r:KT H kvs xs)(k:List eI)(ry:RelV y u):
 KT H (kvs.map λkv=>if kv.1=k then(kv.1,y)else kv) (xs.map (putAt k u)):=by
 induction r with
 |nil=>exact .nil
 |@cons p q ps qs h t ih=>
  rw[cF,cF];refine .cons ?_ ih;obtain⟨h1,h2,h3⟩:=h;unfold putAt;by_cases e:p.1=k
  ·rw[aL e,aL (h1.symm.trans e)];exact⟨h1,h2,ry⟩
  ·rw[aH e,aH (λz=>e (h1.trans z))];exact⟨h1,h2,h3⟩
theorem KT.put{xs:List (List eI×Addr×Value)}(r:KT H kvs xs)(k:List eI)(hb:H b=some (.tup (k.map kV)))(ry:RelV y u):
 KT H (jM kvs k y) (storedH xs k b u):=by
 have e:(kvs.any λkv=>decide (kv.1=k))=(atKey xs k).isSome:=by
  rw[tN,(r.val k).isSome_eq,gL]
 unfold jM storedH;rw[e];by_cases q:(atKey xs k).isSome=true
 ·rw[aL q,aL q];exact r.repl k ry
 ·rw[aH q,aH q];exact Paired.snoc r ⟨rfl,hb,ry⟩
theorem KT.keeps{xs:List (List eI×Addr×Value)}(r:KT H kvs xs)(ht:∀b ys,H b=some (.tup ys)->H' b=some (.tup ys)):KT H' kvs xs:=
 Paired.mapP r λ_ _ z=>⟨z.1,ht _ _ z.2.1,z.2.2⟩
theorem j7{u:HO}(ok:mR P w H h)(e:Rd H a u):fA P w H h a u:=e.ok ok
theorem kN{kvs:List (eI×V)}(ok:mR P w H h)(e:Rd H a (.dK kvs)):kvs.length<=sizeLine/\(a==sysModules)=false/\∃vs,KV kvs vs/\h.DictOf (yB P w) a vs:=
 show fA P w H h a (.dK kvs)from j7 ok e
theorem kq{kvs:List (eI×V)}(ok:mR P w H h)(e:H a=some (.dK kvs)):kvs.length<=sizeLine/\(a==sysModules)=false/\∃vs,KV kvs vs/\h.DictOf (yB P w) a vs:=kN ok (.inl e)
theorem vH{ks:List eI}(ok:mR P w H h)(e:H a=some (.tup (ks.map kV))):(tupleKind (yB P w)).is h ks a:=by
 obtain⟨_,its,r,o,h1,h2,n,h3⟩:=(show fA P w H h a (.tup (ks.map kV))from ok a _ e)
 exact⟨o,its.toArray,n,h1,h2,h3,by simpa using ZE r⟩
theorem JB(ok:mR P w H h)(e:Rd H a (.dT kvs)):kvs.length<=sizeLine/\(a==sysModules)=false/\
 ∃xs,KT H kvs xs/\h.DictOfH (tupleKind (yB P w)) a xs:=by
 obtain⟨z,y,xs,r,o,es,ep,h1,h2,h3,h4,h5⟩:=(show fA P w H h a (.dT kvs)from j7 ok e)
 refine⟨z,y,xs,r,o,es,ep,h1,h2,h3,h4,λx hx=>?_,h5⟩;have all:∀{l:List (List eI×V)}{m:List (List eI×Addr×Value)},KT H l m->∀x∈m,(tupleKind (yB P w)).is h x.1 x.2.1:=by
  intro l m q
  induction q with
  |nil=>intro x hx;exact nomatch hx
  |@cons p q ps qs hq t ih=>
   intro x hx;rcases bK.mp hx with e |hx
   ·subst e;exact vH ok (by rw[←hq.1];exact hq.2.1)
   ·exact ih x hx
 exact all r x hx
theorem km(ok:mR P w H h)(e:H a=some (.dT kvs)):kvs.length<=sizeLine/\(a==sysModules)=false/\
 ∃xs,KT H kvs xs/\h.DictOfH (tupleKind (yB P w)) a xs:=JB ok (.inl e)
def oB(H:Hp)(a:Addr)(y:V)(r:Option V):Prop:=
 (∃kvs k,Rd H a (.dK kvs)/\y=kV k/\r=yM kvs k)\/∃kvs k b,Rd H a (.dT kvs)/\y=.ref b/\H b=some (.tup (k.map kV))/\r=yM kvs k
def GX(H:Hp)(a:Addr)(y v:V)(H':Hp):Prop:=
 (∃kvs k,H a=some (.dK kvs)/\y=kV k/\kvs.length<sizeLine/\H'=upd H a (.dK (jM kvs k v)))\/
 ∃kvs k b,H a=some (.dT kvs)/\y=.ref b/\H b=some (.tup (k.map kV))/\kvs.length<sizeLine/\H'=upd H a (.dT (jM kvs k v))
theorem oB.k{kvs:List (eI×V)}{k:eI}(e:H a=some (.dK kvs)):oB H a (kV k) (yM kvs k):=.inl ⟨kvs,k,.inl e,rfl,rfl⟩
theorem oB.t{k:List eI}(e:H a=some (.dT kvs))(eb:H b=some (.tup (k.map kV))):oB H a (.ref b) (yM kvs k):=.inr ⟨kvs,k,b,.inl e,rfl,eb,rfl⟩
theorem GX.k{kvs:List (eI×V)}{k:eI}(e:H a=some (.dK kvs))(hl:kvs.length<sizeLine):GX H a (kV k) v (upd H a (.dK (jM kvs k v))):=.inl ⟨kvs,k,e,rfl,hl,rfl⟩
theorem GX.t{k:List eI}(e:H a=some (.dT kvs))(eb:H b=some (.tup (k.map kV)))(hl:kvs.length<sizeLine):
 GX H a (.ref b) v (upd H a (.dT (jM kvs k v))):=.inr ⟨kvs,k,b,e,rfl,eb,hl,rfl⟩
section
variable {r:Value} {o:Option V}
theorem Inv.big(I:Inv X aJ σ H s):sysModules<s.heap.objs.size:=by
 have h:mainGlobals<s.heap.objs.size:=(I.mod.glob.keeps I.bk).lt;exact Nat.lt_trans (by decide) h
theorem NK(hu:A.units+1<cLine)(I:Inv X aJ σ H s)(g:oB H a y (some v))(ry:RelV y u)(h:∀w' s',Inv X aJ σ H s'->RelV v w'->Q w' s'):
 wpAny (model X.prog X.w) A (getItem (.ref a) u) Q E s:=by
 rcases g with⟨kvs,k,e,ey,l⟩ |⟨kvs,k,b,e,ey,eb,l⟩
 ·subst ey;obtain⟨z,hd,vs,mU,dd⟩:=kN I.hok e;obtain⟨w',hw,rw'⟩:=mQ.some_of (v:=v) (o:=valueAt vs k) (by rw[l];exact mU.val k);exact wpAny_getItem_of (ZQ ry) dd.mapOf hw (h w' _ (I.tok _) rw')
 ·subst ey;cases (show u=Value.ref b from ry);obtain⟨z,hd,xs,mU,dd⟩:=JB I.hok e;obtain⟨w',hw,rw'⟩:=mQ.some_of (v:=v) (o:=(atKey xs k).map (·.2)) (by rw[l];exact mU.val k);obtain⟨p,hp,lX⟩:=aO.mp hw;refine wpAny_getItem_heap (eD hu) (vH I.hok eb) dd hp ?_;rw[lX];exact h w' _ (I.tok _) rw'
theorem d_in(hu:A.units+1<cLine)(I:Inv X aJ σ H s)(g:oB H a y o)(ry:RelV y u)(h:∀s',Inv X aJ σ H s'->Q (.bool o.isSome) s'):
 wpAny (model X.prog X.w) A (compareOp .In u (.ref a)) Q E s:=by
 rcases g with⟨kvs,k,e,ey,l⟩ |⟨kvs,k,b,e,ey,eb,l⟩
 ·subst ey;obtain⟨z,hd,vs,mU,dd⟩:=kN I.hok e;refine wpAny_in_of (ZQ ry) hd dd.mapOf ?_;rw[←(mU.val k).isSome_eq,←l];exact h _ (I.tok _)
 ·subst ey;cases (show u=Value.ref b from ry);obtain⟨z,hd,xs,mU,dd⟩:=JB I.hok e;refine wpAny_in_heap (eD hu) (vH I.hok eb) hd dd ?_;have q:=(mU.val k).isSome_eq;rw[gL]at q;rw[←q,←l];exact h _ (I.tok _)
theorem iz(hu:A.units+1<cLine)(I:Inv X aJ σ H s)(g:oB H a y o)(ry:RelV y u)(h:∀s',Inv X aJ σ H s'->Q (.bool (!o.isSome)) s'):
 wpAny (model X.prog X.w) A (compareOp .NotIn u (.ref a)) Q E s:=by
 rcases g with⟨kvs,k,e,ey,l⟩ |⟨kvs,k,b,e,ey,eb,l⟩
 ·subst ey;obtain⟨z,hd,vs,mU,dd⟩:=kN I.hok e;refine wpAny_notIn_of (ZQ ry) hd dd.mapOf ?_;rw[←(mU.val k).isSome_eq,←l];exact h _ (I.tok _)
 ·subst ey;cases (show u=Value.ref b from ry);obtain⟨z,hd,xs,mU,dd⟩:=JB I.hok e;refine wpAny_notIn_heap (eD hu) (vH I.hok eb) hd dd ?_;have q:=(mU.val k).isSome_eq;rw[gL]at q;rw[←q,←l];exact h _ (I.tok _)
theorem vY{ob:HO}(I:Inv X aJ σ H s)(mu:Mut (H a))(hs:Heap.SameBut a s.heap h')(he:∃q,h'.get? a=some q)(new:fA X.prog X.w (upd H a ob) h' a ob):
 Inv X aJ σ (upd H a ob) {s with heap:=h',toks:=t'}:=
 I.write (x:=a) (e:=a) mu (.inl rfl) (λb q hb z=>(hs.2 b hb).trans z) he new
theorem GF{kvs:List (eI×V)}{vs:List (eI×Value)}(z:kvs.length<=sizeLine)(hd:(a==sysModules)=false)(mU:KV kvs vs)(dd:h'.DictOf (yB P w) a vs):
 fA P w H' h' a (.dK kvs):=⟨z,hd,vs,mU,dd⟩
theorem NJ{Q:Unit->Shared->Prop}(hu:A.units+1<cLine)(I:Inv X aJ σ H s)(g:GX H a y v H')(ry:RelV y u)(rv:RelV v r)(h:∀s',Inv X aJ σ H' s'->Q Unit.unit s'):
 wpAny (model X.prog X.w) A (setItem (.ref a) u r) Q E s:=by
 rcases g with⟨kvs,k,e,ey,l,eH⟩ |⟨kvs,k,b,e,ey,eb,l,eH⟩
 ·subst ey eH;obtain⟨z,hd,vs,mU,dd⟩:=kq I.hok e;have hz:vs.length<=sizeLine:=by rw[←mU.length];exact z
  have hl:(jM kvs k v).length<=sizeLine:=by have :=qU kvs k v;lia
  refine wpAny_setItem_pairs (hsz:=hz) (ZQ ry) dd λh' dd' hs=>h _ ?_
  have he:∃q,h'.get? a=some q:=let ⟨q,_,_,hq,_⟩:=dd';⟨q,hq⟩;exact vY I (by rw[e];exact True.intro) hs he (GF hl hd (mU.put k rv) dd')
 ·subst ey eH;cases (show u=Value.ref b from ry);obtain⟨z,hd,xs,mU,dd⟩:=km I.hok e;have hz:xs.length<=sizeLine:=by rw[←eT mU];exact z
  have hl:(jM kvs k v).length<=sizeLine:=by have :=qU kvs k v;lia
  refine wpAny_setItem_heap (hsz:=hz) (eD hu) (vH I.hok eb) dd λh' dd' hs=>h _ ?_
  obtain⟨q,es,ep,hq,h2,h3,h4,_,h5⟩:=dd';refine vY I (by rw[e];exact True.intro) hs ⟨q,hq⟩ ⟨hl,hd,_,(mU.put k eb rv).keeps λc ys ec=>?_,q,es,ep,hq,h2,h3,h4,h5⟩;rw[zJ (jK ec e (λz=>nomatch z))];exact ec
end
section
variable {kvs:List (eI×V)} {k:eI}
end
def tq(i:Expr):Prop:=∀ov iv,subscripted i false ov iv=operate [ov,iv] (getItem ov iv)
theorem HP{env:Env}{value slice:Expr}{pos:Pos}{id:String}
 (hl:typeLookup (.type T) "__getitem__"=pure (some (.builtin id))) (hs:tq slice)
 (h:wpAny (model prog w) A (eval value env) (λo s₁=>wpAny (model prog w) A (eval slice env) (λi s₂=>s₂.TypeIs o T/\wpAny (model prog w) A (getItem o i) Q E s₂) E s₁) E s):
 wpAny (model prog w) A (eval (.Subscript value slice pos) env) Q E s:=by
 refine Subscript_ (lJ h (λo s₁ h₁=>lJ h₁ (λi s₂ h₂=>?_) λ_ _ x=>x) λ_ _ x=>x);obtain⟨hT,h₂⟩:=h₂;unfold subscriptTail;refine aF ?_;rw[getitemInPython_of_ne hT.not_modules];refine aF (wpAny_specialOf hT hl ?_);have fin:wpAny (model prog w) A (subscripted slice false o i) (λr s₃=>wpAny (model prog w) A (letTemporaryGo value o r >>= λ_=>pure r) Q E s₃) E s₂:=by
  rw[hs o i];exact wpAny_operating (lJ h₂ (λr s₃ h₃=>aF (wpAny_letTemporaryGo (aS h₃))) λ_ _ x=>x)
 first
  |exact aS (aF fin)
  |exact aF (aS (aF fin))
  |exact aF fin
theorem CJ{o:Option V}(I:Inv X aJ σ H s)(g:oB H a y o):s.TypeIs (.ref a) "dict":=by
 rcases g with⟨kvs,k,e,_,_⟩ |⟨kvs,k,b,e,_,_,_⟩
 ·obtain⟨_,_,vs,_,dd⟩:=kN I.hok e;exact dd.typeIs
 ·obtain⟨_,_,xs,_,dd⟩:=JB I.hok e;exact dd.typeIs
def tDGet(td ty:TE):TE:=λσ H Q=>td σ H λx H1=>ty σ H1 λy H2=>mN x λa=>∃v,oB H2 a y (some v)/\Q v H2
def LY(ty td:TE):TE:=λσ H Q=>ty σ H λy H1=>td σ H1 λx H2=>mN x λa=>∃o,oB H2 a y o/\Q (.bl o.isSome) H2
def UB(ty td:TE):TE:=λσ H Q=>ty σ H λy H1=>td σ H1 λx H2=>mN x λa=>∃o,oB H2 a y o/\Q (.bl (!o.isSome)) H2
def HW(td ty tv:TE):TS:=λD σ H=>tv σ H λv H1=>td σ H1 λx H2=>ty σ H2 λy H3=>mN x λa=>∃H4,GX H3 a y v H4/\D.nx σ H4
section
variable {i value:Expr} {pos tpos:Pos} {td ty tv:TE}
theorem YK(hu:X.A.units+1<cLine)(ho:PE X o td)(hi:PE X i ty)(hs:tq i):PE X (.Subscript o i pos) (tDGet td ty):=by
 intro aJ s σ H Q I h;refine HP lu.lookup hs (eL (ho aJ s σ H _ I h) λu s1 ⟨x,H1,I1,rx,q1⟩=>eL (hi aJ s1 σ H1 _ I1 q1) λiv s2 ⟨y,H2,I2,ry,q2⟩=>?_);replace q2:=xI q2;obtain⟨a,rfl,v,g,q2⟩:=q2;obtain rfl:u=Value.ref a:=rx;exact⟨CJ I2 g,NK hu I2 g ry λw' s3 I3 rw'=>⟨v,H2,I3,rw',q2⟩⟩
theorem XJ(hu:X.A.units+1<cLine)(hi:PE X i ty)(ho:PE X o td):PC X .In i o (LY ty td):=by
 intro aJ s σ H Q I h;refine eL (hi aJ s σ H _ I h) λiv s1 ⟨y,H1,I1,ry,q1⟩=>eL (ho aJ s1 σ H1 _ I1 q1) λu s2 ⟨x,H2,I2,rx,q2⟩=>?_
 replace q2:=xI q2;obtain⟨a,rfl,ov,g,q2⟩:=q2;obtain rfl:u=Value.ref a:=rx;exact d_in hu I2 g ry λs3 I3=>⟨.bl ov.isSome,H2,I3,rfl,q2⟩
theorem QB(hu:X.A.units+1<cLine)(hi:PE X i ty)(ho:PE X o td):PC X .NotIn i o (UB ty td):=by
 intro aJ s σ H Q I h;refine eL (hi aJ s σ H _ I h) λiv s1 ⟨y,H1,I1,ry,q1⟩=>eL (ho aJ s1 σ H1 _ I1 q1) λu s2 ⟨x,H2,I2,rx,q2⟩=>?_
 replace q2:=xI q2;obtain⟨a,rfl,ov,g,q2⟩:=q2;obtain rfl:u=Value.ref a:=rx;exact iz hu I2 g ry λs3 I3=>⟨.bl (!ov.isSome),H2,I3,rfl,q2⟩
theorem UP(hu:X.A.units+1<cLine)(ho:PE X o td)(hi:PE X i ty)(hv:PE X value tv)(hs:swapsWith value (some (.Subscript o i pos')) pos.line X.env=pure false):
 PS X (.Assign [.Subscript o i pos'] value pos) (HW td ty tv):=by
 intro aJ s σ H D I h;refine wpAny_Assign_Subscript (eL (hv aJ s σ H _ I h) λr s1 ⟨v,H1,I1,rv,q1⟩=>eL (ho aJ s1 σ H1 _ I1 q1) λu s2 ⟨x,H2,I2,rx,q2⟩=>eL (hi aJ s2 σ H2 _ I2 q2) λiv s3 ⟨y,H3,I3,ry,q3⟩=>?_) hs;replace q3:=xI q3;obtain⟨a,rfl,H4,g,q3⟩:=q3;obtain rfl:u=Value.ref a:=rx;exact NJ hu I3 g ry rv λs4 I4=>⟨σ,H4,I4,q3⟩
end
theorem CI(h:Heap)(hb:sysModules<h.objs.size):fA P w H (h.push {cls:=.type "dict",data:=.dict #[]}) h.objs.size (.dK []):=
 ⟨cG _,cV.mpr (cH (bW hb)),[],.nil,Heap.DictOf.new h⟩
theorem WI(h:Heap)(hb:sysModules<h.objs.size):fA P w H (h.push {cls:=.type "dict",data:=.dict #[]}) h.objs.size (.dT []):=
 ⟨cG _,cV.mpr (cH (bW hb)),[],.nil,_,#[],0,bX _ rfl,⟨rfl,rfl,rfl⟩,rfl,rfl,List.nodup_nil⟩
def mf:TE:=λ_ H Q=>∀p,H p=none->Q (.ref p) (upd H p (.dK []))
def DY:TE:=λ_ H Q=>∀p,H p=none->Q (.ref p) (upd H p (.dT []))
section
variable {pos:Pos}
theorem RZ:PE X (.Dict [] [] pos) mf:=λaJ s σ H Q I h=>
 wpAny_Dict_empty ⟨.ref s.heap.objs.size,_,I.laid (a:=s.heap.objs.size) (o:=.dK []) (t':=s.toks) (λ_ _ q=>aP _ q) (aG _) (CI s.heap I.big),rfl,h _ (I.hok.fresh (aG _))⟩
theorem AQ:PE X (.Dict [] [] pos) DY:=λaJ s σ H Q I h=>
 wpAny_Dict_empty ⟨.ref s.heap.objs.size,_,I.laid (a:=s.heap.objs.size) (o:=.dT []) (t':=s.toks) (λ_ _ q=>aP _ q) (aG _) (WI s.heap I.big),rfl,h _ (I.hok.fresh (aG _))⟩
end
def YY:List (TE×TE)->St->Hp->(List (V×V)->Hp->Prop)->Prop
 |[],_,H,Q=>Q [] H
 |(tk,tv)::r,σ,H,Q=>tk σ H λx H1=>tv σ H1 λy H2=>YY r σ H2 λps H3=>Q ((x,y)::ps) H3
abbrev VV:List (V×V)->List (Value×Value)->Prop:=Paired λp q=>RelV p.1 q.1/\RelV p.2 q.2
def PPs(X:Cx)(pos:Pos)(keys:List (Option Expr))(values:List Expr)(trs:List (TE×TE)):Prop:=
 ∀(aJ:List (Addr×Obj)) (s:Shared) (σ:St) (H:Hp) (Q:List (V×V)->Hp->Prop),Inv X aJ σ H s->YY trs σ H Q->
  wpAny (model X.prog X.w) X.A (evalPairs (pairTrees keys values X.env pos)) (λvs s'=>∃ps H',Inv X aJ σ H' s'/\VV ps vs/\Q ps H') X.xe s
theorem dy{pos:Pos}:PPs X pos [] [] []:=λaJ s σ H Q I h=>pairTrees_nil_walk ⟨[],H,I,.nil,h⟩
theorem RU{pos:Pos}{k v:Expr}{ks:List (Option Expr)}{vs:List Expr}{tk tv:TE}{trs:List (TE×TE)}(hk:PE X k tk)(hv:PE X v tv)(hr:PPs X pos ks vs trs):
 PPs X pos (some k::ks) (v::vs) ((tk,tv)::trs):=λaJ s σ H Q I h=>
 pairTrees_cons_walk (eL (hk aJ s σ H _ I h) λu s1 ⟨x,H1,I1,rx,q1⟩=>eL (hv aJ s1 σ H1 _ I1 q1) λw2 s2 ⟨y,H2,I2,ry,q2⟩=>
  eL (hr aJ s2 σ H2 _ I2 q2) λws s3 ⟨ps,H3,I3,mU,q3⟩=>⟨(x,y)::ps,H3,I3,.cons ⟨rx,ry⟩ mU,q3⟩)
def vF(kvs more:List (eI×V)):List (eI×V):=more.foldl (λacc kv=>jM acc kv.1 kv.2) kvs
theorem KV.merge:∀{more:List (eI×V)}{rs:List (eI×Value)}{kvs:List (eI×V)}{vs:List (eI×Value)},KV more rs->KV kvs vs->KV (vF kvs more) (merged vs rs):=by
 intro more rs kvs vs r;unfold KV at r
 induction r generalizing kvs vs with
 |nil=>intro q;exact q
 |@cons p q ps qs h t ih=>
  intro r0;have e:KV (jM kvs p.1 p.2) (stored vs q.1 q.2):=by
   have :=r0.put p.1 h.2;rw[←h.1];exact this
  exact ih e
theorem wG:∀(more kvs:List (eI×V)),(vF kvs more).length<=kvs.length+more.length
 |[],kvs=>by show kvs.length<=kvs.length+0;lia
 |p::r,kvs=>by
  have h1:=wG r (jM kvs p.1 p.2);have h2:=qU kvs p.1 p.2;show(vF (jM kvs p.1 p.2) r).length<=_;rw[bF];lia
theorem JD{P:Program}{w:World}:∀{kvs:List (eI×V)}{ws:List (Value×Value)},VV (kvs.map λkv=>(kV kv.1,kv.2)) ws->∃rs,Carries (yB P w) ws rs/\KV kvs rs
 |[],_,r=>by rw[pW]at r;cases r;exact⟨[],True.intro,.nil⟩
 |p::kvs,_,r=>by
  rw[cF]at r;cases r with
  |@cons a b as bs h t=>
   obtain⟨rs,c,q⟩:=JD (P:=P) (w:=w) t;obtain⟨b1,b2⟩:=b;exact⟨(p.1,b2)::rs,⟨ZQ h.1,rfl,c⟩,.cons ⟨rfl,h.2⟩ q⟩
def tDisp(trs:List (TE×TE)):TE:=λσ H Q=>∀p,H p=none->YY trs σ (upd H p (.dK [])) λps H2=>H2 p=some (.dK [])/\∃kvs:List (eI×V),ps=kvs.map (λkv=>(kV kv.1,kv.2))/\kvs.length<=15/\Q (.ref p) (upd H2 p (.dK (vF [] kvs)))
theorem ek{pos:Pos}{keys:List (Option Expr)}{values:List Expr}{trs:List (TE×TE)}(h:PPs X pos keys values trs)(hall:keys.all (·.isSome)=true)(hl:keys.length=values.length)(h0:keys≠[])
 (h15:keys.length<=15):PE X (.Dict keys values pos) (tDisp trs):=by
 intro aJ s σ H Q I q;have hn:=I.hok.fresh (aG s.heap.objs.size);have I1:=I.laid (a:=s.heap.objs.size) (o:=.dK []) (h':=s.heap.push {cls:=.type "dict",data:=.dict #[]}) (t':=s.toks) (λ_ _ q=>aP _ q) (aG _) (CI s.heap I.big);refine wpAny_Dict_walk (knd:=yB X.prog X.w) hall hl h0 h15 (eL (h aJ _ σ _ _ I1 (q _ hn)) λws s2 ⟨ps,H2,I2,mU,e,kvs,ep,lk,q2⟩=>?_);subst ep;obtain⟨rs,c,rk⟩:=JD (P:=X.prog) (w:=X.w) mU;obtain⟨z,hd,vs0,r0,dd⟩:=kq I2.hok e;cases r0;refine⟨rs,c,dd,λh' dd' hs=>⟨.ref s.heap.objs.size,_,?_,rfl,q2⟩⟩;have hz:(vF [] kvs).length<=sizeLine:=by
  have h1:=wG kvs [];rw[nT]at h1;rw[dG];lia
 have he:∃q,h'.get? s.heap.objs.size=some q:=let ⟨q,_,_,hq,_⟩:=dd';⟨q,hq⟩;exact vY I2 (by rw[e];exact True.intro) hs he (GF hz hd (rk.merge .nil) dd')
structure M1(X:Cx)(o:Expr)(m:Str)(lY:Pos)(e:Expr)(iS:Pos):Prop where
 base:attributeBase o m X.env (eval o X.env)=eval o X.env
 few:((backTo iS (starEach [e] X.env)).all (λx=>!x.1)&&(backToKw iS (keywordEach [] X.env)).all (λx=>x.1.isSome)
  &&decide (([e]:List Expr).length+([]:List Keyword).length+(if([]:List Keyword).isEmpty then 0 else 1)<30))=true
 line:(lY.endLine==iS.line)=true
 trees:backTo iS (starEach [e] X.env)=[(false,eval e X.env)]
structure M2(X:Cx)(o:Expr)(m:Str)(lY:Pos)(e f:Expr)(iS:Pos):Prop where
 base:attributeBase o m X.env (eval o X.env)=eval o X.env
 few:((backTo iS (starEach [e,f] X.env)).all (λx=>!x.1)&&(backToKw iS (keywordEach [] X.env)).all (λx=>x.1.isSome)
  &&decide (([e,f]:List Expr).length+([]:List Keyword).length+(if([]:List Keyword).isEmpty then 0 else 1)<30))=true
 line:(lY.endLine==iS.line)=true
 trees:backTo iS (starEach [e,f] X.env)=[(false,eval e X.env),(false,eval f X.env)]
def IsD(H:Hp)(a:Addr):Prop:=(∃kvs,Rd H a (.dK kvs))\/∃kvs,Rd H a (.dT kvs)
theorem TZ(I:Inv X aJ σ H s)(d:IsD H a):
 s.TypeIs (.ref a) "dict"/\(∀b,Value.ref a=.ref b->∃ob,s.heap.get? b=some ob/\ob.dict=none)/\(a==sysModules)=false:=by
 rcases d with⟨kvs,e⟩ |⟨kvs,e⟩
 ·obtain⟨_,hd,vs,_,dd⟩:=kN I.hok e;refine⟨dd.typeIs,λb q=>?_,hd⟩;cases q;obtain⟨ob,_,_,h1,h2,_⟩:=dd;exact⟨ob,h1,h2.2.1⟩
 ·obtain⟨_,hd,xs,_,dd⟩:=JB I.hok e;refine⟨dd.typeIs,λb q=>?_,hd⟩;cases q;obtain⟨ob,_,_,h1,h2,_⟩:=dd;exact⟨ob,h1,h2.2.1⟩
section
variable {d:V} {r:Value} {o:Option V}
theorem se(hu:A.units+1<cLine)(I:Inv X aJ σ H s)(g:oB H a y o)(ry:RelV y u)(rd:RelV d r)(h:∀w' s',Inv X aJ σ H s'->RelV (o.getD d) w'->Q w' s'):
 wpAny (model X.prog X.w) A (call (.builtin "dict.get") [.ref a,u,r]) Q E s:=by
 rcases g with⟨kvs,k,e,ey,l⟩ |⟨kvs,k,b,e,ey,eb,l⟩
 ·subst ey;obtain⟨z,hd,vs,mU,dd⟩:=kN I.hok e;refine sQ iM dd.typeIs pT (F.args_dict_get_3 _ _ _) (meets_dict_get_default (yB X.prog X.w) a (ZQ ry) hd r) ⟨_,dd.mapOf,h _ _ (I.tok _) ?_⟩;rw[l];exact(mU.val k).getD rd
 ·subst ey;cases (show u=Value.ref b from ry);obtain⟨z,hd,xs,mU,dd⟩:=JB I.hok e;refine sQ iM dd.typeIs pT (F.args_dict_get_3 _ _ _) (meetsH_dict_get_default (tupleKind (yB X.prog X.w)) a b hd r) ⟨eD hu,k,xs,vH I.hok eb,dd,h _ _ (I.tok _) ?_⟩;rw[l];exact(mU.val k).getD rd
end
def PH(td ty tx:TE):TE:=λσ H Q=>td σ H λx H1=>mN x λa=>IsD H1 a/\ty σ H1 λy H2=>tx σ H2 λz H3=>∃o,oB H3 a y o/\Q (o.getD z) H3
section
variable {f:Expr} {iS:Pos} {td ty tx:TE}
theorem SE(hu:X.A.units+1<cLine)(ho:PE X o td)(he:PE X e ty)(hf:PE X f tx)(m:M2 X o "get" lY e f iS):PE X (.Call (.Attribute o "get" lY) [e,f] [] iS) (PH td ty tx):=by
 intro aJ s σ H Q I h;refine jr m.base m.few m.line pN iM F.type_dict_get (eL (ho aJ s σ H _ I h) λu s1 ⟨x,H1,I1,rx,q1⟩=>?_);replace q1:=xI q1;obtain⟨a,rfl,d,q1⟩:=q1;obtain rfl:u=Value.ref a:=rx;obtain⟨t1,t2,_⟩:=TZ I1 d;refine⟨t1,t2,?_⟩;rw[m.trees];refine iR rfl (oK (gR (eL (he aJ s1 σ H1 _ I1 q1) λiv s2 ⟨y,H2,I2,ry,q2⟩=>
  gR (eL (hf aJ s2 σ H2 _ I2 q2) λfv s3 ⟨z,H3,I3,rz,ov,g,q3⟩=>nJ ?_))))
 exact se hu I3 g ry rz λw' s4 I4 rw'=>⟨_,H3,I4,rw',q3⟩
end
section
variable {kvs:List (eI×V)}
end
end L2
namespace Att
open PySem PySem.W PySem.Calls PyProof.Rows
theorem ZZ{P:Params}{h:Heap}:∀(ns:List Int)(vs:List Value),WellAll P h vs (ns.map WData.int)->IntsAre vs ns:=by
 intro ns
 induction ns with
 |nil=>
  intro vs w;rw[pW]at w;cases w;exact .nil
 |cons n ns ih=>
  intro vs w;rw[cF]at w;cases w with
  |cons a b=>
   cases a;exact .cons _ _ (ih _ b)
theorem MB{l:OpenLaw}{n:Nat}(hn:l.most=some n){P:Params}{h:Heap}{args:List WData}{vals:List Value}
 (hpre:l.row.toRowW.claim.pre args=true) (hwl:WellAll P h vals args):
 ∃a vs ns,vals=[Value.ref a]/\args=[WData.list (ns.map WData.int)]/\h.get? a=some {cls:=.type "list",data:=.seq vs.toArray}/\IntsAre vs ns/\ns.length<=n:=by
 have hsh:WShape.hasAll [] args [.list .int]=true:=(pre_splitW hpre).1;have hc:l.pre.holds [] {args:=args}=true:=(pre_splitW hpre).2;obtain⟨d,r,rfl,h1,h2⟩:=hasAllW_cons hsh;obtain rfl:=hasAllW_nil h2;obtain⟨xs,rfl,h3⟩:=hasW_list h1;obtain⟨ns,rfl⟩:=items_int h3;have eQ:ns.length<=n:=by
  unfold OpenLaw.pre at hc;have h4:(WTm.not (.lt (.lit (.int (n:Int))) (.len (.arg 0)))).holds [] {args:=[.list (ns.map .int)]}=true:=by
   have h4:=(holds_andW hc).1;rw[hn]at h4;exact h4
  have h5:=condW_of h4 (w_not (w_lt w_lit (w_len_list (w_arg rfl))));rw[aE]at h5;refine Nat.le_of_not_lt λq=>?_
  have q':(n:Int)<((ns.length:Nat):Int):=by lia
  first
   |(rw[dX q']at h5;exact absurd h5 (by decide))
   |(simp at h5;lia)
 cases hwl with
 |cons w1 w2=>
  cases w2;cases w1 with
  |list ho hall=>exact⟨_,_,ns,rfl,rfl,ho,ZZ ns _ hall,eQ⟩
theorem MI(l:OpenLaw)(args:List WData):l.row.toRowW.claim.post args (.bool true) args=true:=
 postW_of (r:=l.row.toRowW) (X:=(true==true))
  (show WShape.has [] (.bool true) .bool=true by first |rfl |decide |simp[WShape.has,WShape.arms,WShape.armsAll])
  (show(WTm.eq .res (.lit (.bool true))).value [] {args:=args,res:=some (.bool true),after:=args}=some (.bool (true==true))from w_eq_bool (w_res rfl) w_lit) rfl
theorem attach_call{l:OpenLaw}{n:Nat}{q:Program}{loose:List Str}{XP:(Str->Option Value)->Heap->Prop}{YP:World->Heap->Prop}{d:DefRec}
 (hn:l.most=some n) (hdf:d.params.defaults=[])
 (call:∀(w:World)(s₀ s₁:Shared)(mg mb:Str->Option Value)(fa:Addr)(o:Obj)(pm cd doc:Value)(a:Addr)(vs:List Value)(ns:List Int),
  Ground q loose [] XP w s₀ mg mb s₁.heap->YP w s₁.heap->
  s₁.heap.get? fa=some o->o.data=.func (docDef d.name d.params d.body d.scope pm cd doc)->s₁.heap.CodeRec cd d.name->mg d.name=some (.ref fa)->
  s₁.heap.get? a=some {cls:=.type "list",data:=.seq vs.toArray}->IntsAre vs ns->ns.length<=n->s₁.gens= #[]->
  codeAny (model l.prog w) callerA (.call (.ref fa) ⟨[.ref a],[]⟩) (λr s'=>r=.ok (.ret (.bool true))/\OldK s₁.heap s'.heap/\s'.os=s₁.os/\AllBare s'.gens) s₁):
 WalkO q loose XP YP l.row.toRowW d [] (λf vs=>PySem.call f vs):=by
 intro w s₀ s₁ mg mb G Y fa o pm cd doc dV kV ho hd hcd hD hmg hg args vals as hpre hlay hrd hwl hlo;obtain rfl:dV=.none:=Dflts.none hD hdf;obtain rfl:kV=.none:=Dflts.noKw hD;obtain⟨a,vs,ns,rfl,rfl,hobj,hints,eQ⟩:=MB hn hpre hwl;refine enter_call (jt (call w s₀ s₁ mg mb fa o pm cd doc a vs ns G Y ho (fd_plain hd) hcd hmg hobj hints eQ hg) λr s' hq=>?_);obtain⟨rfl,h2,h3,h4⟩:=hq;exact⟨.inl ⟨.bool true,.bool true,[],rfl,λ_=>rfl,.bool true,MI l _,λ_=>⟨List.Pairwise.nil,λ_ hm=>(nomatch hm)⟩⟩,h2,h3,h4⟩
section
variable {prog:Program} {w:World} {A:Around} {E:Value->Shared->Prop} {s:Shared} {K:Frag}
end
end Att
namespace L2
open PySem PySem.Spec PyProof.Rows
variable {a d f it l r:Addr} {A:Around} {G:Array GenState->Array GenState->Prop} {CX:lp} {X:Cx} {D:sO} {c e o tg:Expr} {fd:FuncData} {base h h':Heap} {H H':Hp} {aJ:List (Addr×Obj)} {fp:List Addr} {outer:List Env} {es:List Expr} {js:List Nat} {N ns ps ys:List Str} {ts:List Tm} {vs xs:List V} {its its':List Value} {M:Model} {i j n:Nat} {lY pos':Pos} {P prog:Program} {K:W.Frag} {R:Result->Shared->Prop} {s:Shared} {sp:Sp} {σ:St} {qual:Str} {mg:Str->Option Value} {T:String} {ta te:TE} {tb:TS} {α:Type} {v:V} {u:Value} {E Q:Value->Shared->Prop} {w:World}
local macro_rules | `(()) => `(by lia)
theorem JU:∀{vs:List Value}{ns:List Int},IntsAre vs ns->dD (ns.map V.int) vs
 |_,_,.nil=>.nil
 |_,_,.cons n t h=>.cons ⟨t,rfl⟩ (JU h)
def tf(H:Hp):Prop:=∀b,H b=none\/∃o xs,H b=some (.frz o (.lst xs))
theorem TV{mb:Str->Option Value}{k:Nat}{fa:Addr}{x:Str}{s₁:Shared}{vs:List Value}{ns:List Int}
 (KX:K.In s₁.heap) (hns:s₁.heap.Ns mainGlobals mg) (hb:s₁.heap.Ns builtinsNs mb) (hbb:∀x:Str,x≠"__name__"->mb x=bootBuiltins x) (hlim:s₁.heap.NoLimit) (hg:s₁.gens= #[])
 (ha:s₁.heap.get? a=some {cls:=.type "list",data:=.seq vs.toArray}) (hi:IntsAre vs ns) (hl:ns.length<=sizeLine) (hr:hZ k callerA)
 (F:∀base:Heap,K.In base->base.Ns mainGlobals mg->dI P w K mg base CX k fa fd [x] sp) (hbind:∀(s:Shared)(u:Value),BindsTo s fd ⟨[u],[]⟩ [(x,u)])
 (hsp:∀H:Hp,tf H->dL K H a (ns.map V.int)->sp [.ref a] H (λv _=>v=.bl true) λ_ _ _=>False)
 (hCX:∀H e s',CX [] H s₁ (λ_ _ _=>False) e s'->False):
 codeAny (model P w) callerA (.call (.ref fa) ⟨[.ref a],[]⟩) (λr s'=>r=.ok (.ret (.bool true))/\OldK s₁.heap s'.heap/\s'.os=s₁.os/\AllBare s'.gens) s₁:=by
 have rv:=JU hi;have lenV:=hi.length;have core:∀H:Hp,tf H->dL K H a (ns.map V.int)->mR P w H s₁.heap->(∀b,H b≠none->b=a)->(H a≠none->K.lookup a=none)->
  codeAny (model P w) callerA (.call (.ref fa) ⟨[.ref a],[]⟩) (λr s'=>r=.ok (.ret (.bool true))/\OldK s₁.heap s'.heap/\s'.os=s₁.os/\AllBare s'.gens) s₁:=by
  intro H hO hS hok hA hK;have base_of:∀{b:Addr}{o:Obj},s₁.heap.get? b=some o->H b=none->(VD s₁.heap H).get? b=some o:=λe n=>WA e n
  have noA:∀{b:Addr}{o:Obj}{es:Array DictEntry}{ep:Nat},s₁.heap.get? b=some o->o.data=.dict es ep->H b=none:=λ{b o es ep} e d=>by
   cases q:H b with
   |none=>rfl
   |some u=>
    have e':b=a:=hA b (by rw[q];simp);subst e';rw[ha]at e;cases e;have d':Data.seq vs.toArray _=Data.dict es ep:=d;cases d'
  have nsK:∀{b:Addr}{m:Str->Option Value},s₁.heap.Ns b m->(VD s₁.heap H).Ns b m:=λ{b m} ⟨o,es,ep,e,d,r⟩=>⟨o,es,ep,base_of e (noA e d),d,r⟩
  have hKb:K.In (VD s₁.heap H):=λb o e=>base_of (KX b o e) (by
   cases q:H b with
   |none=>rfl
   |some u=>
    have e':b=a:=hA b (by rw[q];simp);subst e';rw[hK (by rw[q];simp)]at e;cases e)
  have hM:Mod K mg (VD s₁.heap H):=⟨hKb,nsK hns,⟨mb,nsK hb,hbb⟩,let ⟨mc,h1,h2⟩:=hlim;⟨mc,nsK h1,h2⟩⟩
  have e0:GV P w K mg (VD s₁.heap H) callerA [] s₁ H:=⟨rfl,hM,λb o e=>f8 e,Nat.le_of_eq (NF _ _),trivial,λb hb=>absurd (show b∈([]:List Addr)from hb) (by simp),hok,.of_eq hg⟩
  refine jt ((F _ hKb (nsK hns)).run callerA [] s₁ H ⟨[.ref a],[]⟩ [.ref a] [.ref a] _ _ hr e0 (hbind s₁ (.ref a)) (.cons rfl .nil) (hsp H hO hS)) λr s' h=>?_
  cases r with
  |error e=>exact(hCX H e s' h).elim
  |ok fl=>
   cases fl with
   |next=>exact False.elim h
   |brk=>exact False.elim h
   |cont=>exact False.elim h
   |ret u=>
    obtain⟨v,H',os,bare,un,hok',r',q⟩:=h;have q':v=.bl true:=q;subst q';obtain rfl:u=Value.bool true:=r';refine⟨rfl,OldK.of_keep λb o e=>?_,os,bare⟩;cases q:H b with
    |none=>exact un.keep b o e q (by intro z;exact absurd (show b∈([]:List Addr)from z) (by simp)) (by simp)
    |some u=>
     rcases hO b with z |⟨ob,xs,z⟩
     ·rw[q]at z;cases z
     ·have z2:=un.frzs b ob _ z;obtain⟨e1,_⟩:=hok b _ z;obtain⟨e2,_⟩:=hok' b _ z2;rw[e]at e1;cases e1;exact e2
 cases hk:K.lookup a with
 |some o=>
  have e:=KX a o hk;rw[ha]at e;cases e;refine core (λ_=>none) (λ_=>.inl rfl) (.inr ⟨_,vs.toArray,_,hk,rfl,rfl,rfl,by rw[aR,lenV];exact hl,by simpa using rv⟩) (λb u z=>by have z':(none:Option HO)=some u:=z;cases z') (λb z=>absurd rfl z) λz=>absurd rfl z
 |none=>
  refine core (λb=>if b=a then some (.frz {cls:=.type "list",data:=.seq vs.toArray} (.lst (ns.map V.int)))else none) (λb=>?_) (.inl (.inr ⟨{cls:=.type "list",data:=.seq vs.toArray},aL rfl⟩)) (λb u z=>?_) (λb z=>?_) λ_=>hk
  ·by_cases hb:b=a
   ·exact .inr ⟨_,_,aL hb⟩
   ·exact .inl (aH hb)
  ·by_cases hb:b=a
   ·have z':=(aL hb).symm.trans z;cases z';subst hb;exact⟨ha,by rw[aE];exact hl,vs,_,rv,ha⟩
   ·have z':=(aH hb).symm.trans z;cases z'
  ·by_cases hb:b=a
   ·exact hb
   ·exact absurd (aH hb) z
theorem walk_of{l:W.OpenLaw}{k:Nat}{q:Program}{loose:List Str}{XP:(Str->Option Value)->Heap->Prop}{YP:World->Heap->Prop}{d:DefRec}{K:Params->W.Frag}{CX:World->lp}{sp:World->Sp}{x:Str}
 (hn:l.most=some n) (hn2:n<=sizeLine) (hdf:d.params.defaults=[]) (hr:hZ k callerA)
 (hY:∀(w:World)(h:Heap),YP w h->(K w.params).In h)
 (F:∀(w:World)(mg:Str->Option Value)(fa:Addr)(h:Heap),(K w.params).In h->h.Ns mainGlobals mg->mg d.name=some (.ref fa)->
  ∃fd:FuncData,(∀(s:Shared) (u:Value),BindsTo s fd ⟨[u],[]⟩ [(x,u)])/\
   ∀base:Heap,(K w.params).In base->base.Ns mainGlobals mg->dI l.prog w (K w.params) mg base (CX w) k fa fd [x] (sp w))
 (hsp:∀(w:World)(H:Hp)(a:Addr)(ns:List Int),ns.length<=n->tf H->dL (K w.params) H a (ns.map V.int)->sp w [.ref a] H (λv _=>v=.bl true) λ_ _ _=>False)
 (hCX:∀(w:World)(H:Hp)(s:Shared)(e:Value)(s':Shared),CX w [] H s (λ_ _ _=>False) e s'->False):
 W.WalkO q loose XP YP l.row.toRowW d [] (λf vs=>PySem.call f vs):=by
 refine Att.attach_call hn hdf λw s₀ s₁ mg mb fa o pm cd doc a vs ns G Y ho hd hcd hmg hobj hints eQ hg=>?_
 have KX:=hY w _ Y;obtain⟨fd,hb,hF⟩:=F w mg fa _ KX G.T.g hmg;exact TV KX G.T.g G.T.b G.T.builtins G.T.nolimit hg hobj hints (cR eQ hn2) hr hF hb (λH hO hS=>hsp w H a ns eQ hO hS) λH e s'=>hCX w H s₁ e s'
def qV(s:Stmt)(j:Nat):Stmt:=match s with
 | .ClassDef _ _ _ body _ _ _ _ _ _ _=>body.getD j (.Pass ⟨0,0,0,0⟩)
 |_=>.Pass ⟨0,0,0,0⟩
def jG(s:Stmt):Arguments:=match s with
 | .FunctionDef _ a _ _ _ _ _ _ _ _=>a
 |_=>{posonlyargs:=[],args:=[],vararg:=none,kwonlyargs:=[],kw_defaults:=[],kwarg:=none,defaults:=[]}
def xP(s:Stmt):List Stmt:=match s with
 | .FunctionDef _ _ b _ _ _ _ _ _ _=>b
 |_=>[]
def zK(s:Stmt):Scope:=match s with
 | .FunctionDef _ _ _ _ _ _ sc _ _ _=>sc
 |_=>{kind:=.function,names:=[],isGenerator:=false,isCoroutine:=false}
abbrev fZ:lp:=λ_ _ _ _ _ _=>False
abbrev E0:XK:=λ_ _ _=>False
theorem IP:ZK fZ X E0:=λ_ _ _ _ _ _ _ h=>h.elim
structure gI(K:W.Frag)(x qual:Str)(st:Stmt)(f:Addr)(fd:FuncData):Prop where
 ex:∃(oc:Value)(od:Option Addr)(kV doc pm:Value)(an:Option Addr)(fD ct:Value)(osl:Array (Option Value)),
  fd=W.fnOf x qual (jG st) (xP st) (zK st) .none kV doc pm an fD ct/\K.lookup f=some ⟨oc,od,.func fd,osl⟩/\W.codeIn K fD qual=true
 kp:W.keepIn K (.ref f)=true
theorem gI.ok{x:Str}{st:Stmt}{k:Nat}(F:gI K x qual st f fd)(S:cC N ps (zK st))(len:∀vs H Q E,sp vs H Q E->vs.length=ps.length)
 (hbody:∀(fD:Value)(A:Around)(outer:List Env)(s:Shared)(H:Hp)(vs:List V)(Q:VK)(E:XK),hZ k (A.deeper (envOfC qual (zK st) s.heap.objs.size f fD))->sp vs H Q E->
  ∃t,GS (JC fZ P w K mg base N qual (zK st) f fD A outer s H E).nox (xP st) t/\t {nx:=λ_ H'=>Q .non H',rt:=Q} (uU N vs) H):dI P w K mg base fZ (k+1) f fd ps sp:=by
 obtain⟨oc,od,kV,doc,pm,an,fD,ct,osl,rfl,lk,hcd⟩:=F.ex;refine fn_of lk hcd S len λA outer s H vs Q E hr hsp=>?_
 obtain⟨t,h,q⟩:=hbody fD A outer s H vs Q E hr hsp;exact⟨t,h.nox,q⟩
theorem gI.binds{x:Str}{st:Stmt}(F:gI K x qual st f fd)
 (h:∀(kV doc pm:Value)(an:Option Addr)(fD ct:Value)(us:List Value),us.length=ps.length->bindArgs (W.fnOf x qual (jG st) (xP st) (zK st) .none kV doc pm an fD ct) ⟨us,[]⟩=pure (ps.zip us)):Binds K fd ps []:=by
 obtain⟨oc,od,kV,doc,pm,an,fD,ct,osl,rfl,lk,hcd⟩:=F.ex;exact .all (h kV doc pm an fD ct)
theorem FZ{x:Str}{st:Stmt}{oc:Value}{od an:Option Addr}{osl:Array (Option Value)}{kV doc pm fD ct:Value}(l:K.lookup f=some ⟨oc,od,.func (W.fnOf x qual (jG st) (xP st) (zK st) .none kV doc pm an fD ct),osl⟩)
 (c:W.codeIn K fD qual=true) (k:W.keepIn K (.ref f)=true):gI K x qual st f (W.fnOf x qual (jG st) (xP st) (zK st) .none kV doc pm an fD ct):=⟨⟨oc,od,kV,doc,pm,an,fD,ct,osl,rfl,l,c⟩,k⟩
theorem xT{k:Nat}(hr:hZ k A):A.units+1<cLine:=fH (Nat.add_le_add_left (by decide:1<=64) _) hr.units
theorem uD(h:n<=1000):n<sizeLine:=fH h (by decide)
theorem pv(i:Nat){x:Str}{pos:Pos}(hN:X.N[i]?=some x:=by rfl)(hv:Vis X.env.scope x:=by first |exact Or.inl rfl |exact Or.inr (Or.inl rfl) |exact Or.inr (Or.inr rfl))(hd:(x==("__debug__":Str))=false:=by decide)
 (hcd:(x==("__classdict__":Str))=false:=by decide):PE X (.Name x pos) (tVar i):=RX hN hv hd hcd
theorem iteF{A B:Prop}(h:B):if false=true then A else B:=by
 rw[aH bQ];exact h
theorem iteT{A B:Prop}(h:A):if true=true then A else B:=by
 rw[aL rfl];exact h
def bA(H H':Hp):Prop:=∀b o,H b=some o->H' b=some o
theorem bA.refl(H:Hp):bA H H:=λ_ _ h=>h
theorem bA.trans{H1 H2:Hp}(a:bA H H1)(b:bA H1 H2):bA H H2:=λc o h=>b c o (a c o h)
theorem bA.free(e:bA H H')(h:H' l=Option.none):H l=Option.none:=by
 cases q:H l with
 |none=>rfl
 |some o=>
  rw[e l o q]at h;cases h
theorem bA.seq(e:bA H H')(h:dL K H a xs):dL K H' a xs:=by
 rcases h with(h |⟨o,h⟩) |h
 ·exact .inl (.inl (e _ _ h))
 ·exact .inl (.inr ⟨o,e _ _ h⟩)
 ·exact .inr h
section
variable {κ:Type} [DecidableEq κ]
end
def jL(env:Env):List (Str×NameKind)->List (Str×Addr)->List (Str×Addr)
 |[],cs=>cs
 |(n,k)::r,cs=>if(k==NameKind.free)=true then jL env r ((n,(env.cells.lookup n).getD 0)::cs)else jL env r cs
theorem wH{scope:Scope}{env:Env}(h:∀x∈scope.names,x.2=.free->∃c,env.cells.lookup x.1=some c):closureFor scope env=pure (jL env scope.names []):=by
 unfold closureFor;have go:∀(l:List (Str×NameKind))(cs:List (Str×Addr)),(∀x∈l,x.2=.free->∃c,env.cells.lookup x.1=some c)->
  (forIn l cs λ(x:Str×NameKind) (r:List (Str×Addr))=>(match x with
   |(name,kind)=>if(kind==NameKind.free)=true then do let a ←cellOf env name;pure (ForInStep.yield ((name,a)::r))else pure (ForInStep.yield r):Sem (ForInStep (List (Str×Addr)))))=(pure (jL env l cs):Sem (List (Str×Addr))):=by
  intro l
  induction l with
  |nil=>intro cs _;rfl
  |cons x r ih=>
   intro cs hl;obtain⟨n,k⟩:=x;rw[List.forIn_cons];by_cases hk:(k==NameKind.free)=true
   ·obtain⟨c,hc⟩:=hl (n,k) bB (by simpa using hk);have e:cellOf env n=pure c:=by unfold cellOf;rw[hc]
    simp only[hk,if_true,e,pure_bind];rw[ih _ λy hy=>hl y (bC _ hy)];rw[jL,aL hk,hc];rfl
   ·simp only[hk,dO,cA,pure_bind];rw[ih _ λy hy=>hl y (bC _ hy)];rw[jL,aH hk]
 have q:=go scope.names [] h;simp only[pure_bind,bind_pure]at q⊢;exact q
theorem uM{env:Env}{y:Str}{c:Addr}:∀(l:List (Str×NameKind))(cs:List (Str×Addr)),(∀x∈l,x.2=.free->∃c,env.cells.lookup x.1=some c)->
 (∀z d,cs.lookup z=some d->env.cells.lookup z=some d)->(jL env l cs).lookup y=some c->env.cells.lookup y=some c
 |[],cs,_,hc,e=>hc _ _ e
 |(n,k)::r,cs,h,hc,e=>by
  have hr:∀x∈r,x.2=.free->∃c,env.cells.lookup x.1=some c:=λx hx=>h x (bC _ hx)
  by_cases hk:(k==NameKind.free)=true
  ·rw[jL,aL hk]at e;refine uM r _ hr (λz d ez=>?_) e;obtain⟨c',hc'⟩:=h (n,k) bB (by simpa using hk);rw[bH]at ez;cases hz:z==n with
   |true=>
    rw[hz]at ez;have hz':z=n:=eq_of_beq hz;subst hz';have e2:(env.cells.lookup z).getD 0=d:=dC ez;have hc'':env.cells.lookup z=some c':=hc';rw[hc'']at e2⊢;exact dH some e2
   |false=>rw[hz]at ez;exact hc z d ez
  ·rw[jL,aH hk]at e;exact uM r cs hr hc e
theorem vZ{env:Env}{y:Str}:∀(l:List (Str×NameKind))(cs:List (Str×Addr)),((y,NameKind.free)∈l\/∃c,cs.lookup y=some c)->∃c,(jL env l cs).lookup y=some c
 |[],cs,h=>h.elim (λz=>nomatch z) λz=>z
 |(n,k)::r,cs,h=>by
  by_cases hk:(k==NameKind.free)=true
  ·rw[jL,aL hk];refine vZ r _ ?_;rcases h with h |⟨c,h⟩
   ·rcases bK.mp h with h |h
    ·cases h;exact .inr ⟨_,by rw[bH,dR]⟩
    ·exact .inl h
   ·cases hz:y==n with
    |true=>exact .inr ⟨_,by rw[bH,hz]⟩
    |false=>exact .inr ⟨c,by rw[bH,hz];exact h⟩
  ·rw[jL,aH hk];refine vZ r _ ?_;rcases h with h |h
   ·rcases bK.mp h with h |h
    ·cases h;exact absurd rfl hk
    ·exact .inl h
   ·exact .inr h
theorem qJ{env:Env}:∀{names:List (Str×NameKind)}{x:Str}{k':NameKind},
 (names.map λ(n,k)=>if(k==NameKind.free&&env.scope.kind==.function&&env.kindOf n==some .cell)then(n,NameKind.cell)else(n,k)).lookup x=some k'->
 names.lookup x=some k'\/(names.lookup x=some .free/\k'=.cell)
 |[],_,_,h=>by simp at h
 |(n,k)::r,x,k',h=>by
  have ih:=@qJ env r x k';have h:List.lookup x ((if(k==NameKind.free&&env.scope.kind==.function&&env.kindOf n==some .cell)=true then(n,NameKind.cell)else(n,k))::_)=some k':=h;rw[bH];by_cases hc:(k==NameKind.free&&env.scope.kind==.function&&env.kindOf n==some .cell)=true
  ·rw[aL hc,bH]at h;cases hx:x==n with
   |true=>
    rw[hx]at h;have e1:NameKind.cell=k':=dC h;simp only[bY]at hc;exact .inr ⟨dH some (eq_of_beq hc.1.1),e1.symm⟩
   |false=>rw[hx]at h;exact ih h
  ·rw[aH hc,bH]at h;cases hx:x==n with
   |true=>rw[hx]at h;exact .inl h
   |false=>rw[hx]at h;exact ih h
theorem wX{env:Env}:∀{names:List (Str×NameKind)}{x:Str},names.lookup x=some .free->
 (names.map λ(n,k)=>if(k==NameKind.free&&env.scope.kind==.function&&env.kindOf n==some .cell)then(n,NameKind.cell)else(n,k)).lookup x=some .cell\/
 (names.map λ(n,k)=>if(k==NameKind.free&&env.scope.kind==.function&&env.kindOf n==some .cell)then(n,NameKind.cell)else(n,k)).lookup x=some .free
 |[],_,h=>by simp at h
 |(n,k)::r,x,h=>by
  have ih:=@wX env r x;show List.lookup x ((if(k==NameKind.free&&env.scope.kind==.function&&env.kindOf n==some .cell)=true then(n,NameKind.cell)else(n,k))::_)=_\/List.lookup x ((if(k==NameKind.free&&env.scope.kind==.function&&env.kindOf n==some .cell)=true then(n,NameKind.cell)else(n,k))::_)=_;rw[bH]at h;by_cases hc:(k==NameKind.free&&env.scope.kind==.function&&env.kindOf n==some .cell)=true
  ·rw[aL hc,bH];cases hx:x==n with
   |true=>exact .inl rfl
   |false=>rw[hx]at h;exact ih h
  ·rw[aH hc,bH];cases hx:x==n with
   |true=>rw[hx]at h;exact .inr h
   |false=>rw[hx]at h;exact ih h
structure mZ(xs ys:List Str)(scope around:Scope):Prop where
 kind:scope.kind=.function
 nd:(xs++ys).Nodup
 own:∀x∈xs,scope.names.lookup x=some .local
 cap:∀y∈ys,scope.names.lookup y=some .free/\(around.names.lookup y=some .cell\/around.names.lookup y=some .free)
 nocell:∀y∈scope.names,y.2≠.cell
 names:∀y∈scope.names,y.2=.local->scope.names.lookup y.1=some .local
 free:∀y∈scope.names,y.2=.free->y.1∈ys
def yP(X:Cx)(xs ys:List Str)(scope:Scope)(C:Addr)(s₀:Shared)(H₀:Hp)(fp:List Addr):Cx where
 prog:=X.prog
 w:=X.w
 K:=X.K
 mg:=X.mg
 base:=X.base
 A:=X.A
 N:=xs++ys
 s₀:=s₀
 H₀:=H₀
 env:=compEnvC scope (jL X.env scope.names []) C X.env
 outer:=X.stack
 stack:=X.stack
 ex:=fp
 fn:=λ_=>false
 calm:=X.calm
 pn:=[]
 xe:=λ_ _=>False
def JP(xs:List Str)(js:List Nat)(σ:St):St:=xs.map (λ_=>none)++js.map λj=>(σ[j]?).join
def bj(J:It)(n:List Str)(js:List Nat)(g:TG)(tc:Option TT)(te:TE)(σ:St)(H1:Hp)(Q:VK):Prop:=∃W:Nat->Nat->List V->St->Hp->Prop,(∃m,W 0 m [] (JP n js σ) H1)/\∀i m ys σ1 H,W i m ys σ1 H->
 (J.stop i H/\∀p,H p=none->Q (.ref p) (upd H p (.lst ys)))\/
 (J.go i H/\ys.length<sizeLine/\∀x H',J.yld i H x H'->g x σ1 H' λσ2 H2=>match tc with
  |none=>te σ2 H2 λy H3=>∃m',m'<m/\W (i+1) m' (ys++[y]) σ2 H3
  |some c=>c σ2 H2 λb H3=>if b=true then te σ2 H3 λy H4=>∃m',m'<m/\W (i+1) m' (ys++[y]) σ2 H4 else∃m',m'<m/\W (i+1) m' ys σ2 H3)
def tLC(n:List Str)(js:List Nat)(wi:TI)(g:TG)(tc:Option TT)(te:TE):TE:=λσ H Q=>wi σ H λJ H1=>bj J n js g tc te σ H1 Q
def jg(X:Cx)(ifs:List Expr)(tc:Option TT):Prop:=match ifs,tc with
 |[],none=>True
 |[c],some t=>PT X c t
 |_,_=>False
section
variable {xs:List Str} {scope:Scope} {C D:Addr}
def ap(X:Cx)(ys:List Str)(js:List Nat):Prop:=js.length=ys.length/\∀(i:Nat)(y:Str)(j:Nat),ys[i]?=some y->js[i]?=some j->X.N[j]?=some y
theorem VN(I:Inv X aJ σ H s)(S:mZ xs ys scope X.env.scope):∀x∈scope.names,x.2=.free->∃c,X.env.cells.lookup x.1=some c:=λx hx hf=>
 I.ok.has x.1 ((S.cap x.1 (S.free x hx hf)).2.elim .inl .inr)
theorem NO(I:Inv X aJ σ H s)(S:mZ xs ys scope X.env.scope){y:Str}{c:Addr}(e:(jL X.env scope.names []).lookup y=some c):X.env.cells.lookup y=some c:=
 uM scope.names [] (VN I S) (λ_ _ z=>nomatch z) e
theorem CT(I:Inv X aJ σ H s)(S:mZ xs ys scope X.env.scope)(hj:ap X ys js)(f2:∀b∈fp,JJ X aJ H b)(fo:∀b∈fp,b<s.heap.objs.size)
 {h₁:Heap} {m:Str->Option Value} {tk:Nat} {oD:Obj} (hC:s.heap.objs.size<=C) (hD:s.heap.objs.size<=D) (hDC:D≠C) (hn:h₁.Ns C m) (hd:h₁.get? D=some oD) (hdd:∀v,oD.data≠.cell v)
 (old:∀b o,s.heap.get? b=some o->h₁.get? b=some o):
 Inv (yP X xs ys scope C s H fp) [(D,oD)] (JP xs js σ) H {s with heap:=h₁,toks:=tk}:=by
 have cl:=λy c=>NO (y:=y) (c:=c) I S
 have nC:H C=none:=I.hok.fresh hC;have nD:H D=none:=I.hok.fresh hD;have lt_of:∀{b:Addr},b<s.heap.objs.size->b≠C:=λhb=>bW (cI hb hC)
 have fsub:∀b,b∈GA X.stack->b∈X.env.locals::X.fs:=I.stkSub;refine⟨⟨I.ok.mod,?_,I.ok.glob,I.ok.blt,hC,λx y c h1 h2=>I.ok.inj x y c (cl x c h1) (cl y c h2),λx hx=>?_,(λx c h=>nomatch h),I.ok.hd,I.ok.frames,.inl rfl,λb hb=>⟨lt_of (fo b hb),λx c h=>(f2 b hb).2.2.2.2.1 x c (cl x c h)⟩,I.bs,
  cR I.ok.bsz I.sz,λb o e hb=>?_,λb hb hf=>?_,I.stack,I.stkFree⟩,
  rfl,I.bare,Un.kept old,⟨m,hn,λi x v e1 e2 e3=>?_⟩,λx c h=>?_,nC,λx c h=>I.freeC x c (cl x c h),λp hp=>?_,I.hok.kept old,?_⟩
 ·show scope.kind=_;exact S.kind
 ·have hx:(relabel scope X.env).names.lookup x=some .cell\/(relabel scope X.env).names.lookup x=some .free:=hx;have hm:(x,NameKind.free)∈scope.names:=by
   rcases hx with hx |hx
   ·rcases qJ hx with z |z
    ·exact absurd rfl (S.nocell _ (eF z))
    ·exact eF z.1
   ·rcases qJ hx with z |z
    ·exact eF z
    ·exact nomatch z.2
  exact vZ scope.names [] (.inl hm)
 ·rcases(f2 b hb).2.2.2.1 with z |z
  ·exact I.ok.noex b o e z
  ·exact absurd (cI (bD e) (cR I.ok.bsz z)) (dY _)
 ·rcases bK.mp (fsub b hf)with z |z
  ·exact(f2 b hb).2.1 z
  ·exact(f2 b hb).2.2.1 z
 ·have e1:(xs++ys)[i]?=some x:=e1;have e2:(xs.map (λ_=>(none:Option V))++js.map λj=>(σ[j]?).join)[i]?=some (some v):=e2;by_cases hi:i<xs.length
  ·rw[bE (by simpa using hi),aK]at e2;cases q:xs[i]? with
   |none=>rw[q]at e2;cases e2
   |some z=>rw[q]at e2;cases e2
  ·rw[bN (by simpa using hi),aE,aK]at e2;rw[bN (by simpa using hi)]at e1;cases q:js[i-xs.length]? with
   |none=>rw[q]at e2;cases e2
   |some j=>
    rw[q]at e2;have e2':(σ[j]?).join=some v:=dC e2;have hy:=hj.2 _ _ _ e1 q;have hσ:σ[j]?=some (some v):=by
     cases z:σ[j]? with
     |none=>rw[z]at e2';cases e2'
     |some t=>rw[z]at e2';exact dH some e2'
    have ym:x∈ys:=aV e1;obtain⟨cf,ca⟩:=S.cap x ym;obtain⟨m0,_,hl⟩:=I.loc;obtain⟨u,ru,lk⟩:=hl j x v hy hσ (ca.elim (λz=>.inr (.inl z)) λz=>.inr (.inr z));refine⟨u,ru,.inr ⟨?_,?_⟩⟩
    ·exact wX (env:=X.env) cf
    ·rcases lk with⟨k,_⟩ |⟨_,c,ec,zc⟩
     ·have k:X.env.scope.names.lookup x=some .local:=k;rcases ca with z |z<;> ·rw[k]at z;cases z
     ·obtain⟨c',ec'⟩:=vZ (env:=X.env) (y:=x) scope.names [] (.inl (eF cf));have e3:=cl x c' ec';rw[ec]at e3;cases e3;obtain⟨o,ho,hod⟩:=zc;exact⟨_,ec',o,old _ _ ho,hod⟩
 ·obtain⟨v,o,ho,hod⟩:=I.cell x c (cl x c h);exact⟨v,o,old _ _ ho,hod⟩
 ·have hp:p∈[(D,oD)]:=by simpa[yP]using hp
  have e:=aT.mp hp;subst e;refine⟨hd,nD,hDC,λhf=>?_,hdd⟩;have hf:D∈GA X.stack:=hf;obtain⟨o,ho⟩:∃o,s.heap.get? D=some o:=by
   rcases bK.mp (fsub D hf)with z |z
   ·obtain⟨m0,⟨o,_,_,ho,_⟩,_⟩:=I.loc;have z:D=X.env.locals:=z;exact⟨o,z▸ho⟩
   ·exact absurd z (I.nofs hD)
  exact absurd (bD ho) (Nat.not_lt.mpr hD)
 ·show(xs.map (λ_=>(none:Option V))++js.map λj=>(σ[j]?).join).length=(xs++ys).length;rw[aI,aI,aE,aE,hj.1]
end
section
variable {xs:List Str} {scope:Scope} {iter elt:Expr} {ifs:List Expr} {pos:Pos} {wi:TI} {g:TG} {tc:Option TT}
theorem JT{t:Sem α}{Q:α->Shared->Prop}(h:wpAny M A t Q (λ_ _=>False) s):wpAny M A t Q E s:=lJ h (λ_ _ x=>x) λ_ _ z=>z.elim
theorem VL{it acc:Value}{env:Env}(J:Nat->Shared->Prop)
 (turn:∀n s,J n s->wpAny (model prog w) A (pyNext it) (λr s₁=>match r with
  |none=>R (.ok .next) s₁
  |some v=>wpAny (model prog w) A (letOwnedTupleGo tg it v) (λ_ s1'=>wpAny (model prog w) A (assign tg env v) (λ_ s₂=>
   wpAny (model prog w) A (forIn ifs true λc r=>if r=true then do let ok ←isTrue c env (eval c env);pure (ForInStep.yield ok)else pure (ForInStep.yield r)) (λok s₃=>
    if ok=true then wpAny (model prog w) A (eval elt env) (λx s₄=>
     wpAny (model prog w) A (call (.builtin "list.append") [acc,x]) (λ_ s₅=>∃m,m<n/\J m s₅) (λ_ _=>False) s₄) (λ_ _=>False) s₃
    else∃m,m<n/\J m s₃) (λ_ _=>False) s₂) (λ_ _=>False) s1') (λ_ _=>False) s₁) (λ_ _=>False) s)
 (n:Nat) (h:J n s):codeAny (model prog w) A (.compLoop (.ListComp elt [⟨tg,iter,ifs,0⟩] scope pos) 0 it acc env) R s:=by
 refine codeAny_loop rfl J (λn s hI=>?_) n h;show wpAny _ A ((compTurn (.ListComp elt [⟨tg,iter,ifs,0⟩] scope pos) 0 it acc env).onRaise (λx=>do noteFrame x env;theTreesLotGoes x)) _ _ s;refine wpAny_noted ?_;rw[compTurn_list];refine aF (wpAny_standAt (aF (JT (eL (turn n s hI) λr s₁ h₁=>?_))));cases r with
 |none=>exact aS h₁
 |some v=>
  refine aF (JT (eL h₁ λ_ s1' h₁'=>aF (JT (eL h₁' λ_ s₂ h₂=>aF (JT (eL h₂ λok s₃ h₃=>?_))))));cases ok with
  |false=>exact aS ⟨rfl,h₃⟩
  |true=>exact aF (aF (JT (eL h₃ λx s₄ h₄=>aF (JT (eL h₄ λ_ s₅ h₅=>aS (aS ⟨rfl,h₅⟩))))))
structure LL(X:Cx)(aJ:List (Addr×Obj))(σ:St)(C:Addr)(H':Hp)(s':Shared):Prop where
 inv:Inv X aJ σ H' s'
 ns:∃m,s'.heap.Ns C m
 free:H' C=none
 ne:C≠X.env.locals
 up:X.s₀.heap.objs.size<=C
 cells:∀x c,X.env.cells.lookup x=some c->c≠C
 pin:∀p∈X.pn++aJ,p.1≠C
theorem LL.gone{C:Addr}{s':Shared}(L:LL X aJ σ C H' s')(hs:Heap.SameBut C s'.heap h'):Inv X aJ σ H' {s' with heap:=h'}:=
 L.inv.turned (t':=s'.toks) (λb o hb e=>hs.extBut b o hb e) L.free L.ne (.inr L.up) L.cells L.pin
theorem IZ(hc:X.calm=true)(S:mZ xs ys scope X.env.scope)(hj:ap X ys js)(hi:PI X tg iter wi)
 (hg:∀C s₀ H₀ fp,PG (yP X xs ys scope C s₀ H₀ fp) tg g) (hif:∀C s₀ H₀ fp,jg (yP X xs ys scope C s₀ H₀ fp) ifs tc) (he:∀C s₀ H₀ fp,PE (yP X xs ys scope C s₀ H₀ fp) elt te)
 {RR:Value->Addr->Result->Shared->Prop} {Q:VK} (I:Inv X aJ σ H s) (h:tLC xs js wi g tc te σ H Q)
 (fin:∀D C H' s',LL X aJ σ C H' s'->Q (.ref D) H'->RR (.ref D) C (.ok .next) s'):
 wpAny (model X.prog X.w) X.A (eval iter X.env) (λx s₁=>wpAny (model X.prog X.w) X.A (pyIter x) (λit s₂=>wpAny (model X.prog X.w) X.A (newList []) (λacc s₃=>
  wpAny (model X.prog X.w) X.A (newFunctionEnv scope X.env.globals (jL X.env scope.names []) [] X.env.qual none .none (some X.env)) (λcenv s₄=>
   codeAny (model X.prog X.w) X.A (.compStart (.ListComp elt [⟨tg,iter,ifs,0⟩] scope pos) 0 it acc {cenv with scope:=relabel scope X.env}) (RR acc cenv.locals) s₄) X.xe s₃) X.xe s₂) X.xe s₁) X.xe s:=by
 refine eL (hi aJ s σ H _ I h) λv s1 h1=>eL h1 λitv s2 h2=>?_
 obtain⟨it,fp,tn,J,H2,e,I2,T,st2,f2,W,⟨m0,w0⟩,turn⟩:=h2;subst e;have fo:∀b∈fp,b<s2.heap.objs.size:=λb hb=>let ⟨o,e,_⟩:=T.obj _ _ st2 b hb;bD e
 refine eO (wpAny_newFunctionEnv S.nocell (by intro y hy;simp at hy) (λh₁ hns1 hsb1=>?_) S.kind);dsimp only at hns1 hsb1⊢;generalize hH2:s2.heap.push {cls:=.type "list",dict:=none,data:=.seq ([]:List Value).toArray}=G at hns1 hsb1⊢;have hC:G.objs.size=s2.heap.objs.size+1:=by rw[←hH2,Heap.size_push]
 have hDC:s2.heap.objs.size≠G.objs.size:=by rw[hC];exact bW (NY _)
 have hCle:s2.heap.objs.size<=G.objs.size:=by rw[hC];exact rW _
 have below:∀b,b<s2.heap.objs.size->b≠G.objs.size/\b≠s2.heap.objs.size:=λb hb=>⟨by rw[hC];exact bW (gO hb),bW hb⟩
 have old:∀b o,s2.heap.get? b=some o->h₁.get? b=some o:=λb o e=>hsb1.extBut b o (below b (bD e)).1 (aP _ (hH2▸aP _ e))
 have hacc:h₁.get? s2.heap.objs.size=some (LCg.lst []):=hsb1.extBut _ _ hDC (aP _ (hH2▸bX _ rfl));have st1:tn 0 h₁:=T.keep _ _ _ st2 λb _ o e=>old b o e
 have I3:=CT (C:=G.objs.size) (D:=s2.heap.objs.size) (tk:=s2.toks+([]:List (Str×Value)).length) I2 S hj f2 fo hCle (aG _) hDC hns1 hacc (by intro v hv;cases hv) old;generalize hX:yP X xs ys scope G.objs.size s2 H2 fp=B at I3;have pB:B.prog=X.prog:=by rw[←hX];rfl
 have wB:B.w=X.w:=by rw[←hX];rfl
 have kB:B.K=X.K:=by rw[←hX];rfl
 have aB:B.A=X.A:=by rw[←hX];rfl
 have eB:B.env=compEnvC scope (jL X.env scope.names []) G.objs.size X.env:=by rw[←hX];rfl
 have cB:B.calm=true:=by rw[←hX];exact hc
 have xB:B.xe=λ_ _=>False:=by rw[←hX];rfl
 have gB:PG B tg g:=by rw[←hX];exact hg _ _ _ _
 have iB:jg B ifs tc:=by rw[←hX];exact hif _ _ _ _
 have elB:PE B elt te:=by rw[←hX];exact he _ _ _ _
 have sB:B.s₀=s2:=by rw[←hX];rfl
 have hB:B.H₀=H2:=by rw[←hX];rfl
 have fB:B.fs=GA X.stack:=by rw[←hX];rfl
 have exB:B.ex=fp:=by rw[←hX];rfl
 have pnB:B.pn=[]:=by rw[←hX];rfl
 have statB:∀{H':Hp}{oD:Obj}{σ':St}{s':Shared},Inv B [(s2.heap.objs.size,oD)] σ' H' s'->(∀b∈fp,H' b=none)->∀b∈fp,JJ B [(s2.heap.objs.size,oD)] H' b:=λ{H' oD σ' s'} I' hn b hb=>
  ⟨hn b hb,(I'.ok.exf b (exB▸hb)).1,I'.ok.exfs b (exB▸hb),.inl (exB▸hb),(I'.ok.exf b (exB▸hb)).2,λp hp=>by
   rw[pnB]at hp;have e:=aT.mp (show p∈[(s2.heap.objs.size,oD)]from hp);subst e;exact Nat.ne_of_gt (fo b hb)⟩
 have loop:∀s₃:Shared,s₃={s2 with heap:=h₁,toks:=s2.toks+([]:List (Str×Value)).length}->
  codeAny (model X.prog X.w) X.A (.compLoop (.ListComp elt [⟨tg,iter,ifs,0⟩] scope pos) 0 (.ref it) (.ref s2.heap.objs.size) (compEnvC scope (jL X.env scope.names []) G.objs.size X.env)) (RR (.ref s2.heap.objs.size) G.objs.size) s₃:=by
  rintro s₃ rfl;refine VL (λn s'=>∃i ys its σ1 H',Inv B [(s2.heap.objs.size,LCg.lst its)] σ1 H' s'/\dD ys its/\tn i s'.heap/\(∀b∈fp,H' b=none)/\ys.length<=sizeLine/\W i n ys σ1 H') ?_ m0
   ⟨0,[],[],_,H2,I3,.nil,st1,λb hb=>(f2 b hb).1,cG _,w0⟩
  rintro n s' ⟨i,ys',its,σ1,H',I',rv,cQ,fr',hz,w'⟩;have rl:=rv.length;rcases turn i n ys' σ1 H' w' with⟨stop,qn⟩ |⟨go,hz',step⟩
  ·have q:=T.done B pB wB kB cB i _ s' σ1 H' (λ_ _=>False) I' (statB I' fr') cQ stop;rw[aB]at q;refine eL q λr s4 ⟨hr,I4⟩=>?_
   subst hr;have pD:=(I4.pin (s2.heap.objs.size,LCg.lst its) (aZ _ bB))
   have hDn:H' s2.heap.objs.size=none:=pD.2.1;have ub:=I4.base;rw[fB,exB,hB,sB]at ub;have neD:∀{b:Addr}{o:HO},H' b=some o->b≠s2.heap.objs.size:=λe z=>by rw[z,hDn]at e;cases e
   have upk:∀{b:Addr}{o:HO},H' b=some o->upd H' s2.heap.objs.size (.lst ys') b=some o:=λe=>by rw[zJ (neD e)];exact e
   have u:Un (GA X.stack) fp H2 (upd H' s2.heap.objs.size (.lst ys')) s2.heap s4.heap:=
    ⟨ub.keep,ub.slot,λb o e n hx=>by rw[zJ (below b (bD e)).2];exact ub.free b o e n hx,ub.there,λb zs e=>upk (ub.tups b zs e),λb o zs e=>upk (ub.frzs b o zs e),λb ps e=>let ⟨more,q⟩:=ub.tbls b ps e;⟨more,upk q⟩⟩
   have hok4:mR X.prog X.w H' s4.heap:=by have :=I4.hok;rw[pB,wB]at this;exact this
   have hok:mR X.prog X.w (upd H' s2.heap.objs.size (.lst ys')) s4.heap:=λb o e=>by
    by_cases hb:b=s2.heap.objs.size
    ·subst hb;rw[zB]at e;cases e;exact⟨hz,its,its.length,rv,pD.1⟩
    ·rw[zJ hb]at e;exact(hok4 b o e).stay (λ_ _ _ q=>q) (λ_ q=>upk q) λ_ _ q=>upk q
   have I5:Inv X aJ σ (upd H' s2.heap.objs.size (.lst ys')) s4:=I2.call' (ch:=fp) (by rw[I4.os,sB]) u hok I4.bare λb hb=>let f:=f2 b hb;⟨f.2.2.2.1,f.2.1,f.2.2.2.2.1,f.2.2.2.2.2⟩
   refine fin s2.heap.objs.size G.objs.size _ s4 ⟨I5,?_,?_,?_,cR I2.sz hCle,λx c e z=>?_,λp hp z=>?_⟩ (qn _ hDn)
   ·obtain⟨m,hn,_⟩:=I4.loc;rw[eB]at hn;exact⟨m,hn⟩
   ·have fr:=I4.free;rw[eB]at fr;rw[zJ (cH hDC)];exact fr
   ·exact cH (below _ I2.lt).1
   ·obtain⟨_,o,ho,_⟩:=I2.cell x c e;exact(below c (bD ho)).1 z
   ·exact(below p.1 (bD (I2.pin p hp).1)).1 z
  ·have q:=T.item B pB wB kB cB i _ s' σ1 H' (λ_ _=>False) I' (statB I' fr') cQ go;rw[aB]at q;refine eL q λr s4 ⟨u,hr,h4⟩=>?_
   subst hr;refine eL h4 λ_ s5 z5=>?_
   obtain⟨x,H5,I5,r5,y5,st5,fr5⟩:=z5;have I5':=I5.pinned (statB I5 fr5) (T.obj _ _ st5);have q5:=gB _ s5 σ1 H5 x u _ I5' r5 (step x H5 y5);rw[pB,wB,aB,eB,xB]at q5;refine eL q5 λ_ s6 ⟨σ6,H6,I6,q6⟩=>?_
   have last:∀{s7:Shared}{H7:Hp},Inv B ([(s2.heap.objs.size,LCg.lst its)]++uA fp s5.heap) σ6 H7 s7->(te σ6 H7 λy H8=>∃m',m'<n/\W (i+1) m' (ys'++[y]) σ6 H8)->
    wpAny (model X.prog X.w) X.A (eval elt (compEnvC scope (jL X.env scope.names []) G.objs.size X.env)) (λx s₄=>
     wpAny (model X.prog X.w) X.A (call (.builtin "list.append") [.ref s2.heap.objs.size,x]) (λ_ s₅=>∃m,m<n/\
      ∃i ys its σ1 H',Inv B [(s2.heap.objs.size,LCg.lst its)] σ1 H' s₅/\dD ys its/\tn i s₅.heap/\(∀b∈fp,H' b=none)/\ys.length<=sizeLine/\W i m ys σ1 H') (λ_ _=>False) s₄) (λ_ _=>False) s7:=λ{s7 H7} I7 q7=>by
    have q8:=elB _ s7 σ6 H7 _ I7 q7;rw[pB,wB,aB,eB,xB]at q8;refine eL q8 λuy s8 z8=>?_
    obtain⟨y,H8,I8,r8,m',hm',w8⟩:=z8;have pD:=(I8.pin (s2.heap.objs.size,LCg.lst its) (aZ _ (cP _ bB)))
    refine append_at (its:=its.toArray) (n:=its.length) pD.1 (λh9 hs9 hd9=>?_) (by rw[aR,←rl];exact hz);have dropped:Inv B (uA fp s5.heap) σ6 H8 s8:=I8.pins_of λp hp=>I8.pin p (aZ _ (aZ _ hp))
    have apart:∀p∈B.pn++uA fp s5.heap,p.1≠s2.heap.objs.size:=λp hp=>by
     rw[pnB]at hp;exact bW (fo _ (QF (show p∈uA fp s5.heap from hp)).1)
    have I9:Inv B (uA fp s5.heap) σ6 H8 {s8 with heap:=h9}:=dropped.turned (t':=s8.toks) (λb o hb e=>hs9.extBut b o hb e) pD.2.1 pD.2.2.1 (.inr (by rw[sB];exact aG _)) (λx c e=>by
     intro z;obtain⟨v,o,ho,hd⟩:=I8.cell x c e;rw[z,pD.1]at ho;cases ho;cases hd) apart
    have I9':Inv B [(s2.heap.objs.size,LCg.lst (its++[uy]))] σ6 H8 {s8 with heap:=h9}:=I9.pins_of λp hp=>by
     have e:=aT.mp hp;subst e;exact⟨hd9.trans (dH some (LCg.lst_snoc its uy)),pD.2.1,pD.2.2.1,pD.2.2.2.1,by intro v hv;cases hv⟩
    refine⟨m',hm',i+1,ys'++[y],its++[uy],σ6,H8,I9',dD.append rv (.cons r8 .nil),T.keep _ _ _ st5 λb hb o e=>?_,λb hb=>?_,by rw[aI];exact hz',w8⟩
    ·exact(I9.pin (b,o) (aZ _ (jN hb e))).1
    ·obtain⟨o,e,d⟩:=T.obj _ _ st5 b hb;exact(I9.pin (b,o) (aZ _ (jN hb e))).2.1
   have again:∀{s7:Shared}{H7:Hp},Inv B ([(s2.heap.objs.size,LCg.lst its)]++uA fp s5.heap) σ6 H7 s7->(∃m',m'<n/\W (i+1) m' ys' σ6 H7)->∃m,m<n/\
    ∃i ys its σ1 H',Inv B [(s2.heap.objs.size,LCg.lst its)] σ1 H' s7/\dD ys its/\tn i s7.heap/\(∀b∈fp,H' b=none)/\ys.length<=sizeLine/\W i m ys σ1 H':=λ{s7 H7} I7 ⟨m',hm',w7⟩=>by
    refine⟨m',hm',i+1,ys',its,σ6,H7,I7.unpinned,rv,T.keep _ _ _ st5 λb hb o e=>(I7.pin (b,o) (aZ _ (aZ _ (jN hb e)))).1,λb hb=>?_,hz,w7⟩;obtain⟨o,e,d⟩:=T.obj _ _ st5 b hb;exact(I7.pin (b,o) (aZ _ (aZ _ (jN hb e)))).2.1
   match ifs,tc,iB,q6 with
   |[],none,_,q6=>
    refine wpAny_tests_nil ?_;rw[aL rfl];exact last I6 q6
   |[c],some t,iB,q6=>
    have iB:PT B c t:=iB;have q7:=iB _ s6 σ6 H6 _ I6 q6;rw[pB,wB,aB,eB,xB]at q7;refine wpAny_tests_one (eL q7 λb s7 ⟨H7,I7,q7⟩=>?_);cases b with
    |true=>rw[aL rfl]at q7⊢;exact last I7 q7
    |false=>rw[aH bQ]at q7⊢;exact again I7 q7
 exact codeAny_compStart_list (loop _ rfl) (T.self _ 0 _ _ _ st1 (loop _ rfl))
theorem pe_lc(hc:X.calm=true)(S:mZ xs ys scope X.env.scope)(hj:ap X ys js)(hi:PI X tg iter wi)
 (hg:∀C s₀ H₀ fp,PG (yP X xs ys scope C s₀ H₀ fp) tg g) (hif:∀C s₀ H₀ fp,jg (yP X xs ys scope C s₀ H₀ fp) ifs tc) (he:∀C s₀ H₀ fp,PE (yP X xs ys scope C s₀ H₀ fp) elt te)
 (hs:∀x,foldedSetIterable iter X.env x=pure x:=by intro _;rfl):PE X (.ListComp elt [⟨tg,iter,ifs,0⟩] scope pos) (tLC xs js wi g tc te):=by
 intro aJ s σ H Q I h;rw[eval_ListComp];refine wpAny_comprehension_free (use:=none) rfl hs (wH (VN I S)) S.kind S.names ?_;refine IZ (RR:=λacc C=>compPost (model X.prog X.w) X.A X.xe none (EP X aJ σ Q) acc C) hc S hj hi hg hif he I h λD C H' s' L q=>?_
 obtain⟨m,hn⟩:=L.ns;exact⟨m,hn,λh'' hs''=>⟨.ref D,H',L.gone hs'',rfl,q⟩⟩
theorem RS{x:Str}{p' p:Pos}(hN:X.N.Nodup)(hx:X.N[i]?=some x)(hl:X.env.scope.names.lookup x=some .local)(hc:X.calm=true)(S:mZ xs ys scope X.env.scope)(hj:ap X ys js)(hi:PI X tg iter wi)
 (hg:∀C s₀ H₀ fp,PG (yP X xs ys scope C s₀ H₀ fp) tg g) (hif:∀C s₀ H₀ fp,jg (yP X xs ys scope C s₀ H₀ fp) ifs tc) (he:∀C s₀ H₀ fp,PE (yP X xs ys scope C s₀ H₀ fp) elt te)
 (hsw:swapsWith (.ListComp elt [⟨tg,iter,ifs,0⟩] scope pos) (some (.Name x p')) p.line X.env=pure true:=by rfl)
 (hs:∀x,foldedSetIterable iter X.env x=pure x:=by intro _;rfl):PS X (.Assign [.Name x p'] (.ListComp elt [⟨tg,iter,ifs,0⟩] scope pos) p) (b6 (tLC xs js wi g tc te) (kK i)):=by
 intro aJ s σ H D I h;rw[exec_Assign_Name_used _ _ _ _ hsw];refine aF (wpAny_standAt (aF ?_));show wpAny _ X.A (do let _ ←comprehension (.ListComp elt [⟨tg,iter,ifs,0⟩] scope pos) scope X.env _ (newList []) false (eval iter X.env) (some (assign (.Name x p') X.env))) _ _ s;refine aF (lJ (wpAny_comprehension_free (use:=some (assign (.Name x p') X.env)) (Q:=λ_ s'=>SP X aJ D .next s') rfl hs (wH (VN I S)) S.kind S.names ?_) (λ_ s' hq=>aS (aS hq)) λ_ _ e=>e);refine IZ (Q:=λv H'=>kK i v σ H' D.nx) (RR:=λacc C=>compPost (model X.prog X.w) X.A X.xe (some (assign (.Name x p') X.env)) (λ_ s'=>SP X aJ D .next s') acc C) hc S hj hi hg hif he I h λA C H' s' L q=>?_
 show wpAny _ X.A (assign (.Name x p') X.env (.ref A)) _ _ _;refine wpAny_assign_Name (JW (v:=.ref A) L.inv hN hx (.inl hl) rfl (λs'' I'' ⟨a,sb,ha⟩=>?_) (.inr hl));have cne:∀{b:Addr},(b=X.env.locals\/X.env.cells.lookup x=some b)->C≠b:=λz e=>by
  rcases z with z |z
  ·exact L.ne (e.trans z)
  ·exact L.cells x _ z e.symm
 obtain⟨m,hn⟩:=L.ns;refine⟨m,hn.sameBut sb (cne ha),λh'' hs''=>⟨_,_,?_,q⟩⟩;exact LL.gone ⟨I'',⟨m,hn.sameBut sb (cne ha)⟩,L.free,L.ne,L.up,L.cells,L.pin⟩ hs''
end
def Its(x:Str):It:=⟨λi _=>i<x.cps.size,λi H v H'=>H'=H/\∃c,x.cps[i]?=some c/\v=.str ⟨#[c]⟩,λi _=>x.cps.size<=i⟩
def iStr(tl:TE):TI:=λσ H R=>tl σ H λx H1=>asS x λz=>R (Its z) H1
def rSlS:V->Option Int->Option Int->Hp->VK->Prop:=λx lo hi H Q=>asS x λz=>z.length<=sizeLine/\Q (.str (Txt.slice z lo hi)) H
theorem CS:qQ X (.builtin "all") (λxs H Q=>bb X.calm (pG xs λx=>mN x λp=>∃bs:List Bool,dL X.K H p (bs.map V.bl)/\Q (.bl (bs.all id)) H)):=by
 intro aJ s σ H xs us Q I r h;replace h:=DF h;obtain⟨hc,h⟩:=h;replace h:=wE h;obtain⟨x0,rfl,h⟩:=h;replace h:=xI h;obtain⟨p,rfl,bs,hp,q⟩:=h;obtain⟨u,rfl,ru⟩:=uP r;cases ru;obtain⟨its,rv,hl,hz⟩:=I.list hp;have iY:p<s.heap.objs.size:=by obtain⟨_,e,_⟩:=hl.isList;exact bD e
 have eQ:=rv.length;rw[aE]at eQ;refine call_all_walk (rD hl.isList ?_);refine⟨_,_,_,_,_,_,λi=>bs.getD i false,rfl,Walks.list (A:=X.A.in1) (I.ok.hd hc) s.heap.objs.size p (bW iY) its.toArray,⟨⟨_,bX _ rfl,rfl,rfl⟩,hl.isList.push _⟩,λi v s' Q' E' hv q'=>?_,λh' tk k=>?_⟩
 ·have hv:its[i]?=some v:=by simpa using hv
  have hi:i<bs.length:=by
   have :=(aC.mp hv).1;lia
  obtain⟨u',hu',ru'⟩:=rv.get (i:=i) (x:=.bl bs[i]) (by rw[aK,aA hi];rfl);rw[hv]at hu';cases hu';have e:v=Value.bool bs[i]:=ru';subst e;refine fR ?_;have e2:bs.getD i false=bs[i]:=by rw[bZ,aA hi];rfl
  rw[←e2];exact q'
 ·refine⟨.bl (bs.all id),H,?_,?_,q⟩
  ·exact I.kept (h':=h') (t':=tk) λb o e=>k b o (by intro hm;have :=aT.mp hm;exact absurd (this▸bD e) (dY _)) (aP _ e)
  ·have e:(List.range its.toArray.size).all (λi=>bs.getD i false)=bs.all id:=by
    rw[aR,←eQ];rw[cD,cX,cX];constructor
    ·intro a b hb;obtain⟨i,hi,rfl⟩:=dJ hb;have :=a i (bR.mpr hi);rw[bZ,aA hi]at this;exact this
    ·intro a i hi;have hi:=bR.mp hi;rw[bZ,aA hi];exact a _ (cW hi)
   show Value.bool _=_;rw[e]
theorem CO:qQ X (.builtin "isinstance") (λxs H Q=>∃x t b,xs=[x,.ty T]/\pI X.K H x t/\W.kitOne X.K t (.type T)=some b/\Q (.bl b) H):=by
 intro aJ s σ H xs us Q I r h;obtain⟨x,t,b,rfl,ty,e,q⟩:=h;obtain⟨u,w',rfl,ru,rw'⟩:=vals2 r;cases rw';exact ND I ru ty e λtk=>⟨.bl b,H,I.tok tk,rfl,q⟩
structure gS(P:Program)(w:World)(K:W.Frag)(mg:Str->Option Value)(base:Heap)(k:Nat)(x:Str)(ps:List Str)(sp:Sp):Prop where
 ex:∃f fd,dI P w K mg base fZ k f fd ps sp/\Binds K fd ps []/\W.keepIn K (.ref f)=true/\mg x=some (.ref f)
def Gc(mg:Str->Option Value)(x:Str)(v:V):Prop:=∃u,mg x=some u/\RelV v u
section
variable {k:Nat} {x:Str} {p pos:Pos} {t:TA}
theorem gS.mono{k:Nat}(h:gS P w K mg base j x ps sp)(hk:j<=k):gS P w K mg base k x ps sp:=by
 obtain⟨f,fd,F,r⟩:=h.ex;exact⟨f,fd,F.mono hk,r⟩
theorem zI(h:gS X.prog X.w X.K X.mg X.base k x ps sp)(hr:hZ k X.A)(hg:Gl X x)(ha:PA X (e::es) t)(hdb:(x==("__debug__":Str))=false:=by decide)
 (he:starEach (e::es) X.env=(false,eval e X.env)::starEach es X.env:=by rfl) (hpl:(backTo pos (starEach es X.env)).any (·.1)=false:=by rfl):PE X (.Call (.Name x p) (e::es) [] pos) (PJ sp [] E0 t):=by
 obtain⟨f,fd,F,b,kp,m⟩:=h.ex;exact eo F hr hg m kp b .nil IP ha hdb he hpl
theorem j9(h:Gc X.mg x v)(hg:Gl X x)(hd:(x==("__debug__":Str))=false:=by decide):PE X (.Name x pos) (tC v):=by
 obtain⟨u,m,r⟩:=h;exact IL hg m r hd
theorem j8(hm:X.mg x=none)(hv:bootBuiltins x=some (.type T))(hg:Gl X x)(hn:x≠"__name__":=by decide)(hd:(x==("__debug__":Str))=false:=by decide):PE X (.Name x pos) (tC (.ty T)):=
 et hg hm hv rfl hn hd
end
theorem yW:jg X [] none:=trivial
theorem kD{t:TT}(h:PT X c t):jg X [c] (some t):=h
def sK(xs ys:List Str)(scope around:Scope):Bool:=
 (scope.kind==.function)&&decide (xs++ys).Nodup&&xs.all (λx=>scope.names.lookup x==some .local)&&
 ys.all (λy=>(scope.names.lookup y==some .free)&&((around.names.lookup y==some .cell) ||(around.names.lookup y==some .free)))&&
 scope.names.all (λy=>(y.2 !=.cell)&&((y.2 !=.local) ||(scope.names.lookup y.1==some .local))&&((y.2 !=.free) ||ys.contains y.1))
theorem sK.scope{xs:List Str}{scope around:Scope}(h:sK xs ys scope around=true):mZ xs ys scope around:=by
 unfold sK at h;simp only[bY,cS,bO,cX,nU,bne_iff_ne,List.contains_iff_mem]at h;obtain⟨⟨⟨⟨h1,h2⟩,h3⟩,h4⟩,h5⟩:=h;exact⟨h1,h2,h3,h4,λy hy=>(h5 y hy).1.1,λy hy hl=>(h5 y hy).1.2.resolve_left (λz=>z hl),λy hy hf=>(h5 y hy).2.resolve_left (λz=>z hf)⟩
def rG(N ys:List Str)(js:List Nat):Bool:=(js.length==ys.length)&&(ys.zip js).all λp=>N[p.2]?==some p.1
theorem rG.caps(h:rG X.N ys js=true):ap X ys js:=by
 unfold rG at h;simp only[bY,cS,cX]at h;refine⟨h.1,λi y j hy hj=>?_⟩;refine h.2 (y,j) (aV (i:=i) ?_);rw[ly];exact⟨hy,hj⟩
section
variable {xs:List Str} {scope:Scope} {iter elt:Expr} {ifs:List Expr} {pos:Pos} {wi:TI} {g:TG} {tc:Option TT}
theorem yS(xs ys:List Str)(js:List Nat)(hi:PI X tg iter wi)
 (hg:∀C s₀ H₀ fp,(xs++ys).Nodup->PG (yP X xs ys scope C s₀ H₀ fp) tg g) (hif:∀C s₀ H₀ fp,jg (yP X xs ys scope C s₀ H₀ fp) ifs tc) (he:∀C s₀ H₀ fp,PE (yP X xs ys scope C s₀ H₀ fp) elt te)
 (hc:X.calm=true:=by rfl) (S:sK xs ys scope X.env.scope=true:=by rfl) (hj:rG X.N ys js=true:=by rfl)
 (hs:∀x,foldedSetIterable iter X.env x=pure x:=by intro _;rfl):PE X (.ListComp elt [⟨tg,iter,ifs,0⟩] scope pos) (tLC xs js wi g tc te):=
 pe_lc hc (sK.scope S) (rG.caps hj) hi (λC s₀ H₀ fp=>hg C s₀ H₀ fp (sK.scope S).nd) hif he hs
theorem UQ{x:Str}{p' p:Pos}(xs ys:List Str)(js:List Nat)(hN:X.N.Nodup)(hx:X.N[i]?=some x)(hi:PI X tg iter wi)
 (hg:∀C s₀ H₀ fp,(xs++ys).Nodup->PG (yP X xs ys scope C s₀ H₀ fp) tg g) (hif:∀C s₀ H₀ fp,jg (yP X xs ys scope C s₀ H₀ fp) ifs tc) (he:∀C s₀ H₀ fp,PE (yP X xs ys scope C s₀ H₀ fp) elt te)
 (hl:X.env.scope.names.lookup x=some .local:=by rfl) (hc:X.calm=true:=by rfl) (S:sK xs ys scope X.env.scope=true:=by rfl) (hj:rG X.N ys js=true:=by rfl)
 (hsw:swapsWith (.ListComp elt [⟨tg,iter,ifs,0⟩] scope pos) (some (.Name x p')) p.line X.env=pure true:=by rfl)
 (hs:∀x,foldedSetIterable iter X.env x=pure x:=by intro _;rfl):PS X (.Assign [.Name x p'] (.ListComp elt [⟨tg,iter,ifs,0⟩] scope pos) p) (b6 (tLC xs js wi g tc te) (kK i)):=
 RS hN hx hl hc (sK.scope S) (rG.caps hj) hi (λC s₀ H₀ fp=>hg C s₀ H₀ fp (sK.scope S).nd) hif he hsw hs
end
theorem xE:bootBuiltins "len"=some (.builtin "len"):=by decide+kernel
theorem wI:bootBuiltins "isinstance"=some (.builtin "isinstance"):=by decide+kernel
theorem WS:bootBuiltins "all"=some (.builtin "all"):=by decide+kernel
theorem ZJ:bootBuiltins "sorted"=some (.builtin "sorted"):=by decide+kernel
theorem kP:bootBuiltins "tuple"=some (.type "tuple"):=by decide+kernel
theorem LC:bootBuiltins "list"=some (.type "list"):=by decide+kernel
theorem sk:bootBuiltins "int"=some (.type "int"):=by decide+kernel
theorem i6:bootBuiltins "bool"=some (.type "bool"):=by decide+kernel
theorem YT:bootBuiltins "dict"=some (.type "dict"):=by decide+kernel
theorem cx_K{scope:Scope}{cd:Value}{E:XK}:(JC CX P w K mg base N qual scope f cd A outer s H E).K=K:=rfl
theorem cx_calm{scope:Scope}{cd:Value}{E:XK}:(JC CX P w K mg base N qual scope f cd A outer s H E).calm=true:=rfl
theorem bk_calm{xs:List Str}{scope:Scope}{C:Addr}{s₀:Shared}{H₀:Hp}:(yP X xs ys scope C s₀ H₀ fp).calm=X.calm:=rfl
theorem lenV_str{y:Str}:jj K (.str y) H n↔(y.length<=sizeLine/\n=y.length):=Iff.rfl
theorem KW(a b:Str):ip (.str a) (.str b)=decide (b=a):=by
 show(a==b)=_;rw[cD,cS,bO,eq_comm]
theorem bk_K{xs:List Str}{scope:Scope}{C:Addr}{s₀:Shared}{H₀:Hp}:(yP X xs ys scope C s₀ H₀ fp).K=X.K:=rfl
theorem qo{ns:List Int}{k:Nat}(h:(k:Int)<ns.length):oV (ns.map V.int) (k:Int)=some (.int (ns.getD k 0)):=by
 refine yD ?_;have h':k<ns.length:=by lia
 rw[aK,aA h',bZ,aA h'];rfl
theorem KA{J:It}{g:TG}{Q:VK}(Pv:Nat->List V->St->Hp->Prop)(h0:Pv 0 [] (JP ns js σ) H)(hn:n<=sizeLine)(hl:∀i ys σ H,Pv i ys σ H->ys.length<=i)
 (hgo:∀i ys σ H,i<n->Pv i ys σ H->J.go i H) (hst:∀ys σ H,Pv n ys σ H->J.stop n H)
 (hs:∀i ys σ H x H' (C:V->St->Hp->Prop),i<n->Pv i ys σ H->J.yld i H x H'->(∀y σ2 H3,Pv (i+1) (ys++[y]) σ2 H3->C y σ2 H3)->g x σ H' λσ2 H2=>te σ2 H2 λy H3=>C y σ2 H3)
 (hd:∀ys σ H,Pv n ys σ H->∀p,H p=none->Q (.ref p) (upd H p (.lst ys))):
 bj J ns js g none te σ H Q:=by
 refine⟨λi m ys σ H=>i+m=n/\Pv i ys σ H,⟨n,(),h0⟩,λi m ys σ H ⟨e,w⟩=>?_⟩;by_cases hi:i<n
 ·refine .inr ⟨hgo i ys σ H hi w,fH (hl _ _ _ _ w) (),λx H' hy=>?_⟩;exact hs i ys σ H x H' (λy σ2 H3=>∃m',m'<m/\i+1+m'=n/\Pv (i+1) (ys++[y]) σ2 H3) hi w hy λy σ2 H3 q=>⟨m-1,(),(),q⟩
 ·have :i=n:=by lia
  subst this;exact .inl ⟨hst ys σ H w,hd ys σ H w⟩
theorem BW{lo:Int}{g:TG}{Q:VK}(Pv:Nat->List V->St->Hp->Prop)(h0:Pv 0 [] (JP ns js σ) H)(hz:n<=sizeLine)(hl:∀i ys σ H,Pv i ys σ H->ys.length<=i)
 (hs:∀(i:Nat) ys σ H (C:V->St->Hp->Prop),i<n->Pv i ys σ H->(∀y σ2 H3,Pv (i+1) (ys++[y]) σ2 H3->C y σ2 H3)->g (.int (lo+i)) σ H λσ2 H2=>te σ2 H2 λy H3=>C y σ2 H3)
 (hd:∀ys σ H,Pv n ys σ H->∀p,H p=none->Q (.ref p) (upd H p (.lst ys))):
 bj (aj lo n) ns js g none te σ H Q:=
 KA (n:=n) Pv h0 hz hl (λ_ _ _ _ h _=>h) (λ_ _ _ _=>aG _) (λi ys σ H x H' C hi w ⟨e,hx⟩ hC=>by subst e;subst hx;exact hs i ys σ _ C hi w hC) hd
theorem UY{g:TG}{Q:VK}(Pv:Nat->List V->St->Hp->Prop)(h0:Pv 0 [] (JP ns js σ) H)(hz:xs.length<=sizeLine)(hl:∀i ys σ H,Pv i ys σ H->ys.length<=i)
 (hK:∀i ys σ H,Pv i ys σ H->dN K H a xs)
 (hs:∀(i:Nat) x ys σ H (C:V->St->Hp->Prop),xs[i]?=some x->Pv i ys σ H->(∀y σ2 H3,Pv (i+1) (ys++[y]) σ2 H3->C y σ2 H3)->g x σ H λσ2 H2=>te σ2 H2 λy H3=>C y σ2 H3)
 (hd:∀ys σ H,Pv xs.length ys σ H->∀p,H p=none->Q (.ref p) (upd H p (.lst ys))):
 bj (ln K a) ns js g none te σ H Q:=
 KA (n:=xs.length) Pv h0 hz hl (λi ys σ H hi w=>⟨xs,xs[i],hK i ys σ H w,aA hi⟩) (λys σ H w=>⟨xs,hK _ ys σ H w,aG _⟩)
  (λi ys σ H x H' C hi w ⟨e,hx⟩ hC=>by subst e;exact hs i x ys σ _ C (hx xs (hK i ys σ _ w)) w hC) hd
theorem jS{g:TG}{Q:VK}(Pv:Nat->List V->St->Hp->Prop)(h0:Pv 0 [] (JP ns js σ) H)(hz:xs.length<=sizeLine)(hl:∀i ys σ H,Pv i ys σ H->ys.length<=i)
 (hK:∀i ys σ H,Pv i ys σ H->dL K H a xs)
 (hs:∀(i:Nat) x ys σ H (C:V->St->Hp->Prop),xs[i]?=some x->Pv i ys σ H->(∀y σ2 H3,Pv (i+1) (ys++[y]) σ2 H3->C y σ2 H3)->g x σ H λσ2 H2=>te σ2 H2 λy H3=>C y σ2 H3)
 (hd:∀ys σ H,Pv xs.length ys σ H->∀p,H p=none->Q (.ref p) (upd H p (.lst ys))):
 bj (jk K a) ns js g none te σ H Q:=
 KA (n:=xs.length) Pv h0 hz hl (λi ys σ H hi w=>⟨xs,xs[i],hK i ys σ H w,aA hi⟩) (λys σ H w=>⟨xs,hK _ ys σ H w,aG _⟩)
  (λi ys σ H x H' C hi w ⟨e,hx⟩ hC=>by subst e;exact hs i x ys σ _ C (hx xs (hK i ys σ _ w)) w hC) hd
def JS(J:It)(g:TG)(tb:TS)(D:sO)(σ:St)(H:Hp):Prop:=∃W:Nat->Nat->St->Hp->Prop,(∃m,W 0 m σ H)/\∀i m σ H,W i m σ H->
 (J.stop i H/\D.nx σ H)\/(J.go i H/\∃N:St->Hp->Prop,(∀σ' H',N σ' H'->∃m',m'<m/\W (i+1) m' σ' H')/\∀x H',J.yld i H x H'->g x σ H' λσ2 H2=>tb {D with nx:=N,ct:=N,bk:=D.nx} σ2 H2)
theorem tFor_eq{wi:TI}{g:TG}:tFor wi g tb D σ H=wi σ H λJ H1=>JS J g tb D σ H1:=rfl
theorem tLC_eq{n:List Str}{wi:TI}{g:TG}{tc:Option TT}{Q:VK}:tLC n js wi g tc te σ H Q=wi σ H λJ H1=>bj J n js g tc te σ H1 Q:=rfl
theorem YS{g:TG}(Pv:Nat->St->Hp->Prop)(h0:Pv 0 σ H)(hl:∀i σ H,i<=xs.length->Pv i σ H->dL K H a xs)
 (hs:∀i x σ H,xs[i]?=some x->Pv i σ H->g x σ H λσ2 H2=>tb {D with nx:=Pv (i+1),ct:=Pv (i+1),bk:=D.nx} σ2 H2) (hd:∀σ H,Pv xs.length σ H->D.nx σ H):JS (jk K a) g tb D σ H:=CF Pv h0 hl hs hd
theorem FY{g:TG}(Pv:Nat->St->Hp->Prop)(h0:Pv 0 σ H)(hl:∀i σ H,i<=xs.length->Pv i σ H->dN K H a xs)
 (hs:∀i x σ H,xs[i]?=some x->Pv i σ H->g x σ H λσ2 H2=>tb {D with nx:=Pv (i+1),ct:=Pv (i+1),bk:=D.nx} σ2 H2) (hd:∀σ H,Pv xs.length σ H->D.nx σ H):JS (ln K a) g tb D σ H:=KP Pv h0 hl hs hd
theorem WE{lo:Int}{g:TG}(Pv:Nat->St->Hp->Prop)(h0:Pv 0 σ H)
 (hs:∀i σ H,i<n->Pv i σ H->g (.int (lo+i)) σ H λσ2 H2=>tb {D with nx:=Pv (i+1),ct:=Pv (i+1),bk:=D.nx} σ2 H2) (hd:∀σ H,Pv n σ H->D.nx σ H):JS (aj lo n) g tb D σ H:=QL Pv h0 hs hd
theorem xV{g:TG}(Pv:Nat->St->Hp->Prop)(h0:Pv 0 σ H)(hl:∀i σ H,i<=xs.length->Pv i σ H->dL K H a xs)
 (hs:∀i x σ H,xs[i]?=some x->Pv i σ H->∀N:St->Hp->Prop,(∀σ H,Pv (i+1) σ H->N σ H)->g x σ H λσ2 H2=>tb {D with nx:=N,ct:=N,bk:=D.nx} σ2 H2) (hd:∀σ H,Pv xs.length σ H->D.nx σ H):JS (jk K a) g tb D σ H:=CF Pv h0 hl (λi x σ H a b=>hs i x σ H a b _ λ_ _ z=>z) hd
theorem rf{g:TG}(Pv:Nat->St->Hp->Prop)(h0:Pv 0 σ H)(hl:∀i σ H,i<=xs.length->Pv i σ H->dN K H a xs)
 (hs:∀i x σ H,xs[i]?=some x->Pv i σ H->∀N:St->Hp->Prop,(∀σ H,Pv (i+1) σ H->N σ H)->g x σ H λσ2 H2=>tb {D with nx:=N,ct:=N,bk:=D.nx} σ2 H2) (hd:∀σ H,Pv xs.length σ H->D.nx σ H):JS (ln K a) g tb D σ H:=KP Pv h0 hl (λi x σ H a b=>hs i x σ H a b _ λ_ _ z=>z) hd
theorem kL{lo:Int}{g:TG}(Pv:Nat->St->Hp->Prop)(h0:Pv 0 σ H)
 (hs:∀i σ H,i<n->Pv i σ H->∀N:St->Hp->Prop,(∀σ H,Pv (i+1) σ H->N σ H)->g (.int (lo+i)) σ H λσ2 H2=>tb {D with nx:=N,ct:=N,bk:=D.nx} σ2 H2) (hd:∀σ H,Pv n σ H->D.nx σ H):JS (aj lo n) g tb D σ H:=QL Pv h0 (λi σ H a b=>hs i σ H a b _ λ_ _ z=>z) hd
theorem l7{c:TT}(W:Nat->St->Hp->Prop)(h0:∃m,W m σ H)(hs:∀m σ H,W m σ H->∀B:Hp->Prop,(∀H1 (N:St->Hp->Prop),(∀σ' H',N σ' H'->∃m',m'<m/\W m' σ' H')->(∀M:St->Hp->Prop,(∀σ H,N σ H->M σ H)->tb {D with nx:=M,ct:=M,bk:=D.nx} σ H1)->B H1)->c σ H λb H1=>if b=true then B H1 else D.nx σ H1):DX c tb D σ H:=
 ⟨W,h0,λm σ H h=>hs m σ H h _ λ_ N hN ht=>⟨N,hN,ht N λ_ _ z=>z⟩⟩
theorem gI.okz{x:Str}{st:Stmt}{k:Nat}(F:gI K x qual st f fd)(S:cC N ps (zK st))
 (hbody:∀(fD:Value)(A:Around)(outer:List Env)(s:Shared)(H:Hp)(vs:List V)(Q:VK)(E:XK),hZ k (A.deeper (envOfC qual (zK st) s.heap.objs.size f fD))->sp vs H Q E->
  ∃t,GS (JC fZ P w K mg base N qual (zK st) f fD A outer s H E).nox (xP st) t/\t {nx:=λ_ H'=>Q .non H',rt:=Q} (uU N vs) H)
 (len:∀vs H Q E,sp vs H Q E->vs.length=ps.length:=by intro vs H Q E h;first |(cases h;exact dH List.length ‹vs=_›) |(repeat first |(obtain⟨rfl,_⟩:=h;rfl) |(obtain⟨_,h⟩:=h))):dI P w K mg base fZ (k+1) f fd ps sp:=F.ok S len hbody
theorem hZ.m{k:Nat}(r:hZ k A)(h:j<=k:=by lia):hZ j A:=r.mono h
theorem yE(i:Nat){x:Str}{pos:Pos}(hN:X.N.Nodup)(he:PE X e te)(hi:X.N[i]?=some x:=by rfl)(hx:Loc X.env.scope x:=by exact Or.inl rfl)(hs:swapsWith e (some (.Name x pos')) pos.line X.env=pure false:=by rfl)(hf:X.fn x=true\/X.env.scope.names.lookup x=some .local:=by first |exact .inl rfl |exact .inr rfl |assumption):PS X (.Assign [.Name x pos'] e pos) (b6 te (kK i)):=qZ hN hi hx he hs hf
theorem yG(i:Nat){x:Str}{pos:Pos}(hN:X.N.Nodup)(hi:X.N[i]?=some x:=by rfl)(hx:Loc X.env.scope x:=by exact Or.inl rfl)(hf:X.fn x=true\/X.env.scope.names.lookup x=some .local:=by first |exact .inl rfl |exact .inr rfl |assumption):PG X (.Name x pos) (kK i):=US hN hi hx hf
theorem zL{a b:Expr}{tb:TE}{pos:Pos}{r:R2}(hr:tz X r)(ha:PE X a ta)(hb:PE X b tb)(hs:LK b:=by exact λ_ _=>rfl):PE X (.Subscript a b pos) (tOp r ta tb):=pe_ix hr ha hb hs
theorem zH{t u:TS}(h:∀N:St->Hp->Prop,(∀σ H,u D σ H->N σ H)->t {D with nx:=N} σ H):PD t u D σ H:=h (u D) λ_ _ z=>z
theorem yA{t u:TS}(J:St->Hp->Prop)(h1:∀N:St->Hp->Prop,(∀σ H,J σ H->N σ H)->t {D with nx:=N} σ H)(h2:∀σ H,J σ H->u D σ H):PD t u D σ H:=h1 (u D) h2
structure Bi(mg:Str->Option Value):Prop where
 len:mg "len"=none
 range:mg "range"=none
 isinstance:mg "isinstance"=none
 max:mg "max"=none
 sum:mg "sum"=none
 all:mg "all"=none
 tuple:mg "tuple"=none
 list:mg "list"=none
 sorted:mg "sorted"=none
 set:mg "set"=none
 int:mg "int"=none
 bool:mg "bool"=none
 str:mg "str"=none
 dict:mg "dict"=none
theorem zS{k:Nat}{x:Str}{st:Stmt}(F:gI K x x st f fd)(ok:dI P w K mg base fZ k f fd ps sp)(b:Binds K fd ps [])
 (m:mg x=some (.ref f)):gS P w K mg base k x ps sp:=⟨f,fd,ok,b,F.kp,m⟩
inductive Dt where
 |non |bl (b:Bool) |int (i:Int) |str (x:Str) |tup (ds:List Dt) |lst (ds:List Dt)
mutual
def eA(H:Hp):Dt->V->Prop
 | .non,v=>v=.non
 | .bl b,v=>v=.bl b
 | .int i,v=>v=.int i
 | .str x,v=>v=.str x
 | .tup ds,v=>∃a vs,v=.ref a/\H a=some (.tup vs)/\bG H ds vs
 | .lst ds,v=>∃a vs,v=.ref a/\H a=some (.lst vs)/\bG H ds vs
def bG(H:Hp):List Dt->List V->Prop
 |[],vs=>vs=[]
 |d::ds,vs=>∃v r,vs=v::r/\eA H d v/\bG H ds r
end
mutual
theorem eA.same{H H':Hp}(e:bA H H'):∀{d:Dt}{v:V},eA H d v->eA H' d v
 | .non,_,h=>h
 | .bl _,_,h=>h
 | .int _,_,h=>h
 | .str _,_,h=>h
 | .tup ds,v,h=>by
   obtain⟨a,vs,e1,e2,e3⟩:=h;exact⟨a,vs,e1,e _ _ e2,bG.same e e3⟩
 | .lst ds,v,h=>by
   obtain⟨a,vs,e1,e2,e3⟩:=h;exact⟨a,vs,e1,e _ _ e2,bG.same e e3⟩
theorem bG.same{H H':Hp}(e:bA H H'):∀{ds:List Dt}{vs:List V},bG H ds vs->bG H' ds vs
 |[],_,h=>h
 |d::ds,vs,h=>by
  obtain⟨v,r,e1,e2,e3⟩:=h;exact⟨v,r,e1,eA.same e e2,bG.same e e3⟩
end
theorem bG.length{H:Hp}:∀{ds:List Dt}{vs:List V},bG H ds vs->vs.length=ds.length
 |[],vs,h=>by
  have h:vs=[]:=h;rw[h];rfl
 |d::ds,vs,h=>by
  obtain⟨v,r,e1,e2,e3⟩:=h;rw[e1,bF,bF,bG.length e3]
theorem bG.get{H:Hp}:∀{ds:List Dt}{vs:List V}{i:Nat}{d:Dt},bG H ds vs->ds[i]?=some d->∃v,vs[i]?=some v/\eA H d v
 |[],vs,i,d,_,e=>by simp at e
 |d::ds,vs,0,d',h,e=>by
  obtain⟨v,r,e1,e2,e3⟩:=h;simp at e;subst e;subst e1;exact⟨v,rfl,e2⟩
 |d::ds,vs,i+1,d',h,e=>by
  obtain⟨v,r,e1,e2,e3⟩:=h;subst e1;simp at e;obtain⟨u,h1,h2⟩:=bG.get e3 e;exact⟨u,by simpa using h1,h2⟩
theorem bG.append{H:Hp}:∀{ds es:List Dt}{vs us:List V},bG H ds vs->bG H es us->bG H (ds++es) (vs++us)
 |[],es,vs,us,h,h'=>by
  have h:vs=[]:=h;subst h;exact h'
 |d::ds,es,vs,us,h,h'=>by
  obtain⟨v,r,e1,e2,e3⟩:=h;subst e1;exact⟨v,r++us,rfl,e2,bG.append e3 h'⟩
theorem bG.take{H:Hp}:∀{ds:List Dt}{vs:List V}(n:Nat),bG H ds vs->bG H (ds.take n) (vs.take n)
 |ds,vs,0,_=>rfl
 |[],vs,n+1,h=>by
  have h:vs=[]:=h;subst h;rfl
 |d::ds,vs,n+1,h=>by
  obtain⟨v,r,e1,e2,e3⟩:=h;subst e1;exact⟨v,r.take n,rfl,e2,bG.take n e3⟩
theorem bG.drop{H:Hp}:∀{ds:List Dt}{vs:List V}(n:Nat),bG H ds vs->bG H (ds.drop n) (vs.drop n)
 |ds,vs,0,h=>by simpa using h
 |[],vs,n+1,h=>by
  have h:vs=[]:=h;subst h;rfl
 |d::ds,vs,n+1,h=>by
  obtain⟨v,r,e1,e2,e3⟩:=h;subst e1;simpa using bG.drop n e3
theorem bG.one{d:Dt}(h:eA H d v):bG H [d] [v]:=⟨v,[],rfl,h,rfl⟩
def ZL:Nat->Dt->Prop
 |n+1,.tup ds=>ds.length<=1000/\∀d∈ds,ZL n d
 |n+1,.lst ds=>ds.length<=1000/\∀d∈ds,ZL n d
 |0,.tup _=>False
 |0,.lst _=>False
 |_,_=>True
inductive Tm where
 |name (x:Str)
 |node (w:Str) (ts:List Tm)
mutual
def HG:Tm->Dt
 | .name x=>.tup [.str "name",.str x]
 | .node w ts=>.tup (.str w::bv ts)
def bv:List Tm->List Dt
 |[]=>[]
 |t::ts=>HG t::bv ts
end
theorem YW:∀ts:List Tm,bv ts=ts.map HG
 |[]=>rfl
 |t::ts=>by rw[bv,YW ts,cF]
theorem tO(w:Str)(ts:List Tm):HG (.node w ts)=.tup (.str w::ts.map HG):=by rw[HG,YW]
abbrev fO(H:Hp)(t:Tm)(v:V):Prop:=eA H (HG t) v
abbrev TAts(H:Hp)(ts:List Tm)(vs:List V):Prop:=bG H (ts.map HG) vs
theorem fO.name{x:Str}(h:fO H (.name x) v):∃a,v=.ref a/\H a=some (.tup [.str "name",.str x]):=by
 obtain⟨a,vs,e1,e2,u,r,e3,e4,e5⟩:=h;obtain⟨u2,r2,e6,e7,e8⟩:=e5;have e4:u=.str "name":=e4;have e7:u2=.str x:=e7;have e8:r2=[]:=e8;subst e3;subst e4;subst e6;subst e7;subst e8;exact⟨a,e1,e2⟩
theorem fO.mkName{x:Str}(h:H a=some (.tup [.str "name",.str x])):fO H (.name x) (.ref a):=
 ⟨a,_,rfl,h,_,_,rfl,rfl,_,_,rfl,rfl,rfl⟩
theorem fO.node{w:Str}(h:fO H (.node w ts) v):∃a vs,v=.ref a/\H a=some (.tup (.str w::vs))/\TAts H ts vs:=by
 unfold fO at h;rw[tO]at h;obtain⟨a,vs,e1,e2,u,r,e3,e4,e5⟩:=h;have e4:u=.str w:=e4;subst e3;subst e4;exact⟨a,r,e1,e2,e5⟩
theorem fO.mkNode{w:Str}(h:H a=some (.tup (.str w::vs)))(hs:TAts H ts vs):fO H (.node w ts) (.ref a):=by
 unfold fO;rw[tO];exact⟨a,_,rfl,h,_,_,rfl,rfl,hs⟩
def Wrd(w:Str):Prop:=w="none"\/w="all"\/w="not"\/w="both"\/w="either"
theorem Wrd.ne{w:Str}(h:Wrd w):w≠"name":=by
 rcases h with rfl |rfl |rfl |rfl |rfl<;>decide+kernel
def Sh(w:Str)(n:Nat):Prop:=(w="none"/\n=0)\/(w="all"/\n=0)\/(w="not"/\n=1)\/(w="both"/\2<=n)\/(w="either"/\2<=n)
theorem Sh.wrd{w:Str}(h:Sh w n):Wrd w:=by
 rcases h with h |h |h |h |h
 ·exact .inl h.1
 ·exact .inr (.inl h.1)
 ·exact .inr (.inr (.inl h.1))
 ·exact .inr (.inr (.inr (.inl h.1)))
 ·exact .inr (.inr (.inr (.inr h.1)))
structure Nm(x:Str):Prop where
 pos:1<=x.length
 most:x.length<=8
 low:∀c∈x.cps.toList,97<=c/\c<=122
 nn:x≠"none"
 na:x≠"all"
def fM:Nat->Tm->Prop
 |_,.name x=>Nm x
 |0,.node w ts=>Sh w ts.length/\ts=[]
 |n+1,.node w ts=>Sh w ts.length/\∀t∈ts,fM n t
theorem fM.up:∀{n:Nat}{t:Tm},fM n t->fM (n+1) t
 |n,.name _,h=>by unfold fM at h⊢;exact h
 |0,.node w ts,h=>by
  unfold fM at h;obtain⟨h1,h2⟩:=h;subst h2;exact⟨h1,λ_ z=>nomatch z⟩
 |n+1,.node w ts,h=>by
  unfold fM at h⊢;exact⟨h.1,λt ht=>fM.up (h.2 t ht)⟩
theorem fM.mono{m:Nat}{t:Tm}(h:fM n t)(hm:n<=m):fM m t:=by
 obtain⟨k,rfl⟩:=Nat.le.dest hm
 induction k with
 |zero=>exact h
 |succ k ih=>exact fM.up (ih ())
theorem fM.sh{w:Str}(h:fM n (.node w ts)):Sh w ts.length:=by
 cases n with
 |zero=>exact h.1
 |succ n=>exact h.1
theorem fM.wrd{w:Str}(h:fM n (.node w ts)):Wrd w:=h.sh.wrd
theorem fM.part{w:Str}{t:Tm}(h:fM (n+1) (.node w ts))(ht:t∈ts):fM n t:=h.2 t ht
mutual
def wt:Tm->Nat
 | .name _=>1
 | .node _ ts=>1+mD ts
def mD:List Tm->Nat
 |[]=>0
 |t::ts=>wt t+mD ts
end
theorem DR:∀t:Tm,1<=wt t
 | .name _=>by rw[wt];lia
 | .node _ _=>by rw[wt];lia
theorem YC:∀ts:List Tm,ts.length<=mD ts
 |[]=>by simp
 |t::ts=>by
  have :=YC ts;have :=DR t;rw[mD,bF];lia
theorem wU:∀{ts:List Tm}{t:Tm},t∈ts->wt t<=mD ts
 |u::ts,t,h=>by
  rw[mD];rcases bK.mp h with h |h
  ·subst h;lia
  ·have :=wU h;lia
theorem uG:∀ts us:List Tm,mD (ts++us)=mD ts+mD us
 |[],us=>by simp[mD]
 |t::ts,us=>by rw[List.cons_append,mD,mD,uG ts us];lia
theorem zF{p:Addr}(h:H p=none)(o:HO):bA H (upd H p o):=λb u q=>by rw[zJ (xD q h)];exact q
theorem gx(p q:Str):(p++q).length=p.length+q.length:=by
 show(p.cps++q.cps).size=p.cps.size+q.cps.size;rw[Array.size_append]
theorem i4(p q:Str):(p++q).cps.toList=p.cps.toList++q.cps.toList:=by
 show(p.cps++q.cps).toList=_;rw[cO]
theorem small(h:n<=1000):n<=sizeLine:=pV (uD h)
theorem TAts.one{t:Tm}(h:fO H t v):TAts H [t] [v]:=bG.one h
theorem TAts.append{us:List Tm}{ws:List V}(h:TAts H ts vs)(h':TAts H us ws):TAts H (ts++us) (vs++ws):=by
 unfold TAts;rw[aU];exact bG.append h h'
theorem TAts.take(n:Nat)(h:TAts H ts vs):TAts H (ts.take n) (vs.take n):=by
 unfold TAts;rw[tE];exact bG.take n h
theorem TAts.drop(n:Nat)(h:TAts H ts vs):TAts H (ts.drop n) (vs.drop n):=by
 unfold TAts;rw[tF];exact bG.drop n h
theorem TAts.length(h:TAts H ts vs):vs.length=ts.length:=by
 have :=bG.length h;rw[aE]at this;exact this
theorem TAts.get{t:Tm}(h:TAts H ts vs)(ht:ts[i]?=some t):∃v,vs[i]?=some v/\fO H t v:=
 bG.get (d:=HG t) h (by rw[aK,ht];rfl)
theorem TAts.getV(h:TAts H ts vs)(hv:vs[i]?=some v):∃t,ts[i]?=some t/\fO H t v:=by
 have hi:i<ts.length:=by rw[←h.length];exact(aC.mp hv).1
 obtain⟨u,h1,h2⟩:=h.get (aA hi);rw[hv]at h1;cases h1;exact⟨_,aA hi,h2⟩
def cT(H H':Hp):Prop:=∀b xs,H b=some (.tup xs)->H' b=some (.tup xs)
theorem cT.refl(H:Hp):cT H H:=λ_ _ h=>h
theorem cT.trans{H1 H2:Hp}(a:cT H H1)(b:cT H1 H2):cT H H2:=λc o h=>b c o (a c o h)
theorem bA.tups(e:bA H H'):cT H H':=λb xs h=>e b _ h
theorem cT.upd_lst{o:HO}(e:cT H H')(h:H' a=some (.lst xs)):cT H (upd H' a o):=λb ys hb=>by
 rw[zJ (jK (e _ _ hb) h (by intro z;cases z))];exact e _ _ hb
theorem bA.upd{H1:Hp}{o:HO}(e:bA H H1)(h:H a=none):bA H (upd H1 a o):=λb u hb=>by
 rw[zJ (xD hb h)];exact e _ _ hb
mutual
theorem fO.tups{H H':Hp}(e:cT H H'):∀{t:Tm}{v:V},fO H t v->fO H' t v
 | .name x,v,h=>by
   obtain⟨a,e1,h2⟩:=fO.name h;subst e1;exact fO.mkName (e _ _ h2)
 | .node w ts,v,h=>by
   obtain⟨a,vs,e1,h2,hs⟩:=fO.node h;subst e1;exact fO.mkNode (e _ _ h2) (TAts.tups e hs)
theorem TAts.tups{H H':Hp}(e:cT H H'):∀{ts:List Tm}{vs:List V},TAts H ts vs->TAts H' ts vs
 |[],vs,h=>h
 |t::ts,vs,h=>by
  obtain⟨v,r,e1,e2,e3⟩:=h;exact⟨v,r,e1,fO.tups e e2,TAts.tups e e3⟩
end
structure KD(w:World)(K:W.Frag)(a:Addr)(kvs:List (eI×V)):Prop where
 dict:∀(P:Program)(h:Heap),K.In h->∃vs,KV kvs vs/\h.DictOf (yB P w) a vs
def tKGet(w:World)(K:W.Frag)(td ty:TE):TE:=λσ H Q=>td σ H λx H1=>ty σ H1 λy H2=>∃a kvs k v,x=.ref a/\y=kV k/\KD w K a kvs/\yM kvs k=some v/\Q v H2
theorem cx_w{scope:Scope}{cd:Value}{E:XK}:(JC CX P w K mg base N qual scope f cd A outer s H E).w=w:=rfl
theorem bk_w{xs:List Str}{scope:Scope}{C:Addr}{s₀:Shared}{H₀:Hp}:(yP X xs ys scope C s₀ H₀ fp).w=X.w:=rfl
theorem TW:W.kitOne K (.type T) (.type T)=some true:=by
 unfold W.kitOne;rw[aL (by simp)]
def kitF(S T:String):Bool:=!(Value.type S==Value.type T)&&W.kitMeta T&&((PySem.fastBuiltinMro S).map (·.contains (.type T))==some false)
theorem kg{S:String}(h:kitF S T=true):W.kitOne K (.type S) (.type T)=some false:=by
 unfold kitF at h;simp only[bY,HD,cS]at h;unfold W.kitOne;rw[aH (by rw[h.1.1];decide)];show(if W.kitMeta T=true then W.subIn K (.type S) (.type T)else none)=_;rw[aL h.1.2];exact h.2
theorem qg:W.kitOne K (.type "tuple") (.type "int")=some false:=kg (by decide+kernel)
theorem qh:W.kitOne K (.type "int") (.type "bool")=some false:=kg (by decide+kernel)
theorem EK{P:Program}{w:World}{K:W.Frag}{mg:Str->Option Value}{base:Heap}{x:Str}{ps:List Str}{st:Stmt}{f:Addr}{fd:FuncData}{sp:Nat->Sp}(F:gI K x x st f fd)(b:Binds K fd ps [])(m:mg x=some (.ref f))
 (h0:∀vs H Q E,¬sp 0 vs H Q E) (step:∀n,gS P w K mg base n x ps (sp n)->dI P w K mg base fZ (n+1) f fd ps (sp (n+1))):∀n,dI P w K mg base fZ n f fd ps (sp n)
 |0=>⟨λvs H Q E h=>(h0 vs H Q E h).elim,λA outer s H args us vs Q E _ _ _ _ h=>(h0 vs H Q E h).elim⟩
 |n+1=>step n (zS F (EK F b m h0 step n) b m)
def mw(w:Str):Str:=if w="none" then"all" else if w="all" then"none" else if w="both" then"either" else if w="either" then"both" else w
mutual
def mir:Tm->Tm
 | .name x=>.name x
 | .node w ts=>.node (mw w) (mirs ts)
def mirs:List Tm->List Tm
 |[]=>[]
 |t::ts=>mir t::mirs ts
end
theorem Sh.mw{w:Str}(h:Sh w n):Sh (mw w) n/\L2.mw (L2.mw w)=w:=by
 rcases h with⟨rfl,h⟩ |⟨rfl,h⟩ |⟨rfl,h⟩ |⟨rfl,h⟩ |⟨rfl,h⟩
 ·exact⟨.inr (.inl ⟨by decide+kernel,h⟩),by decide+kernel⟩
 ·exact⟨.inl ⟨by decide+kernel,h⟩,by decide+kernel⟩
 ·exact⟨.inr (.inr (.inl ⟨by decide+kernel,h⟩)),by decide+kernel⟩
 ·exact⟨.inr (.inr (.inr (.inr ⟨by decide+kernel,h⟩))),by decide+kernel⟩
 ·exact⟨.inr (.inr (.inr (.inl ⟨by decide+kernel,h⟩))),by decide+kernel⟩
theorem vP(x:V)(xs:List V):qM (x::xs) (some 1) none=xs:=by
 unfold qM;have e:HT.sIx (x::xs).length 0 (some ((1:Nat):Int))=1:=by rw[HT.sIx_nat,bF];lia
 have e:HT.sIx (x::xs).length 0 (some 1)=1:=e;rw[e,HT.sIx_none,List.drop_one,List.tail_cons,aQ (by rw[bF];lia)]
theorem qG(x:V)(xs:List V):¬(HT.sIx (x::xs).length 0 (some 1)=0/\HT.sIx (x::xs).length (x::xs).length none=(x::xs).length):=by
 have e:HT.sIx (x::xs).length 0 (some ((1:Nat):Int))=1:=by rw[HT.sIx_nat,bF];lia
 have e:HT.sIx (x::xs).length 0 (some 1)=1:=e;rw[e];lia
theorem TAts.snoc{t:Tm}(ht:ts[i]?=some t)(h:TAts H (ts.take i) vs)(h1:fO H t v):TAts H (ts.take (i+1)) (vs++[v]):=by
 obtain⟨hi,e⟩:=aC.mp ht;rw[aM hi,e];exact TAts.append h (TAts.one h1)
theorem bA.tup{K:W.Frag}{H H':Hp}{a:Addr}{xs:List V}(e:bA H H')(h:dN K H a xs):dN K H' a xs:=by
 rcases h with(h |⟨o,h⟩) |h
 ·exact .inl (.inl (e _ _ h))
 ·exact .inl (.inr ⟨o,e _ _ h⟩)
 ·exact .inr h
theorem lS{x:α}{xs:List α}:oV (x::xs) 0=some x:=yD (j:=0) (xs:=x::xs) rfl
theorem pH{x y:α}{xs:List α}:oV (x::y::xs) 1=some y:=yD (j:=1) (xs:=x::y::xs) rfl
def NL(p:Tm×Tm):Dt:=.tup [HG p.1,HG p.2]
def WK(r:List (Tm×Tm)×(Tm×Tm)):Dt:=.tup [.lst (r.1.map NL),NL r.2]
abbrev oR(H:Hp)(p:Tm×Tm)(v:V):Prop:=eA H (NL p) v
abbrev mP(H:Hp)(ps:List (Tm×Tm))(vs:List V):Prop:=bG H (ps.map NL) vs
abbrev bh(H:Hp)(r:List (Tm×Tm)×(Tm×Tm))(v:V):Prop:=eA H (WK r) v
theorem oR.out{p:Tm×Tm}(h:oR H p v):∃a v1 v2,v=.ref a/\H a=some (.tup [v1,v2])/\fO H p.1 v1/\fO H p.2 v2:=by
 obtain⟨a,vs,e1,e2,u,r,e3,h1,u2,r2,e4,h2,e5⟩:=h;have e5:r2=[]:=e5;subst e5;subst e4;subst e3;exact⟨a,u,u2,e1,e2,h1,h2⟩
theorem bh.out{r:List (Tm×Tm)×(Tm×Tm)}(h:bh H r v):∃a l s vs,v=.ref a/\H a=some (.tup [.ref l,s])/\H l=some (.lst vs)/\mP H r.1 vs/\oR H r.2 s:=by
 obtain⟨a,vs,e1,e2,u,q,e3,⟨l,ws,e6,e7,h1⟩,u2,r2,e4,h2,e5⟩:=h;have e5:r2=[]:=e5;subst e5;subst e4;subst e3;subst e6;exact⟨a,l,u2,ws,e1,e2,e7,h1,h2⟩
theorem mP.length{ps:List (Tm×Tm)}(h:mP H ps vs):vs.length=ps.length:=by
 have :=bG.length h;rw[aE]at this;exact this
theorem mP.snoc{ps:List (Tm×Tm)}{p:Tm×Tm}(ht:ps[i]?=some p)(h:mP H (ps.take i) vs)(h1:oR H p v):mP H (ps.take (i+1)) (vs++[v]):=by
 obtain⟨hi,e⟩:=aC.mp ht;unfold mP;rw[aM hi,e,aU];exact bG.append h (bG.one h1)
theorem mP.getV{ps:List (Tm×Tm)}(h:mP H ps vs)(hv:vs[i]?=some v):∃p,ps[i]?=some p/\oR H p v:=by
 have hi:i<ps.length:=by rw[←h.length];exact(aC.mp hv).1
 obtain⟨u,h1,h2⟩:=bG.get (d:=NL ps[i]) h (by rw[aK,aA hi];rfl);rw[hv]at h1;cases h1;exact⟨_,aA hi,h2⟩
def cutI(ns:List Int)(lo hi:Option Int):List Int:=(ns.drop (HT.sIx ns.length 0 lo)).take (HT.sIx ns.length ns.length hi-HT.sIx ns.length 0 lo)
theorem CK(ns:List Int)(lo hi:Option Int):qM (ns.map V.int) lo hi=(cutI ns lo hi).map V.int:=by
 unfold qM cutI;rw[aE,tE,tF]
section
variable (K:W.Frag)
theorem kI(h:X.K=K:=by rfl):tz X (rIxL K):=by subst h;exact yH
theorem uL(h:X.K=K:=by rfl):tz X (rIxT K):=by subst h;exact zM
theorem NQ(h:X.K=K:=by rfl):qQ X (.builtin "len") (λxs H Q=>pG xs λx=>∃n,jj K x H n/\Q (.int n) H):=by subst h;exact yL
end
abbrev Cs:=List Nat
def glue(j:Cs):List Cs->Cs
 |[]=>[]
 |[s]=>s
 |s::r::q=>s++j++glue j (r::q)
def jAnd:Cs:=[32,38,32]
def jOr:Cs:=[32,124,32]
def jOf(w:Str):Cs:=if w="both" then jAnd else jOr
def wrN(w:Str)(ss:List Cs):Cs:=if w="not" then 33::ss.headD []else if ss=[]then w.cps.toList else 40::(glue (jOf w) ss++[41])
mutual
def wr:Tm->Cs
 | .name x=>x.cps.toList
 | .node w ts=>wrN w (wrs ts)
def wrs:List Tm->List Cs
 |[]=>[]
 |t::ts=>wr t::wrs ts
end
def toS(s:Cs):Str:=⟨s.toArray⟩
section
open PySem.Builtin PySem.Builtin.Str PySem.StrLaws
structure Mark(y:Cs)(k m:Nat):Prop where
 at_:y[k]?=some m
 once:∀j,y[j]?=some m->j=k
def sM(n:Nat)(p:Tm×Tm):Prop:=fM n p.1/\fM n p.2
end
section
open PySem.Builtin PySem.Builtin.Str
structure lC(P:Program)(w:World)(K:W.Frag)(mg:Str->Option Value)(base:Heap)(k:Nat)(C:Addr)(m:Str)(ps:List Str)(sp:Sp):Prop where
 ex:∃f fd,dI P w K mg base fZ k f fd ps sp/\Binds K fd ps []/\pK K C m f
structure am(P:Program)(w:World)(K:W.Frag)(mg:Str->Option Value)(base:Heap)(k:Nat)(C:Addr)(x:Str)(ps:List Str)(sp:Sp):Prop where
 ex:∃f fd,dI P w K mg base fZ k f fd ps sp/\Binds K fd ps []/\Mk K C f/\mg x=some (.ref C)
section
variable {k:Nat} {C:Addr} {x m:Str} {p pos:Pos} {t:TA}
theorem zY{pl:Sem Bool}(h:lC X.prog X.w X.K X.mg X.base k C m ps sp)(c:LN X.K C)(hr:hZ k X.A)(he:PE X o ta)(ha:PA X (e::es) t)
 (hst:starEach (e::es) X.env=(false,eval e X.env)::starEach es X.env:=by rfl) (hpl:(backTo pos (starEach es X.env)).any (·.1)=false:=by rfl)
 (ht:eval (.Call (.Attribute o m lY) (e::es) [] pos) X.env=(do
  let ov ←eval o X.env
  standAt lY.atName
  let (f,first) ←holding [ov] (getMethod ov m pl)
  callWith pos f first (backTo pos (starEach (e::es) X.env)) (backToKw pos (keywordEach [] X.env))):=by rfl):
 PE X (.Call (.Attribute o m lY) (e::es) [] pos) (yV C m sp [] E0 ta t):=by
 obtain⟨f,fd,F,b,mm⟩:=h.ex;exact ef (pl:=pl) he c mm F hr b .nil IP ha hst hpl ht
theorem AO(h:am X.prog X.w X.K X.mg X.base k C x ps sp)(hr:hZ (k+1) X.A)(hg:Gl X x)(ha:PA X (e::es) t)(hdb:(x==("__debug__":Str))=false:=by decide)
 (he:starEach (e::es) X.env=(false,eval e X.env)::starEach es X.env:=by rfl) (hpl:(backTo pos (starEach es X.env)).any (·.1)=false:=by rfl):
 PE X (.Call (.Name x p) (e::es) [] pos) (HM C sp [] E0 t):=by
 obtain⟨f,fd,F,b,M,m⟩:=h.ex;exact eg M F hr hg m b .nil IP ha hdb he hpl
end
def rdF(x:Cs)(k:Nat):List (Str×V):=[("text",.str (toS x)),("at",.int k)]
def RdAt(C:Addr)(H:Hp)(r:Addr)(x:Cs)(k:Nat):Prop:=∃dx,H r=some (.ins C dx (rdF x k))
def fL(r:Addr)(H H':Hp):Prop:=∀b o,H b=some o->b≠r->H' b=some o
theorem fL.refl(r:Addr)(H:Hp):fL r H H:=λ_ _ h _=>h
theorem fL.trans{H1 H2:Hp}(a:fL r H H1)(b:fL r H1 H2):fL r H H2:=λc o h n=>b c o (a c o h n) n
theorem bA.x(a:bA H H'):fL r H H':=λc o h _=>a c o h
theorem fL.upd{H1:Hp}{o:HO}(a:fL r H H1):fL r H (L2.upd H1 r o):=λc o' h n=>by
 rw[zJ n];exact a c o' h n
theorem fL.tups{C:Addr}{x:Cs}{k:Nat}(a:fL r H H')(h:RdAt C H r x k):cT H H':=λb xs e=>by
 obtain⟨dx,h⟩:=h;exact a b _ e (jK e h (by intro z;cases z))
theorem F.lk_list_keys:typeLookup (.type "list") "keys"=pure none:=by rw[typeLookup_type,bn];kernel_rfl
theorem F.lk_list_ga:typeLookup (.type "list") "__getattr__"=pure none:=by rw[typeLookup_type,bn];kernel_rfl
theorem F.sub_ae:isSubtype (.type "AttributeError") (.type "AttributeError")=pure true:=by rw[isSubtype_type];kernel_rfl
def jq(h h':Heap)(e:Addr):Prop:=(∀b u,h.get? b=some u->h'.get? b=some u)/\∃o,h'.get? e=some o/\o.cls=.type "AttributeError"
section
variable {its:Array Value} {sl:Array (Option Value)}
theorem MH{o:Value}{name msg:Str}{Q:α->Shared->Prop}(hA:A.handled=none)(hm:msg.length<=sizeLine)
 (hq:∀h' t' e,jq s.heap h' e->E (.ref e) {s with heap:=h',toks:=t'}):wpAny (model prog w) A (raiseAttrError o name msg:Sem α) Q E s:=by
 unfold raiseAttrError;refine aF (wpAny_mkStr (aF ?_) hm);unfold newExc newTuple;refine aF (eO ?_ (by size_fits));refine aF (m:=firstArgMember _ _) (wpAny_of_eq (a:=Value.none) (by
  simp only[firstArgMember];rw[show((Manifest.find? "AttributeError").elim false λt=>t.mro.contains "StopIteration" ||t.mro.contains "SystemExit")=false by decide+kernel];rfl) ?_)
 refine eO ?_ (by size_fits);refine aF (wpAny_mkText ?_);refine aF ?_;obtain⟨h,g,d,t,os⟩:=s;dsimp only at hq⊢;have hk1:∀b u,h.get? b=some u->(h.push {cls:=Value.type "tuple",data:=Data.seq #[Value.str msg t]}).get? b=some u:=λb u e=>aP _ e
 generalize h.push {cls:=Value.type "tuple",data:=Data.seq #[Value.str msg t]}=h1 at hk1⊢;have hE:=bX h1 (o:={cls:=Value.type "AttributeError",data:=Data.fields (#[Value.ref h.objs.size,Value.none,Value.none,Value.none,Value.bool false,Value.none]++ownMembersOf (Value.type "AttributeError") [Value.str msg t])}) rfl;have hk2:∀b u,h1.get? b=some u->(h1.push {cls:=Value.type "AttributeError",data:=Data.fields (#[Value.ref h.objs.size,Value.none,Value.none,Value.none,Value.bool false,Value.none]++ownMembersOf (Value.type "AttributeError") [Value.str msg t])}).get? b=some u:=λb u e=>aP _ e
 have lU:∀b u,h1.get? b=some u->b≠h1.objs.size:=λb u e=>bW (bD e)
 generalize h1.push {cls:=Value.type "AttributeError",data:=Data.fields (#[Value.ref h.objs.size,Value.none,Value.none,Value.none,Value.bool false,Value.none]++ownMembersOf (Value.type "AttributeError") [Value.str msg t])}=h2 at hE hk2⊢;generalize h1.objs.size=e at hE lU⊢;have hT:(⟨h2,g,d,t+1+1,os⟩:Shared).TypeIs (.ref e) "AttributeError":=⟨_,hE,rfl⟩
 have f1:=F.sub_ae;unfold noteAttr;dsimp only;refine aF ?_;unfold lacksNameAndObj;dsimp only;refine aF (wpAny_isInstance hT f1 ?_);rw[aH (by decide)];refine aF (wpAny_load hE ?_);dsimp only;rw[aH (by simp[ownMembersOf,unsetMember,rawInt]),aH (by simp[ownMembersOf,unsetMember,doubtfulMember,rawInt])];refine aS ?_;rw[aL rfl];refine aF (iP ?_);refine aF (lV hT ?_);dsimp only;unfold layMembers;refine aF (wpAny_load hE ?_);dsimp only;refine wpAny_update hE ?_;refine wpAny_raiseNew_none hA (hq _ _ _ ⟨λb u hb=>?_,⟨_,nY _ hE (Obj.isFreed_of_fields (ar rfl _)),Obj.cls_mapFields _ _⟩⟩);exact(nI _ _ (cH (lU b u (hk1 b u hb)))).trans (hk2 b u (hk1 b u hb))
end
section
variable {g:Array GenState} {d:Drawn} {t:Nat} {os:OsState} {its:Array Value} {sl:Array (Option Value)}
theorem UW{tk:Tok}{Q:PySem.Fin->Shared->Prop}(hA:A.handled=none)(hx:h.get? a=some ⟨.type "list",none,.seq its n,sl⟩)
 (hq:∀h' t' e,jq h h' e->E (.ref e) ⟨h',g,d,t',os⟩):
 wpAny (model prog w) A (Builtin.«object.__getattribute__» ⟨[.ref a,.str "keys" tk],[]⟩) Q E ⟨h,g,d,t,os⟩:=by
 have hT:(⟨h,g,d,t,os⟩:Shared).TypeIs (.ref a) "list":=⟨_,hx,rfl⟩
 have f4:=F.lk_list_keys
 repeat (any_goals (first |assumption |wp_step))
 exact MH hA (by decide+kernel) hq
theorem BN{tk:Tok}(hA:A.handled=none)(hx:h.get? a=some ⟨.type "list",none,.seq its n,sl⟩)
 (hq:∀h' t' e,jq h h' e->R (.error (.ref e)) ⟨h',g,d,t',os⟩):
 codeAny (model prog w) A (.call (.builtin "list.__getattribute__") ⟨[.ref a,.str "keys" tk],[]⟩) R ⟨h,g,d,t,os⟩:=
 codeAny_call_builtin hW.plain F.entry_list_ga (hW.check _ _ _ _ _ _ _ _ (show(⟨h,g,d,t,os⟩:Shared).TypeIs (.ref a) "list" from⟨_,hx,rfl⟩) (F.args_list_getattribute_2 _ _) (UW hA hx hq))
theorem MV{tk:Tok}(hA:A.handled=none)(hx:h.get? a=some ⟨.type "list",none,.seq its n,sl⟩)
 (hq:∀h' t' e,jq h h' e->E (.ref e) ⟨h',g,d,t',os⟩):wpAny (model prog w) A (getAttrBy (.ref a) (.str "keys" tk) false) Q E ⟨h,g,d,t,os⟩:=by
 have hT:(⟨h,g,d,t,os⟩:Shared).TypeIs (.ref a) "list":=⟨_,hx,rfl⟩
 have f2:=hW.lookup;have f3:=hW.bind (.ref a);have f5:=F.lk_list_ga;have f6:=F.sub_ae
 repeat (any_goals (first |assumption |wp_step))
 refine BN hA hx λh' t' e ae=>?_
 have hT2:(⟨h',g,d,t',os⟩:Shared).TypeIs (.ref e) "AttributeError":=ae.2
 repeat (any_goals (first |assumption |exact hq _ _ _ ae |wp_step))
theorem TC{Q:Option Value->Shared->Prop}(hA:A.handled=none)(hx:h.get? a=some ⟨.type "list",none,.seq its n,sl⟩)
 (hq:∀h' t',(∀b u,h.get? b=some u->h'.get? b=some u)->Q none ⟨h',g,d,t',os⟩):wpAny (model prog w) A (getAttr? (.ref a) "keys") Q E ⟨h,g,d,t,os⟩:=by
 unfold getAttr? getAttrBy?;refine aF (wpAny_mkText (aF (OH (MV hA hx λh' t' e ae=>?_))));dsimp only;have hT2:(⟨h',g,d,t',os⟩:Shared).TypeIs (.ref e) "AttributeError":=ae.2;refine aF (wpAny_isInstance hT2 F.sub_ae ?_);rw[aL rfl];exact aS (hq _ _ ae.1)
end
theorem F.plain_dul:plainId "dict.update.loop"=true:=by decide+kernel
theorem F.entry_dul:entryFor table "dict.update.loop"=some Builtin.«dict.update.loop»:=entryFor_of_tree (by kernel_rfl)
section
variable {Kt:Type} [DecidableEq Kt] {knd:KeyKind prog w Kt}
theorem tT{kvs:List (Kt×Value)}(hn:(kvs.map (·.1)).Nodup){k:Kt}{v:Value}(h:kvs[i]?=some (k,v)):stored (kvs.take i) k v=kvs.take (i+1):=by
 obtain⟨il,ie⟩:=aC.mp h;have hno:(kvs.take i).any (λkv=>kv.1=k)=false:=by
  rw[dS];intro z;obtain⟨x,hx,hk⟩:=eV.mp z;have hk:x.1=k:=by simpa using hk
  obtain⟨j,hj,e⟩:=dJ hx;rw[bU]at hj;rw[HC]at e;exact dM.mp hn j i (by rw[aE];lia) (by rw[aE];lia) () (by simp[e,ie,hk])
 unfold stored;rw[hno,aM il,ie];rfl
theorem ES{its:Array Value}{kvs:List (Kt×Value)}{h0:Heap}(hA:A.handled=none)(hdi:d≠it)(hl:h0.IsList l its)(hd0:∀u,h0.get? d≠some u)(hi0:∀u,h0.get? it≠some u)
 (hn:(kvs.map (·.1)).Nodup) (hsz:kvs.length<=sizeLine) (eQ:its.size=kvs.length) (hp:∀(i:Nat)(k:Kt)(v:Value),kvs[i]?=some (k,v)->∃(a:Addr)(key:Value),its[i]?=some (Value.ref a)/\IsTup h0 a #[key,v]/\knd.is k key=true):
 ∀(m i:Nat)(t:Tok)(s:Shared),kvs.length-i=m->i<=kvs.length->s.heap.IsListIter it l i->s.heap.DictOf knd d (kvs.take i)->(∀b u,h0.get? b=some u->s.heap.get? b=some u)->
 (∀h' t',(∀b u,h0.get? b=some u->h'.get? b=some u)->h'.DictOf knd d kvs->R (.ok (.ret .none)) {s with heap:=h',toks:=t'})->
 codeAny (model prog w) A (.builtin "dict.update.loop" ⟨[.ref d,.ref it,.int i t,.none],[]⟩) R s:=by
 intro m
 induction m with
 |zero=>
  intro i t s hm hi hit hd hk hR;have hin:i=kvs.length:=by lia
  subst hin;have fG:s.heap.IsList l its:=by obtain⟨o,ho,r⟩:=hl;exact⟨o,hk _ _ ho,r⟩
  refine sZ F.entry_dul ?_;rw[oO F.plain_dul _];show wpAny _ A.in1 (pyNext (.ref it) >>= _) _ _ s;refine aF (DL (A:=A.in1) hA hit fG (by rw[jv];lia) λh' he=>?_);rw[aQ (aG _)]at hd;show wpAny _ A.in1 (Builtin.Dict.addKeywords d [] >>= _) _ _ _;refine aF (aS (aS (hR h' s.toks (λb u hb=>he b u (λz=>hi0 u (by rw[←z];exact hb)) (hk b u hb)) (hd.extBut he hdi))))
 |succ m ih=>
  intro i t s hm hi hit hd hk hR;have iY:i<kvs.length:=by lia
  have fG:s.heap.IsList l its:=by obtain⟨o,ho,r⟩:=hl;exact⟨o,hk _ _ ho,r⟩
  obtain⟨a,key,ha,ht,hkey⟩:=hp i kvs[i].1 kvs[i].2 (aA iY);refine sZ F.entry_dul ?_;rw[oO F.plain_dul _];show wpAny _ A.in1 (pyNext (.ref it) >>= _) _ _ s;refine aF (sP (A:=A.in1) hit fG ha λh1 hit1 hs1=>?_);have hk1:∀b u,h0.get? b=some u->h1.get? b=some u:=λb u hb=>(hs1.2 b (λz=>hi0 u (by rw[←z];exact hb))).trans (hk b u hb)
  have hd1:h1.DictOf knd d (kvs.take i):=hd.sameBut hs1 hdi;obtain⟨ot,hot,hct,nt,hdt⟩:=ht;have hot1:=hk1 _ _ hot;have hT:({s with heap:=h1}:Shared).TypeIs (.ref a) "tuple":=⟨_,hot1,hct⟩
  refine aF (eS (aF ?_));refine wpAny_tryCatch ?_;unfold Builtin.Dict.pairItems;refine aF (lV hT ?_);rw[aL (by decide)];refine aF (wpAny_seqItems hot1 hdt (aS ?_));refine eS (wpAny_dictSet_pairs (kvs:=kvs.take i) hkey hd1 (λh2 hd2 hs2=>?_) (by rw[bU];lia));rw[tT hn (show kvs[i]?=some (kvs[i].1,kvs[i].2)from aA iY)]at hd2;refine aS ⟨OI F.plain_dul _,?_⟩;have hk2:∀b u,h0.get? b=some u->h2.get? b=some u:=λb u hb=>(hs2.2 b (λz=>hd0 u (by rw[←z];exact hb))).trans (hk1 b u hb)
  have hit2:h2.IsListIter it l (i+1):=by obtain⟨o,ho,r⟩:=hit1;exact⟨o,(hs2.2 _ (cH hdi)).trans ho,r⟩
  exact ih (i+1) _ {s with heap:=h2,toks:=s.toks+1} () iY hit2 hd2 hk2 hR
theorem YA{its:Array Value}{kvs:List (Kt×Value)}(hA:A.handled=none)(hl:PlainL s.heap l its)
 (hn:(kvs.map (·.1)).Nodup) (hsz:kvs.length<=sizeLine) (eQ:its.size=kvs.length) (hp:∀(i:Nat)(k:Kt)(v:Value),kvs[i]?=some (k,v)->∃(a:Addr)(key:Value),its[i]?=some (Value.ref a)/\IsTup s.heap a #[key,v]/\knd.is k key=true)
 (h:∀h' t',(∀b u,s.heap.get? b=some u->h'.get? b=some u)->h'.DictOf knd s.heap.objs.size kvs->Q (.ref s.heap.objs.size) {s with heap:=h',toks:=t'}):
 wpAny (model prog w) A (call (.type "dict") [.ref l]) Q E s:=by
 refine callType_codes (Q₁:=λobj s₁=>obj=.ref s.heap.objs.size/\s₁={s with heap:=s.heap.push {cls:=.type "dict",data:=.dict #[]}}) F.kt_called_dict (ju _) F.entry_dict_init (kt_code_dict_new _ ⟨rfl,rfl⟩) ?_;rintro obj s₁ ⟨rfl,rfl⟩;have hnew:(s.heap.push {cls:=.type "dict",data:=.dict #[]}).DictOf knd s.heap.objs.size []:=Heap.DictOf.new s.heap;refine⟨hnew.typeIs,F.args_dict_init_2 _ _,?_⟩;obtain⟨ol,nl,hol,hlc,hld,hls⟩:=hl;have hol1:(s.heap.push {cls:=.type "dict",data:=.dict #[]}).get? l=some ol:=aP _ hol;have hT:({s with heap:=s.heap.push {cls:=.type "dict",data:=.dict #[]}}:Shared).TypeIs (.ref l) "list":=⟨_,hol1,hlc⟩
 unfold Builtin.«dict.__init__»;refine aF ?_;unfold Builtin.Dict.selfAndRest;refine aF (nW hnew.typeIs ?_);show wpAny _ _ (pure (s.heap.objs.size,[Value.ref l])) _ _ _;refine aS ?_;show wpAny _ _ (Builtin.Dict.updateFrom "dict.__init__" s.heap.objs.size (.ref l) [] .none) _ _ _;unfold Builtin.Dict.updateFrom;refine aF (lV hT ?_);rw[aL (by decide)];have hkd:∀b u,s.heap.get? b=some u->(s.heap.push {cls:=.type "dict",data:=.dict #[]}).get? b=some u:=λb u e=>aP _ e
 have hd0:∀u,s.heap.get? s.heap.objs.size≠some u:=λu z=>dY _ (bD z)
 obtain⟨hp0,g,d,t,os⟩:=s;dsimp only at *;generalize hp0.push {cls:=.type "dict",data:=.dict #[]}=h1 at hnew hol1 hT hkd⊢;generalize hp0.objs.size=D at hnew hd0 h⊢;obtain⟨c1,c2,c3,c4⟩:=ol;dsimp only at hlc hld hls;subst hlc hld hls;refine aF (TC (A:=A.in1.in1) hA hol1 λh2 t2 hk2=>?_);rw[aL (by rfl)];refine aF (iP ?_);have hl2:h2.IsList l its:=⟨_,hk2 _ _ hol1,rfl,_,rfl⟩
 refine aF (rD hl2 ?_);refine aS ⟨OI F.plain_dul _,?_⟩;have hd2:=hnew.keep hk2;have hit0:∀u,hp0.get? h2.objs.size≠some u:=λu z=>dY _ (bD (hk2 _ _ (hkd _ _ z)))
 have hDi:D≠h2.objs.size:=λz=>by
  obtain⟨o,_,_,ho,_⟩:=hd2;exact dY _ (by have :=bD ho;rw[z]at this;exact this)
 refine ES (h0:=hp0) (kvs:=kvs) (A:=A.in1) hA hDi ⟨_,hol,rfl,_,rfl⟩ hd0 hit0 hn hsz eQ hp kvs.length 0 _ _ () (cG _) ⟨_,bX _ rfl,rfl,rfl⟩ (hd2.push _) (λb u hb=>aP _ (hk2 _ _ (hkd _ _ hb))) λh' t' hk' hd'=>?_
 exact⟨rfl,h h' t' hk' hd'⟩
end
def RO(K:W.Frag):V->List V->Hp->VK->Prop:=λx vs H Q=>∃(l:Addr)(zs:List Str)(z:Str)(j:Nat),x=.ref l/\vs=[.str z]/\H l=some (.lst (zs.map V.str))/\zs.length<=1000000/\zs[j]?=some z/\(∀m:Nat,m<j->zs[m]?≠some z)/\Q (.int j) H
def isS(z:Str):Value->Bool
 | .str y _=>y==z
 |_=>false
theorem TJ:MtM X "list.index" (RO X.K):=by
 intro aJ s σ H x vs v us Q I rx rv h;obtain⟨l,zs,z,j,rfl,rfl,hH,h6,hj,hno,q⟩:=h;cases rx;obtain⟨u,rfl,ru⟩:=rv.one;obtain⟨t,rfl⟩:=ru;obtain⟨hz,its,n,r,hl,e⟩:=I.lstM hH;rw[aE]at hl;obtain⟨jl,je⟩:=aC.mp hj;have at_:∀m (hm:m<its.length),∃tk,its[m]=.str (zs[m]'()) tk:=λm hm=>by
  obtain⟨u,h1,h2⟩:=r.get (i:=m) (x:=V.str (zs[m]'())) (by rw[aK,aA ()];rfl);obtain⟨tk,h2⟩:=h2;rw[aA hm]at h1;cases h1;exact⟨tk,h2⟩
 have hj':j<its.toArray.size:=by rw[aR];lia
 have M:=PySem.SeqAt.list_indexAt l its.toArray n none #[] (.str z t) (isS z) j hj' () (by
  obtain⟨tk,h⟩:=at_ j ();rw[eU,h,je];simp[isS]) (λm hm iY=>by
  obtain⟨tk,h⟩:=at_ m ();rw[eU,h];have :=hno m iY;rw[aA ()]at this;simpa[isS]using this)
 refine sR F.slot_list_index ⟨_,e,rfl⟩ F.entry_list_index (F.args_list_index_2 _ _) M ⟨e,λy hy=>?_,?_⟩
 ·obtain⟨m,hm,rfl⟩:=dJ (show y∈its by simpa using hy);obtain⟨tk,h⟩:=at_ m hm;rw[h];exact PySem.SeqAt.EqAt.str_str _ _ _ _
 ·exact⟨.int j,H,I.tok _,⟨_,rfl⟩,q⟩
theorem AT{P:Program}{w:World}{h:Heap}:∀(kvs:List (eI×V))(as:List Addr),(∀(i:Nat)(k:eI)(v:V),kvs[i]?=some (k,v)->∃a its,as[i]?=some a/\dD [kV k,v] its/\IsTup h a its.toArray)->
 ∃vs:List (eI×Value),KV kvs vs/\∀(i:Nat)(k:eI)(v:Value),vs[i]?=some (k,v)->∃(a:Addr)(key:Value),as[i]?=some a/\IsTup h a #[key,v]/\(yB P w).is k key=true
 |[],as,_=>⟨[],.nil,λi k v e=>by simp at e⟩
 |(k,v)::kvs,as,hh=>by
  obtain⟨a,its,h1,h2,h3⟩:=hh 0 k v rfl;cases as with
  |nil=>simp at h1
  |cons a0 as=>
   simp at h1;subst h1;obtain⟨ku,vu,rfl,rk,rv⟩:=h2.two;obtain⟨vs,g1,g2⟩:=AT (P:=P) (w:=w) kvs as λi k v e=>by
    obtain⟨a,its,e1,e2⟩:=hh (i+1) k v (by simpa using e);exact⟨a,its,by simpa using e1,e2⟩
   refine⟨(k,vu)::vs,.cons ⟨rfl,rv⟩ g1,λi k' v' e=>?_⟩;cases i with
   |zero=>
    simp at e;obtain⟨rfl,rfl⟩:=e;exact⟨a0,ku,rfl,h3,ZQ rk⟩
   |succ i=>
    obtain⟨a,key,e1,e2⟩:=g2 i k' v' (by simpa using e);exact⟨a,key,by simpa using e1,e2⟩
theorem YL{κ:Type}:∀{kvs:List (κ×V)}{vs:List (κ×Value)},KV kvs vs->vs.map (·.1)=kvs.map (·.1)
 |_,_,.nil=>rfl
 |_,_,.cons h r=>by rw[cF,cF,YL r,h.1]
theorem JF:qQ X (.type "dict") (λxs H Q=>bb X.calm (pG xs λx=>mN x λp=>∃as:List Addr,dL X.K H p (as.map V.ref)/\∃kvs:List (eI×V),as.length=kvs.length/\(kvs.map (·.1)).Nodup/\
 (∀(i:Nat)(k:eI)(v:V),kvs[i]?=some (k,v)->∃a,as[i]?=some a/\dN X.K H a [kV k,v])/\∀l,H l=none->Q (.ref l) (upd H l (.dK kvs)))):=by
 intro aJ s σ H xs us Q I r h;replace h:=DF h;obtain⟨hc,h⟩:=h;replace h:=wE h;obtain⟨x0,rfl,h⟩:=h;replace h:=xI h;obtain⟨p,rfl,as,hp,kvs,eQ,hn,hk,q⟩:=h;obtain⟨u,rfl,ru⟩:=uP r;cases ru;obtain⟨its,rv,hl,hz⟩:=I.list hp;have hil:=rv.length;rw[aE]at hil hz;obtain⟨vs,g1,g2⟩:=AT (P:=X.prog) (w:=X.w) (h:=s.heap) kvs as λi k v e=>by
  obtain⟨a,e1,e2⟩:=hk i k v e;obtain⟨its,r2,t2,_⟩:=I.tuple e2;exact⟨a,its,e1,r2,t2⟩
 have hvl:kvs.length=vs.length:=eT g1;refine YA (knd:=yB X.prog X.w) (kvs:=vs) (I.ok.hd hc) hl (by rw[YL g1];exact hn) () (by rw[aR];lia) (λi k v e=>?_) λh' t' hk' hd'=>?_
 ·obtain⟨a,key,e1,e2,e3⟩:=g2 i k v e;obtain⟨u,h1,h2⟩:=rv.get (i:=i) (x:=V.ref a) (by rw[aK,e1];rfl);cases h2;exact⟨a,key,by simpa using h1,e2,e3⟩
 ·exact⟨.ref s.heap.objs.size,_,I.laid (a:=s.heap.objs.size) (o:=.dK kvs) (t':=t') hk' (aG _) (GF () (cV.mpr (cH (bW I.big))) g1 hd'),rfl,q _ (I.hok.fresh (aG _))⟩
end
section
open PySem.W
section
variable {P:Nat->Value->Prop} {OK:Heap->Prop}
theorem HQ:∀{vs:List Value}{ss:List Str},vs.length=ss.length->(∀(i:Nat)(v:Value)(x:Str),vs[i]?=some v->ss[i]?=some x->∃t,v=.str x t)->StrsAre vs ss
 |[],[],_,_=>.nil
 |[],_::_,h,_=>by simp at h
 |_::_,[],h,_=>by simp at h
 |v::vs,x::ss,h,hh=>by
  obtain⟨t,rfl⟩:=hh 0 v x rfl rfl;exact .cons x t (HQ (by simpa using h) λi v' x' h1 h2=>hh (i+1) v' x' (by simpa using h1) (by simpa using h2))
theorem JV:∀{vs:List Value}{ss:List Str},StrsAre vs ss->dD (ss.map V.str) vs
 |_,_,.nil=>.nil
 |_,_,.cons y t h=>.cons ⟨t,rfl⟩ (JV h)
theorem EC(K:KdlSrc prog w T r d n P OK)(hh:A.handled=none)(hok:OK s.heap)(hn:n<64){ss:List Str}(hl:ss.length=n)(hP:∀(i:Nat)(v:Value)(x:Str),P i v->ss[i]?=some x->∃t,v=.str x t)
 (h:∀(h1 h':Heap)(tk:Nat)(iH:List Value)(ss':List Str)(e:Nat),(∀b o,s.heap.get? b=some o->h1.get? b=some o)->(∀b o,h1.get? b=some o->h'.get? b=some o)->h'.get? h1.objs.size=some {cls:=.type "list",data:=.seq iH.toArray e}->StrsAre iH ss'->ss'.Perm ss->sortedS ss'=true->Q (.ref h1.objs.size) {s with heap:=h',toks:=tk}):
 wpAny (model prog w) A (call (.builtin "sorted") [.ref r]) Q E s:=by
 have hs:sizeLine=16777216:=dG;refine pY kind_sorted plain_sorted entry_sorted (args_sorted1 _) ?_;unfold Builtin.«sorted»;refine aF (m:=checkCount "sorted" 1 1 _) (aS ?_);refine aF (kdu_collect (A:=A.in1) K hh hok () λh' tk acc hk hacc=>?_);have hl2:acc.toList.length=n:=by rw[bV];exact hacc.1
 have hS:StrsAre acc.toList ss:=HQ () λi v x h1 h2=>hP i v x (hacc.2 i v (by rw[←dA];exact h1)) h2
 generalize acc.toList=vs at hl2 hS;refine aF (rJ ?_ ());have hoL:(h'.push (seqObj "list" vs.toArray 0)).get? h'.objs.size=some (seqObj "list" vs.toArray 0):=bX _ rfl;show wpAny _ _ _ _ _ {s with heap:=h'.push (seqObj "list" vs.toArray 0),toks:=tk};refine aF (eS (gF slot_list_sort ⟨_,hoL,rfl⟩ entry_list_sort (list_sort_treeK (A:=A.in1.in1) strKind_oneLt hoL hS.keysOf (λv₁ v₂ rest e=>keyKind_strs (by rw[←e];exact hS)) () λcQ a1 a2=>⟨_,rfl,?_⟩) (args_list_sort _)));obtain⟨ss',h1,h2,h3⟩:=sorted_out_str hS a1 a2;obtain⟨e,he⟩:=sortedHeap_at (out:=(arrOf cQ).map (·.2)) hoL;refine aS ⟨_,rfl,h h' _ tk _ ss' e hk (λb o hb'=>?_) (by rw[sD];exact he) h1 h2 h3⟩;have iY:=bD hb';rw[sortedHeap_old (bW iY) (by rw[size_push'];exact gO iY)];exact aP _ hb'
end
theorem VP:qQ X (.builtin "sorted") (λxs H Q=>bb X.calm (pG xs λx=>mN x λp=>∃kvs:List (eI×V),H p=some (.dK kvs)/\∃zs:List Str,kvs.map (·.1)=zs.map Sum.inr/\zs.length<64/\
 ∀l zs',H l=none->zs'.Perm zs->sortedS zs'=true->Q (.ref l) (upd H l (.lst (zs'.map V.str))))):=by
 intro aJ s σ H xs us Q I r h;replace h:=DF h;obtain⟨hc,h⟩:=h;replace h:=wE h;obtain⟨x0,rfl,h⟩:=h;replace h:=xI h;obtain⟨p,rfl,kvs,hp,zs,hk,h64,q⟩:=h;obtain⟨u,rfl,ru⟩:=uP r;cases ru;obtain⟨z,hd,vs,mU,dd⟩:=kN I.hok (.inl hp);obtain⟨ep,hat⟩:=dd.dictAt;have hvl:kvs.length=vs.length:=eT mU;have hkl:kvs.length=zs.length:=by have :=dH List.length hk;rwa[aE,aE]at this
 have hkeys:vs.map (·.1)=zs.map Sum.inr:=(YL mU).trans hk;refine EC (kdl_dict (knd:=yB X.prog X.w) (kvs:=vs) (ep:=ep) hd) (I.ok.hd hc) hat () (ss:=zs) () (λi v x hP hx=>?_) λh1 h' tk iH ss' e k1 k2 hB hS lX hs2=>?_
 ·obtain⟨k,y,h1,h2⟩:=hP;have e1:(vs.map (·.1))[i]?=some k:=by rw[aK,h1];rfl
  rw[hkeys,aK,hx]at e1;cases e1;have h2:ZP (.inr x) v=true:=h2;rcases yR h2 with⟨_,_,e,_⟩ |⟨x',t,e,e2⟩
  ·cases e
  ·cases e;exact⟨t,e2⟩
 ·have I1:Inv X aJ σ H {s with heap:=h1,toks:=tk}:=I.kept k1;have eQ:ss'.length=zs.length:=lX.length_eq;exact⟨.ref h1.objs.size,_,I1.laid (a:=h1.objs.size) (o:=.lst (ss'.map V.str)) (t':=tk) k2 (aG _) ⟨by rw[aE,dG];lia,iH,e,JV hS,hB⟩,rfl,q _ _ (I1.hok.fresh (aG _)) lX hs2⟩
theorem GC(l:Addr)(dF:Array Value)(n:Nat)(b:Addr)(dd:Option Addr)(sl:Array (Option Value))(items2:Array Value)(n2:Nat)(hs0:¬(!dF.isEmpty&&Builtin.List.listTooLong (dF.size+items2.size))=true)(hs1:dF.size<=sizeLine)(hs2:dF.size+items2.size<=sizeLine+1):
 Meets (Builtin.«list.extend» ⟨[.ref l,.ref b],[]⟩) (λ_ R s=>s.heap.get? l=some {cls:=.type "list",dict:=none,data:=.seq dF n,slots:= #[]}/\s.heap.get? b=some ⟨.type "tuple",dd,.seq items2 n2,sl⟩/\R (.ok (.ret Value.none)) {s with heap:=s.heap.update l (Obj.mapSeq λx=>x++items2),toks:=s.toks}):=
 .of_wp λprog w A R s h=>by
  obtain⟨hp,g,d,tk,os⟩:=s;obtain⟨hl,hb,h⟩:=h;have f2:=PySem.AutoSeq1.sub_tuple_tuple;have f4:=PySem.AutoSeq1.sub_tuple_list;have hz':(dF++items2).size<=sizeLine+1:=by rw[Array.size_append];exact hs2
  wp_walk using(wpAny_updateSeq hl rfl (hz:=hs1) (_hz':=hz')),NX hl,NX hb
  exact⟨_,rfl,h⟩
def wY(K:W.Frag):V->List V->Hp->VK->Prop:=λx vs H Q=>mN x λl=>pG vs λz=>mN z λb=>∃xs,H l=some (.lst xs)/\∃zs,dN K H b zs/\xs.length+zs.length<=sizeLine/\Q .non (upd H l (.lst (xs++zs)))
theorem wM:MtM X "list.extend" (wY X.K):=by
 intro aJ s σ H x vs v us Q I rx rv h;replace h:=xI h;obtain⟨l,rfl,h⟩:=h;replace h:=wE h;obtain⟨x,rfl,h⟩:=h;replace h:=xI h;obtain⟨b,rfl,xs,hH,zs,hB,hz,q⟩:=h;cases rx;obtain⟨u,rfl,ru⟩:=rv.one;cases ru;obtain⟨z,its,n,r,hl,e⟩:=I.lstM hH;obtain⟨its2,r2,⟨o2,e2,c2,n2,d2⟩,z2⟩:=I.tuple hB;obtain⟨k1,k2,k3,k4⟩:=o2;dsimp only at c2 d2;subst c2 d2;have hl2:=r2.length;have hsz:its.toArray.size+its2.toArray.size<=sizeLine:=by rw[aR,aR];lia
 have hlong:¬(!its.toArray.isEmpty&&Builtin.List.listTooLong (its.toArray.size+its2.toArray.size))=true:=by
  rw[XT hsz,oM];exact bQ
 refine sR gU ⟨_,e,rfl⟩ F.entry_list_extend (F.args_list_extend_2 _ _)
  (GC l its.toArray n b k2 k4 its2.toArray n2 hlong (by rw[aR];lia) ()) ⟨e,e2,?_⟩
 refine⟨.non,_,I.lset (its':=its++its2) hH e (by simp) (r.append r2) ?_,rfl,q⟩;rw[aI];lia
end
section
variable {I:Addr} {wr:List Addr} {P:Nat->Value->Prop} {St:Nat->Shared->Prop}
end
section
open PySem.SeqAt
mutual
def eR:Dt->Dt->Bool
 | .non,.non=>true
 | .bl a,.bl b=>a==b
 | .int a,.int b=>a==b
 | .bl a,.int b=>(if a then 1 else 0)==b
 | .int a,.bl b=>a==(if b then 1 else 0)
 | .str a,.str b=>a==b
 | .tup xs,.tup ys=>kO xs ys
 | .lst xs,.lst ys=>kO xs ys
 |_,_=>false
def kO:List Dt->List Dt->Bool
 |[],[]=>true
 |x::xs,y::ys=>eR x y&&kO xs ys
 |_,_=>false
end
mutual
theorem xU:∀d:Dt,eR d d=true
 | .non=>rfl
 | .bl a=>by simp[eR]
 | .int a=>by simp[eR]
 | .str a=>by simp[eR]
 | .tup ds=>by rw[eR];exact ZG ds
 | .lst ds=>by rw[eR];exact ZG ds
theorem ZG:∀ds:List Dt,kO ds ds=true
 |[]=>rfl
 |d::ds=>by rw[kO,xU d,ZG ds];rfl
end
def GD(xs ys:List Dt)(j:Nat):Bool:=
 match xs[j]?,ys[j]? with
 |some x,some y=>eR x y
 |_,_=>false
theorem vO:∀xs ys:List Dt,((List.range (min xs.length ys.length)).all (GD xs ys)&&xs.length==ys.length)=kO xs ys
 |[],[]=>rfl
 |[],y::ys=>by simp[kO]
 |x::xs,[]=>by simp[kO]
 |x::xs,y::ys=>by
  rw[kO,←vO xs ys,bF,bF,Nat.succ_min_succ,List.range_succ_eq_map,tH,oE];have e1:GD (x::xs) (y::ys) 0=eR x y:=rfl;have e2:GD (x::xs) (y::ys) ∘ Nat.succ=GD xs ys:=by funext j;simp[GD]
  rw[e1,e2,Bool.and_assoc]
  congr 2
  rw[cD];simp
mutual
theorem eA.one_of{H:Hp}:∀{d d':Dt}{v:V},eA H d v->eA H d' v->d=d'
 |d,.non,v,h,h'=>by have h':v=.non:=h';subst h';cases d<;>simp_all [eA]
 |d,.bl b,v,h,h'=>by have h':v=.bl b:=h';subst h';cases d<;>simp_all [eA]
 |d,.int b,v,h,h'=>by have h':v=.int b:=h';subst h';cases d<;>simp_all [eA]
 |d,.str b,v,h,h'=>by have h':v=.str b:=h';subst h';cases d<;>simp_all [eA]
 |d,.tup iJ,v,h,h'=>by
  obtain⟨a,vs,rfl,e2,e3⟩:=h';cases d with
  |tup ds=>
   obtain⟨a',iH,e1',e2',e3'⟩:=h;cases e1';rw[e2]at e2';cases e2';rw[bG.one_of e3' e3]
  |lst ds=>
   obtain⟨a',iH,e1',e2',e3'⟩:=h;cases e1';rw[e2]at e2';cases e2'
  |_=>cases h
 |d,.lst iJ,v,h,h'=>by
  obtain⟨a,vs,rfl,e2,e3⟩:=h';cases d with
  |lst ds=>
   obtain⟨a',iH,e1',e2',e3'⟩:=h;cases e1';rw[e2]at e2';cases e2';rw[bG.one_of e3' e3]
  |tup ds=>
   obtain⟨a',iH,e1',e2',e3'⟩:=h;cases e1';rw[e2]at e2';cases e2'
  |_=>cases h
theorem bG.one_of{H:Hp}:∀{ds iJ:List Dt}{vs:List V},bG H ds vs->bG H iJ vs->ds=iJ
 |ds,[],vs,h,h'=>by
  have h':vs=[]:=h';subst h';cases ds with
  |nil=>rfl
  |cons d ds=>obtain⟨v,r,e,_⟩:=h;cases e
 |ds,d'::iJ,vs,h,h'=>by
  obtain⟨v,r,rfl,e2,e3⟩:=h';cases ds with
  |nil=>cases h
  |cons d ds=>
   obtain⟨v',r',e,e2',e3'⟩:=h;cases e;rw[eA.one_of e2' e2,bG.one_of e3' e3]
end
theorem bG.tup_of(ok:mR P w H s.heap)(h:H a=some (.tup vs)):∃its:List Value,dD vs its/\s.heap.IsTuple a its.toArray:=by
 obtain⟨z,its,r,p⟩:=ok a _ h;exact⟨its,r,p⟩
theorem bG.lst_of(ok:mR P w H s.heap)(h:H a=some (.lst vs)):∃its:List Value,dD vs its/\s.heap.IsList a its.toArray:=by
 obtain⟨z,its,n,r,p⟩:=ok a _ h;exact⟨its,r,_,p,rfl,n,rfl⟩
theorem qR:∀{xs:List V}{us:List Value}{i:Nat}{x:V}{u:Value},dD xs us->xs[i]?=some x->us[i]?=some u->RelV x u
 |_,_,_,_,_,.nil,h,_=>by simp at h
 |_,_,0,_,_,.cons r q,h,h'=>by
  simp at h h';subst h;subst h';exact r
 |_,_,i+1,_,_,.cons r q,h,h'=>qR q (by simpa using h) (by simpa using h')
theorem AD(ok:mR P w H s.heap)(ih:∀{A:Around}{d d':Dt}{v v':V}{u u':Value},eA H d v->eA H d' v'->RelV v u->RelV v' u'->ZL n d->A.units+n<cLine->EqAt A s u u' (eR d d'))
 {l':Addr} {ds iJ:List Dt} {iH:List V} (hs:bG H ds vs) (fC:bG H iJ iH) (rv:dD vs its) (rv':dD iH its') (hl:s.heap.IsList l its.toArray) (fG:s.heap.IsList l' its'.toArray)
 (f:∀d∈ds,ZL n d) (hu:A.units+(n+1)<cLine):RcAt A s (.ref l) (.ref l') (kO ds iJ):=by
 have k1:=hs.length;have k2:=fC.length;have k3:=rv.length;have k4:=rv'.length;by_cases hz:ds.length=iJ.length
 ·have key:=RcAt.lists (A:=A) (e:=GD ds iJ) hl fG (by rw[aR,aR];lia) () λj h1 h2=>?_
  ·rw[←vO,hz,Nat.min_self,dR,Bool.and_true];rw[aR]at key;rw[show iJ.length=its.length by lia];exact key
  ·rw[aR]at h1 h2;have hj:j<ds.length:=by lia
   have hj':j<iJ.length:=by lia
   obtain⟨x,x1,x2⟩:=hs.get (aA hj);obtain⟨y,y1,y2⟩:=fC.get (aA hj');have e1:GD ds iJ j=eR ds[j] iJ[j]:=by unfold GD;rw[aA hj,aA hj']
   rw[e1];refine ih x2 y2 ?_ ?_ (f _ (cW hj)) (by show A.units+1+n<cLine;lia)
   ·exact qR rv x1 (by rw[eU];exact aA h1)
   ·exact qR rv' y1 (by rw[eU];exact aA h2)
 ·have hf:kO ds iJ=false:=by rw[←vO,show(ds.length==iJ.length)=false by simpa using hz,oM]
  rw[hf];exact RcAt.lists_lengths hl fG (by rw[aR,aR];simp;lia) ()
theorem WJ(ok:mR P w H s.heap){d:Dt}{u':Value}(h:eA H d v)(r:RelV v u)(r':RelV v u'):EqAt A s u u' true:=by
 cases d with
 |non=>have h:v=.non:=h;subst h;cases r;cases r';exact EqAt.same _
 |bl a=>have h:v=.bl a:=h;subst h;cases r;cases r';exact EqAt.same _
 |int a=>
  have h:v=.int a:=h;subst h;obtain⟨t,rfl⟩:=r;obtain⟨t',rfl⟩:=r';have :=EqAt.int_int (A:=A) (s:=s) a t a t';rwa[dR]at this
 |str a=>
  have h:v=.str a:=h;subst h;obtain⟨t,rfl⟩:=r;obtain⟨t',rfl⟩:=r';have :=EqAt.str_str (A:=A) (s:=s) a t a t';rwa[dR]at this
 |tup ds=>obtain⟨l,vs,rfl,_⟩:=h;cases r;cases r';exact EqAt.same _
 |lst ds=>obtain⟨l,vs,rfl,_⟩:=h;cases r;cases r';exact EqAt.same _
theorem VI(ok:mR P w H s.heap){d d':Dt}{v':V}{u':Value}(h:eA H d v)(h':eA H d' v')(r:RelV v u)(r':RelV v' u')(hu:A.units<cLine)(hk:∀ds iJ,¬(d=.tup ds/\d'=.tup iJ)/\¬(d=.lst ds/\d'=.lst iJ)):EqAt A s u u' (eR d d'):=by
 cases d with
 |non=>
  have h:v=.non:=h;subst h;cases r;cases d' with
  |non=>
   have h':v'=.non:=h';subst h';cases r';simp only[eR];exact EqAt.same _
  |bl b=>
   have h':v'=.bl b:=h';subst h';cases r';simp only[eR];exact EqAt.none_bool _
  |int b=>
   have h':v'=.int b:=h';subst h';obtain⟨t',rfl⟩:=r';simp only[eR];exact EqAt.none_int _ _
  |str b=>
   have h':v'=.str b:=h';subst h';obtain⟨t',rfl⟩:=r';simp only[eR];exact EqAt.none_str _ _
  |tup iJ=>
   obtain⟨l',iH,rfl,e',fC⟩:=h';cases r';obtain⟨its',rv',fG⟩:=bG.tup_of ok e';simp only[eR];exact EqAt.none_tuple fG hu
  |lst iJ=>
   obtain⟨l',iH,rfl,e',fC⟩:=h';cases r';obtain⟨its',rv',fG⟩:=bG.lst_of ok e';simp only[eR];exact EqAt.none_list fG hu
 |bl a=>
  have h:v=.bl a:=h;subst h;cases r;cases d' with
  |non=>
   have h':v'=.non:=h';subst h';cases r';simp only[eR];exact EqAt.bool_none _
  |bl b=>
   have h':v'=.bl b:=h';subst h';cases r';simp only[eR];exact EqAt.bool_bool _ _
  |int b=>
   have h':v'=.int b:=h';subst h';obtain⟨t',rfl⟩:=r';simp only[eR];exact EqAt.bool_int _ _ _
  |str b=>
   have h':v'=.str b:=h';subst h';obtain⟨t',rfl⟩:=r';simp only[eR];exact EqAt.bool_str _ _ _
  |tup iJ=>
   obtain⟨l',iH,rfl,e',fC⟩:=h';cases r';obtain⟨its',rv',fG⟩:=bG.tup_of ok e';simp only[eR];exact EqAt.bool_tuple _ fG hu
  |lst iJ=>
   obtain⟨l',iH,rfl,e',fC⟩:=h';cases r';obtain⟨its',rv',fG⟩:=bG.lst_of ok e';simp only[eR];exact EqAt.bool_list _ fG hu
 |int a=>
  have h:v=.int a:=h;subst h;obtain⟨t,rfl⟩:=r;cases d' with
  |non=>
   have h':v'=.non:=h';subst h';cases r';simp only[eR];exact EqAt.int_none _ _
  |bl b=>
   have h':v'=.bl b:=h';subst h';cases r';simp only[eR];exact EqAt.int_bool _ _ _
  |int b=>
   have h':v'=.int b:=h';subst h';obtain⟨t',rfl⟩:=r';simp only[eR];exact EqAt.int_int _ _ _ _
  |str b=>
   have h':v'=.str b:=h';subst h';obtain⟨t',rfl⟩:=r';simp only[eR];exact EqAt.int_str _ _ _ _
  |tup iJ=>
   obtain⟨l',iH,rfl,e',fC⟩:=h';cases r';obtain⟨its',rv',fG⟩:=bG.tup_of ok e';simp only[eR];exact EqAt.int_tuple _ _ fG hu
  |lst iJ=>
   obtain⟨l',iH,rfl,e',fC⟩:=h';cases r';obtain⟨its',rv',fG⟩:=bG.lst_of ok e';simp only[eR];exact EqAt.int_list _ _ fG hu
 |str a=>
  have h:v=.str a:=h;subst h;obtain⟨t,rfl⟩:=r;cases d' with
  |non=>
   have h':v'=.non:=h';subst h';cases r';simp only[eR];exact EqAt.str_none _ _
  |bl b=>
   have h':v'=.bl b:=h';subst h';cases r';simp only[eR];exact EqAt.str_bool _ _ _
  |int b=>
   have h':v'=.int b:=h';subst h';obtain⟨t',rfl⟩:=r';simp only[eR];exact EqAt.str_int _ _ _ _
  |str b=>
   have h':v'=.str b:=h';subst h';obtain⟨t',rfl⟩:=r';simp only[eR];exact EqAt.str_str _ _ _ _
  |tup iJ=>
   obtain⟨l',iH,rfl,e',fC⟩:=h';cases r';obtain⟨its',rv',fG⟩:=bG.tup_of ok e';simp only[eR];exact EqAt.str_tuple _ _ fG hu
  |lst iJ=>
   obtain⟨l',iH,rfl,e',fC⟩:=h';cases r';obtain⟨its',rv',fG⟩:=bG.lst_of ok e';simp only[eR];exact EqAt.str_list _ _ fG hu
 |tup ds=>
  obtain⟨l,vs,rfl,e,hs⟩:=h;cases r;obtain⟨its,rv,hl⟩:=bG.tup_of ok e;cases d' with
  |non=>
   have h':v'=.non:=h';subst h';cases r';simp only[eR];exact EqAt.tuple_none hl hu
  |bl b=>
   have h':v'=.bl b:=h';subst h';cases r';simp only[eR];exact EqAt.tuple_bool _ hl hu
  |int b=>
   have h':v'=.int b:=h';subst h';obtain⟨t',rfl⟩:=r';simp only[eR];exact EqAt.tuple_int _ _ hl hu
  |str b=>
   have h':v'=.str b:=h';subst h';obtain⟨t',rfl⟩:=r';simp only[eR];exact EqAt.tuple_str _ _ hl hu
  |tup iJ=>exact absurd ⟨rfl,rfl⟩ (hk _ _).1
  |lst iJ=>
   obtain⟨l',iH,rfl,e',fC⟩:=h';cases r';obtain⟨its',rv',fG⟩:=bG.lst_of ok e';simp only[eR];exact EqAt.tuple_list hl fG hu
 |lst ds=>
  obtain⟨l,vs,rfl,e,hs⟩:=h;cases r;obtain⟨its,rv,hl⟩:=bG.lst_of ok e;cases d' with
  |non=>
   have h':v'=.non:=h';subst h';cases r';simp only[eR];exact EqAt.list_none hl hu
  |bl b=>
   have h':v'=.bl b:=h';subst h';cases r';simp only[eR];exact EqAt.list_bool _ hl hu
  |int b=>
   have h':v'=.int b:=h';subst h';obtain⟨t',rfl⟩:=r';simp only[eR];exact EqAt.list_int _ _ hl hu
  |str b=>
   have h':v'=.str b:=h';subst h';obtain⟨t',rfl⟩:=r';simp only[eR];exact EqAt.list_str _ _ hl hu
  |tup iJ=>
   obtain⟨l',iH,rfl,e',fC⟩:=h';cases r';obtain⟨its',rv',fG⟩:=bG.tup_of ok e';simp only[eR];exact EqAt.list_tuple hl fG hu
  |lst iJ=>exact absurd ⟨rfl,rfl⟩ (hk _ _).2
theorem GG(ok:mR P w H s.heap):∀(n:Nat){A:Around}{d d':Dt}{v v':V}{u u':Value},eA H d v->eA H d' v'->RelV v u->RelV v' u'->ZL n d->A.units+n<cLine->EqAt A s u u' (eR d d'):=by
 intro n
 induction n with
 |zero=>
  intro A d d' v v' u u' h h' r r' f hu;exact VI ok h h' r r' hu λds iJ=>⟨λe=>by rw[e.1]at f;exact f,λe=>by rw[e.1]at f;exact f⟩
 |succ n ih=>
  intro A d d' v v' u u' h h' r r' f hu;by_cases hvv:v=v'
  ·subst hvv;rw[eA.one_of h h',xU];have hd:d=d':=eA.one_of h h';subst hd;have hx:=WJ ok (A:=A) h r r';exact hx
  cases d with
  |tup ds=>
   cases d' with
   |tup iJ=>
    obtain⟨l,vs,rfl,e,hs⟩:=h;obtain⟨l',iH,rfl,e',fC⟩:=h';cases r;cases r';obtain⟨its,rv,hl⟩:=bG.tup_of ok e;obtain⟨its',rv',fG⟩:=bG.tup_of ok e';have k1:=hs.length;have k2:=fC.length;have k3:=rv.length;have k4:=rv'.length;have key:=RcAt.tuples (A:=A) (e:=GD ds iJ) hl fG () λj h1 h2=>?_
    ·simp only[eR];rw[←vO];refine EqAt.of_refs (λz=>hvv (by rw[z])) ?_;rw[aR,aR]at key;rw[←k1,←k2,k3,k4];exact key
    ·rw[aR]at h1 h2;have hj:j<ds.length:=by lia
     have hj':j<iJ.length:=by lia
     obtain⟨x,x1,x2⟩:=hs.get (aA hj);obtain⟨y,y1,y2⟩:=fC.get (aA hj');have e1:GD ds iJ j=eR ds[j] iJ[j]:=by unfold GD;rw[aA hj,aA hj']
     rw[e1];refine ih x2 y2 ?_ ?_ (f.2 _ (cW hj)) (by show A.units+1+n<cLine;lia)
     ·exact qR rv x1 (by rw[eU];exact aA h1)
     ·exact qR rv' y1 (by rw[eU];exact aA h2)
   |_=>exact VI ok h h' r r' () λds iJ=>⟨λe=>(by cases e.2),λe=>(by cases e.1)⟩
  |lst ds=>
   cases d' with
   |lst iJ=>
    obtain⟨l,vs,rfl,e,hs⟩:=h;obtain⟨l',iH,rfl,e',fC⟩:=h';cases r;cases r';obtain⟨its,rv,hl⟩:=bG.lst_of ok e;obtain⟨its',rv',fG⟩:=bG.lst_of ok e';simp only[eR];exact EqAt.of_refs (λz=>hvv (by rw[z])) (AD ok ih hs fC rv rv' hl fG f.2 hu)
   |_=>exact VI ok h h' r r' () λds iJ=>⟨λe=>(by cases e.1),λe=>(by cases e.2)⟩
  |_=>exact VI ok h h' r r' () λds iJ=>⟨λe=>(by cases e.1),λe=>(by cases e.1)⟩
end
section
open PySem.SeqAt
theorem cx_P{scope:Scope}{cd:Value}{E:XK}:(JC CX P w K mg base N qual scope f cd A outer s H E).prog=P:=rfl
end
end L2
namespace L2
open PySem PySem.Spec PyProof.Rows PySem.SeqAt
variable {a b d f it l r:Addr} {A:Around} {G:Array GenState->Array GenState->Prop} {arr a₀:Array Keyed} {p:Array Nat} {X:Cx} {D:sO} {c e o tg:Expr} {base h h':Heap} {H:Hp} {z:Keyed} {κ:Keyed->Int} {S:Keyed->Prop} {aJ:List (Addr×Obj)} {ch fp:List Addr} {es:List Expr} {js:List Nat} {ns ps:List Str} {vs xs:List V} {its its':List Value} {M:Model} {ac bc ep i ia ib j n na nb t':Nat} {lY pos':Pos} {P prog:Program} {K:W.Frag} {R:Result->Shared->Prop} {s:Shared} {kd:SortKind} {st st0:SortSt} {sp:Sp} {σ:St} {mg:Str->Option Value} {T:String} {ta te:TE} {tb:TS} {α:Type} {v:V} {u:Value} {E Q:Value->Shared->Prop} {w:World}
local macro_rules | `(()) => `(by lia)
theorem dm(ok:mR P w H s.heap)(ih:∀{A:Around}{d d':Dt}{v v':V}{u u':Value},eA H d v->eA H d' v'->RelV v u->RelV v' u'->ZL n d->A.units+n<cLine->EqAt A s u u' (eR d d'))
 {l':Addr} {ds iJ:List Dt} {iH:List V} (hs:bG H ds vs) (fC:bG H iJ iH) (rv:dD vs its) (rv':dD iH its') (hl:s.heap.IsTuple l its.toArray) (fG:s.heap.IsTuple l' its'.toArray)
 (f:∀d∈ds,ZL n d) (hu:A.units+(n+1)<cLine):RcAt A s (.ref l) (.ref l') (kO ds iJ):=by
 have k1:=hs.length;have k2:=fC.length;have k3:=rv.length;have k4:=rv'.length;have at_:∀j (h1:j<its.toArray.size) (h2:j<its'.toArray.size),EqAt A.in1 s its.toArray[j] its'.toArray[j] (GD ds iJ j):=λj h1 h2=>by
  rw[aR]at h1 h2;have hj:j<ds.length:=by lia
  have hj':j<iJ.length:=by lia
  obtain⟨x,x1,x2⟩:=hs.get (aA hj);obtain⟨y,y1,y2⟩:=fC.get (aA hj');have e1:GD ds iJ j=eR ds[j] iJ[j]:=by unfold GD;rw[aA hj,aA hj']
  rw[e1];refine ih x2 y2 ?_ ?_ (f _ (cW hj)) (by show A.units+1+n<cLine;lia)
  ·exact qR rv x1 (by rw[eU];exact aA h1)
  ·exact qR rv' y1 (by rw[eU];exact aA h2)
 have key:=RcAt.tuples (A:=A) (e:=GD ds iJ) hl fG () at_;rw[aR,aR]at key;rw[←vO,←k1,←k2,k3,k4];exact key
theorem rc_at(ok:mR P w H s.heap){d d':Dt}{v':V}{u':Value}(h:eA H d v)(h':eA H d' v')(r:RelV v u)(r':RelV v' u')(f:ZL (n+1) d)(hu:A.units+(n+1)<cLine):RcAt A s u u' (eR d d'):=by
 have hu0:A.units<cLine:=by lia
 cases d with
 |non=>
  have h:v=.non:=h;subst h;cases r;cases d' with
  |non=>
   have h':v'=.non:=h';subst h';cases r';simp only[eR,bI,bL];exact RcAt.none_none
  |bl b=>
   have h':v'=.bl b:=h';subst h';cases r';simp only[eR,bI,bL];exact RcAt.none_bool _
  |int b=>
   have h':v'=.int b:=h';subst h';obtain⟨t',rfl⟩:=r';simp only[eR,bI,bL];exact RcAt.none_int _ _
  |str b=>
   have h':v'=.str b:=h';subst h';obtain⟨t',rfl⟩:=r';simp only[eR,bI,bL];exact RcAt.none_str _ _
  |tup iJ=>
   obtain⟨l',iH,rfl,e',fC⟩:=h';cases r';obtain⟨its',rv',fG⟩:=bG.tup_of ok e';simp only[eR,bI,bL];exact RcAt.none_tuple fG hu0
  |lst iJ=>
   obtain⟨l',iH,rfl,e',fC⟩:=h';cases r';obtain⟨its',rv',fG⟩:=bG.lst_of ok e';simp only[eR,bI,bL];exact RcAt.none_list fG hu0
 |bl a=>
  have h:v=.bl a:=h;subst h;cases r;cases d' with
  |non=>
   have h':v'=.non:=h';subst h';cases r';simp only[eR,bI,bL];exact RcAt.bool_none _
  |bl b=>
   have h':v'=.bl b:=h';subst h';cases r';simp only[eR,bI,bL];exact RcAt.bool_bool _ _
  |int b=>
   have h':v'=.int b:=h';subst h';obtain⟨t',rfl⟩:=r';simp only[eR,bI,bL];exact RcAt.bool_int _ _ _
  |str b=>
   have h':v'=.str b:=h';subst h';obtain⟨t',rfl⟩:=r';simp only[eR,bI,bL];exact RcAt.bool_str _ _ _
  |tup iJ=>
   obtain⟨l',iH,rfl,e',fC⟩:=h';cases r';obtain⟨its',rv',fG⟩:=bG.tup_of ok e';simp only[eR,bI,bL];exact RcAt.bool_tuple _ fG hu0
  |lst iJ=>
   obtain⟨l',iH,rfl,e',fC⟩:=h';cases r';obtain⟨its',rv',fG⟩:=bG.lst_of ok e';simp only[eR,bI,bL];exact RcAt.bool_list _ fG hu0
 |int a=>
  have h:v=.int a:=h;subst h;obtain⟨t,rfl⟩:=r;cases d' with
  |non=>
   have h':v'=.non:=h';subst h';cases r';simp only[eR,bI,bL];exact RcAt.int_none _ _
  |bl b=>
   have h':v'=.bl b:=h';subst h';cases r';simp only[eR,bI,bL];exact RcAt.int_bool _ _ _
  |int b=>
   have h':v'=.int b:=h';subst h';obtain⟨t',rfl⟩:=r';simp only[eR,bI,bL];exact RcAt.int_int _ _ _ _
  |str b=>
   have h':v'=.str b:=h';subst h';obtain⟨t',rfl⟩:=r';simp only[eR,bI,bL];exact RcAt.int_str _ _ _ _
  |tup iJ=>
   obtain⟨l',iH,rfl,e',fC⟩:=h';cases r';obtain⟨its',rv',fG⟩:=bG.tup_of ok e';simp only[eR,bI,bL];exact RcAt.int_tuple _ _ fG hu0
  |lst iJ=>
   obtain⟨l',iH,rfl,e',fC⟩:=h';cases r';obtain⟨its',rv',fG⟩:=bG.lst_of ok e';simp only[eR,bI,bL];exact RcAt.int_list _ _ fG hu0
 |str a=>
  have h:v=.str a:=h;subst h;obtain⟨t,rfl⟩:=r;cases d' with
  |non=>
   have h':v'=.non:=h';subst h';cases r';simp only[eR,bI,bL];exact RcAt.str_none _ _
  |bl b=>
   have h':v'=.bl b:=h';subst h';cases r';simp only[eR,bI,bL];exact RcAt.str_bool _ _ _
  |int b=>
   have h':v'=.int b:=h';subst h';obtain⟨t',rfl⟩:=r';simp only[eR,bI,bL];exact RcAt.str_int _ _ _ _
  |str b=>
   have h':v'=.str b:=h';subst h';obtain⟨t',rfl⟩:=r';simp only[eR,bI,bL];exact RcAt.str_str _ _ _ _
  |tup iJ=>
   obtain⟨l',iH,rfl,e',fC⟩:=h';cases r';obtain⟨its',rv',fG⟩:=bG.tup_of ok e';simp only[eR,bI,bL];exact RcAt.str_tuple _ _ fG hu0
  |lst iJ=>
   obtain⟨l',iH,rfl,e',fC⟩:=h';cases r';obtain⟨its',rv',fG⟩:=bG.lst_of ok e';simp only[eR,bI,bL];exact RcAt.str_list _ _ fG hu0
 |tup ds=>
  obtain⟨l,vs,rfl,e,hs⟩:=h;cases r;obtain⟨its,rv,hl⟩:=bG.tup_of ok e;cases d' with
  |non=>
   have h':v'=.non:=h';subst h';cases r';simp only[eR,bI,bL];exact RcAt.tuple_none hl hu0
  |bl b=>
   have h':v'=.bl b:=h';subst h';cases r';simp only[eR,bI,bL];exact RcAt.tuple_bool _ hl hu0
  |int b=>
   have h':v'=.int b:=h';subst h';obtain⟨t',rfl⟩:=r';simp only[eR,bI,bL];exact RcAt.tuple_int _ _ hl hu0
  |str b=>
   have h':v'=.str b:=h';subst h';obtain⟨t',rfl⟩:=r';simp only[eR,bI,bL];exact RcAt.tuple_str _ _ hl hu0
  |tup iJ=>
   obtain⟨l',iH,rfl,e',fC⟩:=h';cases r';obtain⟨its',rv',fG⟩:=bG.tup_of ok e';simp only[eR,bI,bL];exact dm ok (GG ok n) hs fC rv rv' hl fG f.2 hu
  |lst iJ=>
   obtain⟨l',iH,rfl,e',fC⟩:=h';cases r';obtain⟨its',rv',fG⟩:=bG.lst_of ok e';simp only[eR,bI,bL];exact RcAt.tuple_list hl fG hu0
 |lst ds=>
  obtain⟨l,vs,rfl,e,hs⟩:=h;cases r;obtain⟨its,rv,hl⟩:=bG.lst_of ok e;cases d' with
  |non=>
   have h':v'=.non:=h';subst h';cases r';simp only[eR,bI,bL];exact RcAt.list_none hl hu0
  |bl b=>
   have h':v'=.bl b:=h';subst h';cases r';simp only[eR,bI,bL];exact RcAt.list_bool _ hl hu0
  |int b=>
   have h':v'=.int b:=h';subst h';obtain⟨t',rfl⟩:=r';simp only[eR,bI,bL];exact RcAt.list_int _ _ hl hu0
  |str b=>
   have h':v'=.str b:=h';subst h';obtain⟨t',rfl⟩:=r';simp only[eR,bI,bL];exact RcAt.list_str _ _ hl hu0
  |tup iJ=>
   obtain⟨l',iH,rfl,e',fC⟩:=h';cases r';obtain⟨its',rv',fG⟩:=bG.tup_of ok e';simp only[eR,bI,bL];exact RcAt.list_tuple hl fG hu0
  |lst iJ=>
   obtain⟨l',iH,rfl,e',fC⟩:=h';cases r';obtain⟨its',rv',fG⟩:=bG.lst_of ok e';simp only[eR,bI,bL];exact AD ok (GG ok n) hs fC rv rv' hl fG f.2 hu
def dv:R2:=λx y H Q=>∃n d,eA H d x/\∃d',eA H d' y/\ZL (n+1) d/\n<=60/\Q (.bl (eR d d')) H
theorem kZ(hu:X.A.units+64<cLine):oQ X (compareOp .Eq) dv:=by
 intro aJ s σ H x y v u Q I rx ry h;obtain⟨n,d,h1,d',h2,f,hn,q⟩:=h;exact rc_at I.hok h1 h2 rx ry f () X.prog X.w _ _ (yX I q rfl)
def dt(neg:Bool):R2:=λx y H Q=>∃n d,eA H d x/\∃ds,(eA H (.lst ds) y\/eA H (.tup ds) y)/\(∀e∈ds,ZL n e)/\n<=60/\Q (.bl (neg^^ds.any λe=>eR e d)) H
open Classical in
theorem VB{ds:List Dt}{d:Dt}(hs:bG H ds vs)(rv:dD vs its)(e:Value->Bool)(he:∀y,e y=decide (∃d' v',eA H d' v'/\RelV v' y/\eR d' d=true)):its.toArray.any e=ds.any λe=>eR e d:=by
 rw[List.any_toArray]
 induction ds generalizing vs its with
 |nil=>
  have hs:vs=[]:=hs;subst hs;cases rv;rfl
 |cons d0 ds ih=>
  obtain⟨v,r,rfl,e1,e2⟩:=hs;cases rv with
  |cons rr rt=>
   rename_i u us
   rw[iK,iK,ih e2 rt,he]
   congr 1
   rw[cD,bO];constructor
   ·rintro⟨d',v',q1,q2,q3⟩;have :=RelV.inj q2 rr;subst this;rw[eA.one_of e1 q1];exact q3
   ·intro q;exact⟨d0,v,e1,rr,q⟩
open Classical in
theorem KF(ok:mR P w H s.heap){ds:List Dt}{d:Dt}{x:V}(hs:bG H ds vs)(rv:dD vs its)(hx:eA H d x)(ru:RelV x u)(f:∀e∈ds,ZL n e)(hu:A.units+(n+1)<cLine)
 (y:Value) (hy:y∈its.toArray):EqAt A.in1 s y u (decide (∃d' v',eA H d' v'/\RelV v' y/\eR d' d=true)):=by
 obtain⟨j,hj,e⟩:=dJ (show y∈its by simpa using hy);have k1:=hs.length;have k2:=rv.length;have hjd:j<ds.length:=by lia
 obtain⟨v,v1,v2⟩:=hs.get (aA hjd);have rr:RelV v y:=qR rv v1 (by rw[aA hj,e]);have :decide (∃d' v',eA H d' v'/\RelV v' y/\eR d' d=true)=eR ds[j] d:=by
  rw[cD,bO];constructor
  ·rintro⟨d',v',q1,q2,q3⟩;have :=RelV.inj q2 rr;subst this;rw[eA.one_of v2 q1];exact q3
  ·intro q;exact⟨_,v,v2,rr,q⟩
 rw[this];exact GG ok n v2 hx rr ru (f _ (cW hjd)) (by show A.units+1+n<cLine;lia)
theorem ph(hu:X.A.units+64<cLine):oQ X (compareOp .In) (dt false):=by
 intro aJ s σ H x y v u Q I rx ry h;obtain⟨n,d,hx,ds,hy,f,hn,q⟩:=h;rw[Bool.false_xor]at q;rcases hy with⟨l,vs,rfl,e,hs⟩ |⟨l,vs,rfl,e,hs⟩
 ·cases ry;obtain⟨its,rv,hl⟩:=bG.lst_of I.hok e;refine in_listAt _ hl (KF I.hok hs rv hx rx f ()) (yX I q ?_);exact(VB hs rv _ λ_=>rfl).symm
 ·cases ry;obtain⟨its,rv,hl⟩:=bG.tup_of I.hok e;refine in_tupleAt _ hl (KF I.hok hs rv hx rx f ()) (yX I q ?_);exact(VB hs rv _ λ_=>rfl).symm
theorem MM(hu:X.A.units+64<cLine):oQ X (compareOp .NotIn) (dt true):=by
 intro aJ s σ H x y v u Q I rx ry h;obtain⟨n,d,hx,ds,hy,f,hn,q⟩:=h;rw[Bool.true_xor]at q;rcases hy with⟨l,vs,rfl,e,hs⟩ |⟨l,vs,rfl,e,hs⟩
 ·cases ry;obtain⟨its,rv,hl⟩:=bG.lst_of I.hok e;refine notIn_listAt _ hl (KF I.hok hs rv hx rx f ()) (yX I q ?_);rw[VB hs rv _ λ_=>rfl]
 ·cases ry;obtain⟨its,rv,hl⟩:=bG.tup_of I.hok e;refine notIn_tupleAt _ hl (KF I.hok hs rv hx rx f ()) (yX I q ?_);rw[VB hs rv _ λ_=>rfl]
section
open PySem.SeqAt
structure Apt(z TI TO i1 i2 l1 l2:Addr):Prop where
 nd:[z,TI,TO,i1,i2].Nodup
 a1:l1≠z/\l1≠TO/\l1≠i1/\l1≠i2
 a2:l2≠z/\l2≠TO/\l2≠i1/\l2≠i2
theorem Inv.turnedL(I:Inv X aJ σ H s)(k:∀b o,b∉ch->s.heap.get? b=some o->h'.get? b=some o)(hf:∀b∈ch,JJ X aJ H b):Inv X aJ σ H {s with heap:=h',toks:=t'}:=by
 have nit:∀b u,H b=some u->b∉ch:=λb u e z=>by rw[(hf b z).1]at e;cases e
 have hL:X.env.locals∉ch:=λz=>(hf _ z).2.1 rfl
 refine I.step (g':=s.gens) (d':=s.drawn) (ch:=ch) (λb hb=>?_) (λb o _ _ hc e _=>k b o hc e) (λb o _ _ hc e _=>⟨o.slots,k b o hc e⟩) (λ_ _ _ _ n=>n) (λb o hc e=>⟨o,k b o hc e⟩) (λ_ _ e=>e) (λ_ _ _ e=>e) (λb ps e=>⟨#[],by rw[e];simp⟩) (λm hm=>?_) (λb u e=>?_) I.bare
 ·obtain⟨f0,f1,f2,f3,f4,f5⟩:=hf b hb;exact⟨f3,f1,f4,f5⟩
 ·obtain⟨o,es,ep,ho,r⟩:=hm;exact⟨o,es,ep,k _ o hL ho,r⟩
 ·refine(I.hok b u e).stay (λc v hc q=>k c v ?_ q) (λ_ q=>q) λ_ _ q=>q
  rcases hc with z |z
  ·rw[z];exact nit b u e
  ·exact nit c _ z
theorem Inv.turnedN{p:Addr}{o:HO}(I:Inv X aJ σ H s)(k:∀b o,b∉ch->s.heap.get? b=some o->h'.get? b=some o)(hf:∀b∈ch,JJ X aJ H b)(hp:s.heap.objs.size<=p)(new:fA X.prog X.w (upd H p o) h' p o):
 Inv X aJ σ (upd H p o) {s with heap:=h',toks:=t'}:=by
 have nit:∀b u,H b=some u->b∉ch:=λb u e z=>by rw[(hf b z).1]at e;cases e
 have hL:X.env.locals∉ch:=λz=>(hf _ z).2.1 rfl
 have hn:=I.hok.fresh hp;have nep:∀{b:Addr}{u:HO},H b=some u->b≠p:=λe z=>by rw[z,hn]at e;cases e
 refine I.step (g':=s.gens) (d':=s.drawn) (ch:=ch) (λb hb=>?_) (λb o _ _ hc e _=>k b o hc e) (λb o _ _ hc e _=>⟨o.slots,k b o hc e⟩) (λb u _ e n=>?_) (λb o hc e=>⟨o,k b o hc e⟩) (λ_ _ e=>by rw[zJ (nep e)];exact e) (λ_ _ _ e=>by rw[zJ (nep e)];exact e) (λb ps e=>⟨#[],by rw[zJ (nep e),e];simp⟩) (λm hm=>?_) (λb u e=>?_) I.bare
 ·obtain⟨f0,f1,f2,f3,f4,f5⟩:=hf b hb;exact⟨f3,f1,f4,f5⟩
 ·rw[zJ (bW (cI (bD e) hp))];exact n
 ·obtain⟨o,es,ep,ho,r⟩:=hm;exact⟨o,es,ep,k _ o hL ho,r⟩
 ·by_cases hb:b=p
  ·subst hb;rw[zB]at e;cases e;exact new
  ·rw[zJ hb]at e;refine(I.hok b u e).stay (λc v hc q=>k c v ?_ q) (λc q=>by rw[zJ (nep q)];exact q) λc _ q=>by rw[zJ (nep q)];exact q
   rcases hc with z |z
   ·rw[z];exact nit b u e
   ·exact nit c _ z
end
section
open PySem.SeqAt
def ir(w:World):List DictEntry->List (Str×Int)->Prop
 |[],r=>r=[]
 |e::es,r=>∃x y t u r',r=(x,y)::r'/\e.hash=hashStr w x/\e.key=.str x t/\e.val=.int y u/\ir w es r'
theorem ir.all{w:World}{P:Program}:∀{es:List DictEntry}{r:List (Str×Int)},ir w es r->(∀e∈es,∃k,(yB P w).is k e.key=true/\e.hash=(yB P w).hash k)/\
 ∃vs:List (eI×Value),KV (r.map λp=>((.inr p.1:eI),V.int p.2)) vs/\Pairs (yB P w) es vs/\vs.map (·.1)=r.map λp=>(.inr p.1:eI)
 |[],r,h=>by
  have h:r=[]:=h;subst h;exact⟨λe he=>(nomatch he),[],.nil,.nil,rfl⟩
 |e::es,r,h=>by
  obtain⟨x,y,t,u,r',rfl,h1,h2,h3,h4⟩:=h;obtain⟨g,vs,a,b,c⟩:=ir.all (P:=P) h4;refine⟨λe' he=>?_,(.inr x,.int y u)::vs,.cons ⟨rfl,u,rfl⟩ a,.cons (by rw[h2];exact vE P w x t) h3 b,?_⟩
  ·rcases bK.mp he with rfl |he
   ·exact⟨.inr x,by rw[h2];exact vE P w x t,h1⟩
   ·exact g e' he
  ·rw[cF,cF,c]
theorem FR{lo:Int}{g:TG}{tc:TT}{Q:VK}(Pv:Nat->List V->St->Hp->Prop)(h0:Pv 0 [] (JP ns js σ) H)(hz:n<=sizeLine)(hl:∀i ys σ H,Pv i ys σ H->ys.length<=i)
 (hs:∀(i:Nat) ys σ H (C:V->St->Hp->Prop) (D:St->Hp->Prop),i<n->Pv i ys σ H->(∀y σ2 H3,Pv (i+1) (ys++[y]) σ2 H3->C y σ2 H3)->(∀σ2 H3,Pv (i+1) ys σ2 H3->D σ2 H3)->
  g (.int (lo+i)) σ H λσ2 H2=>tc σ2 H2 λb H3=>if b=true then te σ2 H3 λy H4=>C y σ2 H4 else D σ2 H3)
 (hd:∀ys σ H,Pv n ys σ H->∀p,H p=none->Q (.ref p) (upd H p (.lst ys))):
 bj (aj lo n) ns js g (some tc) te σ H Q:=by
 refine⟨λi m ys σ H=>m=n-i/\i<=n/\Pv i ys σ H,⟨n,(),cG _,h0⟩,λi m ys σ1 H1 ⟨hm,hi,hp⟩=>?_⟩;by_cases h:i<n
 ·refine .inr ⟨h,?_,λx H' ⟨e,hx⟩=>?_⟩
  ·have :=hl i ys σ1 H1 hp;lia
  ·subst e;subst hx;exact hs i ys σ1 _ _ _ h hp (λy σ2 H3 q=>⟨n-(i+1),(),rfl,(),q⟩) λσ2 H3 q=>⟨n-(i+1),(),rfl,(),q⟩
 ·have e:i=n:=by lia
  subst e;exact .inl ⟨aG _,hd ys σ1 H1 hp⟩
end
section
open PySem.SeqAt
inductive Rw where
 |no |nm (x:Str) |bo (i j:Int)
def si:Rw->Dt
 | .no=>.tup [.str "none"]
 | .nm x=>.tup [.str "name",.str x]
 | .bo i j=>.tup [.str "both",.int i,.int j]
abbrev Pr:=Int×Int
def GH(p:Pr):Dt:=.tup [.int p.1,.int p.2]
abbrev xM:=List Pr×Pr
def a9(r:xM):Dt:=.tup [.lst (r.1.map GH),GH r.2]
inductive Wt where
 |n (i:Int) |ps (l:List Int)
def sf:Wt->Dt
 | .n i=>.int i
 | .ps l=>.tup (l.map .int)
structure Ln where
 i:Int
 j:Int
 w:Str
 as:List Wt
def ZH(w:Str)(as:List Wt):Dt:=.tup (.str w::as.map sf)
def NM(l:Ln):Dt:=.tup [.int l.i,.int l.j,ZH l.w l.as]
def JQ(b:Int):Wt->Bool
 | .n i=>decide (0<=i)&&decide (i<b)
 | .ps _=>false
def vC(aD:List Rw)(n:Int):List Int:=if n % 2=0 then(match aD[(n/2).toNat]? with |some (.bo i j)=>[i,j] |_=>[])else []
def xJ(ls:List Ln)(k:Nat):Wt->Option Pr
 | .n i=>if 0<=i/\i<k then(ls[i.toNat]?).map λl=>(l.i,l.j)else none
 | .ps _=>none
def dSd:Option Pr->Dt
 |none=>.non
 |some p=>GH p
def rM(n:Int):Int:=n+1-2*(n % 2)
def QH(w:Str):Option Int:=
 if w="same" then some 0 else if w="edge" then some 0 else if w="part" then some 0 else if w="both" then some 2 else if w="turn" then some 1 else if w="chain" then some 2 else if w="clash" then some 1 else none
def yZ(aD:List Rw)(i j:Int)(w:Str)(sd:List Pr):Bool:=
 if w="same" then i==j
 else if w="edge" then i==0 ||j==1
 else if w="part" then(vC aD i).any λx=>x==j
 else if w="both" then(match vC aD j with |[a,b]=>sd==[(i,a),(i,b)] |_=>false)
 else if w="turn" then sd==[(rM j,rM i)]
 else if w="chain" then(match sd with |[p,q]=>p.1==i&&p.2==q.1&&q.2==j |_=>false)
 else sd==[(i,rM i)]
def jW(aX:List xM)(ls:List Ln)(k:Nat)(l:Ln):Bool:=
 match l.as with
 |[.n r,.ps ps]=>if 0<=r/\r<aX.length then(match aX[r.toNat]? with |some q=>(l.i,l.j)==q.2&&(ps.map λp=>xJ ls k (.n p))==q.1.map some |none=>false)else false
 |_=>false
def xQ(aD:List Rw)(aX:List xM)(ls:List Ln)(k:Nat)(l:Ln):Bool:=
 if¬(0<=l.i/\l.i<2*aD.length)\/¬(0<=l.j/\l.j<2*aD.length)then false
 else if l.w="rule" then jW aX ls k l
 else if QH l.w=some (l.as.length:Int)/\(l.as.all λa=>(xJ ls k a).isSome)=true then yZ aD l.i l.j l.w (l.as.filterMap (xJ ls k))
 else false
theorem DQ(n:Int):Builtin.bitXor n 1=rM n:=by
 rw[bitXor_and];unfold rM;rw[bitAnd_m1]
end
section
open PySem.SeqAt
theorem LV{t sl:Addr}{dF:Array Value}{vl vu:Value}{lo hi:Option Int}(ht:IsTup s.heap t dF)(hs:s.heap.IsSliceOf sl vl vu .none)(pl:IsPart vl lo)(pu:IsPart vu hi)
 (hw:HT.sIx dF.size 0 lo=0/\HT.sIx dF.size dF.size hi=dF.size) (h:Q (.ref t) s):wpAny (model prog w) A (getItem (.ref t) (.ref sl)) Q E s:=by
 obtain⟨os,hos,hcs,hds⟩:=id hs;have hTs:s.TypeIs (.ref sl) "slice":=⟨os,hos,hcs⟩
 unfold getItem
 try with_reducible refine eS ?_
 first |refine aF (aS ?_) |skip
 refine aF (wpAny_sequenceKey ht.typeIs (by decide) (aF (mS (name:=Str.ofString "__getitem__") ht.typeIs dW (gF dW ht.typeIs entry_tuple_getitem ?_ (args_tuple_getitem _ _)))));refine aF (m:=Builtin.Tuple.tupleItemsOf (.ref t)) (tupleItemsOf_ ht (aF (lV hTs ?_)));rw[aL (by decide)];refine aF (HT.sliceApplied_gen hs pl pu ?_);have hyes:((((HT.sIx dF.size 0 lo:Nat):Int)==0&&(1:Int)==1&&(HT.sIx dF.size dF.size hi-HT.sIx dF.size 0 lo)==dF.size)=true):=by
  rw[hw.1,hw.2];simp
 show wpAny _ _ (if(((HT.sIx dF.size 0 lo:Nat):Int)==0&&(1:Int)==1&&(HT.sIx dF.size dF.size hi-HT.sIx dF.size 0 lo)==dF.size)=true then _ else _) _ _ s;rw[aL hyes];have hT:=ht.typeIs
 wp_walk
 exact⟨_,rfl,aS h⟩
def RN:V->Option Int->Option Int->Hp->VK->Prop:=λx lo hi H Q=>mN x λa=>∃xs,H a=some (.tup xs)/\∀p H',bA H H'->H' p=some (.tup (qM xs lo hi))->Q (.ref p) H'
theorem YE:SlR X RN:=by
 intro aJ s σ H x v vl vu lo hi sl Q I rx hs pl pu h;replace h:=xI h;obtain⟨a,rfl,xs,hx,q⟩:=h;by_cases hw:HT.sIx xs.length 0 lo=0/\HT.sIx xs.length xs.length hi=xs.length
 ·cases rx;obtain⟨its,r,ht,hz⟩:=I.tuple (dN.of hx);have eQ:its.toArray.size=xs.length:=by rw[aR];exact r.length.symm
  refine⟨"tuple",_,dW.lookup,ht.typeIs,?_⟩;refine LV ht hs pl pu (by rw[eQ];exact hw) ⟨.ref a,H,I,rfl,q a H (bA.refl H) ?_⟩;have e:qM xs lo hi=xs:=by
   unfold qM;rw[hw.1,hw.2,rY,Nat.sub_zero,aQ (aG _)]
  rw[e];exact hx
 ·exact UJ aJ s σ H _ v vl vu lo hi sl Q I rx hs pl pu ⟨xs,dN.of hx,hw,λp hp=>q p _ (zF hp _) zB⟩
def RP:R2:=λx y H Q=>mN x λa=>mN y λb=>∃xs,H a=some (.tup xs)/\∃ys,H b=some (.tup ys)/\xs.length+ys.length<=sizeLine/\∀p H',bA H H'->H' p=some (.tup (xs++ys))->Q (.ref p) H'
theorem fg:oQ X (binaryOp .Add) RP:=by
 intro aJ s σ H x y v u Q I rx ry h;replace h:=xI h;obtain⟨a,rfl,h⟩:=h;replace h:=xI h;obtain⟨b,rfl,xs,ha,ys,hb,hz,q⟩:=h;by_cases hx:xs=[]
 ·subst hx;cases rx;cases ry;obtain⟨its,r1,p1,_⟩:=I.tuple (dN.of ha);obtain⟨its2,r2,p2,_⟩:=I.tuple (dN.of hb);have hv:its=[]:=r1.nil_iff.mpr rfl;obtain⟨⟨cls,dd,data,sl⟩,ho,hc,n,hd⟩:=id p1;obtain⟨⟨cls2,dd2,data2,sl2⟩,ho2,hc2,n2,hd2⟩:=id p2;simp only at hc hd hc2 hd2;subst hc hd hc2 hd2;exact concat_meets ⟨_,ho,rfl⟩ ⟨_,ho2,rfl⟩ noFill_tuple_add seq_tuple_add pS pO (pE _ _) (tuple_addW0 a b its.toArray its2.toArray n n2 dd dd2 sl sl2 (by simp[hv])) ⟨ho,ho2,⟨.ref b,H,I,rfl,q b H (bA.refl H) hb⟩⟩
 ·refine fe aJ s σ H _ _ v u Q I rx ry ⟨xs,dN.of ha,ys,dN.of hb,hx,hz,λe=>?_,λ_ p hp=>q p _ (zF hp _) zB⟩;subst e;exact q a H (bA.refl H) (by rw[cN];exact ha)
end
section
open PySem.SeqAt
end
section
variable {I:Addr} {wr:List Addr} {P:Nat->Value->Prop} {St:Nat->Shared->Prop}
end
theorem CA:∀{vs:List Value}{ss:List Int},vs.length=ss.length->(∀(i:Nat)(v:Value)(x:Int),vs[i]?=some v->ss[i]?=some x->∃t,v=.int x t)->IntsAre vs ss
 |[],[],_,_=>.nil
 |[],_::_,h,_=>by simp at h
 |_::_,[],h,_=>by simp at h
 |v::vs,x::ss,h,hh=>by
  obtain⟨t,rfl⟩:=hh 0 v x rfl rfl;exact .cons x t (CA (by simpa using h) λi v' x' h1 h2=>hh (i+1) v' x' (by simpa using h1) (by simpa using h2))
section
open PySem.SeqAt PySem.W
theorem QK:∀{vs:List Value}{ss:List Int},IntsAre vs ss->dD (ss.map V.int) vs
 |_,_,.nil=>.nil
 |_,_,.cons y t h=>.cons ⟨t,rfl⟩ (QK h)
section
variable {P:Nat->Value->Prop} {OK:Heap->Prop}
end
end
section
open PySem.SeqAt
def Ite(a:Addr):It:=
 ⟨λi H=>∃xs x,H a=some (.lst xs)/\xs[i]?=some x,
  λi H v H'=>∃p x,v=.ref p/\H p=none/\H'=upd H p (.tup [.int i,x])/\∀xs,H a=some (.lst xs)->xs[i]?=some x,
  λi H=>∃xs,H a=some (.lst xs)/\xs.length<=i⟩
def Eat(e it l:Addr)(i:Nat)(h:Heap):Prop:=(∃old,IsEnum h e it i old)/\h.IsListIter it l i
theorem LS{elts:List Expr}{cx:_}{tp:Pos}(e it l:Addr)(ne:e≠it):
 NS P w K (.Tuple elts cx tp) (Ite l) [e,it] e (Eat e it l) where
 mem:=by simp
 obj:=λi h st b hb=>by
  obtain⟨⟨old,ge⟩,⟨o2,r2,_,d2⟩⟩:=st;simp only[bK,fU,or_false]at hb;rcases hb with rfl |rfl
  ·exact⟨_,ge,λv e=>by cases e⟩
  ·exact⟨_,r2,λv e=>by rw[d2]at e;cases e⟩
 keep:=λi h h' st k=>by
  obtain⟨⟨old,ge⟩,⟨o2,r2,q2⟩⟩:=st;exact⟨⟨old,k _ (by simp) _ ge⟩,⟨o2,k _ (by simp) _ r2,q2⟩⟩
 item:=by
  intro X hP hw hK hc i aJ s σ H E I hf st hg;subst hP hw hK;obtain⟨xs,x,ha,hx⟩:=hg;obtain⟨its,rv,t1⟩:=bG.lst_of I.hok ha;obtain⟨u,hu,ru⟩:=rv.get hx;obtain⟨⟨old,ge⟩,r1⟩:=st;refine wpAny_pyNext_enum_item ge r1 t1 (by simpa using hu) ne λh1 b1 b2 b3 b4 b5=>?_
  refine⟨_,rfl,wpAny_letOwnedTupleGo_enum (s:={s with heap:=h1,toks:=s.toks+1}) b1 λh2 g2 s2=>?_⟩;have be:e<s.heap.objs.size:=bD ge;have bi:it<s.heap.objs.size:=by obtain⟨_,z,_⟩:=r1;exact bD z
  have keep2:∀b o,b∉[e,it]->s.heap.get? b=some o->h2.get? b=some o:=λb o hb q=>by
   simp only[bK,fU,or_false,not_or]at hb;exact s2.extBut b o hb.1 (b5 b o hb.1 hb.2 q)
  have hfr:H s.heap.objs.size=none:=I.hok.fresh (aG _);have gT:=s2.extBut _ _ (Nat.ne_of_gt be) b3;refine⟨.ref s.heap.objs.size,_,I.turnedN (t':=s.toks+1) (p:=s.heap.objs.size) (o:=.tup [.int i,x]) keep2 hf (aG _) ⟨small (by simp),[.int i s.toks,u],.cons ⟨_,rfl⟩ (.cons ru .nil),⟨_,gT,rfl,_,rfl⟩⟩,rfl,⟨_,x,rfl,hfr,rfl,λxs' e1=>?_⟩,?_,λb hb=>?_⟩
  ·rw[ha]at e1;cases e1;exact hx
  ·obtain⟨o2,b21,b22⟩:=b2;exact⟨⟨_,g2⟩,⟨o2,s2.extBut _ _ (cH ne) b21,b22⟩⟩
  ·have hb2:b<s.heap.objs.size:=by
    simp only[bK,fU,or_false]at hb;rcases hb with rfl |rfl
    ·exact be
    ·exact bi
   rw[zJ (bW hb2)];exact(hf b hb).1
 done:=by
  intro X hP hw hK hc i aJ s σ H E I hf st hg;subst hP hw hK;obtain⟨xs,ha,hl⟩:=hg;obtain⟨its,rv,t1⟩:=bG.lst_of I.hok ha;have k1:=rv.length;obtain⟨⟨old,ge⟩,r1⟩:=st;refine wpAny_pyNext_enum_end (I.ok.hd hc) ge r1 t1 (by simp;lia) λh1 kk=>⟨rfl,?_⟩
  refine I.turnedL (ch:=[it]) (t':=s.toks) (λb o hb q=>?_) (λb hb=>hf b (by simp only[bK,fU,or_false]at hb⊢;exact .inr hb));simp only[bK,fU,or_false]at hb;exact kk b o hb q
 self:=λ_ _ _ _ _ st h=>by
  obtain⟨⟨old,ge⟩,_⟩:=st;exact wpAny_pyIter_enum ge h
def vK(ta:TA):TI:=λσ H R=>ta σ H λvs H1=>pG vs λx=>mN x λa=>∃xs,H1 a=some (.lst xs)/\R (Ite a) H1
theorem jR{elts:List Expr}{cx:_}{tp:Pos}{a:Expr}{ta:TA}{p pos:Pos}(hg:Gl X "enumerate")(hm:X.mg "enumerate"=none)(ha:PA X [a] ta)(hs:starEach [a] X.env=[(false,eval a X.env)]:=by rfl):
 PI X (.Tuple elts cx tp) (.Call (.Name "enumerate" p) [a] [] pos) (vK ta):=by
 intro aJ s σ H R I h;refine Call_ (wN I hg hm boot_enumerate (fQ (eL (ha pos aJ s σ H _ I h) λus s1 ⟨vs,H1,I1,r1,q1⟩=>?_) (by rw[hs];rfl) (by rfl)));replace q1:=wE q1;obtain⟨x,e,q1⟩:=q1;replace q1:=xI q1;obtain⟨l1,rfl,xs,h1,q⟩:=q1;subst e;cases r1 with
 |cons r rr=>
  cases rr;cases r;obtain⟨its1,rv1,t1⟩:=bG.lst_of I1.hok h1;refine call_enumerate_list t1 λh' gz g1 _ kk=>?_
  refine wpAny_pyIter_enum (s:={s1 with heap:=h'}) gz ?_;have fr:∀b,s1.heap.objs.size<=b->JJ X aJ H1 b:=λb hb=>I1.fpOk hb (I1.hok.fresh hb)
  refine⟨_,[s1.heap.objs.size+1,s1.heap.objs.size],_,_,H1,rfl,I1.kept (t':=s1.toks) kk,LS _ _ l1 (Nat.succ_ne_self _),⟨⟨_,gz⟩,g1⟩,λb hb=>?_,q⟩;simp only[bK,fU,or_false]at hb;rcases hb with rfl |rfl<;>exact fr _ ()
theorem KO{g:TG}(Pv:Nat->St->Hp->Prop)(h0:Pv 0 σ H)(hl:∀i σ H,Pv i σ H->H a=some (.lst xs))
 (hs:∀(i:Nat) x σ H p,xs[i]?=some x->Pv i σ H->H p=none->g (.ref p) σ (upd H p (.tup [.int i,x])) λσ2 H2=>tb {D with nx:=Pv (i+1),ct:=Pv (i+1),bk:=D.nx} σ2 H2)
 (hd:∀σ H,Pv xs.length σ H->D.nx σ H):JS (Ite a) g tb D σ H:=by
 refine⟨λi m σ H=>m=xs.length-i/\i<=xs.length/\Pv i σ H,⟨_,by rfl,cG _,h0⟩,λi m σ1 H1 ⟨hm,hi,hp⟩=>?_⟩;have k1:=hl i σ1 H1 hp;by_cases h:i<xs.length
 ·refine .inr ⟨⟨xs,_,k1,aA h⟩,Pv (i+1),λσ' H' q=>⟨_,?_,rfl,(),q⟩,λv H' ⟨p,x,e1,e2,e3,e4⟩=>?_⟩
  ·lia
  ·subst e1;subst e3;exact hs i x σ1 H1 p (e4 xs k1) hp e2
 ·have e:i=xs.length:=by lia
  subst e;exact .inl ⟨⟨xs,k1,aG _⟩,hd σ1 H1 hp⟩
theorem YR{g:TG}(Pv:Nat->St->Hp->Prop)(h0:Pv 0 σ H)(hl:∀i σ H,Pv i σ H->H a=some (.lst xs))
 (hs:∀(i:Nat) x σ H p,xs[i]?=some x->Pv i σ H->H p=none->∀N:St->Hp->Prop,(∀σ H,Pv (i+1) σ H->N σ H)->g (.ref p) σ (upd H p (.tup [.int i,x])) λσ2 H2=>tb {D with nx:=N,ct:=N,bk:=D.nx} σ2 H2)
 (hd:∀σ H,Pv xs.length σ H->D.nx σ H):JS (Ite a) g tb D σ H:=KO Pv h0 hl (λi x σ H p a b c=>hs i x σ H p a b c _ λ_ _ z=>z) hd
theorem IY{g:TG}{Q:VK}(Pv:Nat->List V->St->Hp->Prop)(h0:Pv 0 [] (JP ns js σ) H)(hz:xs.length<=sizeLine)(hl:∀i ys σ H,Pv i ys σ H->ys.length<=i)
 (hK:∀i ys σ H,Pv i ys σ H->H a=some (.lst xs))
 (hs:∀(i:Nat) x ys σ H p (C:V->St->Hp->Prop),xs[i]?=some x->Pv i ys σ H->H p=none->(∀y σ2 H3,Pv (i+1) (ys++[y]) σ2 H3->C y σ2 H3)->g (.ref p) σ (upd H p (.tup [.int i,x])) λσ2 H2=>te σ2 H2 λy H3=>C y σ2 H3)
 (hd:∀ys σ H,Pv xs.length ys σ H->∀p,H p=none->Q (.ref p) (upd H p (.lst ys))):
 bj (Ite a) ns js g none te σ H Q:=
 KA (n:=xs.length) Pv h0 hz hl (λi ys σ H hi w=>⟨xs,xs[i],hK i ys σ H w,aA hi⟩) (λys σ H w=>⟨xs,hK _ ys σ H w,aG _⟩)
  (λi ys σ H x H' C hi w ⟨p,y,e1,e2,e3,e4⟩ hC=>by subst e1;subst e3;exact hs i y ys σ H p C (e4 xs (hK i ys σ H w)) w e2 hC) hd
def Itd(hi:Int)(n:Nat):It:=⟨λi _=>i<n,λi H x H'=>H'=H/\x=.int (hi-i),λi _=>n<=i⟩
theorem LU(it:Addr)(hi:Int)(n:Nat):NS P w K tg (Itd hi n) [it] it (λi h=>IsRangeIter h it (hi+(i:Nat)*(-1)) ((n:Int)-(i:Nat)) (-1)) where
 mem:=by simp
 obj:=λi h st b hb=>by
  have e:b=it:=by simpa using hb
  subst e;exact⟨_,st,λv z=>by
   have z':Data.fields _=Data.cell v:=z;cases z'⟩
 keep:=λi h h' st k=>k it (by simp) _ st
 item:=by
  intro X hP hw hK hc i aJ s σ H E I hf st hg;subst hP hw hK;obtain⟨f0,f1,f2,f3,f4,f5⟩:=hf it (by simp);have W:=Walks.range (prog:=X.prog) (w:=X.w) (I.ok.hd hc) it hi (-1) n;refine W.item i s _ _ hg st λv h' tk hv cQ kk=>?_
  obtain⟨t,rfl⟩:=hv;have I1:Inv X aJ σ H {s with heap:=h',toks:=tk}:=I.turned (λb o hb e=>kk b o (by simpa using hb) e) f0 f1 f3 f4 f5;refine⟨_,rfl,KL (s:={s with heap:=h',toks:=tk}) (n:="range_iterator") cQ rfl rfl (by decide) ⟨.int (hi-i),H,I1,⟨t,?_⟩,⟨rfl,rfl⟩,cQ,λb hb=>(hf b hb).1⟩⟩;have e:hi-(i:Int)=hi+(i:Int)*(-1):=by lia
  rw[e]
 done:=by
  intro X hP hw hK hc i aJ s σ H E I hf st hg;subst hP hw hK;obtain⟨f0,f1,f2,f3,f4,f5⟩:=hf it (by simp);exact wpAny_pyNext_range_end (I.ok.hd hc) st (by have :n<=i:=hg;lia) λh' eb=>⟨rfl,I.turned (t':=s.toks) (λb o hb e=>eb b o hb e) f0 f1 f3 f4 f5⟩
 self:=λ_ _ _ _ _ st h=>wpAny_pyIter_rangeiter st h
theorem JX(a:Int)(h:0<=a):Builtin.Range.rangeSize a (-1) (-1)=a+1:=by
 unfold Builtin.Range.rangeSize;rw[aH (by decide),aL ()];simp
theorem small_down{a:Int}(h:0<=a)(h2:a<2^62):Builtin.Range.small a (-1) (-1)=true:=by
 unfold Builtin.Range.small;rw[JX a h];simp only[Builtin.Range.rangeFitsLong,bY,nU,bO,cS,show¬((-1:Int)>0) by decide,dO];lia
def kj(ta:TA):TI:=λσ H R=>ta σ H λvs H1=>∃a:Nat,vs=[.int a,.int (-1),.int (-1)]/\a<100000/\R (Itd a (a+1)) H1
theorem d8{a b:Expr}{ta:TA}{p pos:Pos}(hg:Gl X "range")(hm:X.mg "range"=none)(ha:PA X [a,b,c] ta)(hs:starEach [a,b,c] X.env=[(false,eval a X.env),(false,eval b X.env),(false,eval c X.env)]:=by rfl)(hs2:starEach [b,c] X.env=[(false,eval b X.env),(false,eval c X.env)]:=by rfl):
 PI X tg (.Call (.Name "range" p) [a,b,c] [] pos) (kj ta):=by
 intro aJ s σ H R I h;refine Call_ (wN I hg hm boot_range (fQ (eL (ha pos aJ s σ H _ I h) λus s1 ⟨vs,H1,I1,r1,q1⟩=>?_) (by rw[hs,hs2]) (by rw[hs2];rfl)));obtain⟨n,e,hn,q⟩:=q1;subst e;cases r1 with
 |cons r rr=>
  cases rr with
  |cons r' rr=>
   cases rr with
   |cons r'' rr=>
    cases rr;obtain⟨t,rfl⟩:=r;obtain⟨t',rfl⟩:=r';obtain⟨t'',rfl⟩:=r'';refine call_range_3 (by decide) ?_ (Or.inl (PyProof.noPylong_small (by decide)));refine wpAny_pyIter_range (IsRange.new ..) (small_down () ()) ?_;have I2:Inv X aJ σ H1 {s1 with heap:=s1.heap.push {cls:=.type "range",data:=.fields #[.int n t,.int (-1) t',.int (-1) t'']},toks:=s1.toks}:=I1.kept λb o e=>aP _ e
    refine⟨(s1.heap.push {cls:=.type "range",data:=.fields #[.int n t,.int (-1) t',.int (-1) t'']}).objs.size,[(s1.heap.push {cls:=.type "range",data:=.fields #[.int n t,.int (-1) t',.int (-1) t'']}).objs.size],_,_,H1,rfl,
     I2.kept (t':=s1.toks) λb o e=>aP _ e,LU _ n (n+1),?_,λb hb=>?_,q⟩
    ·have e1:(n:Int)+((0:Nat):Int)*(-1)=n:=by simp
     have e2:(((n+1:Nat):Nat):Int)-((0:Nat):Int)=Builtin.Range.rangeSize n (-1) (-1):=by rw[JX n ()];lia
     show IsRangeIter _ _ ((n:Int)+((0:Nat):Int)*(-1)) ((((n+1:Nat):Nat):Int)-((0:Nat):Int)) (-1);rw[e1,e2];exact bX _ rfl
    ·have e:b=(s1.heap.push {cls:=.type "range",data:=.fields #[.int n t,.int (-1) t',.int (-1) t'']}).objs.size:=by simpa using hb
     subst e;exact I2.fpOk (aG _) (I2.hok.fresh (aG _))
theorem io{hi:Int}{g:TG}(Pv:Nat->St->Hp->Prop)(h0:Pv 0 σ H)
 (hs:∀i σ H,i<n->Pv i σ H->g (.int (hi-i)) σ H λσ2 H2=>tb {D with nx:=Pv (i+1),ct:=Pv (i+1),bk:=D.nx} σ2 H2) (hd:∀σ H,Pv n σ H->D.nx σ H):JS (Itd hi n) g tb D σ H:=by
 refine⟨λi m σ H=>m=n-i/\i<=n/\Pv i σ H,⟨_,by rfl,cG _,h0⟩,λi m σ1 H1 ⟨hm,hi',hp⟩=>?_⟩;by_cases h:i<n
 ·refine .inr ⟨h,Pv (i+1),λσ' H' q=>⟨_,?_,rfl,(),q⟩,λv H' ⟨e1,e2⟩=>?_⟩
  ·lia
  ·subst e1;subst e2;exact hs i σ1 _ h hp
 ·have e:i=n:=by lia
  subst e;exact .inl ⟨aG _,hd σ1 H1 hp⟩
theorem qT{k:Nat}{t:lf}{pos:Pos}(hc:X.calm=true)(h:PGs X es t)(hK:X.K=K:=by rfl)
 (hn:(assignEach es X.env).length=n:=by rfl) (hst:(assignEach es X.env).findIdx? (·.1)=none:=by rfl):PG X (.Tuple es k pos) (vN K n t):=by
 subst hK;exact vA hc h hn hst
end
theorem TB:∀n:Nat,0<n->∃t m,n=2^t*(2*m+1):=by
 intro n
 induction n using Nat.strongRecOn with
 |_ n ih=>
  intro h;by_cases ho:n % 2=1
  ·exact⟨0,n/2,()⟩
  ·obtain⟨t,m,e⟩:=ih (n/2) () ();refine⟨t+1,m,?_⟩;rw[Nat.pow_succ,Nat.mul_assoc,Nat.mul_left_comm,←e];lia
theorem TQ(h:0<n):∃t,n.testBit t=true/\(∀i,i<t->n.testBit i=false)/\n-(n&&&(n-1))=2^t/\∀i,(n&&&(n-1)).testBit i=(n.testBit i&&decide (i≠t)):=by
 obtain⟨t,m,e⟩:=TB n h;have e1:n=2^t*(2*m+1)+0:=by lia
 have hp:0<2^t:=au t;have e2:n-1=2^t*(2*m)+(2^t-1):=by
  rw[e,OM,OL];lia
 have b1:∀i,n.testBit i=if i<t then false else(2*m+1).testBit (i-t):=λi=>by
  rw[e,Nat.testBit_two_pow_mul];by_cases hi:i<t
  ·rw[aL hi,dE (),fK]
  ·rw[aH hi,dX (),pF]
 have b2:∀i,(n-1).testBit i=if i<t then true else(2*m).testBit (i-t):=λi=>by
  rw[e2,Nat.testBit_two_pow_mul_add _ ()];by_cases hi:i<t
  ·rw[aL hi,aL hi,oC,dX hi]
  ·rw[aH hi,aH hi]
 have ev:∀j,(2*m).testBit j=((2*m+1).testBit j&&decide (j≠0)):=λj=>by
  cases j with
  |zero=>simp
  |succ j=>
   rw[Nat.testBit_succ,Nat.testBit_succ];have :(2*m+1)/2=2*m/2:=by lia
   rw[this];simp
 have b3:∀i,(n&&&(n-1)).testBit i=(n.testBit i&&decide (i≠t)):=λi=>by
  rw[lN,b1,b2];by_cases hi:i<t
  ·rw[aL hi,fK,fK]
  ·rw[aH hi,aH hi,ev];have :decide (i-t≠0)=decide (i≠t):=by
    rw[decide_eq_decide];lia
   rw[this];cases (2*m+1).testBit (i-t)<;>simp
 have e3:n&&&(n-1)=2^t*(2*m):=by
  apply nH;intro i;rw[b3,b1,Nat.testBit_two_pow_mul];by_cases hi:i<t
  ·rw[aL hi,show decide (i≥t)=false from dE (),fK,fK]
  ·rw[aH hi,show decide (i≥t)=true from dX (),pF,ev];have :decide (i-t≠0)=decide (i≠t):=by
    rw[decide_eq_decide];lia
   rw[this]
 refine⟨t,?_,λi hi=>?_,?_,b3⟩
 ·rw[b1,aH (),fJ];simp
 ·rw[b1,aL hi]
 ·rw[e3,e,OM,OL];lia
def rH(n:Nat)(xs:List Nat):Prop:=xs.Pairwise (· < ·)/\∀i,n.testBit i=decide (i∈xs)
theorem rH.nil(h:rH n []):n=0:=nH λi=>by rw[h.2];simp
theorem rH.cons{n x:Nat}{xs:List Nat}(h:rH n (x::xs)):0<n/\n-(n&&&(n-1))=2^x/\rH (n&&&(n-1)) xs:=by
 have hx:n.testBit x=true:=by rw[h.2];simp
 have hn:0<n:=Nat.pos_of_ne_zero λz=>by rw[z]at hx;simp at hx
 obtain⟨t,t1,t2,t3,t4⟩:=TQ hn;have hp:=List.pairwise_cons.mp h.1;have e:t=x:=by
  rw[h.2,bO]at t1;rcases bK.mp t1 with e |e
  ·exact e
  ·have :=hp.1 t e;rw[t2 x this]at hx;cases hx
 subst e;refine⟨hn,t3,hp.2,λi=>?_⟩;rw[t4,h.2];by_cases hi:i=t
 ·subst hi;have :i∉xs:=λz=>dY _ (hp.1 i z)
  simp[this]
 ·simp[hi]
section
open PySem.SeqAt
theorem BY:PIp X .BitOr (VX λi j=>Builtin.bitOr i j):=by
 intro aJ s σ H x y v u Q I r1 r2 h;replace h:=qB h;obtain⟨i,e1,h⟩:=h;replace h:=qB h;obtain⟨j,e2,q⟩:=h;subst e1;subst e2;obtain⟨t,rfl⟩:=r1;obtain⟨t',rfl⟩:=r2;exact ior_int ⟨.int _,H,I.tok _,⟨_,rfl⟩,q⟩
theorem qq:PIp X .BitAnd (VX λi j=>Builtin.bitAnd i j):=by
 intro aJ s σ H x y v u Q I r1 r2 h;replace h:=qB h;obtain⟨i,e1,h⟩:=h;replace h:=qB h;obtain⟨j,e2,q⟩:=h;subst e1;subst e2;obtain⟨t,rfl⟩:=r1;obtain⟨t',rfl⟩:=r2;exact iand_int ⟨.int _,H,I.tok _,⟨_,rfl⟩,q⟩
theorem qp:PIp X .BitXor (VX λi j=>Builtin.bitXor i j):=by
 intro aJ s σ H x y v u Q I r1 r2 h;replace h:=qB h;obtain⟨i,e1,h⟩:=h;replace h:=qB h;obtain⟨j,e2,q⟩:=h;subst e1;subst e2;obtain⟨t,rfl⟩:=r1;obtain⟨t',rfl⟩:=r2;exact ixor_int ⟨.int _,H,I.tok _,⟨_,rfl⟩,q⟩
def IE:V->V->Hp->VK->Prop:=λx y H Q=>mN x λp=>∃(xs:List V)(i:Nat),y=.int i/\H p=some (.lst xs)/\∃v,xs[i]?=some v/\Q v H
theorem kJ:PGet X IE:=by
 intro aJ s σ H o i ov iv Q I ro ri h;replace h:=xI h;obtain⟨p,rfl,xs,k,rfl,hp,v,hk,q⟩:=h;cases ro;obtain⟨t,rfl⟩:=ri;obtain⟨its,r,pl,hz⟩:=I.list (dL.of hp);obtain⟨w,ew,rw'⟩:=r.get hk;have hl:=r.length;have hkl:=(aC.mp hk).1;have hs:=dG;exact wpAny_getItem_list pl.isList () () (by simpa using ew) ⟨v,H,I,rw',q⟩
def IG:V->List V->Hp->VK->Prop:=λx vs H Q=>sH x λi=>as0 vs (Q (.int (Builtin.Int.intBits i)) H)
theorem JO:MtR X "int.bit_length" IG:=by
 intro aJ s σ H x xs v us Q I rx rv h;replace h:=qB h;obtain⟨i,rfl,h⟩:=h;replace h:=as0_ h;obtain⟨rfl,q⟩:=h;cases rv;obtain⟨t,rfl⟩:=rx;exact call_int_bit_length ⟨.int _,H,I.tok _,⟨_,rfl⟩,q⟩
theorem IM(K:W.Frag){f:Str}{pos:Pos}(he:PE X e ta)(hb:attributeBase e f X.env (eval e X.env)=eval e X.env)(hK:X.K=K:=by rfl):PE X (.Attribute e f pos) (xZ K ta f):=by
 subst hK;exact xC he hb
theorem not_not(x:Int):Builtin.bitNot (Builtin.bitNot x)=x:=by unfold Builtin.bitNot;lia
theorem kF(m n:Nat):Builtin.bitOr (m:Int) (n:Int)=((m|||n:Nat):Int):=by
 unfold Builtin.bitOr;rw[bitAnd_nn (by unfold Builtin.bitNot;lia) (by unfold Builtin.bitNot;lia),not_not,not_not,not_not];simp
theorem DG(m n:Nat):Builtin.bitAnd (m:Int) (n:Int)=((m&&&n:Nat):Int):=by
 rw[bitAnd_pp () ()];simp
theorem TN(h:0<n):Builtin.bitAnd (n:Int) (-(n:Int))=((n-(n&&&(n-1)):Nat):Int):=by
 rw[bitAnd_pn () ()];have e:(Builtin.bitNot (-(n:Int))).toNat=n-1:=by unfold Builtin.bitNot;lia
 rw[e,cE];have :=Nat.and_le_left (n:=n) (m:=n-1);lia
theorem bp{x:Nat}(h:n-(n&&&(n-1))=2^x)(hb:n.testBit x=true):Builtin.bitXor (n:Int) ((2^x:Nat):Int)=((n&&&(n-1):Nat):Int):=by
 rw[bitXor_and,DG];have e:n&&&2^x=2^x:=by
  apply nH;intro i;rw[lN,lE];by_cases hi:x=i
  ·subst hi;simp[hb]
  ·simp[hi]
 rw[e];have :=Nat.and_le_left (n:=n) (m:=n-1);lia
theorem WT(x:Nat):Builtin.Int.intBits ((2^x:Nat):Int)=x+1:=by
 unfold Builtin.Int.intBits;have hp:0<2^x:=au x;rw[aH (by rw[cS];lia),Int.natAbs_natCast,Nat.log2_two_pow]
theorem vU(x:Nat):(1:Int)*2^(x:Int).toNat=((2^x:Nat):Int):=by
 rw[Int.one_mul,cE];simp
end
section
open PySem.SeqAt
section
variable {K:Type} [DecidableEq K] {knd:HeapKind prog w K} {k:K} {xs:List (K×Addr×Value)}
theorem MA{v:Value}(hu:knd.room A)(hkey:knd.is s.heap k a)(hm:s.heap.DictOfH knd d xs)
 (h1:∀p,atKey xs k=some p->Q p.2 {s with toks:=s.toks+knd.draws k})
 (h2:atKey xs k=none->∀h',h'.DictOfH knd d (storedH xs k a v)->Heap.SameBut d s.heap h'->Q v {s with heap:=h',toks:=s.toks+knd.draws k})
 (hsz:xs.length<=sizeLine):wpAny (model prog w) A (dictSetDefault d (.ref a) v) Q E s:=by
 obtain⟨o,es,ep,ho,hc,hd,he,his,hn⟩:=hm;unfold dictSetDefault
 try with_reducible refine eS ?_
 refine aF (knd.pyHash hu hkey ?_);refine aF (wpAny_dictFind_heap (s:={s with toks:=s.toks+knd.draws k}) hu hkey ho hd he his hn ?_ ?_)
 ·intro hno;have hnot:k∉xs.map (·.1):=not_mem_keys_of_get hno;refine aF (iP (aF (wpAny_updateDictKeys (hz:=by have e:=size_of_entries he;lia) (s:={s with toks:=s.toks+knd.draws k}) ho hd (aS (h2 (rE hno) _ ⟨_,_,ep+1,nY _ ho (Obj.isFreed_of_dict (Obj.data_mapDictKeys hd _)),
   hc.mapDictKeys _,Obj.data_mapDictKeys hd _,?_,?_,?_⟩ (mC ..))))))
  ·rw[GY (rE hno)];simp[he,entryOfKey]
  ·rw[GY (rE hno)];intro x hx;rcases bS.mp hx with hx |hx
   ·exact knd.keeps (his x hx) ho hd (mC ..)
   ·simp only[aT]at hx;subst hx;exact knd.keeps hkey ho hd (mC ..)
  ·rw[GY (rE hno)];rw[aU,mL];refine⟨hn,by simp,?_⟩;intro x hx y hy;simp only[cF,pW,aT]at hy;subst hy;exact λe=>hnot (e▸hx)
 ·intro j p hj;refine aF (nF (s:={s with toks:=s.toks+knd.draws k}) ho hd ?_);rw[entry_at he j,hj];exact aF (iP (aS (h1 p (atKey_of_get hn hj))))
theorem EE(hd:(d==sysModules)=false)(dflt:Value):
 MeetsIn prog w (Builtin.«dict.setdefault» ⟨[.ref d,.ref a,dflt],[]⟩) (λA R s=>knd.room A.in1/\∃k xs,knd.is s.heap k a/\s.heap.DictOfH knd d xs/\xs.length<=sizeLine/\
  (∀p,atKey xs k=some p->R (.ok (.ret p.2)) {s with toks:=s.toks+knd.draws k})/\
  (atKey xs k=none->∀h',h'.DictOfH knd d (storedH xs k a dflt)->Heap.SameBut d s.heap h'->R (.ok (.ret dflt)) {s with heap:=h',toks:=s.toks+knd.draws k})):=
 .of_wp λA R s ⟨hu,k,xs,hkey,hm,hz,h1,h2⟩=>by
  unfold Builtin.«dict.setdefault»;refine aF ?_;unfold Builtin.Dict.keyAndDefault;refine aF (nW hm.typeIs ?_);show wpAny _ _ (pure (d,Value.ref a,some dflt)) _ _ s;refine aS ?_;show wpAny _ _ (if(d==sysModules)=true then _ else(dictSetDefault d (.ref a) dflt >>= _)) _ _ s;rw[aH (by rw[hd];exact bQ)];exact aF (MA hu hkey hm (λp hp=>aS ⟨p.2,rfl,h1 p hp⟩) (λhn h' hm' fC=>aS ⟨dflt,rfl,h2 hn h' hm' fC⟩) hz)
end
theorem ME(h:mQ (some v) (some u)):RelV v u:=h
def jx(td ty tx:TE):TE:=λσ H Q=>td σ H λx H1=>∃a,x=.ref a/\IsD H1 a/\ty σ H1 λy H2=>tx σ H2 λz H3=>∃(kvs:List (List eI×V))(k:List eI)(b:Addr),H3 a=some (.dT kvs)/\y=.ref b/\H3 b=some (.tup (k.map kV))/\kvs.length<sizeLine/\
 (∀v,yM kvs k=some v->Q v H3)/\(yM kvs k=none->Q z (upd H3 a (.dT (jM kvs k z))))
section
variable {f:Expr} {iS:Pos} {td ty tx:TE}
theorem d9(hu:X.A.units+1<cLine)(ho:PE X o td)(he:PE X e ty)(hf:PE X f tx)(m:M2 X o "setdefault" lY e f iS):PE X (.Call (.Attribute o "setdefault" lY) [e,f] [] iS) (jx td ty tx):=by
 intro aJ s σ H Q I h;refine jr m.base m.few m.line pN aq F.type_dict_setdefault (eL (ho aJ s σ H _ I h) λu s1 ⟨x,H1,I1,rx,a,ex,d,q1⟩=>?_);subst ex;obtain rfl:u=Value.ref a:=rx;obtain⟨t1,t2,_⟩:=TZ I1 d;refine⟨t1,t2,?_⟩;rw[m.trees];refine iR rfl (oK (gR (eL (he aJ s1 σ H1 _ I1 q1) λiv s2 ⟨y,H2,I2,ry,q2⟩=>
  gR (eL (hf aJ s2 σ H2 _ I2 q2) λfv s3 ⟨z,H3,I3,rz,kvs,k,b,e,ey,eb,l,q3,q4⟩=>nJ ?_))))
 subst ey;cases (show iv=Value.ref b from ry);obtain⟨z0,hd,xs,mU,dd⟩:=km I3.hok e;have hz:xs.length<=sizeLine:=by rw[←eT mU];exact z0
 have hl:(jM kvs k z).length<=sizeLine:=by have :=qU kvs k z;lia
 refine sQ aq dd.typeIs F.entry_dict_setdefault (F.args_dict_setdefault_3 _ _ _) (EE (knd:=tupleKind (yB X.prog X.w)) hd fv) ⟨eD hu,k,xs,vH I3.hok eb,dd,hz,λp hp=>?_,λhn h' dd' hs=>?_⟩
 ·have rv:=mU.val k;rw[hp]at rv;cases hv:yM kvs k with
  |none=>rw[hv]at rv;cases rv
  |some v=>
   rw[hv]at rv;exact⟨v,H3,I3.tok _,ME rv,q3 v hv⟩
 ·have rv:=mU.val k;rw[hn]at rv;have hv:yM kvs k=none:=by
   cases hv:yM kvs k with
   |none=>rfl
   |some v=>rw[hv]at rv;cases rv
  obtain⟨q,es,ep,hq,h2,h3,h4,_,h5⟩:=dd';refine⟨z,upd H3 a (.dT (jM kvs k z)),vY I3 (by rw[e];exact True.intro) hs ⟨q,hq⟩ ⟨hl,hd,_,(mU.put k eb rz).keeps λc ys ec=>?_,q,es,ep,hq,h2,h3,h4,h5⟩,rz,q4 hv⟩;rw[zJ (jK ec e (λz=>nomatch z))];exact ec
end
end
section
open PySem.W
def nZ(h:Heap)(d:Addr)(es:Array DictEntry)(ep:Nat):Prop:=∃o,h.get? d=some o/\o.ExactDict/\o.data=.dict es ep
theorem nZ.typeIs{es:Array DictEntry}(x:nZ s.heap d es ep):s.TypeIs (.ref d) "dict":=let ⟨o,ho,hc,_⟩:=x;⟨o,ho,hc.1⟩
theorem nZ.at'{es:Array DictEntry}(x:nZ h d es ep)(e:∀o,h.get? d=some o->h'.get? d=some o):nZ h' d es ep:=let ⟨o,ho,r⟩:=x;⟨o,e _ ho,r⟩
theorem nZ.lt{es:Array DictEntry}(x:nZ h d es ep):d<h.objs.size:=let ⟨_,ho,_⟩:=x;bD ho
theorem dq(d:Addr)(hd:(d==sysModules)=false):MeetsIn prog w (Builtin.«dict.__len__» ⟨[.ref d],[]⟩) (λ_ R s=>∃es ep,nZ s.heap d es ep/\R (.ok (.ret (.int es.size s.toks))) {s with toks:=s.toks+1}):=
 .of_wp λA R s ⟨es,ep,hm,h⟩=>by
  obtain⟨o,a1,a2,a3⟩:=id hm;show wpAny _ _ (dictSize d >>= _) _ _ s;unfold dictSize;refine aF (aF (nF a1 a3 (aS ?_)));show wpAny _ _ (Builtin.Dict.pendingCount d >>= _) _ _ s;refine aF (wpAny_pendingCount_other hd ?_);refine wpAny_ret_mkInt ?_;rw[Nat.add_zero];exact h
theorem QW:∀{ys:List V}{us:List Value},ys.length=us.length->(∀(i:Nat)(y:V)(u:Value),ys[i]?=some y->us[i]?=some u->RelV y u)->dD ys us
 |[],[],_,_=>.nil
 |[],_::_,h,_=>by simp at h
 |_::_,[],h,_=>by simp at h
 |y::ys,u::us,h,hh=>.cons (hh 0 y u rfl rfl) (QW (by simpa using h) λi y' u' h1 h2=>hh (i+1) y' u' (by simpa using h1) (by simpa using h2))
theorem KT.at{H:Hp}:∀{kvs:List (List eI×V)}{xs:List (List eI×Addr×Value)},KT H kvs xs->∀{i:Nat}{p:List eI×V}{q:List eI×Addr×Value},kvs[i]?=some p->xs[i]?=some q->RelV p.2 q.2.2
 |_,_,.nil,i,p,q,h,_=>by simp at h
 |_,_,.cons hq t,0,p,q,h1,h2=>by
  simp only[pQ,HA]at h1 h2;subst h1 h2;exact hq.2.2
 |_,_,.cons hq t,i+1,p,q,h1,h2=>KT.at t (by simpa using h1) (by simpa using h2)
end
section
open PySem.W
section
variable {J:Addr} {wr:List Addr} {P:Nat->Value->Prop} {St:Nat->Heap->Prop}
structure ItSrc(prog:Program)(w:World)(T:String)(J:Addr)(fp wr:List Addr)(n:Nat)(P:Nat->Value->Prop)(St:Nat->Heap->Prop):Prop where
 walks:∀A:Around,A.handled=none->Walks prog w A J fp wr n P St
 type:∀s:Shared,St 0 s.heap->s.TypeIs (.ref J) T
 nl:(Value.type T==Value.type "list")=false
 nt:(Value.type T==Value.type "tuple")=false
 hint:∀(A:Around)(E:Value->Shared->Prop)(s:Shared)(Q:Bool->Shared->Prop),St 0 s.heap->Q false s->wpAny (model prog w) A (Builtin.List.listLengthHint (.ref J)) Q E s
 mem:J∈fp
 sub:wr ⊆ fp
end
end
section
open PySem.W
end
section
open PySem.W
def oG(n:Nat){α:Type}(P:α->Prop):KasT α->Prop
 | .ret a=>P a
 | .ask i j k=>i<n/\j<n/\i≠j/\∀b,oG n P (k b)
theorem oG.bind{n:Nat}{α β:Type}{P:α->Prop}{R:β->Prop}{f:α->KasT β}:∀{t:KasT α},oG n P t->(∀a,P a->oG n R (f a))->oG n R (t.bind f)
 | .ret a,h,hf=>hf a h
 | .ask i j k,h,hf=>⟨h.1,h.2.1,h.2.2.1,λb=>oG.bind (h.2.2.2 b) hf⟩
theorem oG.mono{n:Nat}{α:Type}{P R:α->Prop}(hp:∀a,P a->R a):∀{t:KasT α},oG n P t->oG n R t
 | .ret a,h=>hp a h
 | .ask i j k,h=>⟨h.1,h.2.1,h.2.2.1,λb=>oG.mono hp (h.2.2.2 b)⟩
theorem oG.wp{n:Nat}{α:Type}{P:α->Prop}{cmp:Nat->Nat->(Bool->Shared->Prop)->Shared->Prop}{I:Shared->Prop}{Q:α->Shared->Prop}
 (hc:∀i j C s,I s->i<n->j<n->i≠j->(∀b s',I s'->C b s')->cmp i j C s) (hq:∀a s,P a->I s->Q a s):∀{t:KasT α}{s:Shared},oG n P t->I s->t.kasWp cmp Q s
 | .ret a,s,h,hi=>hq a s h hi
 | .ask i j k,s,h,hi=>hc i j _ s hi h.1 h.2.1 h.2.2.1 λb s' hi'=>oG.wp hc hq (h.2.2.2 b) hi'
def fE(n:Nat)(p:Array Nat):Prop:=p.toList.Perm (List.range n)
theorem fE.size(h:fE n p):p.size=n:=by
 have :=List.Perm.length_eq h;rwa[bV,eY]at this
theorem fE.of{q:Array Nat}(h:fE n p)(e:q.Perm p):fE n q:=(iW.mp e).trans h
theorem fE.rev(h:fE n p)(i j:Nat):fE n (kas_rev p i j):=h.of (mirror_perm _ _ _ _)
theorem fE.at(h:fE n p)(hi:i<n):p.getD i 0<n:=by
 have hs:i<p.size:=by rw[h.size];exact hi
 have e:p.getD i 0=p[i]:=by simp[Array.getD,hs]
 rw[e];exact bR.mp (h.mem_iff.mp (by simp))
theorem fE.ne(h:fE n p)(hi:i<n)(hj:j<n)(hij:i≠j):p.getD i 0≠p.getD j 0:=by
 have hs:i<p.size:=by rw[h.size];exact hi
 have fC:j<p.size:=by rw[h.size];exact hj
 have e:p.getD i 0=p[i]:=by simp[Array.getD,hs]
 have e':p.getD j 0=p[j]:=by simp[Array.getD,fC]
 rw[e,e'];have nd:p.toList.Nodup:=h.nodup_iff.mpr List.nodup_range;intro z;have :=dM.mp nd;rcases Nat.lt_or_gt_of_ne hij with l |l
 ·exact this i j (by simpa using hs) (by simpa using fC) l (by simpa using z)
 ·exact this j i (by simpa using fC) (by simpa using hs) l (by simpa using z.symm)
theorem fE.ask(h:fE n p){P:α->Prop}{k:Bool->KasT α}(hi:i<n)(hj:j<n)(hij:i≠j)(hk:∀b,oG n P (k b)):oG n P (.ask (p.getD i 0) (p.getD j 0) k):=⟨h.at hi,h.at hj,h.ne hi hj hij,hk⟩
theorem GN{n:Nat}{p:Array Nat}(h:fE n p):∀(f m:Nat),1<=m->m+f<=n->oG n (λr=>m<=r/\r<=m+f) (kas_asc p f m)
 |0,m,_,_=>⟨aG _,aG _⟩
 |f+1,m,h1,h2=>by
  refine h.ask () () () λb=>?_
  cases b with
  |true=>exact⟨aG _,()⟩
  |false=>exact oG.mono (λr hr=>⟨(),()⟩) (GN h f (m+1) () ())
theorem LA{n:Nat}:∀(f:Nat)(p:Array Nat)(m q:Nat),fE n p->1<=m->m+f<=n->oG n (λr=>fE n r.1/\m<=r.2.1/\r.2.1<=m+f) (kas_desc f p m q)
 |0,p,m,q,h,_,_=>⟨h,aG _,aG _⟩
 |f+1,p,m,q,h,h1,h2=>by
  have up:∀p' q',fE n p'->oG n (λr=>fE n r.1/\m<=r.2.1/\r.2.1<=m+(f+1)) (kas_desc f p' (m+1) q'):=λp' q' hp'=>oG.mono (λr hr=>⟨hr.1,(),()⟩) (LA f p' (m+1) q' hp' () ())
  refine h.ask () () () λb=>?_
  cases b with
  |true=>
   show oG n _ (if q>0 then _ else _);split
   ·exact up _ _ (h.rev _ _)
   ·exact up _ _ h
  |false=>
   refine h.ask () () () λb=>?_
   cases b with
   |true=>exact⟨h,by show m<=m;lia,by show m<=_;lia⟩
   |false=>exact up _ _ h
theorem tR{m:Nat}(h:fE n p)(h1:1<=m)(h2:m<=n):oG n (λr=>fE n r.2/\1<=r.1/\r.1<=n) (kas_tail3 m n p):=by
 refine oG.bind (GN (h.rev _ _) (n-m) m h1 ()) λa ha=>?_
 exact⟨h.rev _ _,by show 1<=a;lia,by show a<=n;lia⟩
theorem ZU{m:Nat}(h:fE n p)(h1:1<=m)(h2:m+1<=n):oG n (λr=>fE n r.2/\1<=r.1/\r.1<=n) (kas_descPart m n p):=by
 refine oG.bind (LA (n-(m+1)) p (m+1) 0 h () ()) λr hr=>?_
 split
 ·exact tR (hr.1.rev _ _) () ()
 ·exact tR hr.1 () ()
theorem WM(h:fE n p)(hn:1<=n):oG n (λr=>fE n r.2/\1<=r.1/\r.1<=n) (kas_count n p):=by
 refine oG.bind (GN h (n-1) 1 (aG _) ()) λa ha=>?_
 by_cases e:(a==n)=true
 ·rw[aL e];exact⟨h,by show 1<=a;lia,by show a<=n;lia⟩
 rw[aH e];have ne:a≠n:=λz=>e (by rw[z];simp)
 by_cases g:a>1
 ·rw[aL g];refine h.ask () () () λb=>?_
  cases b with
  |true=>exact⟨h,by show 1<=a;lia,by show a<=n;lia⟩
  |false=>exact ZU (h.rev _ _) () ()
 ·rw[aH g];exact ZU h () ()
theorem XH{n:Nat}{p:Array Nat}(h:fE n p){k:Nat}(hk:k<n):∀(f l r:Nat),l<=k->r<=k->oG n (λx=>x<=k) (kas_place p k f l r)
 |0,l,r,hl,_=>hl
 |f+1,l,r,hl,hr=>by
  show oG n _ (if l≥r then _ else _);split
  ·exact hl
  ·refine h.ask () () () λb=>?_
   cases b with
   |true=>exact XH h hk f l _ hl ()
   |false=>exact XH h hk f _ r () hr
theorem WU{n:Nat}:∀(f:Nat)(p:Array Nat)(k:Nat),fE n p->k+f<=n->oG n (fE n) (kas_bin f p k)
 |0,p,k,h,_=>h
 |f+1,p,k,h,hk=>oG.bind (XH h () k 0 k () ()) λl _=>WU f _ (k+1) (h.of (bubble_perm _ _ _)) ()
theorem cu(hn:1<=n):oG n (fE n) (kas_sort n):=by
 refine oG.bind (WM (n:=n) (p:=List.toArray (List.range n)) (sC _) hn) λr hr=>?_
 split
 ·refine WU _ _ _ hr.1 ?_;have :max r.1 1=r.1:=by lia
  lia
 ·exact hr.1
theorem RW{vs:List Value}(h:fE vs.length p):(p.toList.map λi=>vs.getD i Value.none).Perm vs:=by
 have h1:(p.toList.map λi=>vs.getD i Value.none).Perm ((List.range vs.length).map λi=>vs.getD i Value.none):=List.Perm.map _ h;have e:(List.range vs.length).map (λi=>vs.getD i Value.none)=vs:=by
  refine List.ext_getElem (by simp) λi h1 h2=>?_
  rw[NZ,List.getElem_range];rw[bZ,aA h2];rfl
 rwa[e]at h1
theorem MJ{κ:SortKind}{vs:List Value}{P:PySem.Fin->Shared->Prop}(ho:s.heap.get? a=some (seqObj "list" vs.toArray n))(h64:vs.length<64)
 (hk:∀(s':Shared)(Q:SortKind->Shared->Prop),2<=vs.length->(∀b o,b≠a->s.heap.get? b=some o->s'.heap.get? b=some o)->Q κ s'->wpAny (model prog w) A (keyKind' vs.toArray) Q E s')
 (hc:∀(s':Shared)(i j:Nat)(C:Bool->Shared->Prop),(∀b o,b≠a->s.heap.get? b=some o->s'.heap.get? b=some o)->i<vs.length->j<vs.length->i≠j->(∀b tk,C b {s' with toks:=tk})->wpAny (model prog w) A (keyLt' κ (vs.getD i Value.none) (vs.getD j Value.none)) C (λ_ _=>False) s')
 (h:∀(out:List Value)(tk:Nat),out.Perm vs->P (.done (.ret .none)) {s with heap:=sortedHeap s.heap a vs out.toArray,toks:=tk}):wpAny (model prog w) A (Builtin.«list.sort» ⟨[.ref a],[]⟩) P E s:=by
 rw[list_sort_plain];have ha:a<s.heap.objs.size:=bD ho;have hsz:vs.toArray.size=vs.length:=by simp
 refine aF (listItems_at ho rfl ?_);refine aF (DO ho rfl ?_ (by rw[hsz,dG];lia) (cG _));obtain⟨e1,ho1⟩:∃e1,(s.heap.update a (Obj.mapSeq λ_=> #[])).get? a=some (seqObj "list" #[] e1):=⟨_,get?_update_seq ho (λ_=> #[])⟩
 refine aF (lr ho1 rfl ?_);refine aF (wpAny_newTuple ?_ (by show vs.length<=_;rw[dG];lia));refine aF (rJ ?_ (cG _));refine eS ?_;have ho6:(((s.heap.update a (Obj.mapSeq λ_=> #[])).push (seqObj "tuple" vs.toArray 0)).push (seqObj "list" #[] 0)).get? a=some (seqObj "list" #[] e1):=by
  rw[lB _ _ _ (by rw[size_push',oF];exact bW (gO ha)),lB _ _ _ (by rw[oF];exact bW ha)];exact ho1
 have keep:∀b o,b≠a->s.heap.get? b=some o->(((s.heap.update a (Obj.mapSeq λ_=> #[])).push (seqObj "tuple" vs.toArray 0)).push (seqObj "list" #[] 0)).get? b=some o:=λb o hb e=>aP _ (aP _ ((nI _ _ (cH hb)).trans e))
 show wpAny (model prog w) A _ P E {s with heap:=((s.heap.update a (Obj.mapSeq λ_=> #[])).push (seqObj "tuple" vs.toArray 0)).push (seqObj "list" #[] 0)};dsimp only;by_cases h2:vs.toArray.size<2
 ·rw[aL h2,aL h2];refine aF (aS ?_);rw[StateT.run_pure];refine aF (aS ?_);dsimp only;have e:(vs.toArray.zip vs.toArray).map (·.2)=vs.toArray:=by
   apply Array.toList_inj.mp;simp[List.map_snd_zip]
  refine aF (lr ho6 rfl ?_);refine aF (DO ho6 rfl ?_ (cG _) (by show((vs.toArray.zip vs.toArray).map (·.2)).size<=_;rw[e,hsz,dG];lia));simp only[bne_self_eq_false,cA,dO];refine aS ?_;show P _ {s with heap:=sortedHeap s.heap a vs ((vs.toArray.zip vs.toArray).map (·.2))};rw[e];exact h vs s.toks (sC _)
 ·rw[aH h2,aH h2];have h2':2<=vs.length:=by lia
  refine aF (hk _ _ h2' keep ?_);have hwp:(kas_sort vs.length).kasWp (kas_ask prog w A κ vs) (λp s'=>fE vs.length p/\∃tk,s'={s with heap:=((s.heap.update a (Obj.mapSeq λ_=> #[])).push (seqObj "tuple" vs.toArray 0)).push (seqObj "list" #[] 0),toks:=tk}) {s with heap:=((s.heap.update a (Obj.mapSeq λ_=> #[])).push (seqObj "tuple" vs.toArray 0)).push (seqObj "list" #[] 0)}:=by
   refine oG.wp (I:=λs'=>∃tk,s'={s with heap:=((s.heap.update a (Obj.mapSeq λ_=> #[])).push (seqObj "tuple" vs.toArray 0)).push (seqObj "list" #[] 0),toks:=tk}) (λi j C s' hI hi hj hij hC=>?_) (λp s' hp hI=>⟨hp,hI⟩) (cu ()) ⟨s.toks,rfl⟩;obtain⟨tk,rfl⟩:=hI;exact hc _ i j C keep hi hj hij (λb tk=>hC b _ ⟨tk,rfl⟩)
  refine aF (lJ (kat_run (Q:=λcQ s'=>∃p:Array Nat,p.size=vs.length/\arrOf cQ=p.map (kas_item (vs.toArray.zip vs.toArray))/\failedOf cQ=none/\fE vs.length p/\∃tk,s'={s with heap:=((s.heap.update a (Obj.mapSeq λ_=> #[])).push (seqObj "tuple" vs.toArray 0)).push (seqObj "list" #[] 0),toks:=tk}) rfl h2' h64 (λp cQ s' a1 a2 a3 a4=>⟨p,a1,a2,a3,a4⟩) hwp) ?_ λ_ _ e=>e);rintro⟨⟨⟩,cQ⟩ s' ⟨p,hp,har,hf,hpn,tk,rfl⟩;dsimp only;have hout:=kat_snds (ks:=vs) (vs:=vs) rfl har;have ho7:(Shared.heap {s with heap:=((s.heap.update a (Obj.mapSeq λ_=> #[])).push (seqObj "tuple" vs.toArray 0)).push (seqObj "list" #[] 0),toks:=tk}).get? a=some (seqObj "list" #[] e1):=ho6;refine aF (lr ho7 rfl ?_);refine aF (DO ho7 rfl ?_ (cG _) (by rw[hout,aR,aE,bV,hp,dG];lia));rw[hf];simp only[bne_self_eq_false,cA,dO];refine aS ?_;rw[hout];exact h _ tk (RW hpn)
theorem AM{κ:SortKind}{vs:List Value}(hl:s.heap.IsList l vs.toArray)(h64:vs.length<64)
 (hk:∀(s':Shared)(E:Value->Shared->Prop)(Q:SortKind->Shared->Prop),2<=vs.length->(∀b o,s.heap.get? b=some o->s'.heap.get? b=some o)->Q κ s'->wpAny (model prog w) A.in1.in1 (keyKind' vs.toArray) Q E s')
 (hc:∀(s':Shared)(i j:Nat)(C:Bool->Shared->Prop),(∀b o,s.heap.get? b=some o->s'.heap.get? b=some o)->i<vs.length->j<vs.length->i≠j->(∀b tk,C b {s' with toks:=tk})->wpAny (model prog w) A.in1.in1 (keyLt' κ (vs.getD i Value.none) (vs.getD j Value.none)) C (λ_ _=>False) s')
 (h:∀(h':Heap)(tk e:Nat)(out:List Value),out.Perm vs->(∀b o,s.heap.get? b=some o->h'.get? b=some o)->h'.get? (s.heap.objs.size+1)=some (seqObj "list" out.toArray e)->Q (.ref (s.heap.objs.size+1)) {s with heap:=h',toks:=tk}):
 wpAny (model prog w) A (call (.builtin "sorted") [.ref l]) Q E s:=by
 refine pY kind_sorted plain_sorted entry_sorted (args_sorted1 _) ?_;unfold Builtin.«sorted»;refine aF (m:=checkCount "sorted" 1 1 _) (aS ?_);refine aF (collect_list hl ?_ (by rw[dG];lia));refine aF (rJ ?_ (by rw[dG];lia));have hsz:((s.heap.push (seqObj "list" #[] 0)).update s.heap.objs.size (Obj.mapSeq (· ++vs.toArray))).objs.size=s.heap.objs.size+1:=by rw[oF,size_push']
 have hoL:(((s.heap.push (seqObj "list" #[] 0)).update s.heap.objs.size (Obj.mapSeq (· ++vs.toArray))).push (seqObj "list" vs.toArray 0)).get? (s.heap.objs.size+1)=some (seqObj "list" vs.toArray 0):=by rw[←hsz];exact bX _ rfl
 have keep:∀b o,s.heap.get? b=some o->(((s.heap.push (seqObj "list" #[] 0)).update s.heap.objs.size (Obj.mapSeq (· ++vs.toArray))).push (seqObj "list" vs.toArray 0)).get? b=some o:=λb o q=>by
  have iY:b<s.heap.objs.size:=bD q;rw[lB _ _ _ (by rw[hsz];exact bW (gO iY)),Heap.get?_update_ne _ _ _ _ (bW iY),lB _ _ _ (bW iY)];exact q
 have nb:∀{b:Addr}{o:Obj},s.heap.get? b=some o->b≠s.heap.objs.size+1:=λq=>bW (gO (bD q))
 show wpAny _ _ _ _ _ {s with heap:=((s.heap.push (seqObj "list" #[] 0)).update s.heap.objs.size (Obj.mapSeq (· ++vs.toArray))).push (seqObj "list" vs.toArray 0)};rw[hsz];refine aF (eS (gF slot_list_sort ⟨_,hoL,rfl⟩ entry_list_sort (MJ (κ:=κ) (A:=A.in1.in1) hoL h64 (λs' Q' h2 kp hq=>hk s' _ Q' h2 (λb o e=>kp b o (nb e) (keep b o e)) hq) (λs' i j C kp hi hj hij hC=>hc s' i j C (λb o e=>kp b o (nb e) (keep b o e)) hi hj hij hC) λout tk hp=>⟨_,rfl,?_⟩) (args_list_sort _)));obtain⟨e,he⟩:=sortedHeap_at (out:=out.toArray) hoL;refine aS ⟨_,rfl,h _ tk e out hp (λb o q=>?_) he⟩;rw[sortedHeap_old (nb q) (bD (keep b o q))];exact keep b o q
theorem AC:∀{as:List Addr}{us:List Value},dD (as.map V.ref) us->us=as.map Value.ref
 |[],_,.nil=>rfl
 |a::as,_,.cons r t=>by
  have e:_=Value.ref a:=r;rw[e,AC t];rfl
def jf(H:Hp)(a:Addr)(z:Str):Prop:=∃r,H a=some (.tup (.str z::r))
theorem jf.raw{z:Str}(ok:mR P w H h)(t:jf H a z):∃o xs n tk r,h.get? a=some o/\o.cls=.type "tuple"/\o.data=.seq xs n/\xs=(Value.str z tk::r).toArray:=by
 obtain⟨r,ht⟩:=t;obtain⟨_,its,rr,o,h1,h2,n,h3⟩:=(show fA P w H h a (.tup (.str z::r))from ok a _ ht)
 cases rr with
 |cons r1 r2=>
  obtain⟨tk,rfl⟩:=r1;exact⟨o,_,n,tk,_,h1,h2,h3,rfl⟩
theorem TY{P:Program}{w:World}{H:Hp}{h h':Heap}(ok:mR P w H h)(kp:∀b o,h.get? b=some o->h'.get? b=some o):∀(as:List Addr)(zs:List Str),as.length=zs.length->(∀(i:Nat)(a:Addr)(z:Str),as[i]?=some a->zs[i]?=some z->jf H a z)->∃fs,KatTups h' (as.map Value.ref) fs/\fs.length=as.length/\∀f∈fs,∃z tk,f=Value.str z tk
 |[],[],_,_=>⟨[],trivial,rfl,λ_ h=>nomatch h⟩
 |[],_::_,h,_=>by simp at h
 |_::_,[],h,_=>by simp at h
 |a::as,z::zs,hl,ht=>by
  obtain⟨fs,h1,h2,h3⟩:=TY ok kp as zs (by simpa using hl) λi a' z' ha hz=>ht (i+1) a' z' (by simpa using ha) (by simpa using hz)
  obtain⟨o,xs,n,tk,r,g1,g2,g3,g4⟩:=(ht 0 a z rfl rfl).raw ok;refine⟨Value.str z tk::fs,⟨⟨a,o,xs,n,rfl,kp _ _ g1,g2,g3,by rw[g4];simp⟩,h1⟩,by simp[h2],λf hf=>?_⟩;rcases bK.mp hf with e |hf
  ·exact⟨z,tk,e⟩
  ·exact h3 f hf
theorem MX{z:Str}{tk:Tok}:Looks M h (typeOf (.str z tk)) (.type "str"):=λA Q E s _ q=>lV (typeIs_str s z tk) q
theorem VO:qQ X (.builtin "sorted") (λxs H Q=>bb X.calm (pG xs λx=>mN x λp=>∃as:List Addr,H p=some (.lst (as.map V.ref))/\∃zs:List Str,as.length=zs.length/\zs.length<64/\zs.Nodup/\(∀(i:Nat)(a:Addr)(z:Str),as[i]?=some a->zs[i]?=some z->jf H a z)/\
 ∀(l:Addr)(as':List Addr),H l=none->as'.Perm as->Q (.ref l) (upd H l (.lst (as'.map V.ref))))):=by
 intro aJ s σ H xs us Q I r h;replace h:=DF h;obtain⟨hcalm,h⟩:=h;replace h:=wE h;obtain⟨x0,rfl,h⟩:=h;replace h:=xI h;obtain⟨p,rfl,as,hp,zs,hl,h64,lG,ht,q⟩:=h;obtain⟨u,rfl,ru⟩:=uP r;cases ru;obtain⟨hz,its,nn,rv,o1⟩:=(show fA X.prog X.w H s.heap p (.lst (as.map V.ref))from I.hok p _ hp)
 have e:=AC rv;subst e;have eQ:(as.map Value.ref).length=as.length:=aE _;refine AM (κ:=tuples' true) (vs:=as.map Value.ref) ⟨_,o1,rfl,nn,rfl⟩ () (λs' E' Q' h2 kp hq=>?_) (λs' i j C kp hi hj hij hC=>?_) λh' tk e out hperm kp hS=>?_
 ·obtain⟨fs,k1,k2,k3⟩:=TY I.hok kp as zs hl ht;refine kat_kind (T:=.type "str") k1 () (λv hv=>?_) (by decide) hq;obtain⟨z,tk,rfl⟩:=k3 v hv;exact MX
 ·rw[eQ]at hi hj;have gi:(as.map Value.ref).getD i Value.none=.ref as[i]:=by rw[bZ,aK,aA hi];rfl
  have gj:(as.map Value.ref).getD j Value.none=.ref as[j]:=by rw[bZ,aK,aA hj];rfl
  have hiz:i<zs.length:=by lia
  have hjz:j<zs.length:=by lia
  obtain⟨oi,xi,ni,ti,ri,a1,a2,a3,a4⟩:=(ht i as[i] zs[i] (aA hi) (aA hiz)).raw I.hok;obtain⟨oj,xj,nj,tj,rj,b1,b2,b3,b4⟩:=(ht j as[j] zs[j] (aA hj) (aA hjz)).raw I.hok;have lU:zs[i]≠zs[j]:=by
   rcases Nat.lt_or_gt_of_ne hij with l |l
   ·exact(dM.mp lG) i j hiz hjz l
   ·exact((dM.mp lG) j i hjz hiz l).symm
  rw[gi,gj];subst a4 b4;refine kat_lt (kp _ _ a1) a3 (kp _ _ b1) b3 ?_;show KatLex _ _ _ _ _ _ ((Value.str zs[i] ti,Value.str zs[j] tj)::ri.zip rj) 0 s';refine kat_cons (wpAny_eqBool_str ?_);rw[dE lU];refine kat_no ?_;show wpAny _ _ (oneLt' true _ _) _ _ _;exact oneLt_str (hC _ s'.toks)
 ·obtain⟨as',e1,e2⟩:∃as':List Addr,out=as'.map Value.ref/\as'.Perm as:=by
   have :∀v∈out,∃a,v=Value.ref a:=λv hv=>by
    obtain⟨a,_,e⟩:=bP.mp (hperm.mem_iff.mp hv);exact⟨a,e.symm⟩
   have ho:out=(out.map λv=>match v with | .ref a=>a |_=>0).map Value.ref:=by
    rw[eC]
    conv=>lhs;rw[←List.map_id out]
    refine nX λv hv=>?_
    obtain⟨a,rfl⟩:=this v hv;rfl
   refine⟨_,ho,?_⟩;have h2:=List.Perm.map (λv:Value=>match v with | .ref a=>a |_=>(0:Addr)) hperm;rw[eC]at h2;have h3:as.map ((λv:Value=>match v with | .ref a=>a |_=>(0:Addr)) ∘ Value.ref)=as:=by
    conv=>rhs;rw[←List.map_id as]
    rfl
   rwa[h3]at h2
  subst e1;have fG:=e2.length_eq;have vals:dD (as'.map V.ref) (as'.map Value.ref):=QW (by simp) λi y u hy hu=>by
   rw[aK]at hy hu;obtain⟨a1,g1,rfl⟩:=aO.mp hy;obtain⟨a2,g2,rfl⟩:=aO.mp hu;rw[g1]at g2;cases g2;rfl
  exact⟨.ref (s.heap.objs.size+1),_,I.laid (a:=s.heap.objs.size+1) (o:=.lst (as'.map V.ref)) (t':=tk) kp (rW _) ⟨by rw[aE,dG];lia,_,e,vals,hS⟩,rfl,q _ _ (I.hok.fresh (rW _)) e2⟩
end
section
open PySem.W
end
section
open PySem.SeqAt
def SqH(b:Bool)(h:Heap)(l:Addr)(xs:Array Value):Prop:=match b with
 |true=>h.IsTuple l xs
 |false=>h.IsList l xs
def SqI(b:Bool)(h:Heap)(it l:Addr)(i:Nat):Prop:=match b with
 |true=>h.IsTupleIter it l i
 |false=>h.IsListIter it l i
theorem SqI.keep{b:Bool}(x:SqI b h it l i)(e:∀o,h.get? it=some o->h'.get? it=some o):SqI b h' it l i:=by
 cases b with
 |true=>obtain⟨o,ho,r⟩:=x;exact⟨o,e _ ho,r⟩
 |false=>obtain⟨o,ho,r⟩:=x;exact⟨o,e _ ho,r⟩
theorem SqH.keep{b:Bool}{xs:Array Value}(x:SqH b h l xs)(e:∀o,h.get? l=some o->h'.get? l=some o):SqH b h' l xs:=by
 cases b with
 |true=>obtain⟨o,ho,r⟩:=x;exact⟨o,e _ ho,r⟩
 |false=>obtain⟨o,ho,r⟩:=x;exact⟨o,e _ ho,r⟩
section
variable {b1 b2:Bool}
end
end
section
open PySem.W
section
variable {Kt:Type} [DecidableEq Kt] {knd:HeapKind prog w Kt}
def nM(knd:HeapKind prog w Kt)(h:Heap)(d:Addr)(xs:List (Kt×Addr×Value)):Prop:=
 ∃o es ep,h.get? d=some o/\o.ExactDict/\o.data=.dict es ep/\es.toList=xs.map (entryOfKey knd)/\(xs.map (·.1)).Nodup
theorem nM.full{xs:List (Kt×Addr×Value)}(x:nM knd h d xs)(hk:∀y∈xs,knd.is h y.1 y.2.1):h.DictOfH knd d xs:=by
 obtain⟨o,es,ep,h1,h2,h3,h4,h5⟩:=x;exact⟨o,es,ep,h1,h2,h3,h4,hk,h5⟩
theorem nM.of{xs:List (Kt×Addr×Value)}(x:h.DictOfH knd d xs):nM knd h d xs:=by
 obtain⟨o,es,ep,h1,h2,h3,h4,_,h5⟩:=x;exact⟨o,es,ep,h1,h2,h3,h4,h5⟩
theorem nM.at{xs:List (Kt×Addr×Value)}(x:nM knd h d xs)(e:∀u,h.get? d=some u->h'.get? d=some u):nM knd h' d xs:=by
 obtain⟨o,es,ep,h1,r⟩:=x;exact⟨o,es,ep,e _ h1,r⟩
theorem UD{xs:List (Kt×Addr×Value)}(hn:(xs.map (·.1)).Nodup){k:Kt}{v:Value}(h:xs[i]?=some (k,a,v)):storedH (xs.take i) k a v=xs.take (i+1):=by
 obtain⟨il,ie⟩:=aC.mp h;have hno:atKey (xs.take i) k=none:=by
  unfold atKey;rw[pU,List.find?_eq_none];intro x hx;obtain⟨j,hj,e⟩:=dJ hx;rw[bU]at hj;rw[HC]at e;intro hk;have hk:x.1=k:=by simpa using hk
  exact dM.mp hn j i (by rw[aE];lia) (by rw[aE];lia) () (by simp[e,ie,hk])
 rw[GY hno,aM il,ie]
theorem AU{its:Array Value}{xs:List (Kt×Addr×Value)}{h0:Heap}(hu:knd.room A.in1)(hA:A.handled=none)(hdi:d≠it)(hl:h0.IsList l its)(hd0:∀u,h0.get? d≠some u)(hi0:∀u,h0.get? it≠some u)
 (mono:∀{h h':Heap}{k:Kt}{a:Addr},(∀b u,h.get? b=some u->h'.get? b=some u)->knd.is h k a->knd.is h' k a)
 (hn:(xs.map (·.1)).Nodup) (hsz:xs.length<=sizeLine) (eQ:its.size=xs.length) (hp:∀(i:Nat)(k:Kt)(b:Addr)(v:Value),xs[i]?=some (k,b,v)->∃a:Addr,its[i]?=some (Value.ref a)/\IsTup h0 a #[.ref b,v]/\knd.is h0 k b):
 ∀(m i:Nat)(t:Tok)(s:Shared),xs.length-i=m->i<=xs.length->s.heap.IsListIter it l i->nM knd s.heap d (xs.take i)->(∀b u,h0.get? b=some u->s.heap.get? b=some u)->
 (∀h' t',(∀b u,h0.get? b=some u->h'.get? b=some u)->nM knd h' d xs->R (.ok (.ret .none)) {s with heap:=h',toks:=t'})->
 codeAny (model prog w) A (.builtin "dict.update.loop" ⟨[.ref d,.ref it,.int i t,.none],[]⟩) R s:=by
 have hall:∀x∈xs,knd.is h0 x.1 x.2.1:=λx hx=>by
  obtain⟨i,hi⟩:=iV hx;obtain⟨a,_,_,h⟩:=hp i x.1 x.2.1 x.2.2 hi;exact h
 intro m
 induction m with
 |zero=>
  intro i t s hm hi hit hd hk hR;have hin:i=xs.length:=by lia
  subst hin;have fG:s.heap.IsList l its:=by obtain⟨o,ho,r⟩:=hl;exact⟨o,hk _ _ ho,r⟩
  refine sZ F.entry_dul ?_;rw[oO F.plain_dul _];show wpAny _ A.in1 (pyNext (.ref it) >>= _) _ _ s;refine aF (DL (A:=A.in1) hA hit fG (by rw[jv];lia) λh' he=>?_);rw[aQ (aG _)]at hd;show wpAny _ A.in1 (Builtin.Dict.addKeywords d [] >>= _) _ _ _;refine aF (aS (aS (hR h' s.toks (λb u hb=>he b u (λz=>hi0 u (by rw[←z];exact hb)) (hk b u hb)) (hd.at λu h=>he _ u hdi h))))
 |succ m ih=>
  intro i t s hm hi hit hd hk hR;have iY:i<xs.length:=by lia
  have fG:s.heap.IsList l its:=by obtain⟨o,ho,r⟩:=hl;exact⟨o,hk _ _ ho,r⟩
  obtain⟨a,ha,ht,hkey⟩:=hp i xs[i].1 xs[i].2.1 xs[i].2.2 (aA iY);refine sZ F.entry_dul ?_;rw[oO F.plain_dul _];show wpAny _ A.in1 (pyNext (.ref it) >>= _) _ _ s;refine aF (sP (A:=A.in1) hit fG ha λh1 hit1 hs1=>?_);have hk1:∀b u,h0.get? b=some u->h1.get? b=some u:=λb u hb=>(hs1.2 b (λz=>hi0 u (by rw[←z];exact hb))).trans (hk b u hb)
  have hd1:nM knd h1 d (xs.take i):=hd.at λu h=>(hs1.2 d hdi).trans h
  obtain⟨ot,hot,hct,nt,hdt⟩:=ht;have hot1:=hk1 _ _ hot;have hT:({s with heap:=h1}:Shared).TypeIs (.ref a) "tuple":=⟨_,hot1,hct⟩
  refine aF (eS (aF ?_));refine wpAny_tryCatch ?_;unfold Builtin.Dict.pairItems;refine aF (lV hT ?_);rw[aL (by decide)];refine aF (wpAny_seqItems hot1 hdt (aS ?_));refine eS (wpAny_dictSet_heap (xs:=xs.take i) hu (mono hk1 hkey) (hd1.full λy hy=>mono hk1 (hall y (iU hy))) (λh2 hd2 hs2=>?_) (by rw[bU];lia));rw[UD hn (show xs[i]?=some (xs[i].1,xs[i].2.1,xs[i].2.2)from aA iY)]at hd2;refine aS ⟨OI F.plain_dul _,?_⟩;have hk2:∀b u,h0.get? b=some u->h2.get? b=some u:=λb u hb=>(hs2.2 b (λz=>hd0 u (by rw[←z];exact hb))).trans (hk1 b u hb)
  have hit2:h2.IsListIter it l (i+1):=by obtain⟨o,ho,r⟩:=hit1;exact⟨o,(hs2.2 _ (cH hdi)).trans ho,r⟩
  exact ih (i+1) _ {s with heap:=h2,toks:=s.toks+knd.draws xs[i].1} () iY hit2 (.of hd2) hk2 hR
theorem uE{its:Array Value}{xs:List (Kt×Addr×Value)}(hu:knd.room A.in1.in1)(hA:A.handled=none)(hl:PlainL s.heap l its)(mono:∀{h h':Heap}{k:Kt}{a:Addr},(∀b u,h.get? b=some u->h'.get? b=some u)->knd.is h k a->knd.is h' k a)
 (hn:(xs.map (·.1)).Nodup) (hsz:xs.length<=sizeLine) (eQ:its.size=xs.length) (hp:∀(i:Nat)(k:Kt)(b:Addr)(v:Value),xs[i]?=some (k,b,v)->∃a:Addr,its[i]?=some (Value.ref a)/\IsTup s.heap a #[.ref b,v]/\knd.is s.heap k b)
 (h:∀h' t',(∀b u,s.heap.get? b=some u->h'.get? b=some u)->nM knd h' s.heap.objs.size xs->Q (.ref s.heap.objs.size) {s with heap:=h',toks:=t'}):
 wpAny (model prog w) A (call (.type "dict") [.ref l]) Q E s:=by
 refine callType_codes (Q₁:=λobj s₁=>obj=.ref s.heap.objs.size/\s₁={s with heap:=s.heap.push {cls:=.type "dict",data:=.dict #[]}}) F.kt_called_dict (ju _) F.entry_dict_init (kt_code_dict_new _ ⟨rfl,rfl⟩) ?_;rintro obj s₁ ⟨rfl,rfl⟩;have hnew:(s.heap.push {cls:=.type "dict",data:=.dict #[]}).DictOfH knd s.heap.objs.size []:=Heap.DictOfH.new s.heap;refine⟨hnew.typeIs,F.args_dict_init_2 _ _,?_⟩;obtain⟨ol,nl,hol,hlc,hld,hls⟩:=hl;have hol1:(s.heap.push {cls:=.type "dict",data:=.dict #[]}).get? l=some ol:=aP _ hol;have hT:({s with heap:=s.heap.push {cls:=.type "dict",data:=.dict #[]}}:Shared).TypeIs (.ref l) "list":=⟨_,hol1,hlc⟩
 unfold Builtin.«dict.__init__»;refine aF ?_;unfold Builtin.Dict.selfAndRest;refine aF (nW hnew.typeIs ?_);show wpAny _ _ (pure (s.heap.objs.size,[Value.ref l])) _ _ _;refine aS ?_;show wpAny _ _ (Builtin.Dict.updateFrom "dict.__init__" s.heap.objs.size (.ref l) [] .none) _ _ _;unfold Builtin.Dict.updateFrom;refine aF (lV hT ?_);rw[aL (by decide)];have hkd:∀b u,s.heap.get? b=some u->(s.heap.push {cls:=.type "dict",data:=.dict #[]}).get? b=some u:=λb u e=>aP _ e
 have hd0:∀u,s.heap.get? s.heap.objs.size≠some u:=λu z=>dY _ (bD z)
 obtain⟨hp0,g,d,t,os⟩:=s;dsimp only at *;generalize hp0.push {cls:=.type "dict",data:=.dict #[]}=h1 at hnew hol1 hT hkd⊢;generalize hp0.objs.size=D at hnew hd0 h⊢;obtain⟨c1,c2,c3,c4⟩:=ol;dsimp only at hlc hld hls;subst hlc hld hls;refine aF (TC (A:=A.in1.in1) hA hol1 λh2 t2 hk2=>?_);rw[aL (by rfl)];refine aF (iP ?_);have hl2:h2.IsList l its:=⟨_,hk2 _ _ hol1,rfl,_,rfl⟩
 refine aF (rD hl2 ?_);refine aS ⟨OI F.plain_dul _,?_⟩;have hd2:=(nM.of hnew).at λu h=>hk2 _ u h
 have hit0:∀u,hp0.get? h2.objs.size≠some u:=λu z=>dY _ (bD (hk2 _ _ (hkd _ _ z)))
 have hDi:D≠h2.objs.size:=λz=>by
  obtain⟨o,_,_,ho,_⟩:=hd2;exact dY _ (by have :=bD ho;rw[z]at this;exact this)
 refine AU (h0:=hp0) (xs:=xs) (A:=A.in1) hu hA hDi ⟨_,hol,rfl,_,rfl⟩ hd0 hit0 mono hn hsz eQ hp xs.length 0 _ _ () (cG _) ⟨_,bX _ rfl,rfl,rfl⟩ (hd2.at λu h=>aP _ h) (λb u hb=>aP _ (hk2 _ _ (hkd _ _ hb))) λh' t' hk' hd'=>?_
 exact⟨rfl,h h' t' hk' hd'⟩
end
theorem HK{k:List eI}(e:∀b u,h.get? b=some u->h'.get? b=some u)(x:(tupleKind (yB P w)).is h k a):(tupleKind (yB P w)).is h' k a:=by
 obtain⟨o,its,n,h1,r⟩:=x;exact⟨o,its,n,e _ _ h1,r⟩
theorem QD{H:Hp}{h:Heap}:∀(kvs:List (List eI×V))(as:List Addr),(∀(i:Nat)(k:List eI)(v:V),kvs[i]?=some (k,v)->∃(a b:Addr)(its:List Value),as[i]?=some a/\dD [.ref b,v] its/\IsTup h a its.toArray/\H b=some (.tup (k.map kV)))->
 ∃xs,KT H kvs xs/\∀(i:Nat)(k:List eI)(b:Addr)(v:Value),xs[i]?=some (k,b,v)->∃a,as[i]?=some a/\IsTup h a #[.ref b,v]/\H b=some (.tup (k.map kV))
 |[],as,hk=>⟨[],.nil,λi k b v e=>by simp at e⟩
 |(k,v)::kvs,as,hk=>by
  obtain⟨a0,b0,its,h1,h2,h3,h4⟩:=hk 0 k v rfl;cases as with
  |nil=>cases h1
  |cons a as=>
  cases h1;obtain⟨xs,g1,g2⟩:=QD kvs as λi k v e=>hk (i+1) k v e
  obtain⟨u1,u2,rfl,r1,r2⟩:=vals2 h2;cases r1;refine⟨(k,b0,u2)::xs,.cons ⟨rfl,h4,r2⟩ g1,λi k' b' v' e=>?_⟩;cases i with
  |zero=>cases e;exact⟨a0,rfl,h3,h4⟩
  |succ i=>exact g2 i k' b' v' e
theorem CQ(hu:X.A.units+2<cLine):qQ X (.type "dict") (λxs H Q=>bb X.calm (pG xs λx=>mN x λp=>∃as:List Addr,dL X.K H p (as.map V.ref)/\∃kvs:List (List eI×V),as.length=kvs.length/\(kvs.map (·.1)).Nodup/\
 (∀(i:Nat)(k:List eI)(v:V),kvs[i]?=some (k,v)->∃a b,as[i]?=some a/\dN X.K H a [.ref b,v]/\H b=some (.tup (k.map kV)))/\∀l,H l=none->Q (.ref l) (upd H l (.dT kvs)))):=by
 intro aJ s σ H xs us Q I r h;replace h:=DF h;obtain⟨hc,h⟩:=h;replace h:=wE h;obtain⟨x0,rfl,h⟩:=h;replace h:=xI h;obtain⟨p,rfl,as,hp,kvs,eQ,hn,hk,q⟩:=h;obtain⟨u,rfl,ru⟩:=uP r;cases ru;obtain⟨its,rv,hl,hz⟩:=I.list hp;have hil:=rv.length;rw[aE]at hil hz;obtain⟨vs,g1,g2⟩:=QD (H:=H) (h:=s.heap) kvs as λi k v e=>by
  obtain⟨a,b,e1,e2,e3⟩:=hk i k v e;obtain⟨its,r2,t2,_⟩:=I.tuple e2;exact⟨a,b,its,e1,r2,t2,e3⟩
 have hvl:kvs.length=vs.length:=eT g1;have hks:vs.map (·.1)=kvs.map (·.1):=by
  clear hn g2 hvl hk eQ q
  induction g1 with
  |nil=>rfl
  |cons h _ ih=>rw[cF,cF,ih,h.1]
 refine uE (knd:=tupleKind (yB X.prog X.w)) (xs:=vs) (show X.A.in1.in1.units<cLine from ?_) (I.ok.hd hc) hl HK (by rw[hks];exact hn) () (by rw[aR];lia) (λi k b v e=>?_) λh' t' hk' hd'=>?_
 ·exact hu
 ·obtain⟨a,e1,e2,e3⟩:=g2 i k b v e;obtain⟨u,h1,h2⟩:=rv.get (i:=i) (x:=V.ref a) (by rw[aK,e1];rfl);cases h2;exact⟨a,by simpa using h1,e2,vH I.hok e3⟩
 ·obtain⟨o,es,ep,d1,d2,d3,d4,d5⟩:=hd';have hfr:=I.hok.fresh (aG s.heap.objs.size);refine⟨.ref s.heap.objs.size,_,I.laid (a:=s.heap.objs.size) (o:=.dT kvs) (t':=t') hk' (aG _) ⟨(),cV.mpr (cH (bW I.big)),vs,?_,o,es,ep,d1,d2,d3,d4,d5⟩,rfl,q _ hfr⟩;exact KT.keeps g1 λb ys e=>by rw[zJ (λz=>by rw[z,hfr]at e;cases e)];exact e
structure NT(P:Program)(w:World)(K:W.Frag)(mg:Str->Option Value)(base:Heap)(k:Nat)(f:Addr)(ps:List Str)(sp:Sp):Prop where
 ex:∃fd,dI P w K mg base fZ k f fd ps sp/\Binds K fd ps []/\W.keepIn K (.ref f)=true
def UC(i:Nat)(f:Addr)(tc:TE):TE:=λσ H Q=>σ[i]?=some (some (.ref f))/\tc σ H Q
section
variable {k:Nat} {x:Str} {p pos:Pos} {t:TA}
theorem gS.at{k:Nat}(h:gS P w K mg base k x ps sp)(hm:mg x=some (.ref f)):NT P w K mg base k f ps sp:=by
 obtain⟨g,fd,F,b,kp,m⟩:=h.ex;rw[hm]at m;cases m;exact⟨fd,F,b,kp⟩
theorem AR(h:NT X.prog X.w X.K X.mg X.base k f ps sp)(hr:hZ k X.A)(ha:PA X (e::es) t)(hN:X.N[i]?=some x:=by rfl)(hv:Vis X.env.scope x:=by first |exact Or.inl rfl |exact Or.inr (Or.inl rfl) |exact Or.inr (Or.inr rfl))
 (hdb:(x==("__debug__":Str))=false:=by decide) (hcd:(x==("__classdict__":Str))=false:=by decide)
 (he:starEach (e::es) X.env=(false,eval e X.env)::starEach es X.env:=by rfl) (hpl:(backTo pos (starEach es X.env)).any (·.1)=false:=by rfl):PE X (.Call (.Name x p) (e::es) [] pos) (UC i f (PJ sp [] E0 t)):=by
 obtain⟨fd,F,b,kp⟩:=h.ex;intro aJ s σ H Q I h;obtain⟨h1,h2⟩:=h;refine iQ (eL (RX hN hv hdb hcd aJ s σ H (λv H'=>v=.ref f/\H'=H) I (by show asV _ _;rw[h1];exact⟨rfl,rfl⟩)) λu s1 ⟨v,H1,I1,r,e1,e2⟩=>?_);subst e1 e2;obtain rfl:u=.ref f:=r;refine oI (h₀:=X.base) I.ok.mod.kin kp (eL (ha pos aJ s1 σ H1 _ I1 h2) λus s2 ⟨vs,H2,I2,r,q⟩=>⟨I2.kIn,?_⟩) he hpl;exact EH F hr b .nil IP I2 r q
theorem EO(hm:X.mg x=some (.ref f))(hg:Gl X x)(hd:(x==("__debug__":Str))=false:=by decide):PE X (.Name x pos) (tC (.ref f)):=IL hg hm rfl hd
end
set_option maxHeartbeats 8000000
end
section
open PySem.W
theorem MG{es:Array DictEntry}{v:Value}{Q:Option Value->Shared->Prop}(hit:s.heap.IsKeyIter it d i es.size ep)(hm:nZ s.heap d es ep)(hi:i<es.size)(hx:es[i].key=v)
 (hQ:∀h',h'.IsKeyIter it d (i+1) es.size ep->Heap.SameBut it s.heap h'->Q (some v) {s with heap:=h'}):wpAny (model prog w) A (pyNext (.ref it)) Q E s:=by
 obtain⟨o,a1,a2,a3⟩:=id hit;obtain⟨od,b1,b2,b3⟩:=id hm;unfold pyNext;refine aF (OH (mS (name:=Str.ofString "__next__") hit.typeIs eP (gF eP hit.typeIs tD ?_ (sT _))));refine aF (aS ?_);refine aF ?_;refine aF ?_
 first |refine aF (iO hit.typeIs (aS ?_));skip |refine aF (mG hit.typeIs (aS ?_));skip
 refine aF (wpAny_fieldsOf a1 a3 ?_);have ow:Builtin.Dict_items.ownsTuple "dict_keyiterator"=false:=by decide
 simp only[ow,cA,dO];show wpAny _ _ (if(Value.ref d==Value.none)=true then _ else _) _ _ s;rw[aH (show¬((Value.ref d==Value.none)=true)from bQ)];refine aF (aS ?_);refine aF (nF b1 b3 ?_);rw[aH (by simp)];refine aF (aS ?_);refine aF (wpAny_dictEpoch b1 b3 ?_);rw[aH (by simp)];refine aS ?_;simp only[show¬((i:Int)<0)from by lia,dO,cE,l6 hi];refine aF ?_
 first |refine aF (iO hit.typeIs (aS ?_));skip |refine aF (mG hit.typeIs (aS ?_));skip
 refine aF (wpAny_isOneOf_keyiter hit.typeIs ?_);show wpAny _ _ (setField (.ref it) 1 (rawInt ((i:Int)+1)) >>= _) _ _ s;refine aF (wpAny_setField a1 a3 (by simp) ?_);have it':(s.heap.update it (Obj.mapFields (·.setIfInBounds 1 (rawInt ((i:Int)+1))))).IsKeyIter it d (i+1) es.size ep:=⟨_,nY _ a1 (Obj.isFreed_of_fields (ar a3 _)),(Obj.cls_mapFields ..).trans a2,by rw[ar a3];simp[rawInt]⟩
 refine aF (eS ?_);refine aF (wpAny_isOneOf_keyiter (s:={s with heap:=s.heap.update it (Obj.mapFields (·.setIfInBounds 1 (rawInt ((i:Int)+1))))}) it'.typeIs ?_);show wpAny _ _ (pure es[i].key) _ _ _;exact aS (aS ⟨_,rfl,aS (hx▸hQ _ it' (mC ..))⟩)
theorem RL{es:Array DictEntry}{Q:Option Value->Shared->Prop}(hh:A.handled=none)(hit:s.heap.IsKeyIter it d i es.size ep)(hm:nZ s.heap d es ep)(hi:es.size<=i)
 (hQ:∀h',Heap.ExtBut it s.heap h'->Q none {s with heap:=h'}):wpAny (model prog w) A (pyNext (.ref it)) Q E s:=by
 obtain⟨o,a1,a2,a3⟩:=id hit;obtain⟨od,b1,b2,b3⟩:=id hm;unfold pyNext;refine aF (OH (mS (name:=Str.ofString "__next__") hit.typeIs eP (gF eP hit.typeIs tD ?_ (sT _))));refine aF (aS ?_);refine aF ?_;refine aF ?_
 first |refine aF (iO hit.typeIs (aS ?_));skip |refine aF (mG hit.typeIs (aS ?_));skip
 refine aF (wpAny_fieldsOf a1 a3 ?_);have ow:Builtin.Dict_items.ownsTuple "dict_keyiterator"=false:=by decide
 simp only[ow,cA,dO];show wpAny _ _ (if(Value.ref d==Value.none)=true then _ else _) _ _ s;rw[aH (show¬((Value.ref d==Value.none)=true)from bQ)];refine aF (aS ?_);refine aF (nF b1 b3 ?_);rw[aH (by simp)];refine aF (aS ?_);refine aF (wpAny_dictEpoch b1 b3 ?_);rw[aH (by simp)];refine aS ?_;simp only[show¬((i:Int)<0)from by lia,dO,cE,Array.getElem?_eq_none hi];refine aF ?_
 first |refine aF (iO hit.typeIs (aS ?_));skip |refine aF (mG hit.typeIs (aS ?_));skip
 show wpAny _ _ (setField (.ref it) 0 .none >>= _) _ _ s;refine aF (wpAny_setField a1 a3 (by simp) ?_);show wpAny _ _ (newExc (.type "StopIteration") [] >>= _) _ _ _;refine aF ?_;simp only[newExc,newTuple];refine aF (eO ?_ (by size_fits));refine aF (m:=firstArgMember _ _) (wpAny_of_eq (a:=Value.none) (by first |rfl |(simp only[firstArgMember];rfl)) ?_);refine eO ?_ (by size_fits);simp only[raiseNew];refine aF (wpAny_handled ?_);rw[show A.in1.handled=none from hh];refine aF (aS (wpAny_throw ?_));refine aF (wpAny_isInstance (T:="StopIteration") (b:=true) ⟨_,bX _ rfl,rfl⟩ isSubtype_stop ?_);exact aS (hQ _ (((mC ..).extBut.push _).push _))
theorem EL(hh:A.handled=none)(I d:Addr)(lU:d≠I)(es:Array DictEntry)(ep:Nat):Walks prog w A I [I,d] [I] es.size (λi v=>∃e,es[i]?=some e/\e.key=v) (λi h=>h.IsKeyIter I d i es.size ep/\nZ h d es ep) where
 sub:=λb hb=>by simp at hb;simp[hb]
 frame:=λ_ _ _ st hk=>⟨st.1.at λo e=>hk I (by simp) o e,nZ.at' st.2 λo e=>hk d (by simp) o e⟩
 item:=λi s Q E hi st hQ=>by
  refine MG st.1 st.2 hi rfl λh' it' fC=>?_
  exact hQ es[i].key h' s.toks ⟨es[i],l6 hi,rfl⟩ ⟨it',nZ.at' st.2 λo e=>fC.extBut d o lU e⟩ λb o hb e=>fC.extBut b o (λh=>hb (by simp[h])) e
 done:=λs Q E st hQ=>RL hh st.1 st.2 (aG _) λh' he'=>hQ h' s.toks λb o hb e=>he' b o (λh=>hb (by simp[h])) e
 self:=λ_ _ _ _ st hQ=>wpAny_pyIter_keyiter st.1 hQ
theorem MF{es:Array DictEntry}(hd:(d==sysModules)=false)(hm:nZ s.heap d es ep)
 (hQ:Q (.ref s.heap.objs.size) {s with heap:=s.heap.push {cls:=.type "dict_keyiterator",data:=.fields #[.ref d,.int 0 0,.int es.size 0,.int ep 0]}}):wpAny (model prog w) A (pyIter (.ref d)) Q E s:=by
 obtain⟨o,b1,b2,b3⟩:=id hm;have hT:=hm.typeIs;refine wpAny_pyIter_slot hT F.slot_dict_iter (gF F.slot_dict_iter hT F.entry_dict_iter ?_ (F.args_dict_iter_1 _));unfold Builtin.«dict.__iter__»;refine aF ?_;unfold Builtin.Dict.dictSlotNone;refine aF (nW hT ?_);show wpAny _ _ (pure (Value.ref d)) _ _ s;refine aS ?_;show wpAny _ _ (Builtin.Dict.showsAll d >>= _) _ _ s;unfold Builtin.Dict.showsAll;rw[aH (by rw[hd];exact bQ)];refine aF (aS ?_);refine aF (nF b1 b3 ?_);refine aF (wpAny_dictEpoch b1 b3 ?_);refine aF (eO (aS ⟨_,rfl,"dict_keyiterator",_,⟨_,bX _ rfl,rfl⟩,eP.lookup,?_⟩));simpa[rawInt]using hQ
theorem RK{es:Array DictEntry}(lo:(d==sysModules)=false):KdlSrc prog w "dict" d d es.size (λi v=>∃e,es[i]?=some e/\e.key=v) (λh=>nZ h d es ep) where
 type:=λ_ hm=>hm.typeIs
 there:=λ_ hm=>⟨hm.lt,hm.lt⟩
 keep:=λ_ _ hm hk=>hm.at' λo e=>hk d (.inl rfl) o e
 notList:=by decide
 notTuple:=by decide
 hint:=λ_ _ _ _ hm hq=>kdl_hint_dict hm.typeIs hq
 iter:=λ_ _ hh hm=>⟨_,_,(λ_ _ hq=>MF lo hm hq),EL hh _ d (bW hm.lt) es ep,⟨⟨_,bX _ rfl,rfl,rfl⟩,hm.at' λo e=>aP _ e⟩⟩
end
section
open PySem.W
abbrev XE:=List eI×Addr×V
abbrev GQ:List XE->List (List eI×Addr×Value)->Prop:=Paired λp q=>p.1=q.1/\p.2.1=q.2.1/\RelV p.2.2 q.2.2
def ao(P:Program)(w:World)(h:Heap)(a:Addr)(kvs:List XE):Prop:=∃xs,GQ kvs xs/\∃o es ep,h.get? a=some o/\o.ExactDict/\o.data=.dict es ep/\es.toList=xs.map (entryOfKey (tupleKind (yB P w)))/\(xs.map (·.1)).Nodup
def DJ(P:Program)(w:World)(a:Addr)(kvs:List XE):HO:=.ext λh=>ao P w h a kvs
structure rS(P:Program)(w:World)(K:W.Frag)(H:Hp)(a:Addr)(kvs:List XE):Prop where
 is:H a=some (DJ P w a kvs)
 few:kvs.length<=1000
 lo:(a==sysModules)=false
 keys:∀x∈kvs,dN K H x.2.1 (x.1.map kV)
def kT(kvs:List XE)(k:List eI):Option V:=(kvs.find? λx=>decide (x.1=k)).map (·.2.2)
theorem KY{kvs:List XE}(x:ao P w h a kvs):fA P w H h a (DJ P w a kvs):=by
 refine⟨x,?_,λh1 h2 y hk=>?_⟩
 ·obtain⟨_,_,o,_,_,e,_⟩:=x;exact⟨o,e⟩
 ·obtain⟨xs,p,o,es,ep,e,r⟩:=y;exact⟨xs,p,o,es,ep,hk _ e,r⟩
theorem GQ.val:∀{kvs:List XE}{xs:List (List eI×Addr×Value)},GQ kvs xs->∀k:List eI,mQ (kT kvs k) ((atKey xs k).map (·.2))
 |_,_,.nil,k=>True.intro
 |_,_,@Paired.cons _ _ _ p q ps qs h t,k=>by
  obtain⟨h1,_,h2⟩:=h;by_cases e:p.1=k
  ·have e':q.1=k:=h1.symm.trans e;have b:atKey (q::qs) k=some q.2:=by simp[atKey,eN,e']
   have b2:kT (p::ps) k=some p.2.2:=by simp[kT,eN,e]
   rw[b2,b];exact h2
  ·have e':¬q.1=k:=λz=>e (h1.trans z)
   have b:atKey (q::qs) k=atKey qs k:=by simp[atKey,eN,e']
   have b2:kT (p::ps) k=kT ps k:=by simp[kT,eN,e]
   rw[b2,b];exact GQ.val t k
theorem GQ.mem:∀{kvs:List XE}{xs:List (List eI×Addr×Value)},GQ kvs xs->∀x∈xs,∃p∈kvs,p.1=x.1/\p.2.1=x.2.1
 |_,_,.nil,x,hx=>nomatch hx
 |_,_,@Paired.cons _ _ _ p q ps qs h t,x,hx=>by
  rcases bK.mp hx with rfl |hx
  ·exact⟨p,bB,h.1,h.2.1⟩
  ·obtain⟨p',h1,h2⟩:=GQ.mem t x hx;exact⟨p',bC _ h1,h2⟩
theorem GQ.at:∀{kvs:List XE}{xs:List (List eI×Addr×Value)},GQ kvs xs->∀{i:Nat}{p:XE}{q:List eI×Addr×Value},kvs[i]?=some p->xs[i]?=some q->p.2.1=q.2.1
 |_,_,.nil,i,p,q,h,_=>by simp at h
 |_,_,.cons hq t,0,p,q,h1,h2=>by
  simp only[pQ,HA]at h1 h2;subst h1 h2;exact hq.2.1
 |_,_,.cons hq t,i+1,p,q,h1,h2=>GQ.at t (by simpa using h1) (by simpa using h2)
section
variable {kvs:List XE} {k:List eI}
theorem wO(I:Inv X aJ σ H s)(h:dN X.K H b (k.map kV)):(tupleKind (yB X.prog X.w)).is s.heap k b:=by
 obtain⟨its,r,⟨o,h1,h2,n,h3⟩,_⟩:=I.tuple h;exact⟨o,its.toArray,n,h1,h2,h3,by simpa using ZE r⟩
theorem ZT(I:Inv X aJ σ H s)(d:rS X.prog X.w X.K H a kvs):∃xs,GQ kvs xs/\s.heap.DictOfH (tupleKind (yB X.prog X.w)) a xs:=by
 obtain⟨⟨xs,pr,o,es,ep,h1,h2,h3,h4,h5⟩,_,_⟩:=(show fA X.prog X.w H s.heap a (DJ X.prog X.w a kvs)from I.hok a _ d.is)
 refine⟨xs,pr,o,es,ep,h1,h2,h3,h4,λx hx=>?_,h5⟩;obtain⟨p,hp,e1,e2⟩:=pr.mem x hx;have :=wO I (d.keys p hp);rw[e1,e2]at this;exact this
end
def rNiX(P:Program)(w:World)(K:W.Frag):R2:=λx y H Q=>∃a kvs b k,y=.ref a/\rS P w K H a kvs/\x=.ref b/\dN K H b (k.map kV)/\Q (.bl (!(kT kvs k).isSome)) H
theorem ML(hu:X.A.units+1<cLine):oQ X (compareOp .NotIn) (rNiX X.prog X.w X.K):=by
 intro aJ s σ H x y v u Q I rx ry h;obtain⟨a,kvs,b,k,rfl,d,rfl,hk,q⟩:=h;cases rx;cases ry;obtain⟨xs,pr,dd⟩:=ZT I d;refine wpAny_notIn_heap (eD hu) (wO I hk) d.lo dd ?_;have e:=(pr.val k).isSome_eq;rw[gL]at e;rw[←e];exact⟨.bl _,H,I.tok _,rfl,q⟩
theorem QO:qQ X (.builtin "len") (λxs H Q=>pG xs λx=>mN x λa=>∃kvs,rS X.prog X.w X.K H a kvs/\Q (.int kvs.length) H):=by
 intro aJ s σ H xs us Q I r h;replace h:=wE h;obtain⟨x,rfl,h⟩:=h;replace h:=xI h;obtain⟨a,rfl,kvs,d,q⟩:=h;obtain⟨u,rfl,ru⟩:=uP r;cases ru;obtain⟨xs,pr,oo,es,ep,o1,o2,o3,o4,o5,o6⟩:=ZT I d;have raw:nZ s.heap a es ep:=⟨oo,o1,o2,o3⟩
 have eQ:es.size=kvs.length:=by
  rw[←bV,o4,aE];exact(eT pr).symm
 have hs:sizeLine=16777216:=dG;have hz:=d.few;refine call_len_slot (n:=(es.size:Int)) raw.typeIs F.slot_dict_len (λQ' hq=>sQ F.slot_dict_len raw.typeIs F.entry_dict_len (F.args_dict_len_1 _) (dq a d.lo) ⟨es,ep,raw,hq⟩) () () ?_;rw[eQ];exact⟨.int kvs.length,H,(I.tok _),⟨_,rfl⟩,q⟩
def tDGX(P:Program)(w:World)(K:W.Frag)(td ty:TE):TE:=λσ H Q=>td σ H λx H1=>ty σ H1 λy H2=>∃a kvs b k v,x=.ref a/\rS P w K H2 a kvs/\y=.ref b/\dN K H2 b (k.map kV)/\kT kvs k=some v/\Q v H2
theorem SD{i:Expr}{pos:Pos}{td ty:TE}(hu:X.A.units+1<cLine)(ho:PE X o td)(hi:PE X i ty)(hs:tq i):PE X (.Subscript o i pos) (tDGX X.prog X.w X.K td ty):=by
 intro aJ s σ H Q I h;refine HP lu.lookup hs (eL (ho aJ s σ H _ I h) λu s1 ⟨x,H1,I1,rx,q1⟩=>eL (hi aJ s1 σ H1 _ I1 q1) λiv s2 ⟨y,H2,I2,ry,q2⟩=>?_);obtain⟨a,kvs,b,k,v,ex,d,ey,hk,hv,q2⟩:=q2;subst ex ey;cases rx;cases ry;obtain⟨xs,pr,dd⟩:=ZT I2 d;obtain⟨w',hw,rw'⟩:=mQ.some_of (v:=v) (o:=(atKey xs k).map (·.2)) (by rw[←hv];exact pr.val k);obtain⟨p,hp,lX⟩:=aO.mp hw;refine⟨dd.typeIs,wpAny_getItem_heap (eD hu) (wO I2 hk) dd hp ?_⟩;rw[lX];exact⟨v,H2,I2.tok _,rw',q2⟩
def sDPX(P:Program)(w:World)(K:W.Frag)(td ty tv:TE):TS:=λD σ H=>tv σ H λv H1=>td σ H1 λx H2=>ty σ H2 λy H3=>∃a kvs b k,x=.ref a/\rS P w K H3 a kvs/\y=.ref b/\dN K H3 b (k.map kV)/\kT kvs k=none/\D.nx σ (upd H3 a (DJ P w a (kvs++[(k,b,v)])))
theorem GQ.snoc{kvs:List XE}{xs:List (List eI×Addr×Value)}(h:GQ kvs xs){k:List eI}(r:RelV v u):GQ (kvs++[(k,b,v)]) (xs++[(k,b,u)]):=Paired.snoc h ⟨rfl,rfl,r⟩
theorem RT{i value:Expr}{pos:Pos}{td ty tv:TE}(hu:X.A.units+1<cLine)(ho:PE X o td)(hi:PE X i ty)(hv:PE X value tv)(hs:swapsWith value (some (.Subscript o i pos')) pos.line X.env=pure false):
 PS X (.Assign [.Subscript o i pos'] value pos) (sDPX X.prog X.w X.K td ty tv):=by
 intro aJ s σ H D I h;refine wpAny_Assign_Subscript (eL (hv aJ s σ H _ I h) λr s1 ⟨v,H1,I1,rv,q1⟩=>eL (ho aJ s1 σ H1 _ I1 q1) λu s2 ⟨x,H2,I2,rx,q2⟩=>eL (hi aJ s2 σ H2 _ I2 q2) λiv s3 ⟨y,H3,I3,ry,q3⟩=>?_) hs;obtain⟨a,kvs,b,k,ex,d,ey,hk,hn,q3⟩:=q3;subst ex ey;cases rx;cases ry;obtain⟨xs,pr,dd⟩:=ZT I3 d;have hz:xs.length<=sizeLine:=by
  rw[←eT pr,dG];have :=d.few;lia
 refine wpAny_setItem_heap (hsz:=hz) (eD hu) (wO I3 hk) dd λh' dd' fC=>?_
 have hno:atKey xs k=none:=by
  have e:=(pr.val k).isSome_eq;rw[hn,gL]at e;cases c:atKey xs k with
  |none=>rfl
  |some _=>rw[c]at e;cases e
 rw[GY hno]at dd';obtain⟨oo,es,ep,hq,h2,h3,h4,_,h5⟩:=dd';exact⟨σ,_,vY I3 (by rw[d.is];exact True.intro) fC ⟨oo,hq⟩ (KY ⟨_,pr.snoc rv,oo,es,ep,hq,h2,h3,h4,h5⟩),q3⟩
def tLX(P:Program)(w:World)(K:W.Frag)(to:TE):TE:=λσ H Q=>to σ H λx H1=>∃a kvs,x=.ref a/\rS P w K H1 a kvs/\∀l,H1 l=none->Q (.ref l) (upd H1 l (.lst (kvs.map λx=>V.ref x.2.1)))
theorem RY{to:TE}{p pos:Pos}(hg:Gl X "list")(hm:X.mg "list"=none)(hc:X.calm=true)(ho:PE X o to)
 (he:starEach [o] X.env=[(false,eval o X.env)]:=by rfl):PE X (.Call (.Name "list" p) [o] [] pos) (tLX X.prog X.w X.K to):=by
 intro aJ s σ H Q I h;refine iQ (wN I hg hm LC ?_ (by decide) (by decide));refine fQ ?_ he (by rfl);rw[he];show wpAny _ _ (spliced [(false,_)]) _ _ s;refine gR (eL (ho aJ s σ H _ I h) λv s1 ⟨x,H1,I1,r1,a,kvs,e,d,q⟩=>nJ ?_);subst e;cases r1;obtain⟨xs,pr,oo,es,ep,o1,o2,o3,o4,o5,o6⟩:=ZT I1 d;have raw:nZ s1.heap a es ep:=⟨oo,o1,o2,o3⟩
 have eQ:es.size=kvs.length:=by
  rw[←bV,o4,aE];exact(eT pr).symm
 have hs:sizeLine=16777216:=dG;have hz:=d.few;refine kdl_call (RK (d:=a) (es:=es) (ep:=ep) d.lo) (I.ok.hd hc) raw () λh' tk acc c' hk hS hacc=>?_
 have vals:dD (kvs.map λx=>V.ref x.2.1) acc.toList:=by
  have hal:acc.toList.length=es.size:=by rw[bV];exact hacc.1
  refine QW (by rw[aE,hal,eQ]) λi y u hy hu=>?_
  rw[dA]at hu;obtain⟨en,e1,e2⟩:=hacc.2 i u hu;rw[←dA,o4,aK]at e1;obtain⟨qx,q1,q2⟩:=aO.mp e1;rw[aK]at hy;obtain⟨px,p1,p2⟩:=aO.mp hy;have :=pr.at p1 q1;rw[←e2,←q2,←p2];show Value.ref qx.2.1=Value.ref px.2.1;rw[this]
 exact⟨.ref _,_,I1.laid (a:=_) (o:=.lst (kvs.map λx=>V.ref x.2.1)) (t':=tk) hk (aG _) ⟨by rw[aE];lia,acc.toList,c',vals,by rw[sD];exact hS⟩,rfl,q _ (I1.hok.fresh (aG _))⟩
def tDX1(P:Program)(w:World)(K:W.Frag)(tk tv:TE):TE:=λσ H Q=>∀p,H p=none->(p==sysModules)=false->tk σ (upd H p (DJ P w p [])) λx H1=>tv σ H1 λy H2=>∃b k,x=.ref b/\dN K H2 b (k.map kV)/\H2 p=some (DJ P w p [])/\Q (.ref p) (upd H2 p (DJ P w p [(k,b,y)]))
theorem SA{ke ve:Expr}{pos:Pos}{tk tv:TE}(hu:X.A.units+1<cLine)(hk:PE X ke tk)(hv:PE X ve tv):PE X (.Dict [some ke] [ve] pos) (tDX1 X.prog X.w X.K tk tv):=by
 intro aJ s σ H Q I q;have hn:=I.hok.fresh (aG s.heap.objs.size);have hlo:(s.heap.objs.size==sysModules)=false:=cV.mpr (cH (bW I.big));have raw0:ao X.prog X.w (s.heap.push {cls:=.type "dict",data:=.dict #[]}) s.heap.objs.size []:=⟨[],.nil,_,#[],0,bX _ rfl,⟨rfl,rfl,rfl⟩,rfl,rfl,List.nodup_nil⟩
 have I1:=I.laid (a:=s.heap.objs.size) (o:=DJ X.prog X.w s.heap.objs.size []) (h':=s.heap.push {cls:=.type "dict",data:=.dict #[]}) (t':=s.toks) (λ_ _ q=>aP _ q) (aG _) (KY raw0);refine wpAny_Dict_any rfl rfl (by simp) (by show 1<=15;decide) (pairTrees_cons_walk (eL (hk aJ _ σ _ _ I1 (q _ hn hlo)) λu s1 ⟨x,H1,I2,rx,q1⟩=>eL (hv aJ s1 σ H1 _ I2 q1) λw2 s2 ⟨y,H2,I3,ry,b,k,ex,hb,hp,q2⟩=>pairTrees_nil_walk ?_));subst ex;cases rx;have d:rS X.prog X.w X.K H2 s.heap.objs.size []:=⟨hp,by decide,hlo,λx hx=>nomatch hx⟩
 obtain⟨xs,pr,dd⟩:=ZT I3 d;cases pr;unfold storeAll;rw[List.forIn_cons];refine aF (aF (wpAny_dictSet_heap (knd:=tupleKind (yB X.prog X.w)) (show X.A.units<cLine by lia) (wO I3 hb) dd (λh' dd' fC=>aS ?_) (by rw[dG];decide)));obtain⟨oo,es,ep,hq,h2,h3,h4,_,h5⟩:=dd';show wpAny _ _ (forIn [] PUnit.unit _) _ _ _;rw[List.forIn_nil];exact aS ⟨.ref s.heap.objs.size,_,vY I3 (by rw[hp];exact True.intro) fC ⟨oo,hq⟩ (KY ⟨_,Paired.cons ⟨rfl,rfl,ry⟩ .nil,oo,es,ep,hq,h2,h3,h4,h5⟩),rfl,q2⟩
end
section
open PySem.W
theorem QC{h:Heap}:∀(kvs:List XE)(as:List Addr),(∀(i:Nat)(x:XE),kvs[i]?=some x->∃(a:Addr)(its:List Value),as[i]?=some a/\dD [.ref x.2.1,x.2.2] its/\IsTup h a its.toArray)->
 ∃xs,GQ kvs xs/\∀(i:Nat)(k:List eI)(b:Addr)(v:Value),xs[i]?=some (k,b,v)->∃a,as[i]?=some a/\IsTup h a #[.ref b,v]/\∃x,kvs[i]?=some x/\x.1=k/\x.2.1=b
 |[],as,hk=>⟨[],.nil,λi k b v e=>by simp at e⟩
 |x::kvs,as,hk=>by
  obtain⟨a0,its,h1,h2,h3⟩:=hk 0 x rfl;cases as with
  |nil=>cases h1
  |cons a as=>
  cases h1;obtain⟨xs,g1,g2⟩:=QC kvs as λi y e=>hk (i+1) y e
  obtain⟨u1,u2,rfl,r1,r2⟩:=vals2 h2;cases r1;refine⟨(x.1,x.2.1,u2)::xs,.cons ⟨rfl,rfl,r2⟩ g1,λi k' b' v' e=>?_⟩;cases i with
  |zero=>cases e;exact⟨a0,rfl,h3,x,rfl,rfl,rfl⟩
  |succ i=>exact g2 i k' b' v' e
theorem CP(hu:X.A.units+2<cLine):qQ X (.type "dict") (λxs H Q=>bb X.calm (pG xs λx=>mN x λp=>∃as:List Addr,dL X.K H p (as.map V.ref)/\∃kvs:List XE,as.length=kvs.length/\(kvs.map (·.1)).Nodup/\
 (∀(i:Nat)(x:XE),kvs[i]?=some x->∃a,as[i]?=some a/\dN X.K H a [.ref x.2.1,x.2.2]/\dN X.K H x.2.1 (x.1.map kV))/\∀l,H l=none->(l==sysModules)=false->Q (.ref l) (upd H l (DJ X.prog X.w l kvs)))):=by
 intro aJ s σ H xs us Q I r h;replace h:=DF h;obtain⟨hc,h⟩:=h;replace h:=wE h;obtain⟨x0,rfl,h⟩:=h;replace h:=xI h;obtain⟨p,rfl,as,hp,kvs,eQ,hn,hk,q⟩:=h;obtain⟨u,rfl,ru⟩:=uP r;cases ru;obtain⟨its,rv,hl,hz⟩:=I.list hp;have hil:=rv.length;rw[aE]at hil hz;obtain⟨vs,g1,g2⟩:=QC (h:=s.heap) kvs as λi x e=>by
  obtain⟨a,e1,e2,e3⟩:=hk i x e;obtain⟨its,r2,t2,_⟩:=I.tuple e2;exact⟨a,its,e1,r2,t2⟩
 have hvl:kvs.length=vs.length:=eT g1;have hks:vs.map (·.1)=kvs.map (·.1):=by
  clear hn g2 hvl hk eQ q
  induction g1 with
  |nil=>rfl
  |cons h _ ih=>rw[cF,cF,ih,h.1]
 refine uE (knd:=tupleKind (yB X.prog X.w)) (xs:=vs) (show X.A.in1.in1.units<cLine from ?_) (I.ok.hd hc) hl HK (by rw[hks];exact hn) () (by rw[aR];lia) (λi k b v e=>?_) λh' t' hk' hd'=>?_
 ·exact hu
 ·obtain⟨a,e1,e2,x,e3,rfl,rfl⟩:=g2 i k b v e;obtain⟨u,h1,h2⟩:=rv.get (i:=i) (x:=V.ref a) (by rw[aK,e1];rfl);cases h2;obtain⟨_,_,_,e6⟩:=hk i x e3;exact⟨a,by simpa using h1,e2,wO I e6⟩
 ·obtain⟨o,es,ep,d1,d2,d3,d4,d5⟩:=hd';have hfr:=I.hok.fresh (aG s.heap.objs.size);exact⟨.ref s.heap.objs.size,_,I.laid (a:=s.heap.objs.size) (o:=DJ X.prog X.w s.heap.objs.size kvs) (t':=t') hk' (aG _) (KY ⟨vs,g1,o,es,ep,d1,d2,d3,d4,d5⟩),rfl,q _ hfr (cV.mpr (cH (bW I.big)))⟩
def PF(P:Program)(w:World)(K:W.Frag)(td ty:TE):TE:=λσ H Q=>td σ H λx H1=>∃a kvs0,x=.ref a/\rS P w K H1 a kvs0/\ty σ H1 λy H2=>∃kvs b k,rS P w K H2 a kvs/\y=.ref b/\dN K H2 b (k.map kV)/\Q ((kT kvs k).getD .non) H2
theorem eh{iS:Pos}{td ty:TE}(hu:X.A.units+1<cLine)(ho:PE X o td)(he:PE X e ty)(m:M1 X o "get" lY e iS):PE X (.Call (.Attribute o "get" lY) [e] [] iS) (PF X.prog X.w X.K td ty):=by
 intro aJ s σ H Q I h;refine jr m.base m.few m.line pN iM F.type_dict_get (eL (ho aJ s σ H _ I h) λu s1 ⟨x,H1,I1,rx,q1⟩=>?_);obtain⟨a,kvs0,ex,d0,q1⟩:=q1;subst ex;obtain rfl:u=Value.ref a:=rx;obtain⟨xs0,pr0,dd0⟩:=ZT I1 d0;refine⟨dd0.typeIs,(λoo ho=>by cases ho;obtain⟨o',_,_,h1,h2,h3,_⟩:=dd0;exact⟨o',h1,h2.2.1⟩),?_⟩;rw[m.trees];refine iR rfl (oK (gR (eL (he aJ s1 σ H1 _ I1 q1) λiv s2 ⟨y,H2,I2,ry,q2⟩=>nJ ?_)));obtain⟨kvs,b,k,d,ey,hk,q2⟩:=q2;subst ey;cases (show iv=Value.ref b from ry);obtain⟨xs,pr,dd⟩:=ZT I2 d;exact sQ iM dd.typeIs pT (F.args_dict_get_2 _ _) (meetsH_dict_get (tupleKind (yB X.prog X.w)) a b d.lo) ⟨eD hu,k,_,wO I2 hk,dd,⟨(kT kvs k).getD .non,H2,I2.tok _,(pr.val k).getD (d:=.non) rfl,q2⟩⟩
set_option autoImplicit false
end
abbrev SM:=StateT SortSt Sem
def i7(l:Bool)(key:Keyed)(arr:Array Keyed)(base i:Nat):SM (Option Bool):=
 elem' arr (base+i) >>= λx=>if l=true then lt' x key else lt' key x >>= λo=>pure (Option.map (λx=>!x) o)
def WD(be:Nat->SM (Option Bool))(n lo hi:Nat):SM (Option Nat):=
 (forIn [:n] ((none,lo,hi):Option (Option Nat)×Nat×Nat) λ_ c=>
   if c.2.1≥c.2.2 then pure (ForInStep.done (none,c.2.1,c.2.2))
   else be (c.2.1+(c.2.2-c.2.1)/2) >>= λo=>match o with
    |some b=>if b=true then pure (ForInStep.yield (none,c.2.1+(c.2.2-c.2.1)/2+1,c.2.2))else pure (ForInStep.yield (none,c.2.1,c.2.1+(c.2.2-c.2.1)/2))
    |_=>pure (ForInStep.done (some none,c.2.1,c.2.2))) >>= λc=>match c.1 with
  |some r=>pure r
  |none=>pure (some c.2.2)
def CD(be:Nat->SM (Option Bool))(n mx:Nat)(f:Bool->Bool)(g:Nat->Nat):SM (Option (Option Nat)×Nat×Nat):=
 forIn [:n] ((none,0,1):Option (Option Nat)×Nat×Nat) λ_ c=>
  if c.2.2≥mx then pure (ForInStep.done (none,c.2.1,c.2.2))
  else be (g c.2.2) >>= λo=>match o with
   |some b=>if f b=true then pure (ForInStep.done (none,c.2.1,c.2.2))else pure (ForInStep.yield (none,c.2.2,2*c.2.2+1))
   |_=>pure (ForInStep.done (some none,c.2.1,c.2.2))
def jT:Bool->Keyed->Array Keyed->Nat->Nat->Nat->SM (Option Nat):=sortPriv% PySem.Builtin.gallop
theorem FX(l:Bool)(key:Keyed)(arr:Array Keyed)(base n hint:Nat):jT l key arr base n hint=
 (i7 l key arr base hint >>= λo=>match o with
  |some right=>if right=true then CD (i7 l key arr base) n (n-hint) (λb=>!b) (λo=>hint+o) >>= λc=>(match c.1 with
   |some r=>pure r
   |none=>WD (i7 l key arr base) n (hint+c.2.1+1) (hint+min c.2.2 (n-hint)))
   else CD (i7 l key arr base) n (hint+1) (λb=>b) (λo=>hint-o) >>= λc=>(match c.1 with
    |some r=>pure r
    |none=>WD (i7 l key arr base) n (hint+1-min c.2.2 (hint+1)) (hint-c.2.1))
  |_=>pure none):=by
 unfold CD WD i7;show(_ >>= _:SM _)=_
 congr 1
 funext o
 cases o with
 |none=>rfl
 |some right=>
  cases right
  ·show(_ >>= _:SM _)=_;simp only[cA,dO]
   congr 1
   funext c
   obtain⟨r,u,v⟩:=c;cases r
   ·show(_ >>= _:SM _)=_
    congr 1
    funext c
    obtain⟨r,u,v⟩:=c;cases r<;>rfl
   ·rfl
  ·show(_ >>= _:SM _)=_;simp only[if_true]
   congr 1
   funext c
   obtain⟨r,u,v⟩:=c;cases r
   ·show(_ >>= _:SM _)=_
    congr 1
    funext c
    obtain⟨r,u,v⟩:=c;cases r<;>rfl
   ·rfl
section
variable {be:Nat->SM (Option Bool)} {P:Nat->Bool}
theorem KM{lo hi:Nat}{Q:Option Nat->SortSt->Prop}(hbe:∀i,i<n->∀Q:Option Bool->SortSt->Prop,Q (some (P i)) st->wpS M A E s (be i) Q st)
 (hm:∀i j,i<=j->j<n->P j=true->P i=true) (h1:lo<=hi) (h2:hi<=n) (hlo:∀i,i<lo->P i=true) (hhi:∀i,hi<=i->i<n->P i=false)
 (h:∀r,r<=n->(∀i,i<r->P i=true)->(∀i,r<=i->i<n->P i=false)->Q (some r) st):wpS M A E s (WD be n lo hi) Q st:=by
 unfold WD;refine aY (fP (eE
  (I:=λx c cQ=>cQ=st/\∃l r,c=(none,l,r)/\l<=r/\r<=n/\r-l<=n-x/\(∀i,i<l->P i=true)/\(∀i,r<=i->i<n->P i=false))
  (Q:=λc cQ=>cQ=st/\∃l r,c=(none,l,r)/\r<=n/\(∀i,i<r->P i=true)/\(∀i,r<=i->i<n->P i=false)) ?step ?fin ?init) ?post)
 case init=>exact⟨rfl,lo,hi,rfl,h1,h2,(),hlo,hhi⟩
 case fin=>
  rintro c cQ ⟨rfl,l,r,rfl,a1,a2,a3,a4,a5⟩;have :l=r:=by lia
  subst this;exact⟨rfl,l,l,rfl,a2,a4,a5⟩
 case post=>
  rintro c cQ ⟨rfl,l,r,rfl,a2,a4,a5⟩;exact bJ (h r a2 a4 a5)
 case step=>
  rintro x c cQ _ hx ⟨rfl,l,r,rfl,a1,a2,a3,a4,a5⟩;dsimp only;by_cases hge:l≥r
  ·rw[aL hge];have :l=r:=by lia
   subst this;exact bJ ⟨rfl,l,l,rfl,a2,a4,a5⟩
  ·rw[aH hge];refine aY (hbe _ () _ ?_);cases hp:P (l+(r-l)/2)
   ·simp only[cA,dO];refine bJ ⟨rfl,_,_,rfl,(),(),(),a4,λi b1 b2=>?_⟩;cases hi:P i
    ·rfl
    ·rw[hm _ _ b1 b2 hi]at hp;exact absurd hp (by simp)
   ·simp only[if_true];refine bJ ⟨rfl,_,_,rfl,(),(),(),λi b1=>hm i _ () () hp,a5⟩
theorem KN{l:Bool}{key:Keyed}{base hint:Nat}{Q:Option Nat->SortSt->Prop}(hbe:∀i,i<n->∀Q:Option Bool->SortSt->Prop,Q (some (P i)) st->wpS M A E s (i7 l key arr base i) Q st)
 (hm:∀i j,i<=j->j<n->P j=true->P i=true) (hh:hint<n)
 (h:∀r,r<=n->(∀i,i<r->P i=true)->(∀i,r<=i->i<n->P i=false)->Q (some r) st):wpS M A E s (jT l key arr base n hint) Q st:=by
 rw[FX];refine aY (hbe hint hh _ ?_);dsimp only;have hf:∀i j,i<=j->j<n->P i=false->P j=false:=by
  intro i j a b c;cases hj:P j
  ·rfl
  ·rw[hm i j a b hj]at c;exact absurd c (by simp)
 cases hp:P hint
 ·simp only[cA,dO];unfold CD;refine aY (fP (eE
   (I:=λx c cQ=>cQ=st/\∃u v,c=(none,u,v)/\u<v/\x+1<=v/\u<=hint/\P (hint-u)=false)
   (Q:=λc cQ=>cQ=st/\∃u v,c=(none,u,v)/\u<v/\u<=hint/\P (hint-u)=false/\(v≥hint+1\/v<=hint/\P (hint-v)=true)) ?step ?fin ?init) ?post)
  case init=>exact⟨rfl,0,1,rfl,(),(),(),hp⟩
  case fin=>
   rintro c cQ ⟨rfl,u,v,rfl,a1,a2,a3,a4⟩;exact⟨rfl,u,v,rfl,a1,a3,a4,.inl ()⟩
  case step=>
   rintro x c cQ _ hx ⟨rfl,u,v,rfl,a1,a2,a3,a4⟩;dsimp only;by_cases hge:v≥hint+1
   ·rw[aL hge];exact bJ ⟨rfl,u,v,rfl,a1,a3,a4,.inl hge⟩
   ·rw[aH hge];refine aY (hbe _ () _ ?_);cases hv:P (hint-v)
    ·simp only[cA,dO];exact bJ ⟨rfl,_,_,rfl,(),(),(),hv⟩
    ·simp only[if_true];exact bJ ⟨rfl,u,v,rfl,a1,a3,a4,.inr ⟨(),hv⟩⟩
  case post=>
   rintro c cQ ⟨rfl,u,v,rfl,a1,a3,a4,a5⟩;dsimp only;refine KM hbe hm () () (λi hi=>?_) (λi h1 h2=>hf _ _ h1 h2 a4) h;rcases a5 with a5 |⟨a5,a6⟩
   ·lia
   ·exact hm i _ () () a6
 ·simp only[if_true];unfold CD;refine aY (fP (eE
   (I:=λx c cQ=>cQ=st/\∃u v,c=(none,u,v)/\u<v/\x+1<=v/\hint+u<n/\P (hint+u)=true)
   (Q:=λc cQ=>cQ=st/\∃u v,c=(none,u,v)/\u<v/\hint+u<n/\P (hint+u)=true/\(v≥n-hint\/hint+v<n/\P (hint+v)=false)) ?step ?fin ?init) ?post)
  case init=>exact⟨rfl,0,1,rfl,(),(),(),hp⟩
  case fin=>
   rintro c cQ ⟨rfl,u,v,rfl,a1,a2,a3,a4⟩;exact⟨rfl,u,v,rfl,a1,a3,a4,.inl ()⟩
  case step=>
   rintro x c cQ _ hx ⟨rfl,u,v,rfl,a1,a2,a3,a4⟩;dsimp only;by_cases hge:v≥n-hint
   ·rw[aL hge];exact bJ ⟨rfl,u,v,rfl,a1,a3,a4,.inl hge⟩
   ·rw[aH hge];refine aY (hbe _ () _ ?_);cases hv:P (hint+v)
    ·simp only[bI,if_true];exact bJ ⟨rfl,u,v,rfl,a1,a3,a4,.inr ⟨(),hv⟩⟩
    ·simp only[bL,cA,dO];exact bJ ⟨rfl,_,_,rfl,(),(),(),hv⟩
  case post=>
   rintro c cQ ⟨rfl,u,v,rfl,a1,a3,a4,a5⟩;dsimp only;refine KM hbe hm () () (λi hi=>hm i _ () a3 a4) (λi h1 h2=>?_) h;rcases a5 with a5 |⟨a5,a6⟩
   ·lia
   ·exact hf _ _ () h2 a6
end
structure lD(M:Model)(A:Around)(E:Value->Shared->Prop)(s:Shared)(kd:SortKind)(S:Keyed->Prop)(κ:Keyed->Int):Prop where
 lt:∀{x y:Keyed}{st:SortSt}{Q:Option Bool->SortSt->Prop},S x->S y->kindOf st=kd->Q (some (decide (κ x<κ y))) st->wpS M A E s (lt' x y) Q st
def dZ(κ:Keyed->Int)(xs:Array Keyed)(i:Nat):Int:=match xs[i]? with
 |some p=>κ p
 |none=>0
theorem yN{xs:Array Keyed}{p:Keyed}(h:xs[i]?=some p):dZ κ xs i=κ p:=by unfold dZ;rw[h]
theorem qK{xs ys:Array Keyed}(h:xs[i]?=ys[j]?):dZ κ xs i=dZ κ ys j:=by unfold dZ;rw[h]
def xW(κ:Keyed->Int)(xs:Array Keyed)(i j:Nat):Prop:=∀p q,i<=p->p<=q->q<j->dZ κ xs p<=dZ κ xs q
theorem yJ{p:Keyed}{Q:Keyed->SortSt->Prop}(hp:arr[i]?=some p)(h:Q p st):wpS M A E s (elem' arr i) Q st:=by
 rw[elem'_eq,hp];exact bJ h
theorem xY(h:i<arr.size):∃p,arr[i]?=some p/\p∈arr.toList:=⟨arr[i],getElem?_pos _ i h,by simp⟩
theorem VE{key:Keyed}{base hint:Nat}{Q:Option Nat->SortSt->Prop}(C:lD M A E s kd S κ)(hk:kindOf st=kd)(hS:∀p,p∈arr.toList->S p)(hK:S key)
 (hb:base+n<=arr.size) (hs:xW κ arr base (base+n)) (hh:hint<n)
 (h:∀r,r<=n->(∀i,i<r->dZ κ arr (base+i)<=κ key)->(∀i,r<=i->i<n->κ key<dZ κ arr (base+i))->Q (some r) st):wpS M A E s (jT false key arr base n hint) Q st:=by
 refine KN (P:=λi=>!decide (κ key<dZ κ arr (base+i))) (λi hi Q hQ=>?_) (λi j hij hj=>?_) hh λr h1 h2 h3=>h r h1 (λi hi=>?_) λi ha hb=>?_
 ·obtain⟨p,e,hm⟩:=xY (arr:=arr) (i:=base+i) ();unfold i7;refine aY (yJ e ?_);simp only[cA,dO];refine aY (C.lt hK (hS p hm) hk ?_);rw[←yN (κ:=κ) e];exact bJ hQ
 ·have :=hs (base+i) (base+j) () () ();simp only[HD,decide_eq_false_iff_not];lia
 ·have :=h2 i hi;simp only[HD,decide_eq_false_iff_not]at this;lia
 ·simpa using h3 i ha hb
theorem VF{key:Keyed}{base hint:Nat}{Q:Option Nat->SortSt->Prop}(C:lD M A E s kd S κ)(hk:kindOf st=kd)(hS:∀p,p∈arr.toList->S p)(hK:S key)
 (hb:base+n<=arr.size) (hs:xW κ arr base (base+n)) (hh:hint<n)
 (h:∀r,r<=n->(∀i,i<r->dZ κ arr (base+i)<κ key)->(∀i,r<=i->i<n->κ key<=dZ κ arr (base+i))->Q (some r) st):wpS M A E s (jT true key arr base n hint) Q st:=by
 refine KN (P:=λi=>decide (dZ κ arr (base+i)<κ key)) (λi hi Q hQ=>?_) (λi j hij hj=>?_) hh λr h1 h2 h3=>h r h1 (λi hi=>?_) λi ha hb=>?_
 ·obtain⟨p,e,hm⟩:=xY (arr:=arr) (i:=base+i) ();unfold i7;refine aY (yJ e ?_);simp only[if_true];refine C.lt (hS p hm) hK hk ?_;rw[←yN (κ:=κ) e];exact hQ
 ·have :=hs (base+i) (base+j) () () ();simp only[bO];lia
 ·simpa using h2 i hi
 ·have :=h3 i ha hb;simp only[decide_eq_false_iff_not]at this;lia
structure oZ(κ:Keyed->Int)(la lb ol:List Keyed)(ia ib:Nat):Prop where
 perm:ol.Perm (la.take ia++lb.take ib)
 srt:ol.Pairwise λx y=>κ x<=κ y
 la:∀x∈ol,∀y∈la.drop ia,κ x<=κ y
 lb:∀x∈ol,∀y∈lb.drop ib,κ x<=κ y
section
variable {la lb ol:List Keyed}
theorem oZ.swap(h:oZ κ la lb ol ia ib):oZ κ lb la ol ib ia:=⟨h.perm.trans rK,h.srt,h.lb,h.la⟩
theorem oZ.addA(h:oZ κ la lb ol ia ib)(k:Nat)(hs:la.Pairwise λx y=>κ x<=κ y)(hb:∀x∈(la.drop ia).take k,∀y∈lb.drop ib,κ x<=κ y):oZ κ la lb (ol++(la.drop ia).take k) (ia+k) ib:=by
 have hd:la.drop ia=(la.drop ia).take k++la.drop (ia+k):=by rw[←rZ];exact(eJ _ _).symm
 have hp:(la.drop ia).Pairwise λx y=>κ x<=κ y:=hs.sublist (List.drop_sublist _ _)
 rw[hd,List.pairwise_append]at hp;refine⟨?_,?_,?_,?_⟩
 ·rw[List.take_add];refine(h.perm.append_right _).trans ?_;rw[cM,cM];exact List.Perm.append_left _ rK
 ·rw[List.pairwise_append];exact⟨h.srt,hp.1,λx hx y hy=>h.la x hx y (iU hy)⟩
 ·intro x hx y hy;rcases bS.mp hx with hx |hx
  ·exact h.la x hx y (by rw[hd];exact aZ _ hy)
  ·exact hp.2.2 x hx y hy
 ·intro x hx y hy;rcases bS.mp hx with hx |hx
  ·exact h.lb x hx y hy
  ·exact hb x hx y hy
theorem oZ.addB(h:oZ κ la lb ol ia ib)(k:Nat)(hs:lb.Pairwise λx y=>κ x<=κ y)(hb:∀x∈(lb.drop ib).take k,∀y∈la.drop ia,κ x<=κ y):oZ κ la lb (ol++(lb.drop ib).take k) ia (ib+k):=(h.swap.addA k hs hb).swap
theorem oZ.nil:oZ κ la lb [] 0 0:=⟨by simp,.nil,by simp,by simp⟩
def Mgd(κ:Keyed->Int)(la lb ol:List Keyed):Prop:=ol.Perm (la++lb)/\ol.Pairwise λx y=>κ x<=κ y
theorem oZ.fin(h:oZ κ la lb ol ia ib)(h1:la.length<=ia)(h2:lb.length<=ib):Mgd κ la lb ol:=by
 refine⟨?_,h.srt⟩;have :=h.perm;rwa[aQ h1,aQ h2]at this
theorem oZ.endA(h:oZ κ la lb ol ia ib)(hs:la.Pairwise λx y=>κ x<=κ y)(h2:lb.length<=ib):Mgd κ la lb (ol++la.drop ia):=by
 have :=h.addA la.length hs (by rw[List.drop_eq_nil_of_le h2];simp);rw[aQ (by simp)]at this;exact this.fin () h2
theorem oZ.endB(h:oZ κ la lb ol ia ib)(hs:lb.Pairwise λx y=>κ x<=κ y)(h1:la.length<=ia):Mgd κ la lb (ol++lb.drop ib):=by
 have :=h.swap.endA hs h1;exact⟨this.1.trans rK,this.2⟩
theorem vX{l:List Keyed}{k:Nat}{y:Keyed}(h:y∈(l.drop i).take k):∃j,i<=j/\j<i+k/\j<l.length/\l[j]?=some y:=by
 obtain⟨j,hj,e⟩:=List.mem_iff_getElem.mp h;rw[bU,fW]at hj;refine⟨i+j,(),(),(),?_⟩;rw[HC,List.getElem_drop]at e;rw[←e];exact aA ()
theorem FL{l:List Keyed}{y:Keyed}(h:y∈l.drop i):∃j,i<=j/\j<l.length/\l[j]?=some y:=by
 obtain⟨j,hj,e⟩:=List.mem_iff_getElem.mp h;rw[fW]at hj;refine⟨i+j,(),(),?_⟩;rw[List.getElem_drop]at e;rw[←e];exact aA ()
theorem vJ{a:Array Keyed}{y:Keyed}(h:a.toList[j]?=some y):κ y=dZ κ a j:=(yN (by rw[←dA];exact h)).symm
theorem qY{a:Array Keyed}(h:xW κ a 0 a.size):a.toList.Pairwise λx y=>κ x<=κ y:=by
 rw[dM];intro i j hi hj hij;have :=h i j () () (by simpa using hj);rwa[←vJ (aA hi),←vJ (aA hj)]at this
end
def PX:Nat->SM Unit:=sortPriv% PySem.Builtin.setMinGallop
abbrev UK(st:SortSt)(g:Nat):SortSt:=SortSt.mk' (kindOf st) (arrOf st) (pendingOf st) g (failedOf st)
theorem YF(g:Nat):PX g=modify λs=>UK s g:=rfl
structure iL(st cQ:SortSt):Prop where
 kind:kindOf cQ=kindOf st
 arr:arrOf cQ=arrOf st
 pend:pendingOf cQ=pendingOf st
 fail:failedOf cQ=failedOf st
theorem iL.rfl':iL st st:=⟨rfl,rfl,rfl,rfl⟩
theorem iL.gal{cQ:SortSt}(h:iL st cQ)(g:Nat):iL st (UK cQ g):=⟨h.kind,h.arr,h.pend,h.fail⟩
def az(a b out:Array Keyed)(ia ib:Nat):Array Keyed:=out++a.extract ia a.size++b.extract ib b.size
def lsL(a b out:Array Keyed)(ia ib:Nat):Array Keyed:=out++b.extract ib b.size++a.extract ia a.size
abbrev LoA:=Option (Array Keyed)×Array Keyed×Nat×Nat×Nat×Nat
abbrev tw:=Option (Array Keyed)×Array Keyed×Nat×Nat×Nat×Nat×Nat
abbrev LoC:=Option (Array Keyed)×Array Keyed×Nat×Nat×Nat
def lo1(a b:Array Keyed)(mg:Nat)(c:LoA):SM (ForInStep LoA):=
 elem' b c.2.2.2.1 >>= λy=>elem' a c.2.2.1 >>= λx=>lt' y x >>= λo=>match o with
  |some w=>if w=true then elem' b c.2.2.2.1 >>= λz=>
   if(c.2.2.2.1+1==b.size)=true then pure (ForInStep.done (some (az a b (c.2.1.push z) c.2.2.1 (c.2.2.2.1+1)),c.2.1.push z,c.2.2.1,c.2.2.2.1+1,0,c.2.2.2.2.2+1))
   else if c.2.2.2.2.2+1≥mg then pure (ForInStep.done (none,c.2.1.push z,c.2.2.1,c.2.2.2.1+1,0,c.2.2.2.2.2+1))
   else pure (ForInStep.yield (none,c.2.1.push z,c.2.2.1,c.2.2.2.1+1,0,c.2.2.2.2.2+1))
   else elem' a c.2.2.1 >>= λz=>
    if(c.2.2.1+1+1==a.size)=true then pure (ForInStep.done (some (lsL a b (c.2.1.push z) (c.2.2.1+1) c.2.2.2.1),c.2.1.push z,c.2.2.1+1,c.2.2.2.1,c.2.2.2.2.1+1,0))
    else if c.2.2.2.2.1+1≥mg then pure (ForInStep.done (none,c.2.1.push z,c.2.2.1+1,c.2.2.2.1,c.2.2.2.2.1+1,0))
    else pure (ForInStep.yield (none,c.2.1.push z,c.2.2.1+1,c.2.2.2.1,c.2.2.2.2.1+1,0))
  |_=>pure (ForInStep.done (some (az a b c.2.1 c.2.2.1 c.2.2.2.1),c.2.1,c.2.2.1,c.2.2.2.1,c.2.2.2.2.1,c.2.2.2.2.2))
def gp(a b:Array Keyed)(mg:Nat)(out:Array Keyed)(ia ib ac bc:Nat):SM (ForInStep tw):=
 elem' a ia >>= λz=>if(ia+1+1==a.size)=true then pure (ForInStep.done (some (lsL a b (out.push z) (ia+1) ib),out.push z,ia+1,ib,mg,ac,bc))
  else if(decide (ac<7)&&decide (bc<7))=true then pure (ForInStep.done (none,out.push z,ia+1,ib,mg,ac,bc))
  else pure (ForInStep.yield (none,out.push z,ia+1,ib,mg,ac,bc))
def gq(a b:Array Keyed)(mg:Nat)(out:Array Keyed)(ia ib ac bc:Nat):SM (ForInStep tw):=
 elem' b ib >>= λz=>if(ib+1==b.size)=true then pure (ForInStep.done (some (az a b (out.push z) ia (ib+1)),out.push z,ia,ib+1,mg,ac,bc))
  else elem' a ia >>= λx=>jT true x b (ib+1) (b.size-(ib+1)) 0 >>= λo=>match o with
   |some k=>if k>0 then(if(ib+1+k==b.size)=true then pure (ForInStep.done (some (az a b (out.push z++b.extract (ib+1) (ib+1+k)) ia (ib+1+k)),out.push z++b.extract (ib+1) (ib+1+k),ia,ib+1+k,mg,ac,k))
    else gp a b mg (out.push z++b.extract (ib+1) (ib+1+k)) ia (ib+1+k) ac k)
    else gp a b mg (out.push z) ia (ib+1) ac k
   |_=>pure (ForInStep.done (some (az a b (out.push z) ia (ib+1)),out.push z,ia,ib+1,mg,ac,bc))
def gu(a b:Array Keyed)(mg:Nat)(out:Array Keyed)(ia ib ac bc:Nat):SM (ForInStep tw):=
 PX mg >>= λ_=>elem' b ib >>= λy=>jT false y a ia (a.size-ia) 0 >>= λo=>match o with
  |some k=>if k>0 then(if(ia+k+1==a.size)=true then pure (ForInStep.done (some (lsL a b (out++a.extract ia (ia+k)) (ia+k) ib),out++a.extract ia (ia+k),ia+k,ib,mg,k,bc))
   else if(ia+k==a.size)=true then pure (ForInStep.done (some (az a b (out++a.extract ia (ia+k)) (ia+k) ib),out++a.extract ia (ia+k),ia+k,ib,mg,k,bc))
   else gq a b mg (out++a.extract ia (ia+k)) (ia+k) ib k bc)
   else gq a b mg out ia ib k bc
  |_=>pure (ForInStep.done (some (az a b out ia ib),out,ia,ib,mg,ac,bc))
def lo2(a b:Array Keyed)(c:tw):SM (ForInStep tw):=
 if c.2.2.2.2.1>1 then gu a b (c.2.2.2.2.1-1) c.2.1 c.2.2.1 c.2.2.2.1 c.2.2.2.2.2.1 c.2.2.2.2.2.2 else gu a b c.2.2.2.2.1 c.2.1 c.2.2.1 c.2.2.2.1 c.2.2.2.2.2.1 c.2.2.2.2.2.2
def lo3(a b:Array Keyed)(c:LoC):SM (ForInStep LoC):=
 (forIn [:a.size+b.size] ((none,c.2.1,c.2.2.1,c.2.2.2.1,0,0):LoA) λ_ d=>lo1 a b c.2.2.2.2 d) >>= λd=>match d.1 with
  |some r=>pure (ForInStep.done (some r,d.2.1,d.2.2.1,d.2.2.2.1,c.2.2.2.2))
  |none=>liftM (rule "list.sort.gallop") >>= λ_=>(forIn [:a.size+b.size] ((none,d.2.1,d.2.2.1,d.2.2.2.1,c.2.2.2.2+1,d.2.2.2.2.1,d.2.2.2.2.2):tw) λ_ e=>lo2 a b e) >>= λe=>match e.1 with
   |some r=>pure (ForInStep.done (some r,e.2.1,e.2.2.1,e.2.2.2.1,e.2.2.2.2.1))
   |none=>PX (e.2.2.2.2.1+1) >>= λ_=>pure (ForInStep.yield (none,e.2.1,e.2.2.1,e.2.2.2.1,e.2.2.2.2.1+1))
def XU:Array Keyed->Array Keyed->SM (Array Keyed):=sortPriv% PySem.Builtin.mergeLo
theorem BS(a b:Array Keyed):XU a b=(liftM (rule "list.sort.merge-lo") >>= λ_=>elem' b 0 >>= λz=>
 if(1==b.size)=true then pure (az a b #[z] 0 1)else if(0+1==a.size)=true then pure (lsL a b #[z] 0 1)
 else get >>= λst=>(forIn [:a.size+b.size] ((none,#[z],0,1,gallopOf st):LoC) λ_ c=>lo3 a b c) >>= λc=>match c.1 with
  |some r=>pure r
  |none=>liftM (unsupported "internal:list.sort.merge-bound")):=by
 show(_ >>= _:SM _)=_
 congr 1;funext u
 show(_ >>= _:SM _)=_
 congr 1;funext z
 by_cases h:(1==b.size)=true
 ·exact(aL h).trans (aL h).symm
 ·refine(aH h).trans (Eq.trans ?_ (aH h).symm);by_cases h2:(0+1==a.size)=true
  ·exact(aL h2).trans (aL h2).symm
  ·refine(aH h2).trans (Eq.trans ?_ (aH h2).symm);show(_ >>= _:SM _)=_
   congr 1;funext st
   show(_ >>= _:SM _)=_
   congr 1
   ·congr 1;funext x c
    delta lo3
    show(_ >>= _:SM _)=_
    congr 1;funext d
    obtain⟨r,d⟩:=d;cases r
    ·show(_ >>= _:SM _)=_
     congr 1;funext v
     show(_ >>= _:SM _)=_
     congr 1;funext d
     obtain⟨r,d⟩:=d;cases r<;>rfl
    ·rfl
   ·funext c
    obtain⟨r,d⟩:=c;cases r<;>rfl
structure pJ(S:Keyed->Prop)(κ:Keyed->Int)(a b:Array Keyed):Prop where
 sa:xW κ a 0 a.size
 sb:xW κ b 0 b.size
 ma:∀p,p∈a.toList->S p
 mb:∀p,p∈b.toList->S p
 na:1<=a.size
 nb:1<=b.size
 b0:∀i,i<a.size->dZ κ b 0<dZ κ a i
 al:∀j,j<b.size->dZ κ b j<dZ κ a (a.size-1)
section
variable {a b out:Array Keyed}
abbrev oA(κ:Keyed->Int)(a b out:Array Keyed)(ia ib:Nat):Prop:=oZ κ a.toList b.toList out.toList ia ib
abbrev sX(κ:Keyed->Int)(a b out:Array Keyed):Prop:=Mgd κ a.toList b.toList out.toList
theorem KR(a:Array Keyed)(i k:Nat):(a.extract i (i+k)).toList=(a.toList.drop i).take k:=by
 rw[eW,dP,pP]
theorem KU(a:Array Keyed)(i:Nat):(a.extract i a.size).toList=a.toList.drop i:=by
 rw[eW,dP,aQ (by simp)]
theorem SK{l:List Keyed}(h:l[i]?=some z):[z]=(l.drop i).take 1:=by
 obtain⟨hi,e⟩:=aC.mp h;rw[gG hi,e];rfl
theorem oA.appA(H:pJ S κ a b)(h:oA κ a b out ia ib){k:Nat}(hq:∀i,ia<=i->i<ia+k->∀j,ib<=j->j<b.size->dZ κ a i<=dZ κ b j):oA κ a b (out++a.extract ia (ia+k)) (ia+k) ib:=by
 have :=oZ.addA h k (qY H.sa) λx hx y hy=>by
  obtain⟨i,h1,h2,h3,h4⟩:=vX hx;obtain⟨j,g1,g2,g3⟩:=FL hy;rw[vJ (κ:=κ) h4,vJ (κ:=κ) g3];exact hq i h1 h2 j g1 (by simpa using g2)
 rw[oA,cO,KR];exact this
theorem oA.appB(H:pJ S κ a b)(h:oA κ a b out ia ib){k:Nat}(hq:∀j,ib<=j->j<ib+k->∀i,ia<=i->i<a.size->dZ κ b j<=dZ κ a i):oA κ a b (out++b.extract ib (ib+k)) ia (ib+k):=by
 have :=oZ.addB h k (qY H.sb) λx hx y hy=>by
  obtain⟨i,h1,h2,h3,h4⟩:=vX hx;obtain⟨j,g1,g2,g3⟩:=FL hy;rw[vJ (κ:=κ) h4,vJ (κ:=κ) g3];exact hq i h1 h2 j g1 (by simpa using g2)
 rw[oA,cO,KR];exact this
theorem UO(o:Array Keyed)(z:Keyed):(o.push z).toList=o.toList++[z]:=by simp
theorem oA.pushA(H:pJ S κ a b)(h:oA κ a b out ia ib)(hz:a[ia]?=some z)(hq:∀j,ib<=j->j<b.size->κ z<=dZ κ b j):oA κ a b (out.push z) (ia+1) ib:=by
 have hz':a.toList[ia]?=some z:=by rw[dA];exact hz
 have :=h.appA H (k:=1) λi h1 h2 j g1 g2=>by
  have :i=ia:=by lia
  subst this;rw[yN hz];exact hq j g1 g2
 rw[oA,cO,KR,←SK hz']at this;rw[oA,UO];exact this
theorem oA.pushB(H:pJ S κ a b)(h:oA κ a b out ia ib)(hz:b[ib]?=some z)(hq:∀i,ia<=i->i<a.size->κ z<=dZ κ a i):oA κ a b (out.push z) ia (ib+1):=by
 have hz':b.toList[ib]?=some z:=by rw[dA];exact hz
 have :=h.appB H (k:=1) λi h1 h2 j g1 g2=>by
  have :i=ib:=by lia
  subst this;rw[yN hz];exact hq j g1 g2
 rw[oA,cO,KR,←SK hz']at this;rw[oA,UO];exact this
theorem oA.dn(H:pJ S κ a b)(h:oA κ a b out ia ib)(hb:ib=b.size):sX κ a b (az a b out ia ib):=by
 have :=oZ.endA h (qY H.sa) (by simp;lia);rw[sX,az,cO,cO,KU,KU,List.drop_eq_nil_of_le (as:=b.toList) (by simp;lia),cN];exact this
theorem oA.ls(H:pJ S κ a b)(h:oA κ a b out ia ib)(ha:ia+1=a.size):sX κ a b (lsL a b out ia ib):=by
 have h1:=oZ.addB h b.size (qY H.sb) λx hx y hy=>by
  obtain⟨i,h1,h2,h3,h4⟩:=vX hx;obtain⟨j,g1,g2,g3⟩:=FL hy;rw[vJ (κ:=κ) h4,vJ (κ:=κ) g3];have :j=a.size-1:=by simp at g2;lia
  subst this;exact pX (H.al i (by simpa using h3))
 rw[aQ (l:=b.toList.drop ib) (by simp)]at h1;have :=h1.endA (qY H.sa) (by simp);rw[sX,lsL,cO,cO,KU,KU];exact this
end
def ai(κ:Keyed->Int)(a b:Array Keyed)(N:Nat)(r:Option (Array Keyed))(out:Array Keyed)(ia ib:Nat):Prop:=
 r=none/\oA κ a b out ia ib/\ia+1<a.size/\ib<b.size/\N<=ia+ib
def LoG(κ:Keyed->Int)(a b:Array Keyed)(N:Nat)(r:Option (Array Keyed))(out:Array Keyed)(ia ib:Nat):Prop:=
 (∃x,r=some x/\sX κ a b x)\/ai κ a b N r out ia ib
theorem qb{a b out:Array Keyed}{N:Nat}(h1:oA κ a b out ia ib)(h2:ia+1<a.size)(h3:ib<b.size)(h4:N<=ia+ib):ai κ a b N none out ia ib:=⟨rfl,h1,h2,h3,h4⟩
section
variable {a b:Array Keyed}
theorem qe(C:lD M A E s kd S κ)(H:pJ S κ a b)(hk:kindOf st=kd){N mg:Nat}{out:Array Keyed}(h:ai κ a b N none out ia ib):
 wpS M A E s (lo1 a b mg (none,out,ia,ib,ac,bc)) (λr cQ=>cQ=st/\match r with
  | .done c=>LoG κ a b (N+1) c.1 c.2.1 c.2.2.1 c.2.2.2.1
  | .yield c=>ai κ a b (N+1) c.1 c.2.1 c.2.2.1 c.2.2.2.1) st:=by
 obtain⟨-,h1,h2,h3,h4⟩:=h;obtain⟨x,ex,hx⟩:=xY (arr:=a) (i:=ia) ();obtain⟨y,ey,hy⟩:=xY (arr:=b) (i:=ib) ();unfold lo1;refine aY (yJ ey (aY (yJ ex (aY (C.lt (H.mb y hy) (H.ma x hx) hk ?_)))));have kx:=yN (κ:=κ) ex;have ky:=yN (κ:=κ) ey;by_cases hl:κ y<κ x
 ·simp only[hl,decide_true,if_true];refine aY (yJ ey ?_);have hn:oA κ a b (out.push y) ia (ib+1):=h1.pushB H ey λi g1 g2=>by
   have :=H.sa ia i () g1 g2;lia
  by_cases he:ib+1=b.size
  ·rw[aL (by simpa using he)];exact bJ ⟨rfl,.inl ⟨_,rfl,hn.dn H he⟩⟩
  ·rw[aH (by simpa using he)];split
   ·exact bJ ⟨rfl,.inr (qb (N:=N+1) hn (h2) () () :)⟩
   ·exact bJ ⟨rfl,(qb (N:=N+1) hn (h2) () () :)⟩
 ·simp only[hl,decide_false,cA,dO];refine aY (yJ ex ?_);have hn:oA κ a b (out.push x) (ia+1) ib:=h1.pushA H ex λi g1 g2=>by
   have :=H.sb ib i () g1 g2;lia
  by_cases he:ia+1+1=a.size
  ·rw[aL (by simpa using he)];exact bJ ⟨rfl,.inl ⟨_,rfl,hn.ls H he⟩⟩
  ·rw[aH (by simpa using he)];split
   ·exact bJ ⟨rfl,.inr (qb (N:=N+1) hn () () () :)⟩
   ·exact bJ ⟨rfl,(qb (N:=N+1) hn () () () :)⟩
abbrev ji(κ:Keyed->Int)(a b:Array Keyed)(N:Nat)(st:SortSt)(r:ForInStep tw)(cQ:SortSt):Prop:=iL st cQ/\match r with
 | .done c=>LoG κ a b N c.1 c.2.1 c.2.2.1 c.2.2.2.1
 | .yield c=>ai κ a b N c.1 c.2.1 c.2.2.1 c.2.2.2.1
theorem IV(H:pJ S κ a b){N mg:Nat}{out:Array Keyed}(hs:iL st0 st)(h1:oA κ a b out ia ib)(h2:ia+1<a.size)(h3:ib<b.size)(h4:N<=ia+ib)
 (hq:∀j,ib<=j->j<b.size->dZ κ a ia<=dZ κ b j):wpS M A E s (gp a b mg out ia ib ac bc) (ji κ a b N st0) st:=by
 obtain⟨x,ex,hx⟩:=xY (arr:=a) (i:=ia) ();unfold gp;refine aY (yJ ex ?_);have kx:=yN (κ:=κ) ex;have hn:oA κ a b (out.push x) (ia+1) ib:=h1.pushA H ex λi g1 g2=>by rw[←kx];exact hq i g1 g2
 by_cases he:ia+1+1=a.size
 ·rw[aL (by simpa using he)];exact bJ ⟨hs,.inl ⟨_,rfl,hn.ls H he⟩⟩
 ·rw[aH (by simpa using he)];split
  ·exact bJ ⟨hs,.inr (qb (N:=N) hn () () () :)⟩
  ·exact bJ ⟨hs,(qb (N:=N) hn () () () :)⟩
theorem IW(C:lD M A E s kd S κ)(H:pJ S κ a b)(hk:kindOf st=kd){N mg:Nat}{out:Array Keyed}(hs:iL st0 st)(h1:oA κ a b out ia ib)(h2:ia+1<a.size)(h3:ib<b.size)(h4:N<=ia+ib)
 (hq:∀i,ia<=i->i<a.size->dZ κ b ib<=dZ κ a i):wpS M A E s (gq a b mg out ia ib ac bc) (ji κ a b N st0) st:=by
 obtain⟨y,ey,hy⟩:=xY (arr:=b) (i:=ib) ();obtain⟨x,ex,hx⟩:=xY (arr:=a) (i:=ia) ();unfold gq;refine aY (yJ ey ?_);have ky:=yN (κ:=κ) ey;have kx:=yN (κ:=κ) ex;have hn:oA κ a b (out.push y) ia (ib+1):=h1.pushB H ey λi g1 g2=>by rw[←ky];exact hq i g1 g2
 by_cases he:ib+1=b.size
 ·rw[aL (by simpa using he)];exact bJ ⟨hs,.inl ⟨_,rfl,hn.dn H he⟩⟩
 ·rw[aH (by simpa using he)];refine aY (yJ ex ?_);refine aY (VF C hk H.mb (H.ma x hx) () (λp q r1 r2 r3=>H.sb p q () r2 ()) () λk g1 g2 g3=>?_);dsimp only;have hm:oA κ a b (out.push y++b.extract (ib+1) (ib+1+k)) ia (ib+1+k):=hn.appB H λj r1 r2 i r3 r4=>by
   have :=g2 (j-(ib+1)) ();rw[show ib+1+(j-(ib+1))=j by lia]at this;have :=H.sa ia i () r3 r4;lia
  have hr:∀j,ib+1+k<=j->j<b.size->dZ κ a ia<=dZ κ b j:=λj r1 r2=>by
   have :=g3 (j-(ib+1)) () ();rw[show ib+1+(j-(ib+1))=j by lia]at this;lia
  by_cases hz:k>0
  ·rw[aL hz];by_cases he:ib+1+k=b.size
   ·rw[aL (by simpa using he)];exact bJ ⟨hs,.inl ⟨_,rfl,hm.dn H he⟩⟩
   ·rw[aH (by simpa using he)];exact IV H hs hm h2 () () hr
  ·rw[aH hz];have :k=0:=by lia
   subst this;exact IV H hs hn h2 () () hr
theorem IX(C:lD M A E s kd S κ)(H:pJ S κ a b)(hk:kindOf st=kd){N mg:Nat}{out:Array Keyed}(hs:iL st0 st)(h1:oA κ a b out ia ib)(h2:ia+1<a.size)(h3:ib<b.size)(h4:N<=ia+ib):
 wpS M A E s (gu a b mg out ia ib ac bc) (ji κ a b N st0) st:=by
 obtain⟨y,ey,hy⟩:=xY (arr:=b) (i:=ib) ();unfold gu;rw[YF];refine aY (mO (aY (yJ ey ?_)));have fC:=hs.gal mg;have hk':kindOf (UK st mg)=kd:=hk;have ky:=yN (κ:=κ) ey;refine aY (VE C hk' H.ma (H.mb y hy) () (λp q r1 r2 r3=>H.sa p q () r2 ()) () λk g1 g2 g3=>?_);dsimp only;have hl:=H.al ib h3;have hkl:ia+k<a.size:=by
  by_cases hc:ia+k<a.size
  ·exact hc
  ·have :=g2 (a.size-1-ia) ();rw[show ia+(a.size-1-ia)=a.size-1 by lia]at this;lia
 have hm:oA κ a b (out++a.extract ia (ia+k)) (ia+k) ib:=h1.appA H λj r1 r2 i r3 r4=>by
  have :=g2 (j-ia) ();rw[show ia+(j-ia)=j by lia]at this;have :=H.sb ib i () r3 r4;lia
 have hr:∀j,ia+k<=j->j<a.size->dZ κ b ib<=dZ κ a j:=λj r1 r2=>by
  have :=g3 (j-ia) () ();rw[show ia+(j-ia)=j by lia]at this;lia
 by_cases hz:k>0
 ·rw[aL hz];by_cases he:ia+k+1=a.size
  ·rw[aL (by simpa using he)];exact bJ ⟨fC,.inl ⟨_,rfl,hm.ls H he⟩⟩
  ·rw[aH (by simpa using he),aH (by simp;lia)];exact IW C H hk' fC hm () h3 () hr
 ·rw[aH hz];have :k=0:=by lia
  subst this;exact IW C H hk' fC h1 () h3 () hr
theorem qd(C:lD M A E s kd S κ)(H:pJ S κ a b)(hk:kindOf st=kd){N mg:Nat}{out:Array Keyed}(hs:iL st0 st)(h:ai κ a b N none out ia ib):
 wpS M A E s (lo2 a b (none,out,ia,ib,mg,ac,bc)) (ji κ a b N st0) st:=by
 obtain⟨-,h1,h2,h3,h4⟩:=h;unfold lo2;dsimp only;split
 ·exact IX C H hk hs h1 h2 h3 h4
 ·exact IX C H hk hs h1 h2 h3 h4
theorem qc(C:lD M A E s kd S κ)(H:pJ S κ a b)(hk0:kindOf st0=kd){N mg:Nat}{out:Array Keyed}(hs:iL st0 st)(h:ai κ a b N none out ia ib):
 wpS M A E s (lo3 a b (none,out,ia,ib,mg)) (λr cQ=>iL st0 cQ/\match r with
  | .done c=>∃x,c.1=some x/\sX κ a b x
  | .yield c=>ai κ a b (N+1) c.1 c.2.1 c.2.2.1 c.2.2.2.1) st:=by
 unfold lo3;dsimp only;refine aY (fP (eE
  (I:=λx c cQ=>cQ=st/\ai κ a b (N+x) c.1 c.2.1 c.2.2.1 c.2.2.2.1)
  (Q:=λc cQ=>cQ=st/\LoG κ a b (N+1) c.1 c.2.1 c.2.2.1 c.2.2.2.1) ?step ?fin ⟨rfl,h⟩) ?post)
 case fin=>
  rintro c cQ ⟨rfl,h1,h2,h3,h4,h5⟩;have :=H.na;exact⟨rfl,.inr ⟨h1,h2,h3,h4,()⟩⟩
 case step=>
  rintro x ⟨r,out,ia,ib,ac,bc⟩ cQ _ hx ⟨rfl,hc⟩;have hr:r=none:=hc.1;subst hr;refine fP (qe C H (hs.kind.trans hk0) hc) ?_;rintro(c |c) fX ⟨rfl,h'⟩
  ·refine⟨rfl,?_⟩;rcases h' with h' |⟨a1,a2,a3,a4,a5⟩
   ·exact .inl h'
   ·exact .inr ⟨a1,a2,a3,a4,()⟩
  ·exact⟨rfl,h'⟩
 case post=>
  rintro⟨r,out,ia,ib,ac,bc⟩ cQ ⟨rfl,hc⟩;rcases hc with⟨x,hx,hg⟩ |hc
  ·have hx:r=some x:=hx;subst hx;exact bJ ⟨hs,x,rfl,hg⟩
  ·have hr:r=none:=hc.1;subst hr;dsimp only;refine aY (lq (iP ⟨rfl,?_⟩));refine aY (fP (eE
    (I:=λx c cQ=>iL st0 cQ/\ai κ a b (N+1) c.1 c.2.1 c.2.2.1 c.2.2.2.1)
    (Q:=λc cQ=>iL st0 cQ/\LoG κ a b (N+1) c.1 c.2.1 c.2.2.1 c.2.2.2.1) ?_ ?_ ⟨hs,hc⟩) ?_)
   ·rintro x ⟨r,out,ia,ib,mg,ac,bc⟩ cQ _ hx ⟨fC,hc⟩;have hr:r=none:=hc.1;subst hr;refine fP (qd C H (fC.kind.trans hk0) fC hc) ?_;rintro(c |c) fX h'<;>exact h'
   ·rintro c cQ ⟨h1,h2⟩;exact⟨h1,.inr h2⟩
   ·rintro⟨r,out,ia,ib,mg,ac,bc⟩ cQ ⟨fC,hc⟩;rcases hc with⟨x,hx,hg⟩ |hc
    ·have hx:r=some x:=hx;subst hx;exact bJ ⟨fC,x,rfl,hg⟩
    ·have hr:r=none:=hc.1;subst hr;dsimp only;rw[YF];exact aY (mO (bJ ⟨fC.gal _,hc⟩))
theorem FI(C:lD M A E s kd S κ)(H:pJ S κ a b)(hk:kindOf st=kd){Q:Array Keyed->SortSt->Prop}(h:∀out cQ,iL st cQ->sX κ a b out->Q out cQ):wpS M A E s (XU a b) Q st:=by
 have h0:=H.na;have h0':=H.nb;obtain⟨y,ey,hy⟩:=xY (arr:=b) (i:=0) ();rw[BS];refine aY (lq (iP ⟨rfl,?_⟩));refine aY (yJ ey ?_);have ky:=yN (κ:=κ) ey;have hn:oA κ a b #[y] 0 1:=by
  have :=oA.pushB (out:= #[]) H oZ.nil ey λi g1 g2=>by
   have :=H.b0 i g2;lia
  simpa using this
 by_cases he:1=b.size
 ·rw[aL (by simpa using he)];exact bJ (h _ _ .rfl' (hn.dn H he))
 ·rw[aH (by simpa using he)];by_cases he2:0+1=a.size
  ·rw[aL (by simpa using he2)];exact bJ (h _ _ .rfl' (hn.ls H he2))
  ·rw[aH (by simpa using he2)];refine aY (DK ?_);refine aY (fP (eE
    (I:=λx c cQ=>iL st cQ/\ai κ a b (x+1) c.1 c.2.1 c.2.2.1 c.2.2.2.1)
    (Q:=λc cQ=>iL st cQ/\∃x,c.1=some x/\sX κ a b x) ?_ ?_ ⟨.rfl',(qb (N:=0+1) hn () () () :)⟩) ?_)
   ·rintro x ⟨r,out,ia,ib,mg⟩ cQ _ hx ⟨fC,hc⟩;have hr:r=none:=hc.1;subst hr;refine fP (qc C H hk fC hc) ?_;rintro(c |c) fX ⟨h1,h2⟩
    ·exact⟨h1,h2⟩
    ·exact⟨h1,h2⟩
   ·rintro c cQ ⟨h1,-,h2,h3,h4,h5⟩;lia
   ·rintro⟨r,c⟩ cQ ⟨h1,x,hx,hg⟩;have hx:r=some x:=hx;subst hx;exact bJ (h _ _ h1 hg)
end
def a8(a b out:Array Keyed)(na nb:Nat):Array Keyed:=a.extract 0 na++b.extract 0 nb++out.reverse
def fsH(a b out:Array Keyed)(na nb:Nat):Array Keyed:=b.extract 0 nb++a.extract 0 na++out.reverse
abbrev HiA:=Option (Array Keyed)×Nat×Nat×Array Keyed×Nat×Nat
abbrev t5:=Option (Array Keyed)×Nat×Nat×Array Keyed×Nat×Nat×Nat
abbrev HiC:=Option (Array Keyed)×Nat×Nat×Array Keyed×Nat
def hi1(a b:Array Keyed)(mg:Nat)(c:HiA):SM (ForInStep HiA):=
 elem' b (c.2.2.1-1) >>= λy=>elem' a (c.2.1-1) >>= λx=>lt' y x >>= λo=>match o with
  |some w=>if w=true then elem' a (c.2.1-1) >>= λz=>
   if(c.2.1-1==0)=true then pure (ForInStep.done (some (a8 a b (c.2.2.2.1.push z) (c.2.1-1) c.2.2.1),c.2.1-1,c.2.2.1,c.2.2.2.1.push z,c.2.2.2.2.1+1,0))
   else if c.2.2.2.2.1+1≥mg then pure (ForInStep.done (none,c.2.1-1,c.2.2.1,c.2.2.2.1.push z,c.2.2.2.2.1+1,0))
   else pure (ForInStep.yield (none,c.2.1-1,c.2.2.1,c.2.2.2.1.push z,c.2.2.2.2.1+1,0))
   else elem' b (c.2.2.1-1) >>= λz=>
    if(c.2.2.1-1==1)=true then pure (ForInStep.done (some (fsH a b (c.2.2.2.1.push z) c.2.1 (c.2.2.1-1)),c.2.1,c.2.2.1-1,c.2.2.2.1.push z,0,c.2.2.2.2.2+1))
    else if c.2.2.2.2.2+1≥mg then pure (ForInStep.done (none,c.2.1,c.2.2.1-1,c.2.2.2.1.push z,0,c.2.2.2.2.2+1))
    else pure (ForInStep.yield (none,c.2.1,c.2.2.1-1,c.2.2.2.1.push z,0,c.2.2.2.2.2+1))
  |_=>pure (ForInStep.done (some (a8 a b c.2.2.2.1 c.2.1 c.2.2.1),c.2.1,c.2.2.1,c.2.2.2.1,c.2.2.2.2.1,c.2.2.2.2.2))
def ii(a b:Array Keyed)(mg:Nat)(out:Array Keyed)(na nb ac bc:Nat):SM (ForInStep t5):=
 elem' a (na-1) >>= λz=>if(na-1==0)=true then pure (ForInStep.done (some (a8 a b (out.push z) (na-1) nb),na-1,nb,out.push z,mg,ac,bc))
  else if(decide (ac<7)&&decide (bc<7))=true then pure (ForInStep.done (none,na-1,nb,out.push z,mg,ac,bc))
  else pure (ForInStep.yield (none,na-1,nb,out.push z,mg,ac,bc))
def ij(a b:Array Keyed)(mg:Nat)(out:Array Keyed)(na nb ac bc:Nat):SM (ForInStep t5):=
 elem' b (nb-1) >>= λz=>if(nb-1==1)=true then pure (ForInStep.done (some (fsH a b (out.push z) na (nb-1)),na,nb-1,out.push z,mg,ac,bc))
  else elem' a (na-1) >>= λx=>jT true x b 0 (nb-1) (nb-1-1) >>= λo=>match o with
   |some k=>if nb-1-k>0 then(if(k==1)=true then pure (ForInStep.done (some (fsH a b (out.push z++(b.extract k (nb-1)).reverse) na k),na,k,out.push z++(b.extract k (nb-1)).reverse,mg,ac,nb-1-k))
    else if(k==0)=true then pure (ForInStep.done (some (a8 a b (out.push z++(b.extract k (nb-1)).reverse) na k),na,k,out.push z++(b.extract k (nb-1)).reverse,mg,ac,nb-1-k))
    else ii a b mg (out.push z++(b.extract k (nb-1)).reverse) na k ac (nb-1-k))
    else ii a b mg (out.push z) na (nb-1) ac (nb-1-k)
   |_=>pure (ForInStep.done (some (a8 a b (out.push z) na (nb-1)),na,nb-1,out.push z,mg,ac,bc))
def ik(a b:Array Keyed)(mg:Nat)(out:Array Keyed)(na nb ac bc:Nat):SM (ForInStep t5):=
 PX mg >>= λ_=>elem' b (nb-1) >>= λy=>jT false y a 0 na (na-1) >>= λo=>match o with
  |some k=>if na-k>0 then(if(k==0)=true then pure (ForInStep.done (some (a8 a b (out++(a.extract k na).reverse) k nb),k,nb,out++(a.extract k na).reverse,mg,na-k,bc))
   else ij a b mg (out++(a.extract k na).reverse) k nb (na-k) bc)
   else ij a b mg out na nb (na-k) bc
  |_=>pure (ForInStep.done (some (a8 a b out na nb),na,nb,out,mg,ac,bc))
def hi2(a b:Array Keyed)(c:t5):SM (ForInStep t5):=
 if c.2.2.2.2.1>1 then ik a b (c.2.2.2.2.1-1) c.2.2.2.1 c.2.1 c.2.2.1 c.2.2.2.2.2.1 c.2.2.2.2.2.2 else ik a b c.2.2.2.2.1 c.2.2.2.1 c.2.1 c.2.2.1 c.2.2.2.2.2.1 c.2.2.2.2.2.2
def hi3(a b:Array Keyed)(c:HiC):SM (ForInStep HiC):=
 (forIn [:a.size+b.size] ((none,c.2.1,c.2.2.1,c.2.2.2.1,0,0):HiA) λ_ d=>hi1 a b c.2.2.2.2 d) >>= λd=>match d.1 with
  |some r=>pure (ForInStep.done (some r,d.2.1,d.2.2.1,d.2.2.2.1,c.2.2.2.2))
  |none=>liftM (rule "list.sort.gallop") >>= λ_=>(forIn [:a.size+b.size] ((none,d.2.1,d.2.2.1,d.2.2.2.1,c.2.2.2.2+1,d.2.2.2.2.1,d.2.2.2.2.2):t5) λ_ e=>hi2 a b e) >>= λe=>match e.1 with
   |some r=>pure (ForInStep.done (some r,e.2.1,e.2.2.1,e.2.2.2.1,e.2.2.2.2.1))
   |none=>PX (e.2.2.2.2.1+1) >>= λ_=>pure (ForInStep.yield (none,e.2.1,e.2.2.1,e.2.2.2.1,e.2.2.2.2.1+1))
def XV:Array Keyed->Array Keyed->SM (Array Keyed):=sortPriv% PySem.Builtin.mergeHi
theorem BU(a b:Array Keyed):XV a b=(liftM (rule "list.sort.merge-hi") >>= λ_=>elem' a (a.size-1) >>= λz=>
 if(a.size-1==0)=true then pure (a8 a b #[z] (a.size-1) b.size)else if(b.size==1)=true then pure (fsH a b #[z] (a.size-1) b.size)
 else get >>= λst=>(forIn [:a.size+b.size] ((none,a.size-1,b.size,#[z],gallopOf st):HiC) λ_ c=>hi3 a b c) >>= λc=>match c.1 with
  |some r=>pure r
  |none=>liftM (unsupported "internal:list.sort.merge-bound")):=by
 show(_ >>= _:SM _)=_
 congr 1;funext u
 show(_ >>= _:SM _)=_
 congr 1;funext z
 by_cases h:(a.size-1==0)=true
 ·exact(aL h).trans (aL h).symm
 ·refine(aH h).trans (Eq.trans ?_ (aH h).symm);by_cases h2:(b.size==1)=true
  ·exact(aL h2).trans (aL h2).symm
  ·refine(aH h2).trans (Eq.trans ?_ (aH h2).symm);show(_ >>= _:SM _)=_
   congr 1;funext st
   show(_ >>= _:SM _)=_
   congr 1
   ·congr 1;funext x c
    delta hi3
    show(_ >>= _:SM _)=_
    congr 1;funext d
    obtain⟨r,d⟩:=d;cases r
    ·show(_ >>= _:SM _)=_
     congr 1;funext v
     show(_ >>= _:SM _)=_
     congr 1;funext d
     obtain⟨r,d⟩:=d;cases r<;>rfl
    ·rfl
   ·funext c
    obtain⟨r,d⟩:=c;cases r<;>rfl
abbrev oS(κ:Keyed->Int)(a b out:Array Keyed)(na nb:Nat):Prop:=oZ (λx=> - κ x) a.toList.reverse b.toList.reverse out.toList (a.size-na) (b.size-nb)
section
variable {a b out:Array Keyed}
theorem XD{l:List Keyed}(h:l.Pairwise λx y=>κ x<=κ y):l.reverse.Pairwise λx y=> - κ x<= - κ y:=by
 rw[List.pairwise_reverse];exact h.imp λh=>by lia
theorem uX{l:List Keyed}(h:n<=l.length):l.reverse.drop (l.length-n)=(l.take n).reverse:=by
 rw[List.drop_reverse,show l.length-(l.length-n)=n by lia]
theorem IB{l:List Keyed}{k:Nat}(h:n<=l.length)(hk:k<=n):(l.reverse.drop (l.length-n)).take (n-k)=((l.drop k).take (n-k)).reverse:=by
 rw[uX h,List.take_reverse,bU,show min n l.length-(n-k)=k by lia,List.drop_take]
theorem RJ{a:Array Keyed}{k:Nat}(h:n<=a.size)(hk:k<=n):((a.extract k n).reverse).toList=(a.toList.reverse.drop (a.size-n)).take (n-k):=by
 rw[nK,eW,dP,←bV,IB (by simpa using h) hk]
theorem AB{a:Array Keyed}{k:Nat}{x:Keyed}(h:n<=a.size)(hk:k<=n)(hx:x∈(a.toList.reverse.drop (a.size-n)).take (n-k)):∃i,k<=i/\i<n/\κ x=dZ κ a i:=by
 rw[←bV,IB (by simpa using h) hk,List.mem_reverse]at hx;obtain⟨i,h1,h2,h3,h4⟩:=vX hx;exact⟨i,h1,(),vJ h4⟩
theorem YG{a:Array Keyed}{x:Keyed}(h:n<=a.size)(hx:x∈a.toList.reverse.drop (a.size-n)):∃i,i<n/\κ x=dZ κ a i:=by
 rw[←bV,uX (by simpa using h),List.mem_reverse]at hx;rw[show a.toList.take n=(a.toList.drop 0).take n by simp]at hx;obtain⟨i,h1,h2,h3,h4⟩:=vX hx;exact⟨i,(),vJ h4⟩
theorem oS.appA(H:pJ S κ a b)(ha:na<=a.size)(hb:nb<=b.size)(h:oS κ a b out na nb){k:Nat}(hk:k<=na)(hq:∀i,k<=i->i<na->∀j,j<nb->dZ κ b j<=dZ κ a i):oS κ a b (out++(a.extract k na).reverse) k nb:=by
 have :=oZ.addA h (na-k) (XD (qY H.sa)) λx hx y hy=>by
  obtain⟨i,h1,h2,h3⟩:=AB (κ:=κ) ha hk hx;obtain⟨j,g1,g2⟩:=YG (κ:=κ) hb hy;have :=hq i h1 h2 j g1;show - κ x<= - κ y;lia
 rw[←RJ ha hk,←cO,show a.size-na+(na-k)=a.size-k by lia]at this;exact this
theorem oS.appB(H:pJ S κ a b)(ha:na<=a.size)(hb:nb<=b.size)(h:oS κ a b out na nb){k:Nat}(hk:k<=nb)(hq:∀j,k<=j->j<nb->∀i,i<na->dZ κ a i<=dZ κ b j):oS κ a b (out++(b.extract k nb).reverse) na k:=by
 have :=oZ.addB h (nb-k) (XD (qY H.sb)) λx hx y hy=>by
  obtain⟨i,h1,h2,h3⟩:=AB (κ:=κ) hb hk hx;obtain⟨j,g1,g2⟩:=YG (κ:=κ) ha hy;have :=hq i h1 h2 j g1;show - κ x<= - κ y;lia
 rw[←RJ hb hk,←cO,show b.size-nb+(nb-k)=b.size-k by lia]at this;exact this
theorem IQ{a:Array Keyed}(h1:1<=n)(hz:a[n-1]?=some z):(a.extract (n-1) n).reverse.toList=[z]:=by
 have hz':a.toList[n-1]?=some z:=by rw[dA];exact hz
 rw[nK,eW,dP,show n-(n-1)=1 by lia,←SK hz'];rfl
theorem oS.pushA(H:pJ S κ a b)(ha:na<=a.size)(hb:nb<=b.size)(h:oS κ a b out na nb)(h1:1<=na)(hz:a[na-1]?=some z)(hq:∀j,j<nb->dZ κ b j<=κ z):oS κ a b (out.push z) (na-1) nb:=by
 have :=h.appA H ha hb (k:=na-1) () λi g1 g2 j g3=>by
  have :i=na-1:=by lia
  subst this;rw[yN hz];exact hq j g3
 rw[oS,cO,IQ h1 hz,←UO]at this;exact this
theorem oS.pushB(H:pJ S κ a b)(ha:na<=a.size)(hb:nb<=b.size)(h:oS κ a b out na nb)(h1:1<=nb)(hz:b[nb-1]?=some z)(hq:∀j,j<na->dZ κ a j<=κ z):oS κ a b (out.push z) na (nb-1):=by
 have :=h.appB H ha hb (k:=nb-1) () λi g1 g2 j g3=>by
  have :i=nb-1:=by lia
  subst this;rw[yN hz];exact hq j g3
 rw[oS,cO,IQ h1 hz,←UO]at this;exact this
theorem IU{la lb ol:List Keyed}(h:Mgd (λx=> - κ x) la.reverse lb.reverse ol):Mgd κ la lb ol.reverse:=by
 refine⟨?_,?_⟩
 ·exact(HB _).trans (h.1.trans ((HB _).append (HB _)))
 ·rw[List.pairwise_reverse];exact h.2.imp λh=>by dsimp only at h;lia
theorem QZ{a:Array Keyed}:(a.extract 0 n).toList=a.toList.take n:=by simp
theorem oS.dn(H:pJ S κ a b)(hb:nb<=b.size)(h:oS κ a b out na nb)(h0:na=0):sX κ a b (a8 a b out na nb):=by
 subst h0;have :=IU (h.endB (XD (qY H.sb)) (by simp));rw[←bV (xs:=b),uX (by simpa using hb),sU,rX]at this;rw[sX,a8,cO,cO,QZ,QZ,nK,List.take_zero,aw];exact this
theorem oS.fs(H:pJ S κ a b)(ha:na<=a.size)(h:oS κ a b out na nb)(h0:nb=1):sX κ a b (fsH a b out na nb):=by
 subst h0;have h1:=oZ.addA h a.size (XD (qY H.sa)) λx hx y hy=>by
  obtain⟨i,h1,h2⟩:=YG (κ:=κ) ha (iU hx);obtain⟨j,g1,g2⟩:=YG (κ:=κ) H.nb hy;have :j=0:=by lia
  subst this;have :=H.b0 i ();show - κ x<= - κ y;lia
 rw[aQ (l:=a.toList.reverse.drop (a.size-na)) (by simp)]at h1;have :=IU (h1.endB (XD (qY H.sb)) (by simp));have e1:a.toList.reverse.drop (a.size-na)=(a.toList.take na).reverse:=by rw[←bV,uX (by simpa using ha)]
 have e2:b.toList.reverse.drop (b.size-1)=(b.toList.take 1).reverse:=by rw[←bV,uX (by simpa using H.nb)]
 rw[e1,e2,sU,sU,rX,rX,←cM]at this;rw[sX,fsH,cO,cO,QZ,QZ,nK];exact this
end
def ak(κ:Keyed->Int)(a b:Array Keyed)(N:Nat)(r:Option (Array Keyed))(out:Array Keyed)(na nb:Nat):Prop:=
 r=none/\oS κ a b out na nb/\1<=na/\2<=nb/\na<=a.size/\nb<=b.size/\na+nb+N<=a.size+b.size
def HiG(κ:Keyed->Int)(a b:Array Keyed)(N:Nat)(r:Option (Array Keyed))(out:Array Keyed)(na nb:Nat):Prop:=
 (∃x,r=some x/\sX κ a b x)\/ak κ a b N r out na nb
theorem hin{a b out:Array Keyed}{N:Nat}(h1:oS κ a b out na nb)(h2:1<=na)(h3:2<=nb)(h4:na<=a.size)(h5:nb<=b.size)(h6:na+nb+N<=a.size+b.size):ak κ a b N none out na nb:=⟨rfl,h1,h2,h3,h4,h5,h6⟩
section
variable {a b:Array Keyed}
theorem qy(C:lD M A E s kd S κ)(H:pJ S κ a b)(hk:kindOf st=kd){N mg:Nat}{out:Array Keyed}(h:ak κ a b N none out na nb):
 wpS M A E s (hi1 a b mg (none,na,nb,out,ac,bc)) (λr cQ=>cQ=st/\match r with
  | .done c=>HiG κ a b (N+1) c.1 c.2.2.2.1 c.2.1 c.2.2.1
  | .yield c=>ak κ a b (N+1) c.1 c.2.2.2.1 c.2.1 c.2.2.1) st:=by
 obtain⟨-,h1,h2,h3,h4,h5,h6⟩:=h;obtain⟨x,ex,hx⟩:=xY (arr:=a) (i:=na-1) ();obtain⟨y,ey,hy⟩:=xY (arr:=b) (i:=nb-1) ();unfold hi1;refine aY (yJ ey (aY (yJ ex (aY (C.lt (H.mb y hy) (H.ma x hx) hk ?_)))));have kx:=yN (κ:=κ) ex;have ky:=yN (κ:=κ) ey;by_cases hl:κ y<κ x
 ·simp only[hl,decide_true,if_true];refine aY (yJ ex ?_);have hn:oS κ a b (out.push x) (na-1) nb:=h1.pushA H h4 h5 h2 ex λi g1=>by
   have :=H.sb i (nb-1) () () ();lia
  by_cases he:na-1=0
  ·rw[aL (by simpa using he)];exact bJ ⟨rfl,.inl ⟨_,rfl,hn.dn H h5 he⟩⟩
  ·rw[aH (by simpa using he)];split
   ·exact bJ ⟨rfl,.inr (hin (N:=N+1) hn () () () () () :)⟩
   ·exact bJ ⟨rfl,(hin (N:=N+1) hn () () () () () :)⟩
 ·simp only[hl,decide_false,cA,dO];refine aY (yJ ey ?_);have hn:oS κ a b (out.push y) na (nb-1):=h1.pushB H h4 h5 () ey λi g1=>by
   have :=H.sa i (na-1) () () ();lia
  by_cases he:nb-1=1
  ·rw[aL (by simpa using he)];exact bJ ⟨rfl,.inl ⟨_,rfl,hn.fs H h4 he⟩⟩
  ·rw[aH (by simpa using he)];split
   ·exact bJ ⟨rfl,.inr (hin (N:=N+1) hn () () () () () :)⟩
   ·exact bJ ⟨rfl,(hin (N:=N+1) hn () () () () () :)⟩
abbrev jm(κ:Keyed->Int)(a b:Array Keyed)(N:Nat)(st:SortSt)(r:ForInStep t5)(cQ:SortSt):Prop:=iL st cQ/\match r with
 | .done c=>HiG κ a b N c.1 c.2.2.2.1 c.2.1 c.2.2.1
 | .yield c=>ak κ a b N c.1 c.2.2.2.1 c.2.1 c.2.2.1
theorem KH(H:pJ S κ a b){N mg:Nat}{out:Array Keyed}(hs:iL st0 st)(h1:oS κ a b out na nb)(h2:1<=na)(h3:2<=nb)(h4:na<=a.size)(h5:nb<=b.size)(h6:na+nb+N<=a.size+b.size)
 (hq:∀j,j<nb->dZ κ b j<=dZ κ a (na-1)):wpS M A E s (ii a b mg out na nb ac bc) (jm κ a b N st0) st:=by
 obtain⟨x,ex,hx⟩:=xY (arr:=a) (i:=na-1) ();unfold ii;refine aY (yJ ex ?_);have kx:=yN (κ:=κ) ex;have hn:oS κ a b (out.push x) (na-1) nb:=h1.pushA H h4 h5 h2 ex λi g1=>by rw[←kx];exact hq i g1
 by_cases he:na-1=0
 ·rw[aL (by simpa using he)];exact bJ ⟨hs,.inl ⟨_,rfl,hn.dn H h5 he⟩⟩
 ·rw[aH (by simpa using he)];split
  ·exact bJ ⟨hs,.inr (hin (N:=N) hn () () () () () :)⟩
  ·exact bJ ⟨hs,(hin (N:=N) hn () () () () () :)⟩
theorem KI(C:lD M A E s kd S κ)(H:pJ S κ a b)(hk:kindOf st=kd){N mg:Nat}{out:Array Keyed}(hs:iL st0 st)(h1:oS κ a b out na nb)(h2:1<=na)(h3:2<=nb)(h4:na<=a.size)(h5:nb<=b.size)(h6:na+nb+N<=a.size+b.size)
 (hq:∀i,i<na->dZ κ a i<=dZ κ b (nb-1)):wpS M A E s (ij a b mg out na nb ac bc) (jm κ a b N st0) st:=by
 obtain⟨y,ey,hy⟩:=xY (arr:=b) (i:=nb-1) ();obtain⟨x,ex,hx⟩:=xY (arr:=a) (i:=na-1) ();unfold ij;refine aY (yJ ey ?_);have ky:=yN (κ:=κ) ey;have kx:=yN (κ:=κ) ex;have hn:oS κ a b (out.push y) na (nb-1):=h1.pushB H h4 h5 () ey λi g1=>by rw[←ky];exact hq i g1
 by_cases he:nb-1=1
 ·rw[aL (by simpa using he)];exact bJ ⟨hs,.inl ⟨_,rfl,hn.fs H h4 he⟩⟩
 ·rw[aH (by simpa using he)];refine aY (yJ ex ?_);refine aY (VF C hk H.mb (H.ma x hx) () (λp q r1 r2 r3=>H.sb p q () r2 ()) () λk g1 g2 g3=>?_);dsimp only;simp only[iE]at g2 g3;have hk1:1<=k:=by
   by_cases hc:1<=k
   ·exact hc
   ·have :=g3 0 () ();have :=H.b0 (na-1) ();lia
  have hm:oS κ a b (out.push y++(b.extract k (nb-1)).reverse) na k:=hn.appB H h4 () g1 λj r1 r2 i r3=>by
   have :=g3 j () ();have :=H.sa i (na-1) () () ();lia
  have hr:∀j,j<k->dZ κ b j<=dZ κ a (na-1):=λj r1=>by
   have :=g2 j r1;lia
  by_cases hz:nb-1-k>0
  ·rw[aL hz];by_cases he:k=1
   ·rw[aL (by simpa using he)];exact bJ ⟨hs,.inl ⟨_,rfl,hm.fs H h4 he⟩⟩
   ·rw[aH (by simpa using he),aH (by simp;lia)];exact KH H hs hm h2 () h4 () () hr
  ·rw[aH hz];have :k=nb-1:=by lia
   subst this;exact KH H hs hn h2 () h4 () () hr
theorem KJ(C:lD M A E s kd S κ)(H:pJ S κ a b)(hk:kindOf st=kd){N mg:Nat}{out:Array Keyed}(hs:iL st0 st)(h1:oS κ a b out na nb)(h2:1<=na)(h3:2<=nb)(h4:na<=a.size)(h5:nb<=b.size)(h6:na+nb+N<=a.size+b.size):
 wpS M A E s (ik a b mg out na nb ac bc) (jm κ a b N st0) st:=by
 obtain⟨y,ey,hy⟩:=xY (arr:=b) (i:=nb-1) ();unfold ik;rw[YF];refine aY (mO (aY (yJ ey ?_)));have fC:=hs.gal mg;have hk':kindOf (UK st mg)=kd:=hk;have ky:=yN (κ:=κ) ey;refine aY (VE C hk' H.ma (H.mb y hy) () (λp q r1 r2 r3=>H.sa p q () r2 ()) () λk g1 g2 g3=>?_);dsimp only;simp only[iE]at g2 g3;have hm:oS κ a b (out++(a.extract k na).reverse) k nb:=h1.appA H h4 h5 g1 λj r1 r2 i r3=>by
  have :=g3 j () ();have :=H.sb i (nb-1) () () ();lia
 have hr:∀j,j<k->dZ κ a j<=dZ κ b (nb-1):=λj r1=>by
  have :=g2 j r1;lia
 by_cases hz:na-k>0
 ·rw[aL hz];by_cases he:k=0
  ·rw[aL (by simpa using he)];exact bJ ⟨fC,.inl ⟨_,rfl,hm.dn H h5 he⟩⟩
  ·rw[aH (by simpa using he)];exact KI C H hk' fC hm () h3 () h5 () hr
 ·rw[aH hz];have :k=na:=by lia
  subst this;exact KI C H hk' fC h1 h2 h3 h4 h5 () hr
theorem qv(C:lD M A E s kd S κ)(H:pJ S κ a b)(hk:kindOf st=kd){N mg:Nat}{out:Array Keyed}(hs:iL st0 st)(h:ak κ a b N none out na nb):
 wpS M A E s (hi2 a b (none,na,nb,out,mg,ac,bc)) (jm κ a b N st0) st:=by
 obtain⟨-,h1,h2,h3,h4,h5,h6⟩:=h;unfold hi2;dsimp only;split
 ·exact KJ C H hk hs h1 h2 h3 h4 h5 h6
 ·exact KJ C H hk hs h1 h2 h3 h4 h5 h6
theorem qu(C:lD M A E s kd S κ)(H:pJ S κ a b)(hk0:kindOf st0=kd){N mg:Nat}{out:Array Keyed}(hs:iL st0 st)(h:ak κ a b N none out na nb):
 wpS M A E s (hi3 a b (none,na,nb,out,mg)) (λr cQ=>iL st0 cQ/\match r with
  | .done c=>∃x,c.1=some x/\sX κ a b x
  | .yield c=>ak κ a b (N+1) c.1 c.2.2.2.1 c.2.1 c.2.2.1) st:=by
 unfold hi3;dsimp only;refine aY (fP (eE
  (I:=λx c cQ=>cQ=st/\ak κ a b (N+x) c.1 c.2.2.2.1 c.2.1 c.2.2.1)
  (Q:=λc cQ=>cQ=st/\HiG κ a b (N+1) c.1 c.2.2.2.1 c.2.1 c.2.2.1) ?step ?fin ⟨rfl,h⟩) ?post)
 case fin=>
  rintro c cQ ⟨rfl,h1,h2,h3,h4,h5,h6,h7⟩;have :=H.na;exact⟨rfl,.inr ⟨h1,h2,h3,h4,h5,h6,()⟩⟩
 case step=>
  rintro x ⟨r,na,nb,out,ac,bc⟩ cQ _ hx ⟨rfl,hc⟩;have hr:r=none:=hc.1;subst hr;refine fP (qy C H (hs.kind.trans hk0) hc) ?_;rintro(c |c) fX ⟨rfl,h'⟩
  ·refine⟨rfl,?_⟩;rcases h' with h' |⟨a1,a2,a3,a4,a5,a6,a7⟩
   ·exact .inl h'
   ·exact .inr ⟨a1,a2,a3,a4,a5,a6,()⟩
  ·exact⟨rfl,h'⟩
 case post=>
  rintro⟨r,na,nb,out,ac,bc⟩ cQ ⟨rfl,hc⟩;rcases hc with⟨x,hx,hg⟩ |hc
  ·have hx:r=some x:=hx;subst hx;exact bJ ⟨hs,x,rfl,hg⟩
  ·have hr:r=none:=hc.1;subst hr;dsimp only;refine aY (lq (iP ⟨rfl,?_⟩));refine aY (fP (eE
    (I:=λx c cQ=>iL st0 cQ/\ak κ a b (N+1) c.1 c.2.2.2.1 c.2.1 c.2.2.1)
    (Q:=λc cQ=>iL st0 cQ/\HiG κ a b (N+1) c.1 c.2.2.2.1 c.2.1 c.2.2.1) ?_ ?_ ⟨hs,hc⟩) ?_)
   ·rintro x ⟨r,na,nb,out,mg,ac,bc⟩ cQ _ hx ⟨fC,hc⟩;have hr:r=none:=hc.1;subst hr;refine fP (qv C H (fC.kind.trans hk0) fC hc) ?_;rintro(c |c) fX h'<;>exact h'
   ·rintro c cQ ⟨h1,h2⟩;exact⟨h1,.inr h2⟩
   ·rintro⟨r,na,nb,out,mg,ac,bc⟩ cQ ⟨fC,hc⟩;rcases hc with⟨x,hx,hg⟩ |hc
    ·have hx:r=some x:=hx;subst hx;exact bJ ⟨fC,x,rfl,hg⟩
    ·have hr:r=none:=hc.1;subst hr;dsimp only;rw[YF];exact aY (mO (bJ ⟨fC.gal _,hc⟩))
theorem FJ(C:lD M A E s kd S κ)(H:pJ S κ a b)(hk:kindOf st=kd){Q:Array Keyed->SortSt->Prop}(h:∀out cQ,iL st cQ->sX κ a b out->Q out cQ):wpS M A E s (XV a b) Q st:=by
 have h0:=H.na;have h0':=H.nb;obtain⟨x,ex,hx⟩:=xY (arr:=a) (i:=a.size-1) ();rw[BU];refine aY (lq (iP ⟨rfl,?_⟩));refine aY (yJ ex ?_);have kx:=yN (κ:=κ) ex;have hn:oS κ a b #[x] (a.size-1) b.size:=by
  have h00:oS κ a b #[] a.size b.size:=by
   show oZ _ _ _ _ _ _;rw[fJ,fJ];exact oZ.nil
  have :=h00.pushA H (aG _) (aG _) h0 ex λi g1=>by
   have :=H.al i g1;lia
  simpa using this
 by_cases he:a.size-1=0
 ·rw[aL (by simpa using he)];exact bJ (h _ _ .rfl' (hn.dn H (aG _) he))
 ·rw[aH (by simpa using he)];by_cases he2:b.size=1
  ·rw[aL (by simpa using he2)];exact bJ (h _ _ .rfl' (hn.fs H () he2))
  ·rw[aH (by simpa using he2)];refine aY (DK ?_);refine aY (fP (eE
    (I:=λx c cQ=>iL st cQ/\ak κ a b (x+1) c.1 c.2.2.2.1 c.2.1 c.2.2.1)
    (Q:=λc cQ=>iL st cQ/\∃x,c.1=some x/\sX κ a b x) ?_ ?_ ⟨.rfl',(hin (N:=0+1) hn () () () () () :)⟩) ?_)
   ·rintro x ⟨r,na,nb,out,mg⟩ cQ _ hx ⟨fC,hc⟩;have hr:r=none:=hc.1;subst hr;refine fP (qu C H hk fC hc) ?_;rintro(c |c) fX ⟨h1,h2⟩
    ·exact⟨h1,h2⟩
    ·exact⟨h1,h2⟩
   ·rintro c cQ ⟨h1,-,h2,h3,h4,h5,h6,h7⟩;lia
   ·rintro⟨r,c⟩ cQ ⟨h1,x,hx,hg⟩;have hx:r=some x:=hx;subst hx;exact bJ (h _ _ h1 hg)
end
def OB(sa:Nat)(l:List (Keyed×Nat))(xs:Array Keyed):Array Keyed:=l.foldl (λa x=>a.setIfInBounds (sa+x.2) x.1) xs
theorem DS(sa:Nat):∀(ms:List Keyed)(n:Nat)(xs:Array Keyed),sa+n+ms.length<=xs.size->∀k,(OB sa (ms.zipIdx n) xs)[k]?=if sa+n<=k/\k<sa+n+ms.length then ms[k-(sa+n)]? else xs[k]?
 |[],n,xs,h,k=>by
  rw[aH (by simp only[nT];lia)];rfl
 |m::ms,n,xs,h,k=>by
  rw[List.zipIdx_cons];show(OB sa (ms.zipIdx (n+1)) (xs.setIfInBounds (sa+n) m))[k]?=_;simp only[bF]at h⊢;rw[DS sa ms (n+1) _ (by rw[Array.size_setIfInBounds];lia) k,Array.getElem?_setIfInBounds];by_cases h1:sa+n=k
  ·rw[aH (),aL h1,aL (),aL ()];rw[show k-(sa+n)=0 by lia];rfl
  ·rw[aH h1];by_cases h2:sa+(n+1)<=k/\k<sa+(n+1)+ms.length
   ·rw[aL h2,aL (),show k-(sa+n)=(k-(sa+(n+1)))+1 by lia];rfl
   ·rw[aH h2,aH ()]
theorem wrF_l{sa:Nat}{ms:List Keyed}{xs:Array Keyed}(h:sa+ms.length<=xs.size):(OB sa ms.zipIdx xs).toList=xs.toList.take sa++ms++xs.toList.drop (sa+ms.length):=by
 apply List.ext_getElem?;intro k;rw[dA,DS sa ms 0 xs () k];simp only[Nat.add_zero];have hl:(xs.toList.take sa).length=sa:=by rw[bU,bV];lia
 by_cases h1:k<sa
 ·rw[aH (),cM,bE (),List.getElem?_take,aL h1,dA]
 ·by_cases h2:k<sa+ms.length
  ·rw[aL (),bE (by rw[aI];lia),bN (),hl]
  ·rw[aH (),bN (by rw[aI];lia),aI,hl,List.getElem?_drop,dA]
   congr 1;lia
theorem OO{sa:Nat}{ms:List Keyed}{xs:Array Keyed}(h:sa+ms.length<=xs.size)(hp:ms.Perm ((xs.toList.drop sa).take ms.length)):(OB sa ms.zipIdx xs).toList.Perm xs.toList:=by
 rw[wrF_l h];have e:xs.toList=xs.toList.take sa++(xs.toList.drop sa).take ms.length++xs.toList.drop (sa+ms.length):=by
  rw[cM,←rZ,eJ,eJ]
 exact((hp.append_left _).append_right _).trans (by rw[←e])
structure SB(kd:SortKind)(a₀:Array Keyed)(st:SortSt):Prop where
 perm:(arrOf st).toList.Perm a₀.toList
 kind:kindOf st=kd
 fail:failedOf st=none
theorem SB.size(h:SB kd a₀ st):(arrOf st).size=a₀.size:=by
 have :=h.perm.length_eq;simpa using this
theorem SB.mem(h:SB kd a₀ st)(h0:∀p,p∈a₀.toList->S p):∀p,p∈(arrOf st).toList->S p:=λp hp=>h0 p (h.perm.mem_iff.mp hp)
theorem SB.setArr(h:SB kd a₀ st){xs:Array Keyed}(hp:xs.toList.Perm (arrOf st).toList):SB kd a₀ (setArr st xs):=⟨hp.trans h.perm,h.kind,h.fail⟩
theorem bq{cQ:SortSt}{Q:PUnit->SortSt->Prop}(h:Q ⟨⟩ cQ):wpS M A E s (set cQ:SM PUnit) Q st:=by
 unfold wpS;rw[StateT.run_set];exact aS ⟨rfl,h⟩
def mgC(sa:Nat)(ms:Array Keyed):SM Bool:=modify (λs=>setArr s (OB sa ms.toList.zipIdx (arrOf s))) >>= λ_=>get >>= λs=>pure (failedOf s).isNone
def mgB(st:SortSt)(sa na sb nb:Nat):SM Bool:=
 if(na==0)=true then pure true else elem' (arrOf st) (sa+na-1) >>= λkey=>jT true key (arrOf st) sb nb (nb-1) >>= λo=>match o with
  |some nb=>if(nb==0)=true then pure true else if na<=nb then XU ((arrOf st).extract sa sb) ((arrOf st).extract sb (sb+nb)) >>= λm=>mgC sa m else XV ((arrOf st).extract sa sb) ((arrOf st).extract sb (sb+nb)) >>= λm=>mgC sa m
  |_=>pure false
def mgA(st:SortSt)(i sa na pw sb nb:Nat):SM Bool:=
 set (setPending st (((pendingOf st).setIfInBounds i (sa,na+nb,pw)).eraseIdxIfInBounds (i+1))) >>= λ_=>elem' (arrOf st) sb >>= λkey=>jT false key (arrOf st) sa na 0 >>= λo=>match o with
  |some k=>mgB st (sa+k) (na-k) sb nb
  |_=>pure false
theorem BV(i:Nat):mergeAt' i=(get >>= λst=>match((pendingOf st)[i]?,(pendingOf st)[i+1]?)with
 |(some (sa,na,pw),some (sb,nb,_))=>mgA st i sa na pw sb nb
 |_=>liftM (unsupported "internal:list.sort.pending")):=rfl
theorem rn{xs:Array Keyed}{k:Nat}(h:i+k<j):(xs.extract i j)[k]?=xs[i+k]?:=by
 rw[Array.getElem?_extract];split
 ·rfl
 ·next h1=>rw[Array.getElem?_eq_none ()]
theorem ZS{xs:Array Keyed}{k:Nat}(h:i+k<j):dZ κ (xs.extract i j) k=dZ κ xs (i+k):=qK (rn h)
theorem KQ{xs:Array Keyed}{p:Keyed}(h:p∈(xs.extract i j).toList):p∈xs.toList:=by
 rw[eW,dP]at h;exact List.mem_of_mem_drop (iU h)
theorem KS{xs:Array Keyed}(hj:j<=xs.size){p:Keyed}(h:p∈(xs.extract i j).toList):∃t,i<=t/\t<j/\κ p=dZ κ xs t:=by
 rw[eW,dP]at h;obtain⟨t,h1,h2,h3,h4⟩:=vX h;exact⟨t,h1,(),vJ h4⟩
theorem p9{cQ:SortSt}{sa sb k n2:Nat}{ms:Array Keyed}{Q:Bool->SortSt->Prop}(hB:SB kd a₀ cQ)(harr:arrOf cQ=arrOf st)
 (hsb:sb=sa+na) (hle:sb+nb<=(arrOf st).size) (hsA:xW κ (arrOf st) sa (sa+na)) (hsB:xW κ (arrOf st) sb (sb+nb)) (hk:k<na) (hn2:n2<=nb) (hn0:0<n2)
 (hg1:∀i,i<k->dZ κ (arrOf st) (sa+i)<=dZ κ (arrOf st) sb) (hg2:∀i,n2<=i->i<nb->dZ κ (arrOf st) (sb-1)<=dZ κ (arrOf st) (sb+i))
 (hm:sX κ ((arrOf st).extract (sa+k) sb) ((arrOf st).extract sb (sb+n2)) ms)
 (h:∀fX,SB kd a₀ fX->pendingOf fX=pendingOf cQ->xW κ (arrOf fX) sa (sb+nb)->(∀j,j<sa\/sb+nb<=j->(arrOf fX)[j]?=(arrOf st)[j]?)->Q true fX):wpS M A E s (mgC (sa+k) ms) Q cQ:=by
 unfold mgC;have eQ:ms.toList.length=na-k+n2:=by
  rw[hm.1.length_eq,aI,bV,bV,oN,oN];lia
 have e1:ms.toList.Perm (((arrOf st).toList.drop (sa+k)).take ms.toList.length):=by
  refine hm.1.trans (List.Perm.of_eq ?_);rw[eQ,eW,eW,dP,dP,List.take_add,rZ,show sa+k+(na-k)=sb by lia,show sb-(sa+k)=na-k by lia,pP]
 have hfit:(sa+k)+ms.toList.length<=(arrOf st).size:=by lia
 refine aY (mO ?_);refine aY (DK ?_);have hB2:SB kd a₀ (setArr cQ (OB (sa+k) ms.toList.zipIdx (arrOf cQ))):=hB.setArr (by rw[harr];exact OO hfit e1);have hf:(failedOf (setArr cQ (OB (sa+k) ms.toList.zipIdx (arrOf cQ)))).isNone=true:=by rw[hB2.fail];rfl
 rw[hf];have hat:=DS (sa+k) ms.toList 0 (arrOf st) ();simp only[Nat.add_zero,eQ]at hat;have hmi:∀p,sa+k<=p->p<sb+n2->∃t,sa+k<=t/\t<sb+n2/\dZ κ (OB (sa+k) ms.toList.zipIdx (arrOf st)) p=dZ κ (arrOf st) t:=by
  intro p h1 h2;have e:=hat p;rw[aL ()]at e;have iY:p-(sa+k)<ms.toList.length:=by lia
  rw[aA iY]at e;have hin:ms.toList[p-(sa+k)]∈ms.toList:=cW _;rw[hm.1.mem_iff,bS]at hin;rw[yN e];rcases hin with hin |hin
  ·obtain⟨t,b1,b2,b3⟩:=KS (κ:=κ) () hin;exact⟨t,b1,(),b3⟩
  ·obtain⟨t,b1,b2,b3⟩:=KS (κ:=κ) () hin;exact⟨t,(),b2,b3⟩
 have hou:∀p,p<sa+k\/sb+n2<=p->(OB (sa+k) ms.toList.zipIdx (arrOf st))[p]?=(arrOf st)[p]?:=λp hp=>by rw[hat,aH ()]
 have hok:∀p,p<sa+k\/sb+n2<=p->dZ κ (OB (sa+k) ms.toList.zipIdx (arrOf st)) p=dZ κ (arrOf st) p:=λp hp=>qK (hou p hp)
 have hlo:∀p t,sa<=p->p<sa+k->p<=t->t<sb+nb->dZ κ (arrOf st) p<=dZ κ (arrOf st) t:=by
  intro p t h1 h2 h3 h4;by_cases ht:t<sb
  ·exact hsA p t h1 h3 ()
  ·have :=hg1 (p-sa) ();rw[show sa+(p-sa)=p by lia]at this;have :=hsB sb t () () h4;lia
 have hhi:∀t q,sa<=t->t<=q->sb+n2<=q->q<sb+nb->dZ κ (arrOf st) t<=dZ κ (arrOf st) q:=by
  intro t q h1 h2 h3 h4;by_cases ht:t<sb
  ·have :=hsA t (sb-1) h1 () ();have :=hg2 (q-sb) () ();rw[show sb+(q-sb)=q by lia]at this;lia
  ·exact hsB t q () h2 h4
 refine bJ (h _ hB2 rfl ?_ ?_)
 ·show xW κ (OB (sa+k) ms.toList.zipIdx (arrOf cQ)) sa (sb+nb);rw[harr];intro p q h1 h2 h3;by_cases hp:p<sa+k
  ·rw[hok p (.inl hp)];by_cases hq:sa+k<=q/\q<sb+n2
   ·obtain⟨t,b1,b2,b3⟩:=hmi q hq.1 hq.2;rw[b3];exact hlo p t h1 hp () ()
   ·rw[hok q ()];exact hlo p q h1 hp h2 h3
  ·by_cases hq:sb+n2<=q
   ·rw[hok q (.inr hq)];by_cases lX:sb+n2<=p
    ·rw[hok p (.inr lX)];exact hhi p q h1 h2 hq h3
    ·obtain⟨t,b1,b2,b3⟩:=hmi p () ();rw[b3];exact hhi t q () () hq h3
   ·have ep:=hat p;have eq:=hat q;rw[aL (),aA ()]at ep eq;rw[yN ep,yN eq];by_cases hpq:p=q
    ·subst hpq;exact iC _
    ·exact(dM.mp hm.2) _ _ _ _ ()
 ·intro j hj;show(OB (sa+k) ms.toList.zipIdx (arrOf cQ))[j]?=_;rw[harr];exact hou j ()
theorem FK{sa pw sb w:Nat}{Q:Bool->SortSt->Prop}(C:lD M A E s kd S κ)(h0:∀p,p∈a₀.toList->S p)(hB:SB kd a₀ st)
 (h1:(pendingOf st)[i]?=some (sa,na,pw)) (h2:(pendingOf st)[i+1]?=some (sb,nb,w)) (hna:1<=na) (hnb:1<=nb)
 (hsb:sb=sa+na) (hle:sb+nb<=a₀.size) (hsA:xW κ (arrOf st) sa (sa+na)) (hsB:xW κ (arrOf st) sb (sb+nb))
 (h:∀cQ,SB kd a₀ cQ->pendingOf cQ=((pendingOf st).setIfInBounds i (sa,na+nb,pw)).eraseIdxIfInBounds (i+1)->xW κ (arrOf cQ) sa (sb+nb)->(∀j,j<sa\/sb+nb<=j->(arrOf cQ)[j]?=(arrOf st)[j]?)->Q true cQ):
 wpS M A E s (mergeAt' i) Q st:=by
 have hsz:=hB.size;rw[BV];refine aY (DK ?_);rw[h1,h2];dsimp only;unfold mgA;refine aY (bq ?_);have hB1:SB kd a₀ (setPending st (((pendingOf st).setIfInBounds i (sa,na+nb,pw)).eraseIdxIfInBounds (i+1))):=⟨hB.perm,hB.kind,hB.fail⟩
 obtain⟨y,ey,hy⟩:=xY (arr:=arrOf st) (i:=sb) ();have ky:=yN (κ:=κ) ey;refine aY (yJ ey ?_);refine aY (VE C hB1.kind (hB.mem h0) (hB.mem h0 y hy) () hsA () λk g1 g2 g3=>?_);dsimp only;unfold mgB;by_cases hk:na-k=0
 ·rw[aL (by simpa using hk)];refine bJ (h _ hB1 rfl ?_ λj _=>rfl);intro p q b1 b2 b3;show dZ κ (arrOf st) p<=dZ κ (arrOf st) q;by_cases hq:q<sb
  ·exact hsA p q b1 b2 ()
  ·by_cases hp:p<sb
   ·have :=g2 (p-sa) ();rw[show sa+(p-sa)=p by lia]at this;have :=hsB sb q () () b3;lia
   ·exact hsB p q () b2 b3
 ·rw[aH (by simpa using hk)];obtain⟨x,ex,hx⟩:=xY (arr:=arrOf st) (i:=sa+k+(na-k)-1) ();have kx:=yN (κ:=κ) ex;have ee:sa+k+(na-k)-1=sb-1:=by lia
  refine aY (yJ ex ?_);refine aY (VF C hB1.kind (hB.mem h0) (hB.mem h0 x hx) () hsB () λn2 g4 g5 g6=>?_);dsimp only;rw[←kx,ee]at g5 g6;rw[←ky]at g2 g3;by_cases hn:n2=0
  ·rw[aL (by simpa using hn)];refine bJ (h _ hB1 rfl ?_ λj _=>rfl);intro p q b1 b2 b3;show dZ κ (arrOf st) p<=dZ κ (arrOf st) q;by_cases hq:q<sb
   ·exact hsA p q b1 b2 ()
   ·by_cases hp:p<sb
    ·have :=hsA p (sb-1) b1 () ();have :=g6 (q-sb) () ();rw[show sb+(q-sb)=q by lia]at this;lia
    ·exact hsB p q () b2 b3
  ·rw[aH (by simpa using hn)];have hzA:((arrOf st).extract (sa+k) sb).size=na-k:=by rw[oN];lia
   have hzB:((arrOf st).extract sb (sb+n2)).size=n2:=by rw[oN];lia
   have H:pJ S κ ((arrOf st).extract (sa+k) sb) ((arrOf st).extract sb (sb+n2)):=by
    refine⟨?_,?_,λp hp=>hB.mem h0 p (KQ hp),λp hp=>hB.mem h0 p (KQ hp),(),(),?_,?_⟩
    ·intro p q b1 b2 b3;rw[hzA]at b3;rw[ZS (),ZS ()];exact hsA _ _ () () ()
    ·intro p q b1 b2 b3;rw[hzB]at b3;rw[ZS (),ZS ()];exact hsB _ _ () () ()
    ·intro j hj;rw[hzA]at hj;rw[ZS (),ZS ()];have :=g3 (k+j) () ();rw[show sa+(k+j)=sa+k+j by lia]at this;simpa using this
    ·intro j hj;rw[hzB]at hj;rw[hzA,ZS (),ZS (),show sa+k+(na-k-1)=sb-1 by lia];exact g5 j hj
   have fin:∀out cQ,iL (setPending st (((pendingOf st).setIfInBounds i (sa,na+nb,pw)).eraseIdxIfInBounds (i+1))) cQ->sX κ ((arrOf st).extract (sa+k) sb) ((arrOf st).extract sb (sb+n2)) out->wpS M A E s (mgC (sa+k) out) Q cQ:=by
    intro out cQ hs hm;refine p9 (st:=st) (na:=na) (nb:=nb) ⟨by rw[hs.arr];exact hB.perm,by rw[hs.kind];exact hB.kind,by rw[hs.fail];exact hB.fail⟩ hs.arr hsb () hsA hsB () g4 () g2 g6 hm λfX b1 b2 b3 b4=>h fX b1 (b2.trans hs.pend) b3 b4
   split
   ·exact aY (FI C H hB1.kind λout cQ a1 a2=>fin out cQ a1 a2)
   ·exact aY (FJ C H hB1.kind λout cQ a1 a2=>fin out cQ a1 a2)
def NiB(κ:Keyed->Int)(xs:Array Keyed)(i j:Nat):Prop:=∀p q,i<=p->p<=q->q<j->dZ κ xs q<=dZ κ xs p
abbrev AsT:=Option (Option Nat)×Nat
abbrev DsT:=Option (Option Nat)×Nat×Nat
def i9(lo a fF:Nat):SM AsT:=forIn [a:fF] ((none,a):AsT) λ_ c=>ltAt' (lo+c.2) (lo+c.2-1) >>= λo=>match o with
 |some b=>if b=true then pure (ForInStep.done (none,c.2))else pure (ForInStep.yield (none,c.2+1))
 |_=>pure (ForInStep.done (some none,c.2))
def tQ(lo n fF:Nat):SM (Option Nat):=reverseSlice' lo (lo+n) >>= λ_=>i9 lo n fF >>= λc=>match c.1 with
 |some r=>pure r
 |none=>pure (some c.2)
def rq(lo n fF:Nat):SM DsT:=forIn [n:fF] ((none,n,0):DsT) λ_ c=>ltAt' (lo+c.2.1) (lo+c.2.1-1) >>= λo=>match o with
 |some b=>if b=true then(if c.2.2>0 then reverseSlice' (lo+c.2.1-(c.2.2+1)) (lo+c.2.1) >>= λ_=>pure (ForInStep.yield (none,c.2.1+1,0))else pure (ForInStep.yield (none,c.2.1+1,0)))
  else ltAt' (lo+c.2.1-1) (lo+c.2.1) >>= λo=>match o with
   |some b=>if b=true then pure (ForInStep.done (none,c.2.1,c.2.2))else pure (ForInStep.yield (none,c.2.1+1,c.2.2+1))
   |_=>pure (ForInStep.done (some none,c.2.1,c.2.2))
 |_=>pure (ForInStep.done (some none,c.2.1,c.2.2))
def NI(lo n fF:Nat):SM (Option Nat):=liftM (rule "list.sort.descending-run") >>= λ_=>rq lo (n+1) fF >>= λc=>match c.1 with
 |some r=>pure r
 |none=>if c.2.2>0 then reverseSlice' (lo+c.2.1-(c.2.2+1)) (lo+c.2.1) >>= λ_=>tQ lo c.2.1 fF else tQ lo c.2.1 fF
theorem NN(lo fF:Nat):countRun' lo fF=(i9 lo 1 fF >>= λc=>match c.1 with
 |some r=>pure r
 |none=>if(c.2==fF)=true then pure (some c.2)else if c.2>1 then(ltAt' lo (lo+c.2-1) >>= λo=>match o with
  |some b=>if b=true then pure (some c.2)else reverseSlice' lo (lo+c.2) >>= λ_=>NI lo c.2 fF
  |_=>pure none)else NI lo c.2 fF):=by
 rw[countRun'_eq];show(_ >>= _:SM _)=_
 congr 1;funext c
 obtain⟨r,n⟩:=c;cases r with
 |some r=>rfl
 |none=>
  dsimp only;split
  ·rfl
  ·split
   ·congr 1;funext x
    cases x with
    |none=>rfl
    |some rose=>
     dsimp only;split
     ·rfl
     ·congr 1;funext _
      unfold NI
      congr 1;funext _
      show(_ >>= _:SM _)=_
      congr 1;funext c
      obtain⟨r,m,q⟩:=c;cases r with
      |some r=>rfl
      |none=>
       dsimp only;split
       ·congr 1;funext _
        unfold tQ
        congr 1;funext _
        show(_ >>= _:SM _)=_
        congr 1;funext c
        obtain⟨r,m⟩:=c;cases r<;>rfl
       ·unfold tQ
        congr 1;funext _
        show(_ >>= _:SM _)=_
        congr 1;funext c
        obtain⟨r,m⟩:=c;cases r<;>rfl
   ·unfold NI
    congr 1;funext _
    show(_ >>= _:SM _)=_
    congr 1;funext c
    obtain⟨r,m,q⟩:=c;cases r with
    |some r=>rfl
    |none=>
     dsimp only;split
     ·congr 1;funext _
      unfold tQ
      congr 1;funext _
      show(_ >>= _:SM _)=_
      congr 1;funext c
      obtain⟨r,m⟩:=c;cases r<;>rfl
     ·unfold tQ
      congr 1;funext _
      show(_ >>= _:SM _)=_
      congr 1;funext c
      obtain⟨r,m⟩:=c;cases r<;>rfl
structure rO(kd:SortKind)(a₀:Array Keyed)(lo:Nat)(st0 st:SortSt):Prop where
 sb:SB kd a₀ st
 pend:pendingOf st=pendingOf st0
 out:∀j,j<lo->(arrOf st)[j]?=(arrOf st0)[j]?
theorem UZ{xs:Array Keyed}(hj:j<=xs.size)(k:Nat):dZ κ (mirror xs i j ((j-i)/2)) k=if i<=k/\k<j then dZ κ xs (i+j-1-k)else dZ κ xs k:=by
 have e:=getElem?_mirror_all (i:=i) hj k;by_cases h1:i<=k/\k<j
 ·rw[aL h1]at e⊢;exact qK e
 ·rw[aH h1]at e⊢;exact qK e
theorem vI{xs:Array Keyed}(hj:j<=xs.size)(heq:∀k,i<=k->k<j->dZ κ xs k=dZ κ xs (j-1))(k:Nat):dZ κ (mirror xs i j ((j-i)/2)) k=dZ κ xs k:=by
 rw[UZ hj];split
 ·rw[heq _ () (),heq k () ()]
 ·rfl
theorem KB{xs:Array Keyed}{src d:Nat}(hs:src<xs.size)(hd:d<=src)(k:Nat):dZ κ (bubble xs src d) k=if k=src-d then dZ κ xs src else if src-d<k/\k<=src then dZ κ xs (k-1)else dZ κ xs k:=by
 have e:=getElem?_bubble hs d hd k;by_cases h1:k=src-d
 ·rw[aL h1]at e⊢;exact qK e
 ·rw[aH h1]at e⊢;by_cases h2:src-d<k/\k<=src
  ·rw[aL h2]at e⊢;exact qK e
  ·rw[aH h2]at e⊢;exact qK e
section
variable {lo:Nat}
theorem rO.mir(h:rO kd a₀ lo st0 st){d:Nat}(hi:lo<=i)(hj:j<=(arrOf st).size)(hd:d=(j-i)/2):rO kd a₀ lo st0 (setArr st (mirror (arrOf st) i j d)):=by
 subst hd;refine⟨h.sb.setArr (iW.mp (mirror_perm _ _ _ _)),h.pend,λk hk=>?_⟩;show(mirror (arrOf st) i j _)[k]?=_;rw[getElem?_mirror_all hj,aH ()];exact h.out k hk
theorem rO.bub(h:rO kd a₀ lo st0 st){src d:Nat}(hs:src<(arrOf st).size)(hd:lo+d<=src):rO kd a₀ lo st0 (setArr st (bubble (arrOf st) src d)):=by
 refine⟨h.sb.setArr (iW.mp (bubble_perm _ _ _)),h.pend,λk hk=>?_⟩;show(bubble (arrOf st) src d)[k]?=_;rw[getElem?_bubble hs d (),aH (),aH ()];exact h.out k hk
theorem kH{Q:Option Bool->SortSt->Prop}(C:lD M A E s kd S κ)(h0:∀p,p∈a₀.toList->S p)(hB:SB kd a₀ st)(hi:i<a₀.size)(hj:j<a₀.size)
 (h:Q (some (decide (dZ κ (arrOf st) i<dZ κ (arrOf st) j))) st):wpS M A E s (ltAt' i j) Q st:=by
 have hz:=hB.size;obtain⟨x,ex,hx⟩:=xY (arr:=arrOf st) (i:=i) ();obtain⟨y,ey,hy⟩:=xY (arr:=arrOf st) (i:=j) ();rw[ltAt'_eq];refine aY (DK ?_);show wpS _ _ _ _ (elem' (arrOf st) i >>= λx=>elem' (arrOf st) j >>= λy=>lt' x y) Q st;refine aY (yJ ex (aY (yJ ey (C.lt (hB.mem h0 x hx) (hB.mem h0 y hy) hB.kind ?_))));rw[←yN (κ:=κ) ex,←yN (κ:=κ) ey];exact h
theorem UM{Q:Unit->SortSt->Prop}(h:Q Unit.unit (setArr st (mirror (arrOf st) i j ((j-i)/2)))):wpS M A E s (reverseSlice' i j) Q st:=by
 rw[reverseSlice'_eq];exact mO h
theorem LH{a fF:Nat}{Q:AsT->SortSt->Prop}(C:lD M A E s kd S κ)(h0:∀p,p∈a₀.toList->S p)(hn:lo+fF<=a₀.size)(ha:1<=a)(han:a<=fF)(hB:SB kd a₀ st)
 (hs:xW κ (arrOf st) lo (lo+a))
 (h:∀n,a<=n->n<=fF->xW κ (arrOf st) lo (lo+n)->(n=fF\/dZ κ (arrOf st) (lo+n)<dZ κ (arrOf st) (lo+n-1))->Q (none,n) st):
 wpS M A E s (i9 lo a fF) Q st:=by
 unfold i9;refine eE (I:=λx c cQ=>cQ=st/\c=(none,x)/\xW κ (arrOf st) lo (lo+x)) ?step ?fin ⟨rfl,rfl,hs⟩
 case fin=>
  rintro c cQ ⟨rfl,rfl,fC⟩;rw[show max a fF=fF by lia]at fC⊢;exact h fF han (aG _) fC (.inl rfl)
 case step=>
  rintro x c cQ hax hxn ⟨rfl,rfl,fC⟩;dsimp only;refine aY (kH C h0 hB () () ?_);by_cases hl:dZ κ (arrOf cQ) (lo+x)<dZ κ (arrOf cQ) (lo+x-1)
  ·simp only[hl,decide_true,if_true];exact bJ (h x hax () fC (.inr hl))
  ·simp only[hl,decide_false,cA,dO];refine bJ ⟨rfl,rfl,λi j hi hij hj=>?_⟩;by_cases hjx:j<lo+x
   ·exact fC i j hi hij hjx
   ·have hj':j=lo+x:=by lia
    subst hj';by_cases hi':i=lo+x
    ·subst hi';exact iC _
    ·exact Int.le_trans (fC i (lo+x-1) hi () ()) (Int.not_lt.mp hl)
theorem HL{fF:Nat}{Q:Option Nat->SortSt->Prop}(C:lD M A E s kd S κ)(h0:∀p,p∈a₀.toList->S p)(hn:lo+fF<=a₀.size)(h1:1<=n)(hnn:n<=fF)(hB:rO kd a₀ lo st0 st)
 (hs:NiB κ (arrOf st) lo (lo+n)) (h:∀m cQ,rO kd a₀ lo st0 cQ->1<=m->m<=fF->xW κ (arrOf cQ) lo (lo+m)->Q (some m) cQ):
 wpS M A E s (tQ lo n fF) Q st:=by
 unfold tQ;have hsz:lo+n<=(arrOf st).size:=by rw[hB.sb.size];lia
 refine aY (UM ?_);have hB':=hB.mir (i:=lo) (j:=lo+n) (aG _) hsz rfl;refine aY (LH C h0 hn h1 hnn hB'.sb ?_ λm hm1 hm2 hsm _=>bJ (h m _ hB' () hm2 hsm));intro i j hi hij hj;show dZ κ (mirror (arrOf st) lo (lo+n) _) i<=dZ κ (mirror (arrOf st) lo (lo+n) _) j;rw[UZ hsz,UZ hsz,aL (),aL ()];exact hs _ _ () () ()
theorem iu{fF:Nat}{Q:DsT->SortSt->Prop}(C:lD M A E s kd S κ)(h0:∀p,p∈a₀.toList->S p)(hn:lo+fF<=a₀.size)(h1:1<=n)(hnn:n<=fF)(hB:rO kd a₀ lo st0 st)
 (hs:NiB κ (arrOf st) lo (lo+n))
 (h:∀m q cQ,rO kd a₀ lo st0 cQ->n<=m->m<=fF->NiB κ (arrOf cQ) lo (lo+m)->q+1<=m->(∀i,lo+m-(q+1)<=i->i<lo+m->dZ κ (arrOf cQ) i=dZ κ (arrOf cQ) (lo+m-1))->Q (none,m,q) cQ):
 wpS M A E s (rq lo n fF) Q st:=by
 unfold rq;refine eE (I:=λx c cQ=>∃q,c=(none,x,q)/\rO kd a₀ lo st0 cQ/\NiB κ (arrOf cQ) lo (lo+x)/\q+1<=x/\
  (∀i,lo+x-(q+1)<=i->i<lo+x->dZ κ (arrOf cQ) i=dZ κ (arrOf cQ) (lo+x-1))) ?step ?fin ⟨0,rfl,hB,hs,(),λi h1 h2=>by congr 1;lia⟩
 case fin=>
  rintro c cQ ⟨q,rfl,hB',fC,hq,he⟩;rw[show max n fF=fF by lia]at fC hq he⊢;exact h fF q cQ hB' hnn (aG _) fC hq he
 case step=>
  rintro x c cQ hax hxn ⟨q,rfl,hB',fC,hq,he⟩;dsimp only;have hsz:lo+x<=(arrOf cQ).size:=by rw[hB'.sb.size];lia
  refine aY (kH C h0 hB'.sb () () ?_);by_cases hl:dZ κ (arrOf cQ) (lo+x)<dZ κ (arrOf cQ) (lo+x-1)
  ·simp only[hl,decide_true,if_true];have step1:∀xs:Array Keyed,(∀k,dZ κ xs k=dZ κ (arrOf cQ) k)->NiB κ xs lo (lo+(x+1)):=by
    intro xs hk i j hi hij hj;rw[hk,hk];by_cases hjx:j<lo+x
    ·exact fC i j hi hij hjx
    ·have hj':j=lo+x:=by lia
     subst hj';by_cases hi':i=lo+x
     ·subst hi';exact iC _
     ·exact Int.le_trans (pX hl) (fC i (lo+x-1) hi () ())
   by_cases hz:q>0
   ·rw[aL hz];refine aY (UM (bJ ⟨0,rfl,hB'.mir () hsz rfl,step1 _ (vI hsz he),(),λi h1 h2=>by congr 1;lia⟩))
   ·rw[aH hz];exact bJ ⟨0,rfl,hB',step1 _ (λ_=>rfl),(),λi h1 h2=>by congr 1;lia⟩
  ·simp only[hl,decide_false,cA,dO];refine aY (kH C h0 hB'.sb () () ?_);by_cases hg:dZ κ (arrOf cQ) (lo+x-1)<dZ κ (arrOf cQ) (lo+x)
   ·simp only[hg,decide_true,if_true];exact bJ (h x q cQ hB' hax () fC hq he)
   ·simp only[hg,decide_false,cA,dO];have hx:dZ κ (arrOf cQ) (lo+x)=dZ κ (arrOf cQ) (lo+x-1):=by lia
    refine bJ ⟨q+1,rfl,hB',λi j hi hij hj=>?_,(),λi h1 h2=>?_⟩
    ·by_cases hjx:j<lo+x
     ·exact fC i j hi hij hjx
     ·have hj':j=lo+x:=by lia
      subst hj';by_cases hi':i=lo+x
      ·subst hi';exact iC _
      ·rw[hx];exact fC i (lo+x-1) hi () ()
    ·rw[show lo+(x+1)-1=lo+x by lia];by_cases hix:i=lo+x
     ·subst hix;rfl
     ·rw[hx];exact he i () ()
theorem KZ{fF:Nat}{Q:Option Nat->SortSt->Prop}(C:lD M A E s kd S κ)(h0:∀p,p∈a₀.toList->S p)(hn:lo+fF<=a₀.size)(hnn:n+1<=fF)(hB:rO kd a₀ lo st0 st)
 (hs:NiB κ (arrOf st) lo (lo+(n+1))) (h:∀m cQ,rO kd a₀ lo st0 cQ->1<=m->m<=fF->xW κ (arrOf cQ) lo (lo+m)->Q (some m) cQ):
 wpS M A E s (NI lo n fF) Q st:=by
 unfold NI;refine aY (lq (iP ⟨rfl,?_⟩));refine aY (iu C h0 hn () hnn hB hs λm q cQ hB' hm1 hm2 fC hq he=>?_);dsimp only;have hsz:lo+m<=(arrOf cQ).size:=by rw[hB'.sb.size];lia
 by_cases hz:q>0
 ·rw[aL hz];refine aY (UM (HL C h0 hn () hm2 (hB'.mir () hsz rfl) ?_ h));intro i j hi hij hj;show dZ κ (mirror (arrOf cQ) _ _ _) j<=dZ κ (mirror (arrOf cQ) _ _ _) i;rw[vI hsz he,vI hsz he];exact fC i j hi hij hj
 ·rw[aH hz];exact HL C h0 hn () hm2 hB' fC h
theorem CL{fF:Nat}{Q:Option Nat->SortSt->Prop}(C:lD M A E s kd S κ)(h0:∀p,p∈a₀.toList->S p)(hn:lo+fF<=a₀.size)(h1:1<=fF)(hB:rO kd a₀ lo st0 st)
 (h:∀m cQ,rO kd a₀ lo st0 cQ->1<=m->m<=fF->xW κ (arrOf cQ) lo (lo+m)->Q (some m) cQ):
 wpS M A E s (countRun' lo fF) Q st:=by
 rw[NN];refine aY (LH C h0 hn (aG 1) h1 hB.sb (λi j hi hij hj=>by have :i=j:=();subst this;exact iC _) λn hn1 hn2 hsn hor=>?_);dsimp only;by_cases hnn:n=fF
 ·rw[aL (by simpa using hnn)];exact bJ (h n st hB hn1 hn2 hsn)
 ·rw[aH (by simpa using hnn)];have iY:=hor.resolve_left hnn;by_cases hgt:n>1
  ·rw[aL hgt];refine aY (kH C h0 hB.sb () () ?_);by_cases hr:dZ κ (arrOf st) lo<dZ κ (arrOf st) (lo+n-1)
   ·simp only[hr,decide_true,if_true];exact bJ (h n st hB hn1 hn2 hsn)
   ·simp only[hr,decide_false,cA,dO];have hsz:lo+n<=(arrOf st).size:=by rw[hB.sb.size];lia
    have hall:∀k,lo<=k->k<lo+n->dZ κ (arrOf st) k=dZ κ (arrOf st) (lo+n-1):=by
     intro k hk0 hk;have a1:=hsn lo k () hk0 hk;have a2:=hsn k (lo+n-1) hk0 () ();lia
    refine aY (UM (KZ C h0 hn () (hB.mir (aG _) hsz rfl) ?_ h));intro i j hi hij hj;show dZ κ (mirror (arrOf st) _ _ _) j<=dZ κ (mirror (arrOf st) _ _ _) i;rw[vI hsz hall,vI hsz hall];by_cases hjn:j<lo+n
    ·rw[hall i () (),hall j () hjn];exact iC _
    ·have hj':j=lo+n:=by lia
     subst hj';by_cases hi':i=lo+n
     ·subst hi';exact iC _
     ·rw[hall i () ()];exact pX iY
  ·rw[aH hgt];have hn1':n=1:=by lia
   subst hn1';refine KZ C h0 hn () hB ?_ h;intro i j hi hij hj;by_cases hi':i=j
   ·subst hi';exact iC _
   ·have hi0:i=lo:=by lia
    have hj1:j=lo+1:=by lia
    subst hi0;subst hj1;rw[Nat.add_sub_cancel]at iY;exact pX iY
theorem GK{ok:Nat}{Q:Bool->SortSt->Prop}(C:lD M A E s kd S κ)(h0:∀p,p∈a₀.toList->S p)(hn:lo+n<=a₀.size)(hok:ok<=n)(hB:rO kd a₀ lo st0 st)(hs:xW κ (arrOf st) lo (lo+ok))
 (h:∀cQ,rO kd a₀ lo st0 cQ->xW κ (arrOf cQ) lo (lo+n)->Q true cQ):wpS M A E s (binarySort' lo n ok) Q st:=by
 rw[binarySort'_eq];refine aY (fP (eE (I:=λk c cQ=>c=(none,Unit.unit)/\rO kd a₀ lo st0 cQ/\xW κ (arrOf cQ) lo (lo+min k n))
  (Q:=λc cQ=>c=(none,Unit.unit)/\rO kd a₀ lo st0 cQ/\xW κ (arrOf cQ) lo (lo+n)) ?step ?fin ?init) ?post)
 case post=>
  rintro c cQ ⟨rfl,hB',fC⟩;exact bJ (h cQ hB' fC)
 case init=>
  refine⟨rfl,hB,λi j hi hij hj=>?_⟩;by_cases h1:ok=0
  ·have :i=j:=by lia
   subst this;exact iC _
  ·exact hs i j hi hij ()
 case fin=>
  rintro c cQ ⟨hc,hB',fC⟩;refine⟨hc,hB',?_⟩;rwa[show min (max (max ok 1) n) n=n by lia]at fC
 case step=>
  rintro k c cQ hak hkn ⟨rfl,hB',fC⟩;rw[show min k n=k by lia]at fC;have hk:lo+k<a₀.size:=by lia
  refine aY (fP (eE (I:=λx c fX=>fX=cQ/\∃l r,c=(none,l,r)/\l<=r/\r<=k/\r-l<=k-x/\
   (∀i,i<l->dZ κ (arrOf cQ) (lo+i)<=dZ κ (arrOf cQ) (lo+k))/\(∀i,r<=i->i<k->dZ κ (arrOf cQ) (lo+k)<dZ κ (arrOf cQ) (lo+i)))
   (Q:=λc fX=>fX=cQ/\∃l r,c=(none,l,r)/\l<=k/\
    (∀i,i<l->dZ κ (arrOf cQ) (lo+i)<=dZ κ (arrOf cQ) (lo+k))/\(∀i,l<=i->i<k->dZ κ (arrOf cQ) (lo+k)<dZ κ (arrOf cQ) (lo+i))) ?istep ?ifin ?iinit) ?ipost)
  case iinit=>exact⟨rfl,0,k,rfl,(),(),(),λi hi=>(),λi h1 h2=>()⟩
  case ifin=>
   rintro c fX ⟨rfl,l,r,rfl,hlr,hrk,hm,hlo,hhi⟩;have :l=r:=by lia
   subst this;exact⟨rfl,l,l,rfl,hrk,hlo,hhi⟩
  case istep=>
   rintro x c fX _ hxk ⟨rfl,l,r,rfl,hlr,hrk,hm,hlo,hhi⟩;dsimp only;by_cases hge:l≥r
   ·rw[aL hge];have :l=r:=by lia
    subst this;exact bJ ⟨rfl,l,l,rfl,hrk,hlo,hhi⟩
   ·rw[aH hge];refine aY (kH C h0 hB'.sb hk () ?_);by_cases hl:dZ κ (arrOf fX) (lo+k)<dZ κ (arrOf fX) (lo+(l+r)/2)
    ·simp only[hl,decide_true,if_true];refine bJ ⟨rfl,l,(l+r)/2,rfl,(),(),(),hlo,λi h1 h2=>?_⟩;exact Int.lt_of_lt_of_le hl (fC _ _ () () ())
    ·simp only[hl,decide_false,cA,dO];refine bJ ⟨rfl,(l+r)/2+1,r,rfl,(),(),(),λi h1=>?_,hhi⟩;exact Int.le_trans (fC (lo+i) (lo+(l+r)/2) () () ()) (Int.not_lt.mp hl)
  case ipost=>
   rintro c fX ⟨rfl,l,r,rfl,hlk,hlo,hhi⟩;show wpS _ _ _ _ (moveDown' (lo+k) (lo+l) >>= λ_=>pure (ForInStep.yield (none,Unit.unit))) _ _;rw[moveDown'_eq];have hks:lo+k<(arrOf fX).size:=by rw[hB'.sb.size];exact hk
   refine aY (mO (bJ ⟨rfl,hB'.bub hks (),?_⟩));rw[show min (k+1) n=k+1 by lia];intro i j hi hij hj;show dZ κ (bubble (arrOf fX) (lo+k) (lo+k-(lo+l))) i<=dZ κ (bubble (arrOf fX) (lo+k) (lo+k-(lo+l))) j;have hlo':∀i,lo<=i->i<lo+l->dZ κ (arrOf fX) i<=dZ κ (arrOf fX) (lo+k):=λi h1 h2=>by
    have :=hlo (i-lo) ();rwa[show lo+(i-lo)=i by lia]at this
   have hhi':∀i,lo+l<=i->i<lo+k->dZ κ (arrOf fX) (lo+k)<=dZ κ (arrOf fX) i:=λi h1 h2=>by
    have :=hhi (i-lo) () ();rw[show lo+(i-lo)=i by lia]at this;exact pX this
   rw[KB hks (),KB hks (),show lo+k-(lo+k-(lo+l))=lo+l by lia]
   repeat' split
   all_goals first
    |(exfalso;lia)
    |exact iC _
    |exact hlo' _ () ()
    |exact hhi' _ () ()
    |exact fC _ _ () () ()
end
abbrev JI:=Nat×Nat×Nat
def nN(κ:Keyed->Int)(xs:Array Keyed):Nat->List JI->Nat->Prop
 |s,[],e=>s=e
 |s,x::l,e=>x.1=s/\1<=x.2.1/\xW κ xs s (s+x.2.1)/\nN κ xs (s+x.2.1) l e
section
variable {xs ys:Array Keyed}
theorem nN.le:∀{l:List JI}{s e:Nat},nN κ xs s l e->s+l.length<=e
 |[],s,e,h=>by have h:s=e:=h;simp[h]
 |x::l,s,e,⟨h1,h2,h3,h4⟩=>by
  have :=nN.le h4;simp only[bF];lia
theorem nN.app:∀{l1 l2:List JI}{s e:Nat},nN κ xs s (l1++l2) e->∃m,nN κ xs s l1 m/\nN κ xs m l2 e
 |[],l2,s,e,h=>⟨s,rfl,h⟩
 |x::l1,l2,s,e,⟨h1,h2,h3,h4⟩=>by
  obtain⟨m,a1,a2⟩:=nN.app h4;exact⟨m,⟨h1,h2,h3,a1⟩,a2⟩
theorem nN.join:∀{l1 l2:List JI}{s m e:Nat},nN κ xs s l1 m->nN κ xs m l2 e->nN κ xs s (l1++l2) e
 |[],l2,s,m,e,h,h'=>by have h:s=m:=h;subst h;exact h'
 |x::l1,l2,s,m,e,⟨h1,h2,h3,h4⟩,h'=>⟨h1,h2,h3,nN.join h4 h'⟩
theorem nN.cg:∀{l:List JI}{s e:Nat},nN κ xs s l e->(∀j,s<=j->j<e->ys[j]?=xs[j]?)->nN κ ys s l e
 |[],s,e,h,_=>h
 |x::l,s,e,⟨h1,h2,h3,h4⟩,hc=>by
  have hle:=nN.le h4;refine⟨h1,h2,λp q a1 a2 a3=>?_,nN.cg h4 λj a b=>hc j () b⟩;rw[qK (hc p () ()),qK (hc q () ())];exact h3 p q a1 a2 a3
theorem nN.mod:∀{l:List JI}{s e:Nat}(i:Nat)(f:JI->JI),(∀x,(f x).1=x.1/\(f x).2.1=x.2.1)->nN κ xs s l e->nN κ xs s (l.modify i f) e
 |[],s,e,i,f,_,h=>by simpa using h
 |x::l,s,e,0,f,hf,⟨h1,h2,h3,h4⟩=>by
  show nN κ xs s (f x::l) e;obtain⟨a,b⟩:=hf x;refine⟨a.trans h1,?_,?_,?_⟩<;>rw[b]<;>assumption
 |x::l,s,e,i+1,f,hf,⟨h1,h2,h3,h4⟩=>by
  show nN κ xs s (x::l.modify i f) e;exact⟨h1,h2,h3,nN.mod i f hf h4⟩
theorem l_two{l:List JI}(h:i+1<l.length):∃l1 a b l2,l=l1++a::b::l2/\l1.length=i/\l[i]?=some a/\l[i+1]?=some b:=by
 refine⟨l.take i,l[i],l[i+1],l.drop (i+2),?_,by rw[bU];lia,aA _,aA _⟩;have e1:l.drop i=l[i]::l.drop (i+1):=gG ();have e2:l.drop (i+1)=l[i+1]::l.drop (i+2):=gG ();rw[←e2,←e1,eJ]
theorem gy(l1 l2:List JI)(a b x:JI):((l1++a::b::l2).set l1.length x).eraseIdx (l1.length+1)=l1++x::l2:=by
 rw[List.set_append_right _ _ (aG _),fJ,List.set_cons_zero,List.eraseIdx_append_of_length_le (),pP];rfl
end
theorem QI{e:Nat}{Q:Bool->SortSt->Prop}(C:lD M A E s kd S κ)(h0:∀p,p∈a₀.toList->S p)(hB:SB kd a₀ st)(hc:nN κ (arrOf st) 0 (pendingOf st).toList e)(he:e<=a₀.size)(hi:i+1<(pendingOf st).size)
 (h:∀cQ,SB kd a₀ cQ->nN κ (arrOf cQ) 0 (pendingOf cQ).toList e->(pendingOf cQ).size+1=(pendingOf st).size->(∀j,e<=j->(arrOf cQ)[j]?=(arrOf st)[j]?)->Q true cQ):wpS M A E s (mergeAt' i) Q st:=by
 obtain⟨l1,⟨sa,na,pw⟩,⟨sb,nb,w⟩,l2,e1,e2,e3,e4⟩:=l_two (l:=(pendingOf st).toList) (by simpa using hi);have hc':=hc;rw[e1]at hc';obtain⟨m,c1,c2,c3,c4,c5,c6,c7,c8⟩:=hc'.app;dsimp only at c2 c3 c4 c5 c6 c7 c8;have hl:=c8.le;have hm:=c1.le;subst c2;refine FK C h0 hB (by rw[←dA];exact e3) (by rw[←dA];exact e4) c3 c6 c5 () c4 (by rw[c5];exact c7) λcQ b1 b2 b3 b4=>?_
 have hp:(pendingOf cQ).toList=l1++(sa,na+nb,pw)::l2:=by
  rw[b2];have :(((pendingOf st).setIfInBounds i (sa,na+nb,pw)).eraseIdxIfInBounds (i+1)).toList=((pendingOf st).toList.set i (sa,na+nb,pw)).eraseIdx (i+1):=by simp
  rw[this,e1,←e2,gy]
 refine h cQ b1 ?_ ?_ λj hj=>b4 j ()
 ·rw[hp];refine(c1.cg λj _ hj=>b4 j (.inl hj)).join ⟨rfl,by dsimp only;lia,?_,?_⟩
  ·dsimp only;rw[←Nat.add_assoc,←c5];exact b3
  ·dsimp only;rw[←Nat.add_assoc];exact c8.cg λj hj _=>b4 j (.inr ())
 ·rw[←bV,←bV,hp,e1];simp only[aI,bF];lia
theorem WF{β:Type}{lo mr size:Nat}{dn X Y:SM β}{Q:β->SortSt->Prop}(C:lD M A E s kd S κ)(h0:∀p,p∈a₀.toList->S p)(hsz:size=a₀.size)(hB:rO kd a₀ lo st0 st)(h1:1<=n)(hn:lo+n<=size)(hs:xW κ (arrOf st) lo (lo+n))
 (hX:∀n',n'=min (size-lo) mr->∀cQ,rO kd a₀ lo st0 cQ->1<=n'->lo+n'<=size->xW κ (arrOf cQ) lo (lo+n')->wpS M A E s X Q cQ)
 (hY:∀n',n'=n->∀cQ,rO kd a₀ lo st0 cQ->1<=n'->lo+n'<=size->xW κ (arrOf cQ) lo (lo+n')->wpS M A E s Y Q cQ):
 wpS M A E s (if n<mr then(liftM (rule "list.sort.binary-insertion") >>= λ_=>binarySort' lo (min (size-lo) mr) n >>= λb=>if(!b)=true then dn else X)else Y) Q st:=by
 by_cases iY:n<mr
 ·rw[aL iY];refine aY (lq (iP ⟨rfl,?_⟩));refine aY (GK C h0 () () hB hs λcQ b1 b2=>?_);simp only[bL,cA,dO];exact hX _ rfl cQ b1 () () b2
 ·rw[aH iY];exact hY n rfl st hB h1 hn hs
theorem tW{Q:Unit->SortSt->Prop}(C:lD M A E s kd S κ)(h0:∀p,p∈a₀.toList->S p)(hB:SB kd a₀ st)(hp:pendingOf st= #[])
 (h:∀cQ,SB kd a₀ cQ->xW κ (arrOf cQ) 0 a₀.size->Q Unit.unit cQ):wpS M A E s sortRuns' Q st:=by
 rw[sortRuns'_eq];refine aY (DK ?_);dsimp only;simp only[hB.size];generalize minRun' a₀.size a₀.size 0=mr;refine aY (fP (eE
  (I:=λx c cQ=>∃lo,c=(none,lo)/\x<=lo/\lo<=a₀.size/\SB kd a₀ cQ/\nN κ (arrOf cQ) 0 (pendingOf cQ).toList lo)
  (Q:=λc cQ=>c=(none,a₀.size)/\SB kd a₀ cQ/\nN κ (arrOf cQ) 0 (pendingOf cQ).toList a₀.size) ?step ?fin ⟨0,rfl,aG _,cG _,hB,by rw[hp];rfl⟩) ?post)
 case fin=>
  rintro c cQ ⟨lo,rfl,a1,a2,a3,a4⟩;have :lo=a₀.size:=by lia
  subst this;exact⟨rfl,a3,a4⟩
 case step=>
  rintro x c cQ _ hx ⟨lo,rfl,a1,a2,a3,a4⟩;dsimp only;by_cases hge:lo≥a₀.size
  ·rw[aL hge];have :lo=a₀.size:=by lia
   subst this;exact bJ ⟨rfl,a3,a4⟩
  ·rw[aH hge];refine aY (CL (st0:=cQ) C h0 () () ⟨a3,rfl,λ_ _=>rfl⟩ λm st2 hB2 hm1 hm2 hs2=>?_);dsimp only;refine WF C h0 rfl hB2 hm1 () hs2 (λn hn st3 hB3 hn1 hn2 hs3=>?_) (λn hn st3 hB3 hn1 hn2 hs3=>?_)
   all_goals
    rw[←hn];have hc3:nN κ (arrOf st3) 0 (pendingOf st3).toList lo:=by rw[hB3.pend];exact a4.cg λj _ hj=>hB3.out j hj
    have fin:∀(mT:SortSt),SB kd a₀ mT->nN κ (arrOf mT) 0 (pendingOf mT).toList lo->xW κ (arrOf mT) lo (lo+n)->
     ∃lo',(none,lo+n)=((none,lo'):Option Unit×Nat)/\x+1<=lo'/\lo'<=a₀.size/\SB kd a₀ (setPending mT ((pendingOf mT).push (lo,n,0)))/\nN κ (arrOf (setPending mT ((pendingOf mT).push (lo,n,0)))) 0 (pendingOf (setPending mT ((pendingOf mT).push (lo,n,0)))).toList lo':=by
     intro mT b1 b2 b3;refine⟨lo+n,rfl,(),hn2,⟨b1.perm,b1.kind,b1.fail⟩,?_⟩;show nN κ (arrOf mT) 0 ((pendingOf mT).push (lo,n,0)).toList (lo+n);rw[Array.toList_push];exact b2.join ⟨rfl,hn1,b3,rfl⟩
    refine aY (DK ?_);cases hb:(pendingOf st3).back? with
    |none=>
     dsimp only;exact aY (mO (bJ (fin st3 hB3.sb hc3 hs3)))
    |some r=>
     obtain⟨s1,n1,p1⟩:=r;dsimp only;generalize power' a₀.size (2*s1+n1) (2*s1+n1+n1+n) a₀.size=pw;refine aY (fP (eE
      (I:=λ_ c mT=>c=(none,Unit.unit)/\SB kd a₀ mT/\nN κ (arrOf mT) 0 (pendingOf mT).toList lo/\xW κ (arrOf mT) lo (lo+n))
      (Q:=λc mT=>c=(none,Unit.unit)/\SB kd a₀ mT/\nN κ (arrOf mT) 0 (pendingOf mT).toList lo/\xW κ (arrOf mT) lo (lo+n)) ?_ (λ_ _ hh=>hh) ⟨rfl,hB3.sb,hc3,hs3⟩) ?_)
     ·rintro y c mT _ _ ⟨rfl,b1,b2,b3⟩;refine aY (DK ?_)
      skip
      by_cases hz:(pendingOf mT).size>1
      ·rw[aL hz];rw[getElem?_pos (pendingOf mT) ((pendingOf mT).size-2) ()];generalize (pendingOf mT)[(pendingOf mT).size-2]=r;obtain⟨r1,r2,older⟩:=r;dsimp only;by_cases ho:older<=pw
       ·rw[aL ho];exact bJ ⟨rfl,b1,b2,b3⟩
       ·rw[aH ho];refine aY (QI C h0 b1 b2 a2 () λst5 d1 d2 d3 d4=>?_);simp only[bL,cA,dO];refine bJ ⟨rfl,d1,d2,λp q e1 e2 e3=>?_⟩;rw[qK (d4 p e1),qK (d4 q ())];exact b3 p q e1 e2 e3
      ·rw[aH hz];exact bJ ⟨rfl,b1,b2,b3⟩
     ·rintro c mT ⟨rfl,b1,b2,b3⟩;dsimp only;refine aY (mO ?_);refine aY (mO (bJ (fin (setPending mT _) ⟨b1.perm,b1.kind,b1.fail⟩ ?_ b3)));show nN κ (arrOf mT) 0 ((pendingOf mT).modify _ _).toList lo;rw[Array.toList_modify];exact b2.mod _ _ λ_=>⟨rfl,rfl⟩
 case post=>
  rintro c cQ ⟨rfl,hB',hc'⟩;dsimp only;have hl0:=hc'.le;rw[bV]at hl0;refine aY (fP (eE
   (I:=λx c fX=>c=(none,Unit.unit)/\SB kd a₀ fX/\nN κ (arrOf fX) 0 (pendingOf fX).toList a₀.size/\(pendingOf fX).size<=a₀.size-x+1)
   (Q:=λc fX=>c=(none,Unit.unit)/\SB kd a₀ fX/\nN κ (arrOf fX) 0 (pendingOf fX).toList a₀.size/\(pendingOf fX).size<=1) ?_ ?_ ⟨rfl,hB',hc',()⟩) ?_)
  ·rintro x c mT _ hx ⟨rfl,b1,b2,b3⟩;refine aY (DK ?_)
   skip
   by_cases hz:(pendingOf mT).size<=1
   ·rw[aL hz];exact bJ ⟨rfl,b1,b2,hz⟩
   ·rw[aH hz];refine aY (QI C h0 b1 b2 (aG _) ?_ λst5 d1 d2 d3 d4=>?_)
    ·by_cases hi0:(pendingOf mT).size-2>0
     ·rw[aL hi0];split<;>lia
     ·rw[aH hi0];simp only[Option.any_none,cA,dO];lia
    ·simp only[bL,cA,dO];exact bJ ⟨rfl,d1,d2,()⟩
  ·rintro c mT ⟨rfl,b1,b2,b3⟩;exact⟨rfl,b1,b2,()⟩
  ·rintro c mT ⟨rfl,b1,b2,b3⟩;refine bJ (h mT b1 ?_);rw[←bV]at b3
   match hl:(pendingOf mT).toList,b2,b3 with
   |[],b2,_=>
    have b2:0=a₀.size:=b2;intro p q e1 e2 e3;lia
   |[x],⟨c1,c2,c3,c4⟩,_=>
    have c4:0+x.2.1=a₀.size:=c4;rw[c4]at c3;exact c3
section
open PySem.SeqAt PySem.W
abbrev κI(p:Keyed):Int:=numOf p.1
theorem kh(xs:Array Keyed)(i:Nat):dZ κI xs i=PyProof.Rows.K xs i:=by
 unfold dZ PyProof.Rows.K;cases xs[i]?<;>rfl
theorem cmpI:lD (model prog w) A E s oneType' (λp=>∃n t,p.1=.int n t) κI:=by
 refine⟨λ{x y st Q} hx hy hk h=>?_⟩;obtain⟨n,t,ex⟩:=hx;obtain⟨m,u,ey⟩:=hy;rw[lt'_eq];refine aY (DK ?_);rw[hk,keyLt'_oneType,ex,ey];refine aY (lq (OH (oneLt_int ⟨rfl,?_⟩)));have e:decide (κI x<κI y)=decide (n<m):=by show decide (numOf x.1<numOf y.1)=_;rw[ex,ey];rfl
 rw[e]at h;exact bJ h
theorem FQ{vs:List Value}{ns:List Int}{P:PySem.Fin->Shared->Prop}(ho:s.heap.get? a=some (seqObj "list" vs.toArray n))(hI:IntsAre vs ns)(hbig:vs.length<100000)
 (h:∀(out:Array Value)(ns':List Int),IntsAre out.toList ns'->ns'.Perm ns->ns'.Pairwise (· <= ·)->P (.done (.ret .none)) {s with heap:=sortedHeap s.heap a vs out}):wpAny (model prog w) A (Builtin.«list.sort» ⟨[.ref a],[]⟩) P E s:=by
 by_cases h64:vs.length<64
 ·exact list_sort_tree ho hI h64 h
 rw[list_sort_plain];have ha:a<s.heap.objs.size:=bD ho;have hsz:vs.toArray.size=vs.length:=by simp
 refine aF (listItems_at ho rfl ?_);refine aF (DO ho rfl ?_ (by rw[hsz,dG];lia) (cG _));obtain⟨e1,ho1⟩:∃e1,(s.heap.update a (Obj.mapSeq λ_=> #[])).get? a=some (seqObj "list" #[] e1):=⟨_,get?_update_seq ho (λ_=> #[])⟩
 refine aF (lr ho1 rfl ?_);refine aF (wpAny_newTuple ?_ (by show vs.length<=_;rw[dG];lia));refine aF (rJ ?_ (cG _));refine eS ?_;have ho6:(((s.heap.update a (Obj.mapSeq λ_=> #[])).push (seqObj "tuple" vs.toArray 0)).push (seqObj "list" #[] 0)).get? a=some (seqObj "list" #[] e1):=by
  rw[lB _ _ _ (by rw[size_push',oF];exact bW (gO ha)),lB _ _ _ (by rw[oF];exact bW ha)];exact ho1
 show wpAny (model prog w) A _ P E {s with heap:=((s.heap.update a (Obj.mapSeq λ_=> #[])).push (seqObj "tuple" vs.toArray 0)).push (seqObj "list" #[] 0)};dsimp only;rw[aH (by rw[hsz];lia),aH (by rw[hsz];lia)];have hkk:keyKind' vs.toArray=pure oneType':=by
  obtain⟨v1,v2,l,rfl⟩:∃v1 v2 l,vs=v1::v2::l:=by
   rcases vs with _ |⟨v1,_ |⟨v2,l⟩⟩
   ·exact absurd h64 (by simp)
   ·exact absurd h64 (by simp)
   ·exact⟨v1,v2,l,rfl⟩
  exact keyKind_ints hI
 rw[hkk];refine aF (aS ?_);refine aF (lJ (tW (a₀:=pairsOf vs) (st:=SortSt.mk' oneType' (vs.toArray.zip vs.toArray) #[] 7 none)
  (Q:=λ_ cQ=>SB oneType' (pairsOf vs) cQ/\xW κI (arrOf cQ) 0 (pairsOf vs).size) cmpI hI.intKeys ⟨sC _,rfl,rfl⟩ rfl λcQ b1 b2=>⟨b1,b2⟩) ?_ λ_ _ e=>e)
 rintro⟨⟨⟩,cQ⟩ s' ⟨rfl,hB,hs⟩;dsimp only;have hz:((arrOf cQ).map (·.2)).size=vs.length:=by rw[Array.size_map,hB.size,pairsOf_size]
 refine aF (lr ho6 rfl ?_);refine aF (DO ho6 rfl ?_ (cG _) (by rw[hz,dG];lia));rw[hB.fail];simp only[bne_self_eq_false,cA,dO];obtain⟨ns',d1,d2,d3⟩:=sorted_out hI (iW.mpr hB.perm) λi j hij hj=>by
  have :=hs i j (cG _) hij hj;rwa[kh,kh]at this
 exact aS (h _ ns' d1 d2 d3)
section
variable {P:Nat->Value->Prop} {OK:Heap->Prop}
theorem UH(K:KdlSrc prog w T r d n P OK)(hh:A.handled=none)(hok:OK s.heap)(hn:n<100000){ss:List Int}(hl:ss.length=n)(hP:∀(i:Nat)(v:Value)(x:Int),P i v->ss[i]?=some x->∃t,v=.int x t)
 (h:∀(h1 h':Heap)(tk:Nat)(iH:List Value)(ss':List Int)(e:Nat),(∀b o,s.heap.get? b=some o->h1.get? b=some o)->(∀b o,h1.get? b=some o->h'.get? b=some o)->h'.get? h1.objs.size=some {cls:=.type "list",data:=.seq iH.toArray e}->IntsAre iH ss'->ss'.Perm ss->ss'.Pairwise (· <= ·)->Q (.ref h1.objs.size) {s with heap:=h',toks:=tk}):
 wpAny (model prog w) A (call (.builtin "sorted") [.ref r]) Q E s:=by
 have hs:sizeLine=16777216:=dG;refine pY kind_sorted plain_sorted entry_sorted (args_sorted1 _) ?_;unfold Builtin.«sorted»;refine aF (m:=checkCount "sorted" 1 1 _) (aS ?_);refine aF (kdu_collect (A:=A.in1) K hh hok () λh' tk acc hk hacc=>?_);have hl2:acc.toList.length=n:=by rw[bV];exact hacc.1
 have hS:IntsAre acc.toList ss:=CA () λi v x h1 h2=>hP i v x (hacc.2 i v (by rw[←dA];exact h1)) h2
 generalize acc.toList=vs at hl2 hS;refine aF (rJ ?_ ());have hoL:(h'.push (seqObj "list" vs.toArray 0)).get? h'.objs.size=some (seqObj "list" vs.toArray 0):=bX _ rfl;show wpAny _ _ _ _ _ {s with heap:=h'.push (seqObj "list" vs.toArray 0),toks:=tk};refine aF (eS (gF slot_list_sort ⟨_,hoL,rfl⟩ entry_list_sort (FQ (A:=A.in1.in1) hoL hS () λout ss' a1 a2 a3=>⟨_,rfl,?_⟩) (args_list_sort _)));obtain⟨e,he⟩:=sortedHeap_at (out:=out) hoL;refine aS ⟨_,rfl,h h' _ tk _ ss' e hk (λb o hb'=>?_) (by rw[sD];exact he) a1 a2 a3⟩;have iY:=bD hb';rw[sortedHeap_old (bW iY) (by rw[size_push'];exact gO iY)];exact aP _ hb'
end
theorem JE:qQ X (.builtin "sorted") (λxs H Q=>bb X.calm (pG xs λx=>mN x λp=>∃kvs:List (eI×V),H p=some (.dK kvs)/\∃zs:List Int,kvs.map (·.1)=zs.map Sum.inl/\zs.length<100000/\
 ∀(l:Addr)(zs':List Int),H l=none->zs'.Perm zs->zs'.Pairwise (· <= ·)->Q (.ref l) (upd H l (.lst (zs'.map V.int))))):=by
 intro aJ s σ H xs us Q I r h;replace h:=DF h;obtain⟨hc,h⟩:=h;replace h:=wE h;obtain⟨x0,rfl,h⟩:=h;replace h:=xI h;obtain⟨p,rfl,kvs,hp,zs,hk,h64,q⟩:=h;obtain⟨u,rfl,ru⟩:=uP r;cases ru;obtain⟨z,hd,vs,mU,dd⟩:=kN I.hok (.inl hp);obtain⟨ep,hat⟩:=dd.dictAt;have hvl:kvs.length=vs.length:=eT mU;have hkl:kvs.length=zs.length:=by have :=dH List.length hk;rwa[aE,aE]at this
 have hkeys:vs.map (·.1)=zs.map Sum.inl:=(YL mU).trans hk;refine UH (kdl_dict (knd:=yB X.prog X.w) (kvs:=vs) (ep:=ep) hd) (I.ok.hd hc) hat () (ss:=zs) () (λi v x hP hx=>?_) λh1 h' tk iH ss' e k1 k2 hB hS lX hs2=>?_
 ·obtain⟨k,y,h1,h2⟩:=hP;have e1:(vs.map (·.1))[i]?=some k:=by rw[aK,h1];rfl
  rw[hkeys,aK,hx]at e1;cases e1;have h2:ZP (.inl x) v=true:=h2;rcases yR h2 with⟨x',t,e,e2⟩ |⟨_,_,e,_⟩
  ·cases e;exact⟨t,e2⟩
  ·cases e
 ·have I1:Inv X aJ σ H {s with heap:=h1,toks:=tk}:=I.kept k1;have eQ:ss'.length=zs.length:=lX.length_eq;exact⟨.ref h1.objs.size,_,I1.laid (a:=h1.objs.size) (o:=.lst (ss'.map V.int)) (t':=tk) k2 (aG _) ⟨by rw[aE,dG];lia,iH,e,QK hS,hB⟩,rfl,q _ _ (I1.hok.fresh (aG _)) lX hs2⟩
end
end L2
namespace C
open PySem L2
seal PE PT PW PA PS GS PG PGs PI PPs PO sy jg
variable {f lg p:Addr} {fd:FuncData} {base:Heap} {H H' J:Hp} {nm:Int->List Int} {kvs:List (List eI×V)} {vs:List (List Nat)} {ps:List (Nat×Nat)} {qs:List Addr} {ks:List Int} {R:List Ln->Prop} {aX:List xM} {sp:List Nat} {aD:List Rw} {zs:List Str} {G ts:List Tm} {us xs:List V} {as:List Wt} {l:Ln} {a d i j n:Nat} {U:Nat->Nat->Prop} {P:Program} {K:W.Frag} {r:Rw} {S:Str->List Nat} {L:Str->Option Tm} {mg:Str->Option Value} {s:Tm×Tm} {v:V} {w:World}
local macro_rules | `(tactic| dsimp! [$ts,*]) => `(tactic| (try dsimp only [PD, tFor_eq, tLC_eq, iRng1, iRng2, iList, iTup, iStr, me, tRet, tRetN, tNext, b6, kK, tVar, tC, tOp, du, rI, tTest, tB, rEq, rNe, PJ, tCons, tNil, tCB, tLst, tTup, tAnd, tOr, tNot, tAndV, tOrV, tNotV, tIf, tDrop, tSl, tPart, UA, mh, tUn, rU, uU, cx_K, bk_K, cx_calm, bk_calm, Option.join, Bool.not_true, Bool.not_false, List.length_cons, List.length_nil, mapC, mapN, List.replicate, List.cons_append, List.nil_append, List.getElem?_cons_zero, List.getElem?_cons_succ, List.set_cons_zero, List.set_cons_succ, Nat.reduceSub, Nat.reduceAdd, tBM, tBM0, UN, rPop, rIxL, rIxT, rIxS, rSlL, rSlT, rSlS, rCat, rCatT, tKGet, cx_w, bk_w, tDGet, tDisp, YY, mf, cx_P, asI_i, asR_i, asB_i, asS_i, asV_i, asC_i, as1_i, as2_i, as0_i, asT_i, $ts,*]; try simp only [asI_e, asR_e, asB_e, asS_e, asV_e, asC_e, as1_e, as2_e, as0_e, asT_e, PD, tFor_eq, tLC_eq, iRng1, iRng2, iList, iTup, iStr, me, tRet, tRetN, tNext, b6, kK, tVar, tC, tOp, du, rI, tTest, tB, rEq, rNe, PJ, tCons, tNil, tCB, tLst, tTup, tAnd, tOr, tNot, tAndV, tOrV, tNotV, tIf, tDrop, tSl, tPart, UA, mh, tUn, rU, uU, cx_K, bk_K, cx_calm, bk_calm, lenV_str, and_assoc, Option.join, List.length_map, List.length_append, decide_eq_true_eq, Bool.false_eq_true, if_false, if_true, Bool.not_true, Bool.not_false, Bool.not_eq_true', decide_eq_false_iff_not, Bool.true_eq_false, List.length_cons, List.length_nil, mapC, mapN, List.replicate, List.cons_append, List.nil_append, List.append_nil, List.getElem?_cons_zero, List.getElem?_cons_succ, List.set_cons_zero, List.set_cons_succ, Nat.reduceSub, Nat.reduceAdd, Option.some.injEq, V.int.injEq, V.str.injEq, V.bl.injEq, V.ref.injEq, List.cons.injEq, and_true, true_and, exists_eq_left', exists_eq_left, exists_and_left, exists_eq_right, exists_const, tBM, tBM0, UN, rPop, rIxL, rIxT, rIxS, rSlL, rSlT, rSlS, rCat, rCatT, tKGet, cx_w, bk_w, tDGet, tDisp, YY, mf, cx_P, asI_i, asR_i, asB_i, asS_i, asV_i, asC_i, as1_i, as2_i, as0_i, asT_i, List.map_cons, List.map_nil, $ts,*]))
local macro_rules | `(tactic| rfl') => `(tactic| exact ⟨rfl, rfl, rfl, by decide +kernel, rfl, by decide +kernel, by decide +kernel⟩)
local macro_rules | `(()) => `(by first | decide +kernel | lia)
def top(i:Nat):Stmt:=PySem.Challenge.pw_clashbook_k62_whole_terms_put_for_names.main.body.getD i (.Pass ⟨0,0,0,0⟩)
abbrev s_W:Stmt:=top 17
theorem sc_W:cC ["n"] ["n"] (zK s_W):=by rfl'
abbrev s_U:Stmt:=top 18
theorem sc_U:cC ["n","bound"] ["n","bound"] (zK s_U):=by rfl'
abbrev jZ(H:Hp)(ls:List Ln)(us:List V):Prop:=bG H (ls.map NM) us
abbrev JH(H:Hp)(as:List Wt)(us:List V):Prop:=bG H (as.map sf) us
theorem jE{α:Type}{f:α->Dt}{xs:List α}(h:bG H (xs.map f) us)(hv:us[i]?=some v):∃x,xs[i]?=some x/\eA H (f x) v:=by
 have hl:=bG.length h;rw[aE]at hl;have hi:i<xs.length:=by rw[←hl];exact(aC.mp hv).1
 obtain⟨u,h1,h2⟩:=bG.get (d:=f xs[i]) h (by rw[aK,aA hi];rfl);rw[hv]at h1;cases h1;exact⟨_,aA hi,h2⟩
theorem uB{α:Type}{f:α->Dt}{xs:List α}(h:bG H (xs.map f) us):us.length=xs.length:=by
 have hl:=bG.length h;rwa[aE]at hl
theorem LnAt.out(h:eA H (NM l) v):∃a b us,v=.ref a/\H a=some (.tup [.int l.i,.int l.j,.ref b])/\H b=some (.tup (.str l.w::us))/\JH H l.as us:=by
 obtain⟨a,vs,e1,e2,u1,r1,q1,h1,u2,r2,q2,h2,u3,r3,q3,⟨b,ws,g1,g2,x,y,g3,g4,g5⟩,h4⟩:=h;have h1:u1=.int l.i:=h1;have h2:u2=.int l.j:=h2;have h4:r3=[]:=h4;have g4:x=.str l.w:=g4;subst h4 q3 q2 q1 h1 h2 g1 g3 g4;exact⟨a,b,y,e1,e2,g2,g5⟩
def rwV:Rw->List V
 | .no=>[.str "none"]
 | .nm y=>[.str "name",.str y]
 | .bo i j=>[.str "both",.int i,.int j]
def Tw(K:W.Frag)(H:Hp)(a:Addr)(xs:List V):Prop:=
 H a=some (.tup xs)\/∃(o:Obj)(its:Array Value)(n:Nat),K.lookup a=some o/\o.cls=.type "tuple"/\o.data=.seq its n/\its.size<=sizeLine/\dD xs its.toList
theorem Tw.sq{a:Addr}(h:Tw K H a xs):dN K H a xs:=h.elim dN.of .inr
theorem Tw.tups{a:Addr}(h:Tw K H a xs)(e:cT H H'):Tw K H' a xs:=h.elim (λz=>.inl (e _ _ z)) .inr
theorem Tw.same{a:Addr}(h:Tw K H a xs)(e:bA H H'):Tw K H' a xs:=h.elim (λz=>.inl (e _ _ z)) .inr
def GR(K:W.Frag)(H:Hp)(r:Rw)(v:V):Prop:=∃a,v=.ref a/\Tw K H a (rwV r)
def gD(K:W.Frag)(H:Hp):List Rw->List V->Prop
 |[],us=>us=[]
 |r::rs,us=>∃v vs,us=v::vs/\GR K H r v/\gD K H rs vs
theorem gD.go{K:W.Frag}{H H':Hp}(e:bA H H'):∀{rs:List Rw}{us:List V},gD K H rs us->gD K H' rs us
 |[],_,h=>h
 |r::rs,us,⟨v,vs,e1,⟨a,e2,e3⟩,e4⟩=>⟨v,vs,e1,⟨a,e2,e3.same e⟩,gD.go e e4⟩
theorem gD.same{rs:List Rw}(h:gD K H rs us)(e:bA H H'):gD K H' rs us:=gD.go e h
theorem gD.len{K:W.Frag}{H:Hp}:∀{rs:List Rw}{us:List V},gD K H rs us->us.length=rs.length
 |[],_,h=>by cases (show _=[]from h);rfl
 |r::rs,us,⟨v,vs,e1,_,e4⟩=>by rw[e1,bF,bF,gD.len e4]
theorem gD.get{K:W.Frag}{H:Hp}:∀{rs:List Rw}{us:List V}{i:Nat}{v:V},gD K H rs us->us[i]?=some v->∃r,rs[i]?=some r/\GR K H r v
 |[],_,i,v,h,hv=>by cases (show _=[]from h);simp at hv
 |r::rs,us,0,v,⟨v',vs,e1,e2,e4⟩,hv=>by subst e1;cases hv;exact⟨r,rfl,e2⟩
 |r::rs,us,i+1,v,⟨v',vs,e1,e2,e4⟩,hv=>by
  subst e1;obtain⟨r',g1,g2⟩:=gD.get (i:=i) e4 (by simpa using hv);exact⟨r',by simpa using g1,g2⟩
theorem GR.out(h:GR K H r v):∃a x us,v=.ref a/\Tw K H a (.str x::us)/\(match r with | .no=>x="none"/\us=[] | .nm y=>x="name"/\us=[.str y] | .bo i j=>x="both"/\us=[.int i,.int j]):=by
 obtain⟨a,e1,e2⟩:=h;cases r<;>exact⟨a,_,_,e1,e2,rfl,rfl⟩
def ptsR:Rw->List Int
 | .bo i j=>[i,j]
 |_=>[]
theorem kE{n:Int}(h:n % 2=0)(hr:aD[(n/2).toNat]?=some r):vC aD n=ptsR r:=by
 unfold vC;rw[aL h,hr];cases r<;>rfl
theorem RC{ls:List Ln}{k:Nat}{i:Int}(h:0<=i/\i<(k:Int))(hl:ls[i.toNat]?=some l):xJ ls k (.n i)=some (l.i,l.j):=by
 show(if 0<=i/\i<(k:Int)then(ls[i.toNat]?).map λl=>(l.i,l.j)else none)=_;rw[aL h,hl];rfl
theorem RD{ls:List Ln}{k:Nat}{i:Int}(h:¬(0<=i/\i<(k:Int))):xJ ls k (.n i)=none:=by
 show(if 0<=i/\i<(k:Int)then(ls[i.toNat]?).map λl=>(l.i,l.j)else none)=_;rw[aH h]
def isN:Wt->Bool
 | .n _=>true
 | .ps _=>false
def mj:Sp:=λvs H Q _=>∃(v:V)(x:Wt),vs=[v]/\eA H (sf x) v/\Q (.bl (isN x)) H
def PV:Sp:=λvs H Q _=>∃(v:V)(x:Wt)(b:Int),vs=[v,.int b]/\eA H (sf x) v/\Q (.bl (JQ b x)) H
inductive spSaid (vs:List V) (H:Hp) (Q:VK) (E:XK):Prop
 |mk (la na:Addr) (us ws:List V) (ls:List Ln) (as:List Wt) (k:Nat) (_:vs=[.ref la,.int k,.ref na]) (_:H la=some (.lst us)) (_:jZ H ls us) (_:k<=ls.length) (_:H na=some (.tup ws)) (_:JH H as ws) (_:as.length<=900) (_:∀p zs H',bA H H'->H' p=some (.lst zs)->bG H' ((as.map (xJ ls k)).map dSd) zs->Q (.ref p) H')
theorem BG(bi:Bi mg)(F:gI K "is_whole" "is_whole" s_W f fd):dI P w K mg base fZ 1 f fd ["n"] mj:=by
 refine F.okz sc_W λfD A outer s H vs Q E hr h=>?_
 obtain⟨v,x,rfl,hv,q⟩:=h;refine⟨_,(zG (zO (EQ (yC (CO (T:="int")) rfl bi.isinstance wI (zA (pv 0) (zA (j8 bi.int sk rfl) zC))) (EN (oy (yC (CO (T:="bool")) rfl bi.isinstance wI (zA (pv 0) (zA (j8 bi.bool i6 rfl) zC)))))))),?_⟩;cases x with
 |n i=>
  have e:v=.int i:=hv;subst e;dsimp![];exact⟨_,.int i,true,TW,iteT ⟨_,.int i,false,qh,q⟩⟩
 |ps l=>
  obtain⟨a,us,rfl,ha,hu⟩:=hv;dsimp![];exact⟨_,.tup ha,false,qg,iteF q⟩
theorem BH(bi:Bi mg)(h_W:gS P w K mg base 1 "is_whole" ["n"] mj)(F:gI K "is_below" "is_below" s_U f fd):dI P w K mg base fZ 2 f fd ["n","bound"] PV:=by
 refine F.okz sc_U λfD A outer s H vs Q E hr h=>?_
 obtain⟨v,x,b,rfl,hv,q⟩:=h;refine⟨_,(zG (zO (EQ (zI h_W hr.m rfl (zA (pv 0) zC)) (EN (SF op_le ZM zE (pv 0) (pv 1)))))),?_⟩;dsimp![mj];refine⟨x,hv,?_⟩;cases x with
 |n i=>
  have e:v=.int i:=hv;subst e;rw[show isN (.n i)=true from rfl,aL rfl];have q:Q (.bl (decide (0<=i)&&decide (i<b))) H:=q;refine⟨i,rfl,?_⟩;split
  ·rename_i h
   rw[dX h,pF]at q;exact⟨i,rfl,q⟩
  ·rename_i h
   rw[dE h,fK]at q;exact q
 |ps l=>
  rw[show isN (.ps l)=false from rfl,aH bQ];exact q
theorem r6(p q:Pr):eR (GH p) (GH q)=(p==q):=by
 obtain⟨a,b⟩:=p;obtain⟨c,d⟩:=q;simp only[GH,eR,kO,Bool.and_true];rfl
theorem rm(n:Nat)(p:Pr):ZL (n+1) (GH p):=⟨by simp,λd hd=>by
 simp only[bK,fU,or_false]at hd;rcases hd with rfl |rfl<;>(cases n<;>trivial)⟩
theorem ox{p:Pr}(h:eA H (GH p) v):∃a,v=.ref a/\H a=some (.tup [.int p.1,.int p.2]):=by
 obtain⟨a,vs,e1,e2,u1,r1,q1,h1,u2,r2,q2,h2,h3⟩:=h;have h1:u1=.int p.1:=h1;have h2:u2=.int p.2:=h2;have h3:r2=[]:=h3;subst h3 q2 q1 h1 h2;exact⟨a,e1,e2⟩
inductive spChain (vs:List V) (H:Hp) (Q:VK) (E:XK):Prop
 |mk (sp:Addr) (zs:List V) (i j:Int) (p q:Pr) (_:vs=[.int i,.int j,.ref sp]) (_:H sp=some (.lst zs)) (_:bG H [GH p,GH q] zs) (_:Q (.bl (p.1==i&&p.2==q.1&&q.2==j)) H)
inductive spRul (vs:List V) (H:Hp) (Q:VK) (E:XK):Prop
 |mk (ra la:Addr) (us ws:List V) (aX:List xM) (ls:List Ln) (k:Nat) (l:Ln) (_:vs=[.ref ra,.ref la,.int k]) (_:H ra=some (.lst us)) (_:bG H (aX.map a9) us) (_:H la=some (.lst ws)) (_:jZ H ls ws) (_:ls[k]?=some l) (_:(∀ps,Wt.ps ps∈l.as->ps.length<=900)) (_:∀H',bA H H'->Q (.bl (jW aX ls k l)) H')
theorem nrAt{r:xM}(h:eA H (a9 r) v):∃a l b us,v=.ref a/\H a=some (.tup [.ref l,.ref b])/\H l=some (.lst us)/\bG H (r.1.map GH) us/\H b=some (.tup [.int r.2.1,.int r.2.2]):=by
 obtain⟨a,vs,e1,e2,u1,r1,q1,⟨l,us,g1,g2,g3⟩,u2,r2,q2,h2,h3⟩:=h;obtain⟨b,g4,g5⟩:=ox h2;have h3:r2=[]:=h3;subst h3 q2 q1 g1 g4;exact⟨a,l,b,us,e1,e2,g2,g3,g5⟩
theorem oe{ls:List Ln}{k:Nat}{r:Int}{ps:List Int}(h:l.as=[.n r,.ps ps]):jW aX ls k l=if 0<=r/\r<aX.length then(match aX[r.toNat]? with |some q=>(l.i,l.j)==q.2&&(ps.map λp=>xJ ls k (.n p))==q.1.map some |none=>false)else false:=by
 unfold jW;rw[h]<;>rfl
inductive spTurned (vs:List V) (H:Hp) (Q:VK) (E:XK):Prop
 |mk (n:Int) (_:vs=[.int n]) (_:Q (.int (rM n)) H)
inductive spAhead (vs:List V) (H:Hp) (Q:VK) (E:XK):Prop
 |mk (la:Addr) (us:List V) (v:V) (x:Wt) (ls:List Ln) (k:Nat) (_:vs=[.ref la,v,.int k]) (_:H la=some (.lst us)) (_:jZ H ls us) (_:k<=ls.length) (_:eA H (sf x) v) (_:∀v' H',bA H H'->eA H' (dSd (xJ ls k x)) v'->Q v' H')
inductive spByR (vs:List V) (H:Hp) (Q:VK) (E:XK):Prop
 |mk (ra la:Addr) (us ws:List V) (aX:List xM) (ls:List Ln) (k:Nat) (l:Ln) (_:vs=[.ref ra,.ref la,.int k]) (_:H ra=some (.lst us)) (_:bG H (aX.map a9) us) (_:H la=some (.lst ws)) (_:jZ H ls ws) (_:ls[k]?=some l) (_:l.as.length=2) (_:∀H',bA H H'->Q (.bl (jW aX ls k l)) H')
def qP(aD:List Rw):Prop:=∀(k:Nat)(i j:Int),aD[k]?=some (.bo i j)->(0<=i/\i<2*(k:Int))/\0<=j/\j<2*(k:Int)
def RowB(r:Rw)(n:Int):Prop:=∀i j,r=.bo i j->(0<=i/\i<n)/\0<=j/\j<n
abbrev s_A:Stmt:=qV (top 30) 0
theorem sc_A:cC ["self","many"] ["self","many"] (zK s_A):=by rfl'
abbrev s_a:Stmt:=qV (top 30) 1
theorem sc_a:cC ["self","i","j"] ["self","i","j"] (zK s_a):=by rfl'
abbrev s_D:Stmt:=qV (top 30) 2
theorem sc_D:cC ["self","i","j"] ["self","i","j"] (zK s_D):=by rfl'
abbrev s_d:Stmt:=qV (top 30) 3
theorem sc_d:cC ["self","i","j","why"] ["self","i","j","why"] (zK s_d):=by rfl'
abbrev s_F:Stmt:=top 3
theorem RB:cC ["mask","bits","rest","low"] ["mask"] (zK s_F):=by rfl'
abbrev nV(n:Nat):V:=.int (n:Int)
inductive sI (vs:List V) (H:Hp) (Q:VK) (E:XK):Prop
 |mk (m:Nat) (xs:List Nat) (_:vs=[.int m]) (_:rH m xs) (_:(∀x∈xs,x<300)) (_:∀p H',bA H H'->H p=none->H' p=some (.lst (xs.map nV))->Q (.ref p) H')
theorem DC{m:Nat}{xs:List Nat}(h:rH m xs)(hx:∀x∈xs,x<300):xs.length<=300:=by
 have :∀(xs:List Nat)(b:Nat),xs.Pairwise (· < ·)->(∀x∈xs,b<=x/\x<300)->xs.length+b<=300\/xs=[]:=by
  intro xs
  induction xs with
  |nil=>intro b _ _;exact .inr rfl
  |cons x xs ih=>
   intro b hp hb;have hp':=List.pairwise_cons.mp hp;have hx:=hb x bB;rcases ih (x+1) hp'.2 (λy hy=>⟨hp'.1 y hy,(hb y (bC _ hy)).2⟩)with h |h
   ·left;rw[bF];lia
   ·subst h;left;rw[bF,nT];lia
 rcases this xs 0 h.1 (λx hx'=>⟨cG _,hx x hx'⟩)with h |h
 ·lia
 ·subst h;simp
theorem FE(bi:Bi mg)(F:gI K "bits_of" "bits_of" s_F f fd):dI P w K mg base fZ 1 f fd ["mask"] sI:=by
 refine F.okz RB λfD A outer s H vs Q E hr h=>?_
 obtain⟨m,xs,rfl,hb,hx,q⟩:=h;have hxl:=DC hb hx;refine⟨_,(zD (yE 1 RB.nd (xH zC)) (zD (yE 2 RB.nd (pv 0)) (zD (AE bM (RQ (pv 2) (λ_=>rfl)) (zD (yE 3 RB.nd (zN EW (pv 2) (wF uT (pv 2)))) (zD (zU (jD bT cL cK yU (pv 1) (zA (zN SJ (o0 PySem.F.plainAttrs_int PySem.F.slot_int_bit_length PySem.F.type_int_bit_length JO (pv 3)) zE) zC))) (zG (UR (i:=2) RB.nd rfl (Or.inl rfl) (pv 3) qp))))) (zG (zO (pv 1)))))),?_⟩;refine zH λN hN=>?_
 dsimp![];refine⟨small (by simp),λp hp=>hN _ _ ?_⟩;clear hN;refine zH λN hN=>?_
 dsimp![];refine hN _ _ ?_;clear hN;have s1:=zF hp (.lst []);have k1:upd H p (.lst []) p=some (.lst ((xs.take 0).map nV)):=zB;generalize upd H p (.lst [])=H1 at s1 k1⊢;refine yA (λσ H'=>∃(o1 o2:Option V),bA H H'/\H' p=some (.lst (xs.map nV))/\σ=[some (V.int m),some (V.ref p),o1,o2]) (λN hN=>?_) (λσ H' h=>?_)
 ·dsimp![DX];refine⟨λk σ H'=>∃(i r:Nat)(o:Option V),k=xs.length-i/\i<=xs.length/\bA H H'/\H' p=some (.lst ((xs.take i).map nV))/\rH r (xs.drop i)/\σ=[some (V.int m),some (V.ref p),some (V.int r),o],⟨_,0,m,_,rfl,cG _,s1,k1,hb,rfl⟩,λk σ H' h=>?_⟩;obtain⟨i,r,o,rfl,hi,s2,k2,mB,rfl⟩:=h;dsimp![];refine⟨_,rfl,?_⟩;cases hd:xs.drop i with
  |nil=>
   rw[hd]at mB;have e0:=mB.nil;subst e0;rw[aH ()];have hil:xs.length<=i:=by
    have :=dH List.length hd;rw[fW,nT]at this;lia
   rw[aQ hil]at k2;exact hN _ _ ⟨_,_,s2,k2,rfl⟩
  |cons x rest=>
   rw[hd]at mB;have hxb:r.testBit x=true:=by rw[mB.2];simp
   obtain⟨hr0,hl,hb2⟩:=mB.cons;rw[aL (by simp;lia)];have hil:i<xs.length:=by
    have :=dH List.length hd;rw[fW,bF]at this;lia
   have hxi:xs[i]?=some x:=by
    have :=dH (·[0]?) hd;simpa using this
   have hdr:xs.drop (i+1)=rest:=by
    have :=dH (List.drop 1) hd;rw[rZ]at this;simpa using this
   refine⟨λσ' H''=>∃(o:Option V),bA H H''/\H'' p=some (.lst ((xs.take (i+1)).map nV))/\σ'=[some (V.int m),some (V.ref p),some (V.int ((r&&&(r-1):Nat):Int)),o],λσ' H'' h=>?_,?_⟩
   ·obtain⟨o',a1,a2,rfl⟩:=h;exact⟨xs.length-(i+1),(),i+1,rfl,(),a1,a2,_,by rw[hdr];exact hb2,_,rfl⟩
   have elow:Builtin.bitAnd (r:Int) (-(r:Int))=((2^x:Nat):Int):=by rw[TN hr0,hl]
   dsimp![PK,VX,IG];rw[elow,WT];refine⟨.inl ⟨rfl,_,dL.of k2⟩,rfl,_,k2,uD (by rw[aE,bU];lia),s2.upd hp,?_,bp hl hxb,_,rfl⟩;have e:(((x+1:Nat):Int)-1)=(x:Int):=by lia
   obtain⟨_,ei⟩:=aC.mp hxi;rw[zB,e,aM hil,ei,aU];rfl
 obtain⟨o1,o2,s2,k2,rfl⟩:=h;dsimp![];exact q _ _ s2 hp k2
def OW(as:List Wt):Prop:=as.length<=3/\∀ps,Wt.ps ps∈as->ps.length<=300
def zR(ls:List Ln)(i j:Int):Bool:=ls.any λl=>l.i==i&&l.j==j
theorem eZ{ls:List Ln}{i j:Int}:zR ls i j=true↔∃(p:Nat)(l:Ln),ls[p]?=some l/\l.i=i/\l.j=j:=by
 unfold zR;rw[eV];constructor
 ·rintro⟨l,hl,h⟩;rw[bY,cS,cS]at h;obtain⟨p,hp,e⟩:=dJ hl;exact⟨p,l,by rw[aA hp,e],h.1,h.2⟩
 ·rintro⟨p,l,hl,h1,h2⟩;exact⟨l,aV hl,by rw[h1,h2];simp⟩
theorem vL(ls t:List Ln)(i j:Int):zR (ls++t) i j=(zR ls i j ||zR t i j):=by
 unfold zR;rw[List.any_append]
theorem XZ(l:Ln)(i j:Int):zR [l] i j=(l.i==i&&l.j==j):=by
 unfold zR;simp
def xF(i j:Int):List eI:=[.inl i,.inl j]
def rN:List Ln->Nat->List (List eI×V)
 |[],_=>[]
 |l::ls,k=>(xF l.i l.j,.int k)::rN ls (k+1)
theorem IK:∀(ls:List Ln)(k:Nat),(rN ls k).length=ls.length
 |[],_=>rfl
 |l::ls,k=>by show(rN ls (k+1)).length+1=_;rw[IK ls (k+1)];rfl
theorem AJ(l:Ln):∀(ls:List Ln)(k:Nat),rN (ls++[l]) k=rN ls k++[(xF l.i l.j,.int ((k+ls.length:Nat):Int))]
 |[],k=>rfl
 |l'::ls,k=>by
  show _::rN (ls++[l]) (k+1)=_;rw[AJ l ls (k+1),bF];show _=_::_++_;rw[show k+1+ls.length=k+(ls.length+1) by lia];rfl
theorem TX{i j i' j':Int}(h:xF i j=xF i' j'):i=i'/\j=j':=by
 unfold xF at h;injection h with h1 h2
 injection h2 with h2 h3
 exact⟨rT h1,rT h2⟩
theorem YI{i j:Int}:∀(ls:List Ln)(k:Nat),(zR ls i j=false/\yM (rN ls k) (xF i j)=none)\/∃(p:Nat)(l:Ln),ls[p]?=some l/\l.i=i/\l.j=j/\yM (rN ls k) (xF i j)=some (.int ((k+p:Nat):Int))
 |[],k=>.inl ⟨rfl,rfl⟩
 |l::ls,k=>by
  by_cases h:l.i=i/\l.j=j
  ·refine .inr ⟨0,l,rfl,h.1,h.2,?_⟩;show yM ((xF l.i l.j,V.int k)::rN ls (k+1)) (xF i j)=_;rw[h.1,h.2,qC rfl];rfl
  ·have e:yM (rN (l::ls) k) (xF i j)=yM (rN ls (k+1)) (xF i j):=qD (λz=>h (TX z));rcases YI ls (k+1)with⟨h1,h2⟩ |⟨p,l',h1,h2,h3,h4⟩
   ·left
    refine⟨?_,by rw[e];exact h2⟩;show((l.i==i&&l.j==j) ||zR ls i j)=false;rw[h1,tI];rw[dS];intro z;rw[bY,cS,cS]at z;exact h z
   ·right
    refine⟨p+1,l',h1,h2,h3,?_⟩;rw[e,h4]
    congr 2
    lia
theorem wZ{κ:Type} [DecidableEq κ] {kvs:List (κ×V)} {k:κ} (h:yM kvs k=none):jM kvs k v=kvs++[(k,v)]:=by
 unfold jM;rw[aH];intro z;obtain⟨x,hx,hk⟩:=eV.mp z;unfold yM at h;rw[pU,List.find?_eq_none]at h;exact h x hx hk
theorem RE{ls t:List Ln}{k:Nat}(h:k<=ls.length)(x:Wt):xJ (ls++t) k x=xJ ls k x:=by
 cases x with
 |ps l=>rfl
 |n i=>
  show(if 0<=i/\i<(k:Int)then((ls++t)[i.toNat]?).map λl=>(l.i,l.j)else none)=(if 0<=i/\i<(k:Int)then(ls[i.toNat]?).map λl=>(l.i,l.j)else none)
  by_cases hi:0<=i/\i<(k:Int)
  ·rw[aL hi,aL hi,bE ()]
  ·rw[aH hi,aH hi]
theorem tU{ls t:List Ln}{k:Nat}(h:k<=ls.length):xQ aD aX (ls++t) k l=xQ aD aX ls k l:=by
 have e:xJ (ls++t) k=xJ ls k:=funext λx=>RE h x
 unfold xQ jW;rw[e]
theorem uC{ls:List Ln}{k:Nat}(h:xQ aD aX ls k l=true):(0<=l.i/\l.i<2*(aD.length:Int))/\0<=l.j/\l.j<2*(aD.length:Int):=by
 unfold xQ at h;split at h
 ·cases h
 ·rename_i hn
  simp only[not_or,Classical.not_not]at hn;exact hn
structure LM(aD:List Rw)(aX:List xM)(ls:List Ln):Prop where
 snd:∀(k:Nat)(l:Ln),ls[k]?=some l->xQ aD aX ls k l=true
 dis:∀(a b:Nat)(x y:Ln),ls[a]?=some x->ls[b]?=some y->x.i=y.i->x.j=y.j->a=b
 siz:∀l∈ls,OW l.as
theorem LM.put{ls:List Ln}(h:LM aD aX ls)(hn:zR ls l.i l.j=false)(hs:xQ aD aX ls ls.length l=true)(ho:OW l.as):LM aD aX (ls++[l]):=by
 have no:∀(a:Nat)(x:Ln),ls[a]?=some x->x.i=l.i->x.j=l.j->False:=λa x hx h1 h2=>by
  have :=eZ.mpr ⟨a,x,hx,h1,h2⟩;rw[hn]at this;cases this
 have sp:∀(a:Nat)(x:Ln),(ls++[l])[a]?=some x->ls[a]?=some x\/a=ls.length/\x=l:=λa x hx=>by
  by_cases ha:a<ls.length
  ·rw[bE ha]at hx;exact .inl hx
  ·have ha2:=(aC.mp hx).1;rw[aI,cJ]at ha2;have e:a=ls.length:=by lia
   subst e;rw[bN (aG _),fJ]at hx;cases hx;exact .inr ⟨rfl,rfl⟩
 refine⟨λk x hx=>?_,λa b x y hx hy h1 h2=>?_,λx hx=>?_⟩
 ·rcases sp k x hx with hx |⟨rfl,rfl⟩
  ·have hk:=(aC.mp hx).1;rw[tU ()];exact h.snd k x hx
  ·rw[tU (aG _)];exact hs
 ·rcases sp a x hx with hx' |⟨ea,ex⟩
  ·rcases sp b y hy with hy' |⟨eb,ey⟩
   ·exact h.dis a b x y hx' hy' h1 h2
   ·rw[ey]at h1 h2;exact(no a x hx' h1 h2).elim
  ·rcases sp b y hy with hy' |⟨eb,ey⟩
   ·rw[ex]at h1 h2;exact(no b y hy' h1.symm h2.symm).elim
   ·rw[ea,eb]
 ·rcases bS.mp hx with hx |hx
  ·exact h.siz x hx
  ·rw[aT.mp hx];exact ho
theorem wL:∀{l m:List Int},l.Nodup->(∀x∈l,x∈m)->l.length<=m.length
 |[],m,_,_=>cG _
 |x::l,m,hn,hs=>by
  have hx:x∈m:=hs x bB;have hn':=iI.mp hn;have :=wL (l:=l) (m:=m.erase x) hn'.2 λy hy=>by
   have hy':=hs y (bC _ hy);have lU:y≠x:=λe=>hn'.1 (by rw[←e];exact hy)
   exact(List.mem_erase_of_ne lU).mpr hy'
  rw[List.length_erase_of_mem hx]at this;have :=List.length_pos_of_mem hx;rw[bF];lia
theorem LM.len{ls:List Ln}(h:LM aD aX ls):ls.length<=(2*aD.length)*(2*aD.length):=by
 have hr:∀l∈ls,(0<=l.i/\l.i<2*(aD.length:Int))/\0<=l.j/\l.j<2*(aD.length:Int):=λl hl=>by
  obtain⟨p,hp,e⟩:=dJ hl;exact uC (h.snd p l (by rw[aA hp,e]))
 generalize hn:2*aD.length=n;have hn':2*(aD.length:Int)=(n:Int):=by lia
 rw[hn']at hr;have :=wL (l:=ls.map λl=>l.i*n+l.j) (m:=(List.range (n*n)).map λi:Nat=>(i:Int)) ?_ λx hx=>?_
 ·rwa[aE,aE,eY]at this
 ·refine dM.mpr λa b ha hb hab e=>?_
  rw[aE]at ha hb;rw[NZ,NZ]at e;have r1:=hr _ (cW ha);have r2:=hr _ (cW hb);have hi:ls[a].i=ls[b].i:=by
   have e1:(ls[a].i*n+ls[a].j)/n=ls[a].i:=by
    rw[Int.add_comm,Int.add_mul_ediv_right _ _ (),Int.ediv_eq_zero_of_lt r1.2.1 r1.2.2,Int.zero_add]
   have e2:(ls[b].i*n+ls[b].j)/n=ls[b].i:=by
    rw[Int.add_comm,Int.add_mul_ediv_right _ _ (),Int.ediv_eq_zero_of_lt r2.2.1 r2.2.2,Int.zero_add]
   rw[←e1,e,e2]
  have hj:ls[a].j=ls[b].j:=by rw[hi]at e;lia
  have :=h.dis a b _ _ (aA ha) (aA hb) hi hj;lia
 ·obtain⟨l,hl,rfl⟩:=bP.mp hx;have r1:=hr l hl;have b1:l.i*n+l.j<n*n:=by
   have :l.i*n<=(n-1)*n:=Int.mul_le_mul_of_nonneg_right () ();rw[Int.sub_mul,Int.one_mul]at this;lia
  have b0:0<=l.i*n:=Int.mul_nonneg r1.1.1 ();rw[bP];exact⟨(l.i*n+l.j).toNat,by rw[bR];lia,()⟩
structure MkA(n:Nat)(hp:Nat->Nat->Bool)(as:List Nat):Prop where
 len:as.length=n
 bit:∀(a c:Nat),as[a]?=some c->∀b,c.testBit b=hp a b
theorem MkA.put{b c:Nat}{hp hp':Nat->Nat->Bool}{as:List Nat}(h:MkA n hp as)(hc:as[a]?=some c)(e:∀x y,hp' x y=(hp x y ||(x==a&&y==b))):MkA n hp' (as.set a (c|||2^b)):=by
 have la:=(aC.mp hc).1;refine⟨by rw[lO];exact h.len,λx d hx y=>?_⟩;rw[e];by_cases ex:a=x
 ·subst ex;rw[iG la]at hx;cases hx;rw[rV,h.bit a c hc,lE];simp only[dR,pF]
  congr 1
  rw[cD,bO,cS];exact eq_comm
 ·rw[gP ex]at hx;have :(x==a)=false:=cV.mpr (cH ex);rw[h.bit x d hx,this,fK,tI]
structure oH where
 r:Addr
 la:Addr
 pa:Addr
 aa:Addr
 ba:Addr
def rA(g:oH):List (Str×V):=[("lines",.ref g.la),("places",.ref g.pa),("above",.ref g.aa),("below",.ref g.ba)]
structure OF(K:W.Frag)(C:Addr):Prop where
 cl:LN K C
 nL:lH K C "lines"
 nP:lH K C "places"
 nA:lH K C "above"
 nB:lH K C "below"
theorem NH(g:oH):(rA g).lookup ("lines":Str)=some (.ref g.la):=by
 unfold rA;rw[bH,show(("lines":Str)=="lines")=true by decide+kernel]
theorem qz(g:oH):(rA g).lookup ("places":Str)=some (.ref g.pa):=by
 unfold rA;rw[bH,show(("places":Str)=="lines")=false by decide+kernel,bH,show(("places":Str)=="places")=true by decide+kernel]
theorem WB(g:oH):(rA g).lookup ("above":Str)=some (.ref g.aa):=by
 unfold rA;rw[bH,show(("above":Str)=="lines")=false by decide+kernel,bH,show(("above":Str)=="places")=false by decide+kernel,bH,show(("above":Str)=="above")=true by decide+kernel]
theorem q9(g:oH):(rA g).lookup ("below":Str)=some (.ref g.ba):=by
 unfold rA;rw[bH,show(("below":Str)=="lines")=false by decide+kernel,bH,show(("below":Str)=="places")=false by decide+kernel,bH,show(("below":Str)=="above")=false by decide+kernel,bH,show(("below":Str)=="below")=true by decide+kernel]
theorem qW(g:oH){x:Str}(h1:(x==("lines":Str))=false)(h2:(x==("places":Str))=false)(h3:(x==("above":Str))=false)(h4:(x==("below":Str))=false):(rA g).lookup x=none:=by
 unfold rA;rw[bH,h1,bH,h2,bH,h3,bH,h4];rfl
structure lT(C:Addr)(H:Hp)(g:oH)(aD:List Rw)(aX:List xM)(ls:List Ln):Prop where
 ins:∃dx,H g.r=some (.ins C dx (rA g))
 lin:∃ws,H g.la=some (.lst ws)/\jZ H ls ws
 plc:H g.pa=some (.dT (rN ls 0))
 abv:∃as,H g.aa=some (.lst (as.map nV))/\MkA (2*aD.length) (λa b=>zR ls a b) as
 blw:∃as,H g.ba=some (.lst (as.map nV))/\MkA (2*aD.length) (λa b=>zR ls b a) as
 ne:g.la≠g.aa/\g.la≠g.ba/\g.aa≠g.ba
 ok:LM aD aX ls
def fT(g:oH)(H H':Hp):Prop:=∀b o,H b=some o->b≠g.la->b≠g.pa->b≠g.aa->b≠g.ba->H' b=some o
theorem fT.trans{g:oH}{H1 H2:Hp}(a:fT g H H1)(b:fT g H1 H2):fT g H H2:=λc o h n1 n2 n3 n4=>b c o (a c o h n1 n2 n3 n4) n1 n2 n3 n4
theorem bA.g{g:oH}(a:bA H H'):fT g H H':=λc o h _ _ _ _=>a c o h
theorem lT.same{C:Addr}{g:oH}{ls:List Ln}(e:bA H H')(h:lT C H g aD aX ls):lT C H' g aD aX ls:=by
 obtain⟨⟨dx,h1⟩,⟨ws,h2,h3⟩,h4,⟨as,h5,h6⟩,⟨bs,h7,h8⟩,h9,h10⟩:=h;exact⟨⟨dx,e _ _ h1⟩,⟨ws,e _ _ h2,bG.same e h3⟩,e _ _ h4,⟨as,e _ _ h5,h6⟩,⟨bs,e _ _ h7,h8⟩,h9,h10⟩
theorem lT.tups{C:Addr}{g:oH}{ls:List Ln}(h:lT C H g aD aX ls)(e:fT g H H'):cT H H':=λb xs hb=>by
 obtain⟨ws,h2,_⟩:=h.lin;obtain⟨as,h5,_⟩:=h.abv;obtain⟨bs,h7,_⟩:=h.blw;exact e b _ hb (jK hb h2 (by intro z;cases z)) (jK hb h.plc (by intro z;cases z)) (jK hb h5 (by intro z;cases z)) (jK hb h7 (by intro z;cases z))
theorem ou{ps:List Int}(h:eA H (sf (.ps ps)) v):∃a,v=.ref a/\H a=some (.tup (ps.map V.int)):=by
 obtain⟨a,us,e1,e2,e3⟩:=h;have go:∀{ps:List Int}{us:List V},bG H (ps.map Dt.int) us->us=ps.map V.int:=λ{ps}=>by
  induction ps with
  |nil=>exact λh=>h
  |cons n ns ih=>
   intro us h;obtain⟨v,r,e1,e2,e3⟩:=h;have e2:v=.int n:=e2;rw[e1,e2,ih e3];rfl
 rw[go e3]at e2;exact⟨a,e1,e2⟩
theorem sn{a:Addr}{ps:List Int}(h:H a=some (.tup (ps.map V.int))):eA H (sf (.ps ps)) (.ref a):=by
 refine⟨a,_,rfl,h,?_⟩;clear h
 induction ps with
 |nil=>rfl
 |cons n ns ih=>exact⟨_,_,rfl,rfl,ih⟩
theorem OP{x:Str}(h:eA H (ZH x as) v):∃a us,v=.ref a/\H a=some (.tup (.str x::us))/\JH H as us:=by
 obtain⟨a,vs,e1,e2,u,r,e3,h1,h2⟩:=h;have h1:u=.str x:=h1;subst h1 e3;exact⟨a,r,e1,e2,h2⟩
theorem TR(h:eA H (NM l) v):∃a u,v=.ref a/\H a=some (.tup [.int l.i,.int l.j,u])/\eA H (ZH l.w l.as) u:=by
 obtain⟨a,vs,e1,e2,u1,r1,rfl,d1,u2,r2,rfl,d2,u3,r3,rfl,d3,d4⟩:=h;have d1:u1=.int l.i:=d1;have d2:u2=.int l.j:=d2;have d4:r3=[]:=d4;subst d1 d2 d4;exact⟨a,u3,e1,e2,d3⟩
theorem so{i j:Int}{x:Str}{a:Addr}{u:V}(h:H a=some (.tup [.int i,.int j,u]))(hu:eA H (ZH x as) u):eA H (NM ⟨i,j,x,as⟩) (.ref a):=
 ⟨a,_,rfl,h,_,_,rfl,rfl,_,_,rfl,rfl,_,_,rfl,hu,rfl⟩
theorem YU{H H':Hp}(e:cT H H'):∀{as:List Wt}{us:List V},JH H as us->JH H' as us
 |[],us,h=>h
 | .n i::as,us,h=>by
   obtain⟨v,r,e1,e2,e3⟩:=h;exact⟨v,r,e1,e2,YU e e3⟩
 | .ps l::as,us,h=>by
   obtain⟨v,r,e1,e2,e3⟩:=h;obtain⟨a,rfl,g2⟩:=ou e2;exact⟨_,r,e1,sn (e _ _ g2),YU e e3⟩
theorem tJ(e:cT H H'){x:Str}(h:eA H (ZH x as) v):eA H' (ZH x as) v:=by
 obtain⟨b,us,rfl,h3,h4⟩:=OP h;exact⟨b,_,rfl,e _ _ h3,_,_,rfl,rfl,YU e h4⟩
theorem gv(e:cT H H')(h:eA H (NM l) v):eA H' (NM l) v:=by
 obtain⟨a,u,rfl,h1,h2⟩:=TR h;exact so (e _ _ h1) (tJ e h2)
theorem vG{H H':Hp}(e:cT H H'):∀{ls:List Ln}{us:List V},jZ H ls us->jZ H' ls us
 |[],us,h=>h
 |l::ls,us,h=>by
  obtain⟨v,r,e1,e2,e3⟩:=h;exact⟨v,r,e1,gv e e2,vG e e3⟩
theorem YM{p:Nat}(h:p<n):NC n (p:Int)=some p:=by
 unfold NC;rw[aL (),aL (),cE]
inductive EB (C:Addr) (vs:List V) (H:Hp) (Q:VK) (E:XK):Prop
 |mk (g:oH) (aD:List Rw) (aX:List xM) (ls:List Ln) (i j:Int) (_:vs=[.ref g.r,.int i,.int j]) (_:lT C H g aD aX ls) (_:zR ls i j=true) (_:∀(p:Nat)(l:Ln) H',bA H H'->ls[p]?=some l->l.i=i->l.j=j->Q (.int p) H')
inductive PU (C:Addr) (vs:List V) (H:Hp) (Q:VK) (E:XK):Prop
 |mk (g:oH) (aD:List Rw) (aX:List xM) (ls:List Ln) (i j:Int) (_:vs=[.ref g.r,.int i,.int j]) (_:lT C H g aD aX ls) (_:∀H',bA H H'->Q (.bl (zR ls i j)) H')
def jn(C:Addr)(H:Hp)(g:oH)(aD:List Rw)(aX:List xM)(ls:List Ln)(H':Hp):Prop:=fT g H H'/\∃t,lT C H' g aD aX (ls++t)
def mF(C:Addr)(H:Hp)(g:oH)(aD:List Rw)(aX:List xM)(ls:List Ln)(R:List Ln->Prop)(H':Hp):Prop:=fT g H H'/\∃t,lT C H' g aD aX (ls++t)/\R (ls++t)
inductive rP (C:Addr) (vs:List V) (H:Hp) (Q:VK) (E:XK):Prop
 |mk (g:oH) (aD:List Rw) (aX:List xM) (ls:List Ln) (i j:Nat) (wv:V) (x:Str) (as:List Wt) (_:vs=[.ref g.r,.int i,.int j,wv]) (_:lT C H g aD aX ls) (_:aD.length<=100) (_:eA H (ZH x as) wv) (_:xQ aD aX ls ls.length ⟨i,j,x,as⟩=true) (_:OW as) (_:∀H',mF C H g aD aX ls (λL=>zR L i j=true) H'->Q .non H')
theorem FB{C:Addr}(T:OF K C)(F:gI K "line_of" "Growth.line_of" s_a f fd):dI P w K mg base fZ 1 f fd ["self","i","j"] (EB C):=by
 refine F.okz sc_a λfD A outer s H vs Q E hr h=>?_
 obtain⟨g,aD,aX,ls,i,j,rfl,hg,hh,q⟩:=h;obtain⟨dx,hi⟩:=hg.ins;refine⟨_,(zG (zO (YK (xT hr) (xC (pv 0) rfl) (zQ (zA (pv 1) (zA (pv 2) zC))) (λ_ _=>rfl)))),?_⟩;dsimp![xZ];refine⟨C,dx,_,hi,T.cl,T.nP,_,qz g,small (by simp),λp hp=>?_⟩;have s1:=zF hp (.tup [.int i,.int j]);rcases YI (i:=i) (j:=j) ls 0 with⟨h1,_⟩ |⟨p',l,h1,h2,h3,h4⟩
 ·rw[hh]at h1;cases h1
 rw[iE]at h4;exact⟨g.pa,rfl,_,.inr ⟨_,xF i j,p,.inl (s1 _ _ hg.plc),rfl,zB,h4.symm⟩,q p' l _ s1 h1 h2 h3⟩
theorem pz{C:Addr}(T:OF K C)(F:gI K "has" "Growth.has" s_D f fd):dI P w K mg base fZ 1 f fd ["self","i","j"] (PU C):=by
 refine F.okz sc_D λfD A outer s H vs Q E hr h=>?_
 obtain⟨g,aD,aX,ls,i,j,rfl,hg,q⟩:=h;obtain⟨dx,hi⟩:=hg.ins;refine⟨_,(zG (zO (oz (XJ (xT hr) (zQ (zA (pv 1) (zA (pv 2) zC))) (xC (pv 0) rfl)) (by with_unfolding_all rfl)))),?_⟩;dsimp![xZ,LY];refine⟨small (by simp),λp hp=>?_⟩;have s1:=zF hp (.tup [.int i,.int j]);refine⟨C,dx,_,s1 _ _ hi,T.cl,T.nP,_,qz g,g.pa,rfl,_,.inr ⟨_,xF i j,p,.inl (s1 _ _ hg.plc),rfl,zB,rfl⟩,?_⟩;have e:(yM (rN ls 0) (xF i j)).isSome=zR ls i j:=by
  rcases YI (i:=i) (j:=j) ls 0 with⟨h1,h2⟩ |⟨p',l,h1,h2,h3,h4⟩
  ·rw[h1,h2];rfl
  ·rw[h4,eZ.mpr ⟨p',l,h1,h2,h3⟩];rfl
 rw[e];exact q _ s1
theorem fu{C:Addr}(T:OF K C)(bi:Bi mg)(h_D:lC P w K mg base 1 C "has" ["self","i","j"] (PU C))(F:gI K "grow" "Growth.grow" s_d f fd):dI P w K mg base fZ 2 f fd ["self","i","j","why"] (rP C):=by
 refine F.okz sc_d λfD A outer s H vs Q E hr h=>?_
 obtain⟨g,aD,aX,ls,i,j,wv,x,as,rfl,hg,h30,hw,hst,how,q⟩:=h;have cU:=T.cl;obtain⟨dx,hi⟩:=hg.ins;have eQ:=hg.ok.len;have hlen2:ls.length<=40000:=by
  have :2*aD.length*(2*aD.length)<=200*200:=Nat.mul_le_mul () ();lia
 obtain⟨⟨i0,i1⟩,j0,j1⟩:=uC hst;have i1:(i:Int)<2*(aD.length:Int):=i1;have j1:(j:Int)<2*(aD.length:Int):=j1;refine⟨_,(zD (yK (XG (zY h_D cU hr.m (pv 0) (zA (pv 1) (zA (pv 2) zC)))) (zG IH) zZ) (zD (UP (xT hr) (xC (pv 0) rfl) (zQ (zA (pv 1) (zA (pv 2) zC))) (yC yL rfl bi.len xE (zA (xC (pv 0) rfl) zC)) rfl) (zD (zU (jD bT cL cK yU (xC (pv 0) rfl) (zA (zQ (zA (pv 1) (zA (pv 2) (zA (pv 3) zC)))) zC))) (zD (YH (xC (pv 0) rfl) (pv 1) kJ (zN kY zE (pv 2)) BY wV) (zG (YH (xC (pv 0) rfl) (pv 2) kJ (zN kY zE (pv 1)) BY wV)))))),?_⟩;refine zH λN hN=>?_
 dsimp![yV];refine⟨_,_,hi,qW g () () () (),?_⟩;refine⟨g,aD,aX,ls,i,j,rfl,hg,λH1 s1=>⟨_,rfl,?_⟩⟩;cases hb:zR ls i j with
 |true=>
  rw[aL rfl];exact q _ ⟨bA.g s1,[],by rw[cN];exact⟨hg.same s1,hb⟩⟩
 |false=>
  rw[aH bQ];refine hN _ _ ?_;clear hN;replace hg:=hg.same s1;replace hi:=s1 _ _ hi;replace hw:=eA.same s1 hw;have h4':=hg.plc;obtain⟨⟨_,_⟩,⟨ws,h2,h3⟩,h4,⟨bs,h5,h6⟩,⟨cs,h7,h8⟩,⟨n1,n2,n3⟩,h10⟩:=hg;have hwl:=uB h3;have hpar:g.pa≠g.r:=jK h4 hi (by intro z;cases z);have hlar:g.la≠g.r:=jK h2 hi (by intro z;cases z);have haar:g.aa≠g.r:=jK h5 hi (by intro z;cases z);have hbar:g.ba≠g.r:=jK h7 hi (by intro z;cases z);have hpla:g.pa≠g.la:=jK h4 h2 (by intro z;cases z);have hpaa:g.pa≠g.aa:=jK h4 h5 (by intro z;cases z);have hpba:g.pa≠g.ba:=jK h4 h7 (by intro z;cases z);refine zH λN hN=>?_
  dsimp![xZ,HW];have sz:∀{n:Nat},n<=40000->n<sizeLine:=λh=>fH (m:=100000) () ()
  refine⟨C,dx,_,hi,T.cl,T.nL,_,NH g,ws.length,.inl ⟨_,dL.of h2,rfl⟩,C,dx,_,hi,T.cl,T.nP,_,qz g,small (by simp),λp hp=>?_⟩;have s2:=zF hp (.tup [.int (i:Int),.int (j:Int)]);have kp:upd H1 p (.tup [.int (i:Int),.int (j:Int)]) p=some (.tup [.int (i:Int),.int (j:Int)]):=zB;generalize upd H1 p (.tup [.int (i:Int),.int (j:Int)])=H2 at s2 kp⊢;refine⟨g.pa,rfl,_,.inr ⟨_,xF i j,p,s2 _ _ h4,rfl,kp,by rw[IK];exact sz hlen2,rfl⟩,hN _ _ ?_⟩;clear hN;have vn:yM (rN ls 0) (xF i j)=none:=by
   rcases YI (i:=i) (j:=j) ls 0 with⟨_,h⟩ |⟨p',l,g1,g2,g3,_⟩
   ·exact h
   ·have :=eZ.mpr ⟨p',l,g1,g2,g3⟩;rw[hb]at this;cases this
  rw[wZ vn];have ep:rN ls 0++[(xF i j,V.int (ws.length:Int))]=rN (ls++[⟨i,j,x,as⟩]) 0:=by rw[AJ,iE,hwl]
  rw[ep];have g3:fT g H1 (upd H2 g.pa (.dT (rN (ls++[⟨i,j,x,as⟩]) 0))):=λb o hb _ n _ _=>by rw[zJ n];exact s2 _ _ hb
  have e1:∀{b:Addr}{o:HO},H1 b=some o->b≠g.pa->upd H2 g.pa (.dT (rN (ls++[⟨i,j,x,as⟩]) 0)) b=some o:=λhb n=>by rw[zJ n];exact s2 _ _ hb
  replace hi:=e1 hi (cH hpar);replace h2:=e1 h2 (cH hpla);replace h5:=e1 h5 (cH hpaa);replace h7:=e1 h7 (cH hpba);clear e1;replace h4:upd H2 g.pa (.dT (rN (ls++[⟨i,j,x,as⟩]) 0)) g.pa=some (.dT (rN (ls++[⟨i,j,x,as⟩]) 0)):=zB;have tu:cT H1 (upd H2 g.pa (.dT (rN (ls++[⟨i,j,x,as⟩]) 0))):=λb xs hb=>by
   have hb2:=s2 _ _ hb;rw[zJ (jK hb h4' (by intro z;cases z))];exact hb2
  generalize upd H2 g.pa (.dT (rN (ls++[⟨i,j,x,as⟩]) 0))=H3 at g3 hi h2 h5 h7 h4 tu⊢;replace h3:=vG tu h3;replace hw:=tJ tu hw;clear kp s2 hp vn ep tu;refine zH λN hN=>?_
  dsimp![xZ];refine⟨C,dx,_,hi,T.cl,T.nL,_,NH g,.inl ⟨rfl,_,dL.of h2⟩,small (by simp),λpt hpt=>?_⟩;have s2:=zF hpt (.tup [.int (i:Int),.int (j:Int),wv]);have kt:upd H3 pt (.tup [.int (i:Int),.int (j:Int),wv]) pt=some (.tup [.int (i:Int),.int (j:Int),wv]):=zB;generalize upd H3 pt (.tup [.int (i:Int),.int (j:Int),wv])=H4 at s2 kt⊢;refine⟨g.la,rfl,_,s2 _ _ h2,sz (),hN _ _ ?_⟩;clear hN;have e1:∀{b:Addr}{o:HO},H3 b=some o->b≠g.la->upd H4 g.la (.lst (ws++[.ref pt])) b=some o:=λhb n=>by rw[zJ n];exact s2 _ _ hb
  have g4:fT g H3 (upd H4 g.la (.lst (ws++[.ref pt]))):=λb o hb n _ _ _=>e1 hb n
  have tu:cT H4 (upd H4 g.la (.lst (ws++[.ref pt]))):=(cT.refl _).upd_lst (s2 _ _ h2);have h3':jZ (upd H4 g.la (.lst (ws++[.ref pt]))) (ls++[⟨i,j,x,as⟩]) (ws++[.ref pt]):=by
   refine vG tu ?_;unfold jZ;rw[aU];exact bG.append (bG.same s2 h3) (bG.one (so kt (eA.same s2 hw)))
  replace hi:=e1 hi (cH hlar);replace h4:=e1 h4 hpla;replace h5:=e1 h5 (cH n1);replace h7:=e1 h7 (cH n2);have h2':upd H4 g.la (.lst (ws++[.ref pt])) g.la=some (.lst (ws++[.ref pt])):=zB;replace g3:=g3.trans g4;generalize upd H4 g.la (.lst (ws++[.ref pt]))=H5 at g3 hi h4 h5 h7 h2' h3'⊢;clear e1 g4 tu kt s2 hpt h2 h3 hw;have li:i<bs.length:=by rw[h6.len];lia
  have lj:j<cs.length:=by rw[h8.len];lia
  have gi:=aA li;have gj:=aA lj;generalize bs[i]=ci at gi;generalize cs[j]=cj at gj;have mset:∀(cs:List Nat)(i v:Nat),(cs.map nV).set i (V.int (v:Int))=(cs.set i v).map nV:=λcs i v=>(List.map_set (f:=nV) (l:=cs) (i:=i) (a:=v)).symm
  refine zH λN hN=>?_
  dsimp![HN,xZ,IE,VX,ID];refine⟨C,dx,_,hi,T.cl,T.nA,_,WB g,g.aa,rfl,_,i,rfl,h5,nV ci,by rw[aK,gi];rfl,⟨(),(),()⟩,_,rfl,g.aa,rfl,_,h5,i,YM (by rw[aE];exact li),hN _ _ ?_⟩;clear hN;rw[vU j,kF,mset];have bc:∀a b:Nat,(((a:Nat):Int)==((b:Nat):Int))=(b==a):=λa b=>by
   rw[cD,cS,cS];lia
  have e1:∀{b:Addr}{o:HO},H5 b=some o->b≠g.aa->upd H5 g.aa (.lst ((bs.set i (ci|||2^j)).map nV)) b=some o:=λhb n=>by rw[zJ n];exact hb
  have g4:fT g H5 (upd H5 g.aa (.lst ((bs.set i (ci|||2^j)).map nV))):=λb o hb _ _ n _=>e1 hb n
  have tu:cT H5 (upd H5 g.aa (.lst ((bs.set i (ci|||2^j)).map nV))):=(cT.refl _).upd_lst h5;replace h3':=vG tu h3';replace hi:=e1 hi (cH haar);replace h4:=e1 h4 hpaa;replace h2':=e1 h2' n1;replace h7:=e1 h7 (cH n3);have h5':upd H5 g.aa (.lst ((bs.set i (ci|||2^j)).map nV)) g.aa=some (.lst ((bs.set i (ci|||2^j)).map nV)):=zB;replace g3:=g3.trans g4;generalize upd H5 g.aa (.lst ((bs.set i (ci|||2^j)).map nV))=H6 at g3 hi h4 h5' h7 h2' h3'⊢;clear e1 g4 tu h5;dsimp![HN,xZ,IE,VX,ID];refine⟨C,dx,_,hi,T.cl,T.nB,_,q9 g,g.ba,rfl,_,j,rfl,h7,nV cj,by rw[aK,gj];rfl,⟨(),(),()⟩,_,rfl,g.ba,rfl,_,h7,j,YM (by rw[aE];exact lj),?_⟩;rw[vU i,kF,mset];have e1:∀{b:Addr}{o:HO},H6 b=some o->b≠g.ba->upd H6 g.ba (.lst ((cs.set j (cj|||2^i)).map nV)) b=some o:=λhb n=>by rw[zJ n];exact hb
  have g4:fT g H6 (upd H6 g.ba (.lst ((cs.set j (cj|||2^i)).map nV))):=λb o hb _ _ _ n=>e1 hb n
  have tu:cT H6 (upd H6 g.ba (.lst ((cs.set j (cj|||2^i)).map nV))):=(cT.refl _).upd_lst h7;refine q _ ⟨((bA.g s1).trans g3).trans g4,[⟨i,j,x,as⟩],⟨⟨⟨dx,e1 hi (cH hbar)⟩,⟨_,e1 h2' n2,vG tu h3'⟩,e1 h4 hpba,⟨_,e1 h5' n3,h6.put gi λa b=>?_⟩,⟨_,zB,h8.put gj λa b=>?_⟩,⟨n1,n2,n3⟩,h10.put hb hst how⟩,by show zR (ls++[⟨i,j,x,as⟩]) i j=true;rw[vL,XZ];simp⟩⟩
  ·rw[vL,XZ];show(zR ls a b ||(((i:Nat):Int)==((a:Nat):Int)&&((j:Nat):Int)==((b:Nat):Int)))=_;rw[bc,bc]
  ·rw[vL,XZ];show(zR ls b a ||(((i:Nat):Int)==((b:Nat):Int)&&((j:Nat):Int)==((a:Nat):Int)))=_;rw[bc,bc,Bool.and_comm]
theorem XF(m:Nat):(List.replicate m [V.int 0]).flatten=(List.replicate m 0).map nV:=by
 induction m with
 |zero=>rfl
 |succ m ih=>
  rw[fN,mM,ih,fN,cF];rfl
theorem TK(n:Nat)(hp:Nat->Nat->Bool)(h:∀a b,hp a b=false):MkA n hp (List.replicate n 0):=⟨rL ..,λa c hc b=>by
 obtain⟨_,e⟩:=aC.mp hc;rw[List.getElem_replicate]at e;subst e;rw[h];simp⟩
inductive m3 (C:Addr) (vs:List V) (H:Hp) (Q:VK) (E:XK):Prop
 |mk (r dx:Addr) (aD:List Rw) (aX:List xM) (_:vs=[.ref r,.int ((2*aD.length:Nat):Int)]) (_:H r=some (.ins C dx [])) (_:aD.length<=100) (_:∀(g:oH) H',g.r=r->fL r H H'->H g.la=none->H g.pa=none->H g.aa=none->H g.ba=none->lT C H' g aD aX []->Q .non H')
theorem xL{r l:Addr}{o:HO}(e:fL r H H')(h:H l=none):fL r H (upd H' l o):=λb u hb n=>by
 have :b≠l:=λz=>by rw[z,h]at hb;cases hb
 rw[zJ this];exact e b u hb n
theorem qH{r l:Addr}(e:fL r H H')(h:H' l=none)(n:l≠r):H l=none:=by
 cases hl:H l with
 |none=>rfl
 |some o=>have :=e l o hl n;rw[h]at this;cases this
theorem SR{C:Addr}(T:OF K C)(F:gI K "__init__" "Growth.__init__" s_A f fd):dI P w K mg base fZ 1 f fd ["self","many"] (m3 C):=by
 refine F.okz sc_A λfD A outer s H vs Q E hr h=>?_
 obtain⟨r,dx,aD,aX,rfl,mB,h30,q⟩:=h;generalize hn:2*aD.length=n at q;have n60:n<=200:=by lia
 have step:∀{H':Hp}{b:Addr}{u:HO},H' r=some u->H' b=none->b≠r:=λh1 h2 z=>by rw[z,h1]at h2;cases h2
 refine⟨_,(zD (kW (pv 0) (xH zC) rfl) (zD (kW (pv 0) AQ rfl) (zD (kW (pv 0) (zN EU (xH (zA zE zC)) (pv 1)) rfl) (zG (kW (pv 0) (zN EU (xH (zA zE zC)) (pv 1)) rfl))))),?_⟩;refine zH λN hN=>?_
 dsimp![EG];refine⟨small (by simp),λla hla=>?_⟩;have nla:=step mB hla;refine⟨C,dx,[],by rw[zJ (cH nla)];exact mB,T.cl,T.nL,(),hN _ _ ?_⟩;clear hN;have x1:fL r H (upd (upd H la (.lst [])) r (.ins C dx (xA "lines" (.ref la) []))):=fL.upd (xL (fL.refl r H) hla);have k1:upd (upd H la (.lst [])) r (.ins C dx (xA "lines" (.ref la) [])) r=some (.ins C dx (xA "lines" (.ref la) [])):=zB;have l1:upd (upd H la (.lst [])) r (.ins C dx (xA "lines" (.ref la) [])) la=some (.lst []):=by rw[zJ nla];exact zB
 generalize upd (upd H la (.lst [])) r (.ins C dx (xA "lines" (.ref la) []))=H1 at x1 k1 l1⊢;refine zH λN hN=>?_
 dsimp![EG,DY];refine λpa hpa=>?_
 have npa:=step k1 hpa;have hpa0:=qH x1 hpa npa;refine⟨C,dx,_,by rw[zJ (cH npa)];exact k1,T.cl,T.nP,by show 1<1000;decide,hN _ _ ?_⟩;clear hN;have npl:pa≠la:=λz=>by rw[z,l1]at hpa;cases hpa
 have x2:fL r H (upd (upd H1 pa (.dT [])) r (.ins C dx (xA "places" (.ref pa) (xA "lines" (.ref la) [])))):=fL.upd (xL x1 hpa0);have k2:upd (upd H1 pa (.dT [])) r (.ins C dx (xA "places" (.ref pa) (xA "lines" (.ref la) []))) r=some (.ins C dx (xA "places" (.ref pa) (xA "lines" (.ref la) []))):=zB;have l2:upd (upd H1 pa (.dT [])) r (.ins C dx (xA "places" (.ref pa) (xA "lines" (.ref la) []))) la=some (.lst []):=by rw[zJ nla,zJ (cH npl)];exact l1
 have p2:upd (upd H1 pa (.dT [])) r (.ins C dx (xA "places" (.ref pa) (xA "lines" (.ref la) []))) pa=some (.dT []):=by rw[zJ npa];exact zB
 generalize upd (upd H1 pa (.dT [])) r (.ins C dx (xA "places" (.ref pa) (xA "lines" (.ref la) [])))=H2 at x2 k2 l2 p2⊢;refine zH λN hN=>?_
 dsimp![EG,dr];refine⟨small (by simp),λp0 hp0=>⟨[V.int 0],zB,(),(),small (by simp;lia),λaa haa=>?_⟩⟩;have np0:=step k2 hp0;have naa0:aa≠p0:=λz=>by rw[z,zB]at haa;cases haa
 rw[zJ naa0]at haa;have naa:=step k2 haa;refine⟨C,dx,_,by rw[zJ (cH naa),zJ (cH np0)];exact k2,T.cl,T.nA,by show 2<1000;decide,hN _ _ ?_⟩;clear hN;rw[cE,XF];have nal:aa≠la:=λz=>by rw[z,l2]at haa;cases haa
 have nap:aa≠pa:=λz=>by rw[z,p2]at haa;cases haa
 have n0l:p0≠la:=λz=>by rw[z,l2]at hp0;cases hp0
 have n0p:p0≠pa:=λz=>by rw[z,p2]at hp0;cases hp0
 have haa0:=qH x2 haa naa;have hp00:=qH x2 hp0 np0;generalize hfs:xA "above" (V.ref aa) (xA "places" (V.ref pa) (xA "lines" (V.ref la) []))=fs3;have x3:fL r H (upd (upd (upd H2 p0 (.lst [.int 0])) aa (.lst ((List.replicate n 0).map nV))) r (.ins C dx fs3)):=fL.upd (xL (xL x2 hp00) haa0);have k3:upd (upd (upd H2 p0 (.lst [.int 0])) aa (.lst ((List.replicate n 0).map nV))) r (.ins C dx fs3) r=some (.ins C dx fs3):=zB;have l3:upd (upd (upd H2 p0 (.lst [.int 0])) aa (.lst ((List.replicate n 0).map nV))) r (.ins C dx fs3) la=some (.lst []):=by rw[zJ nla,zJ (cH nal),zJ (cH n0l)];exact l2
 have p3:upd (upd (upd H2 p0 (.lst [.int 0])) aa (.lst ((List.replicate n 0).map nV))) r (.ins C dx fs3) pa=some (.dT []):=by rw[zJ npa,zJ (cH nap),zJ (cH n0p)];exact p2
 have a3:upd (upd (upd H2 p0 (.lst [.int 0])) aa (.lst ((List.replicate n 0).map nV))) r (.ins C dx fs3) aa=some (.lst ((List.replicate n 0).map nV)):=by rw[zJ naa];exact zB
 generalize upd (upd (upd H2 p0 (.lst [.int 0])) aa (.lst ((List.replicate n 0).map nV))) r (.ins C dx fs3)=H3 at x3 k3 l3 p3 a3⊢;dsimp![EG,dr];refine⟨small (by simp),λq0 hq0=>⟨[V.int 0],zB,(),(),small (by simp;lia),λba hba=>?_⟩⟩;have nq0:=step k3 hq0;have nba0:ba≠q0:=λz=>by rw[z,zB]at hba;cases hba
 rw[zJ nba0]at hba;have nba:=step k3 hba;refine⟨C,dx,_,by rw[zJ (cH nba),zJ (cH nq0)];exact k3,T.cl,T.nB,by rw[←hfs];show 3<1000;decide,?_⟩;rw[cE,XF];have nbl:ba≠la:=λz=>by rw[z,l3]at hba;cases hba
 have nbp:ba≠pa:=λz=>by rw[z,p3]at hba;cases hba
 have nb1:ba≠aa:=λz=>by rw[z,a3]at hba;cases hba
 have n1l:q0≠la:=λz=>by rw[z,l3]at hq0;cases hq0
 have n1p:q0≠pa:=λz=>by rw[z,p3]at hq0;cases hq0
 have n1a:q0≠aa:=λz=>by rw[z,a3]at hq0;cases hq0
 have hba0:=qH x3 hba nba;have hq00:=qH x3 hq0 nq0;rw[←hfs];refine q ⟨r,la,pa,aa,ba⟩ _ rfl (fL.upd (xL (xL x3 hq00) hba0)) hla hpa0 haa0 hba0 ⟨⟨dx,zB⟩,⟨[],?_,rfl⟩,?_,⟨_,?_,TK _ _ λa b=>rfl⟩,⟨_,?_,TK _ _ λa b=>rfl⟩,⟨cH nal,cH nbl,cH nb1⟩,⟨λk l h=>(by cases h),λa b x y h=>(by cases h),λl h=>(by cases h)⟩⟩
 ·show upd _ r _ la=_;rw[zJ nla,zJ (cH nbl),zJ (cH n1l)];exact l3
 ·show upd _ r _ pa=_;rw[zJ npa,zJ (cH nbp),zJ (cH n1p)];exact p3
 ·show upd _ r _ aa=_;rw[zJ naa,zJ (cH nb1),zJ (cH n1a),hn];exact a3
 ·show upd _ r _ ba=_;rw[zJ nba,zB,hn]
abbrev n0:Stmt:=top 31
theorem HU:cC ["growth","sheet","n","k","row"] ["growth","sheet"] (zK n0):=by rfl'
abbrev s_k:Stmt:=top 32
theorem da:cC ["sheet","boths","k","row"] ["sheet"] (zK s_k):=by rfl'
abbrev s_b:Stmt:=top 33
theorem PY:cC ["rules","waiting","r","rule","premise"] ["rules"] (zK s_b):=by rfl'
theorem jn.then{C:Addr}{H'':Hp}{g:oH}{ls t:List Ln}(h:fT g H H')(h':jn C H' g aD aX (ls++t) H''):jn C H g aD aX ls H'':=by
 obtain⟨h1,t',h2⟩:=h';exact⟨h.trans h1,t++t',by rw[←cM];exact h2⟩
theorem mF.to{C:Addr}{g:oH}{ls:List Ln}(h:mF C H g aD aX ls R H'):jn C H g aD aX ls H':=by
 obtain⟨h1,t,h2,_⟩:=h;exact⟨h1,t,h2⟩
theorem mF.same{C:Addr}{H'':Hp}{g:oH}{ls:List Ln}(h:mF C H g aD aX ls R H')(e:bA H' H''):mF C H g aD aX ls R H'':=by
 obtain⟨h1,t,h2,h3⟩:=h;exact⟨h1.trans (bA.g e),t,h2.same e,h3⟩
theorem mF.pre{C:Addr}{H'':Hp}{g:oH}{ls:List Ln}(e:bA H H')(h:mF C H' g aD aX ls R H''):mF C H g aD aX ls R H'':=by
 obtain⟨h1,h2⟩:=h;exact⟨(bA.g e).trans h1,h2⟩
theorem mF.refl{C:Addr}{g:oH}{ls:List Ln}(h:lT C H g aD aX ls)(hR:R ls):mF C H g aD aX ls R H:=⟨λ_ _ hb _ _ _ _=>hb,[],by rw[cN];exact⟨h,hR⟩⟩
def Le(ls L:List Ln):Prop:=∃t,L=ls++t
theorem Le.refl(ls:List Ln):Le ls ls:=⟨[],(cN _).symm⟩
theorem Le.trans{a b c:List Ln}(h:Le a b)(h':Le b c):Le a c:=by
 obtain⟨t,rfl⟩:=h;obtain⟨t',rfl⟩:=h';exact⟨t++t',by rw[cM]⟩
theorem Le.has{a b:List Ln}(h:Le a b){i j:Int}(hh:zR a i j=true):zR b i j=true:=by
 obtain⟨t,rfl⟩:=h;rw[vL,hh,Bool.true_or]
theorem mF.then{C:Addr}{H'':Hp}{g:oH}{ls t:List Ln}{R':List Ln->Prop}(h:fT g H H')(h':mF C H' g aD aX (ls++t) R H'')(i:∀L,Le (ls++t) L->R L->R' L):mF C H g aD aX ls R' H'':=by
 obtain⟨h1,t',h2,h3⟩:=h';rw[cM]at h2 h3;exact⟨h.trans h1,t++t',h2,i _ ⟨t',by rw[cM]⟩ h3⟩
def JR(g:oH)(a:Addr):Prop:=a≠g.la/\a≠g.pa/\a≠g.aa/\a≠g.ba
theorem fT.out{g:oH}{a:Addr}{o:HO}(e:fT g H H')(n:JR g a)(h:H a=some o):H' a=some o:=e a o h n.1 n.2.1 n.2.2.1 n.2.2.2
theorem PL{ls:List Ln}{x:Str}(hi:i<2*aD.length)(hj:j<2*aD.length)(hx:x≠"rule")(hn:QH x=some 0)(h:yZ aD i j x []=true):xQ aD aX ls ls.length ⟨i,j,x,[]⟩=true:=by
 unfold xQ;rw[aH (by
  intro z;rcases z with z |z
  ·exact z ⟨by show(0:Int)<=(i:Int);lia,by show(i:Int)<_;lia⟩
  ·exact z ⟨by show(0:Int)<=(j:Int);lia,by show(j:Int)<_;lia⟩),aH hx,aL ⟨hn,rfl⟩]
 exact h
theorem ow0:OW []:=⟨by simp,λps h=>by cases h⟩
theorem wQ{C:Addr}{H2:Hp}{g:oH}{ls t:List Ln}(hs:fT g H H')(hg:lT C H' g aD aX (ls++t))(iA:aD.length<=100)(e:bA H' H2){x:Str}{wv:V}(hw:eA H2 (ZH x as) wv)(hst:xQ aD aX (ls++t) (ls++t).length ⟨i,j,x,as⟩=true)(ho:OW as){Q:VK}{E:XK}(hR:∀L,Le (ls++t) L->zR L i j=true->R L)(q:∀v H3,mF C H g aD aX ls R H3->Q v H3):
 rP C [.ref g.r,.int i,.int j,wv] H2 Q E:=
 ⟨g,aD,aX,_,i,j,wv,x,as,rfl,hg.same e,iA,hw,hst,ho,λH3 g3=>q _ _ (mF.then (hs.trans (bA.g e)) g3 hR)⟩
theorem vM{C:Addr}{g:oH}{ls t:List Ln}(hs:fT g H H')(hg:lT C H' g aD aX (ls++t))(iA:aD.length<=100)(hi:i<2*aD.length)(hj:j<2*aD.length){x:Str}(hx:x≠"rule")(hn:QH x=some 0)(hst:yZ aD i j x []=true)(hp:H' p=none){Q:VK}{E:XK}(hR:∀L,Le (ls++t) L->zR L i j=true->R L)(q:∀v H2,mF C H g aD aX ls R H2->Q v H2):
 rP C [.ref g.r,.int i,.int j,.ref p] (upd H' p (.tup [.str x])) Q E:=
 wQ hs hg iA (zF hp _) (x:=x) (as:=[]) ⟨p,_,rfl,zB,_,_,rfl,rfl,rfl⟩ (PL hi hj hx hn hst) ow0 hR q
structure Pl(aD:List Rw)(n m:Nat)(L:List Ln):Prop where
 same:∀x:Nat,x<n->zR L x x=true
 low:∀x:Nat,x<n->zR L 0 x=true
 high:∀x:Nat,x<n->zR L x 1=true
 part:∀(k:Nat)(a b:Int),k<m->aD[k]?=some (.bo a b)->zR L ((2*k:Nat):Int) a=true/\zR L ((2*k:Nat):Int) b=true
theorem Pl.le{m:Nat}{L L':List Ln}(h:Pl aD n m L)(e:Le L L'):Pl aD n m L':=⟨λx hx=>e.has (h.same x hx),λx hx=>e.has (h.low x hx),λx hx=>e.has (h.high x hx),λk a b hk hr=>⟨e.has (h.part k a b hk hr).1,e.has (h.part k a b hk hr).2⟩⟩
inductive spBe (K:W.Frag) (C:Addr) (vs:List V) (H:Hp) (Q:VK) (E:XK):Prop
 |mk (g:oH) (sa:Addr) (us:List V) (aD:List Rw) (aX:List xM) (_:vs=[.ref g.r,.ref sa]) (_:lT C H g aD aX []) (_:aD.length<=100) (_:H sa=some (.lst us)) (_:gD K H aD us) (_:JR g sa) (_:qP aD) (_:∀H',mF C H g aD aX [] (Pl aD (2*aD.length) aD.length) H'->Q .non H')
theorem SZ{C:Addr}(T:OF K C)(bi:Bi mg)(be:mg "enumerate"=none)(h_d:lC P w K mg base 2 C "grow" ["self","i","j","why"] (rP C))(F:gI K "begin" "begin" n0 f fd):dI P w K mg base fZ 3 f fd ["growth","sheet"] (spBe K C):=by
 refine F.okz HU λfD A outer s H vs Q E hr h=>?_
 obtain⟨g,sa,us,aD,aX,rfl,hg,iA,hsa,hrw,hout,hin,q⟩:=h;have hul:=hrw.len;have cU:=T.cl;have lk:(rA g).lookup ("grow":Str)=none:=qW g () () () ();refine⟨_,(zD (yI bM rfl (xX rfl bi.range (zA (zN xR zE (yC yL rfl bi.len xE (zA (pv 1) zC))) zC)) (yG 2 HU.nd) (zD (zU (zY h_d cU hr.m (pv 0) (zA (pv 2) (zA (pv 2) (zA (zQ (zA zT zC)) zC))))) (zD (zU (zY h_d cU hr.m (pv 0) (zA zE (zA (pv 2) (zA (zQ (zA zT zC)) zC))))) (zG (zU (zY h_d cU hr.m (pv 0) (zA (pv 2) (zA zE (zA (zQ (zA zT zC)) zC))))))))) (zG (yI bM rfl (jR rfl be (zA (pv 1) zC)) (vA rfl (zX (yG 3 HU.nd) (zX (yG 4 HU.nd) xG))) (zG (yK (zP xK (zL zM (pv 4) zE) zT (zV _)) (zD (zU (zY h_d cU hr.m (pv 0) (zA (zN xR zE (pv 3)) (zA (zL zM (pv 4) zE) (zA (zQ (zA zT zC)) zC))))) (zG (zU (zY h_d cU hr.m (pv 0) (zA (zN xR zE (pv 3)) (zA (zL zM (pv 4) zE) (zA (zQ (zA zT zC)) zC))))))) zZ))))),?_⟩;refine yA (λσ H'=>∃(o1 o2 o3:Option V),mF C H g aD aX [] (Pl aD (2*aD.length) 0) H'/\σ=[some (V.ref g.r),some (V.ref sa),o1,o2,o3]) (λN hN=>?_) (λσ H' h=>?_)
 ·dsimp![];refine⟨us.length,.inl ⟨_,dL.of hsa,rfl⟩,.inl ⟨(),()⟩,(),(),?_⟩;refine kL (n:=(2*(us.length:Int)).toNat) (λi σ H'=>∃(o1 o2 o3:Option V),mF C H g aD aX [] (Pl aD i 0) H'/\σ=[some (V.ref g.r),some (V.ref sa),o1,o2,o3]) ⟨_,_,_,mF.refl hg ⟨λx hx=>(),λx hx=>(),λx hx=>(),λk a b hk=>()⟩,rfl⟩ (λi σ H' hi h M hM=>?_) (λσ H' h=>?_)
  rotate_left
  ·rw[show(2*(us.length:Int)).toNat=2*aD.length by lia]at h;exact hN _ _ h
  obtain⟨o1,o2,o3,⟨gs,t,gt,hP⟩,rfl⟩:=h;have hi':i<2*aD.length:=by lia
  have e0:(0:Int)+(i:Int)=((i:Nat):Int):=by lia
  show PD _ _ _ _ _;refine zH λN2 hN2=>?_
  dsimp![yV];rw[e0];obtain⟨dx,eG⟩:=gt.ins;refine⟨_,_,eG,lk,small (by simp),λp hp=>vM gs gt iA hi' hi' (x:="same") () rfl (by unfold yZ;rw[aL rfl];simp) hp (R:=λL=>Pl aD i 0 L/\zR L i i=true) (λL e h=>⟨hP.le e,h⟩) λ_ H2 g2=>hN2 _ _ ?_⟩;clear hN2 eG gs gt;obtain⟨gs,t,gt,hP,hp1⟩:=g2;obtain⟨dx,eG⟩:=gt.ins;refine zH λN2 hN2=>?_
  dsimp![yV];refine⟨_,_,eG,lk,small (by simp),λp hp=>vM (i:=0) gs gt iA () hi' (x:="edge") () rfl (by unfold yZ;rw[aH (),aL rfl];simp) hp (R:=λL=>Pl aD i 0 L/\zR L i i=true/\zR L 0 i=true) (λL e h=>⟨hP.le e,e.has hp1,h⟩) λ_ H2 g2=>hN2 _ _ ?_⟩;clear hN2 eG gs gt;obtain⟨gs,t,gt,hP,hp1,lX⟩:=g2;obtain⟨dx,eG⟩:=gt.ins;dsimp![yV];refine⟨_,_,eG,lk,small (by simp),λp hp=>vM (j:=1) gs gt iA hi' () (x:="edge") () rfl (by unfold yZ;rw[aH (),aL rfl];simp) hp (R:=Pl aD (i+1) 0) (λL e h=>?_) λ_ H2 g2=>?_⟩
  ·have c:∀{x:Nat},x<i+1->x<i\/x=i:=λh=>by lia
   have hP':=hP.le e;exact⟨λx hx=>(c hx).elim (hP'.same x) λz=>z▸e.has hp1,λx hx=>(c hx).elim (hP'.low x) λz=>z▸e.has lX,λx hx=>(c hx).elim (hP'.high x) λz=>z▸h,λk a b hk=>()⟩
  exact hM _ _ ⟨_,_,_,g2,rfl⟩
 obtain⟨o1,o2,o3,hgt,rfl⟩:=h;have hsa':=hgt.to.1.out hout hsa;dsimp![vK];refine⟨_,hsa',?_⟩;refine YR (xs:=us) (λk σ H'=>∃(o1 o2 o3:Option V),mF C H g aD aX [] (Pl aD (2*aD.length) k) H'/\σ=[some (V.ref g.r),some (V.ref sa),o1,o2,o3]) ⟨_,_,_,hgt,rfl⟩ (λk σ H' h=>?_) (λk x σ H' p hx h hp M hM=>?_) (λσ H' h=>?_)
 ·obtain⟨_,_,_,h,_⟩:=h;exact h.to.1.out hout hsa
 ·obtain⟨o1,o2,o3,hgt,rfl⟩:=h;have hk:k<aD.length:=by rw[←hul];exact(aC.mp hx).1
  obtain⟨r,mV,hr2⟩:=hrw.get hx;have tu:=hg.tups hgt.to.1;obtain⟨xa,x',vs,rfl,hxa,hcase⟩:=GR.out hr2;have hxa0:=hxa;replace hxa:=hxa.tups tu;replace hgt:=hgt.same (zF hp (.tup [.int k,.ref xa]));have hxa':=hxa.same (zF hp (.tup [.int k,.ref xa]));have kp:upd H' p (.tup [.int k,.ref xa]) p=some (.tup [.int k,.ref xa]):=zB;generalize upd H' p (.tup [.int k,.ref xa])=H2 at hgt hxa' kp⊢;dsimp![vN,jY,wD,yV];refine⟨[.int k,.ref xa],dN.of kp,rfl,.int k,[.ref xa],rfl,.ref xa,[],rfl,rfl,xa,rfl,_,hxa'.sq,_,lS,rfl,?_⟩;have nob:∀{L:List Ln},(∀a b,r≠.bo a b)->Pl aD (2*aD.length) k L->Pl aD (2*aD.length) (k+1) L:=λhno h=>⟨h.same,h.low,h.high,λm a b hm mB=>by
   rcases iF (mJ hm)with z |z
   ·exact h.part m a b z mB
   ·subst z;rw[mV]at mB;cases mB;exact absurd rfl (hno a b)⟩
  have weak:∀{R R':List Ln->Prop}{H'},(∀L,R L->R' L)->mF C H g aD aX [] R H'->mF C H g aD aX [] R' H':=λw h=>by
   obtain⟨h1,t,h2,h3⟩:=h;exact⟨h1,t,h2,w _ h3⟩
  cases r with
  |no=>
   obtain⟨rfl,rfl⟩:=hcase;rw[aH (by intro z;exact absurd (V.str.inj z) ())];exact hM _ _ ⟨_,_,_,weak (λL=>nob (λa b z=>by cases z)) hgt,rfl⟩
  |nm y=>
   obtain⟨rfl,rfl⟩:=hcase;rw[aH (by intro z;exact absurd (V.str.inj z) ())];exact hM _ _ ⟨_,_,_,weak (λL=>nob (λa b z=>by cases z)) hgt,rfl⟩
  |bo i j=>
   obtain⟨rfl,rfl⟩:=hcase;rw[aL rfl];obtain⟨⟨b1,b2⟩,b3,b4⟩:=hin k i j mV;obtain⟨a,rfl⟩:∃a:Nat,i=(a:Int):=⟨i.toNat,()⟩
   obtain⟨b,rfl⟩:∃b:Nat,j=(b:Int):=⟨j.toNat,()⟩
   have e2:(2:Int)*(k:Int)=((2*k:Nat):Int):=by lia
   have hpt:vC aD ((2*k:Nat):Int)=[(a:Int),(b:Int)]:=kE (r:=.bo a b) () (by rw[show(((2*k:Nat):Int)/2).toNat=k by lia];exact mV);have hst:∀c:Nat,(c=a\/c=b)->yZ aD ((2*k:Nat):Int) c "part" []=true:=λc hc=>by
    unfold yZ;rw[aH (),aH (),aL rfl,hpt];rcases hc with rfl |rfl<;>simp
   have at2:∀{a b c:V},oV [a,b,c] 2=some c:=yD (j:=2) rfl;obtain⟨gs,t,gt,hP⟩:=hgt;obtain⟨dx,eG⟩:=gt.ins;refine⟨_,_,eG,lk,_,rfl,.inl ⟨(),()⟩,xa,rfl,_,hxa'.sq,_,pH,small (by simp),λp1 hp1=>?_⟩;rw[e2];refine vM (i:=2*k) (j:=a) gs gt iA () () (x:="part") () rfl (hst a (.inl rfl)) hp1 (R:=λL=>Pl aD (2*aD.length) k L/\zR L ((2*k:Nat):Int) a=true) (λL e h=>⟨hP.le e,h⟩) λ_ H3 g3=>?_
   have hxa3:=hxa0.tups (hg.tups g3.1);obtain⟨gs,t,gt,hP,hpa⟩:=g3;obtain⟨dx,eG⟩:=gt.ins;refine⟨_,_,eG,lk,_,rfl,.inl ⟨(),()⟩,xa,rfl,_,hxa3.sq,_,at2,small (by simp),λp2 lX=>?_⟩;rw[e2];refine vM (i:=2*k) (j:=b) gs gt iA () () (x:="part") () rfl (hst b (.inr rfl)) lX (R:=Pl aD (2*aD.length) (k+1)) (λL e h=>?_) λ_ H4 g4=>hM _ _ ⟨_,_,_,g4,rfl⟩
   have hP':=hP.le e;refine⟨hP'.same,hP'.low,hP'.high,λm a' b' hm mB=>?_⟩;rcases iF (mJ hm)with z |z
   ·exact hP'.part m a' b' z mB
   ·subst z;rw[mV]at mB;cases mB;exact⟨e.has hpa,h⟩
 ·obtain⟨_,_,_,h,rfl⟩:=h;rw[hul]at h;exact q _ h
def WY(aD:List Rw)(H:Hp)(v:V):Prop:=∃(t:Addr)(k:Nat)(a b:Int),v=.ref t/\H t=some (.tup [.int (2*(k:Int)),.int a,.int b])/\aD[k]?=some (.bo a b)
theorem WY.tups(e:cT H H')(h:WY aD H v):WY aD H' v:=by
 obtain⟨t,k,a,b,h1,h2,h3⟩:=h;exact⟨t,k,a,b,h1,e _ _ h2,h3⟩
def NW(aD:List Rw)(H:Hp)(qs:List Addr)(n:Nat):Prop:=∀q∈qs,∃us,H q=some (.lst us)/\us.length<=n/\∀v∈us,WY aD H v
theorem NW.same(e:bA H H')(h:NW aD H qs n):NW aD H' qs n:=λq hq=>by
 obtain⟨us,h1,h2,h3⟩:=h q hq;exact⟨us,e _ _ h1,h2,λv hv=>(h3 v hv).tups e.tups⟩
theorem NW.put{q:Addr}(h:NW aD H qs n)(hq:H q=some (.lst us))(hl:us.length<=n)(hus:∀v∈us,WY aD H v)(hv:WY aD H v):NW aD (upd H q (.lst (us++[v]))) qs (n+1):=λq' hq'=>by
 have tu:cT H (upd H q (.lst (us++[v]))):=(cT.refl _).upd_lst hq;by_cases e:q'=q
 ·subst e;refine⟨us++[v],zB,by simp;lia,λx hx=>?_⟩;rcases bS.mp hx with hx |hx
  ·exact(hus x hx).tups tu
  ·rw[aT.mp hx];exact hv.tups tu
 ·obtain⟨us',h1,h2,h3⟩:=h q' hq';exact⟨us',by rw[zJ e];exact h1,(),λx hx=>(h3 x hx).tups tu⟩
def bm(H:Hp)(q:Addr)(m:Nat)(a b:Int):Prop:=∃(us:List V)(t:Addr),H q=some (.lst us)/\V.ref t∈us/\H t=some (.tup [.int (2*(m:Int)),.int a,.int b])
theorem bm.same{q:Addr}{m:Nat}{a b:Int}(e:bA H H')(h:bm H q m a b):bm H' q m a b:=by
 obtain⟨us,t,h1,h2,h3⟩:=h;exact⟨us,t,e _ _ h1,h2,e _ _ h3⟩
theorem bm.upd{q:Addr}{m:Nat}{a b:Int}(h:bm H q m a b){q1:Addr}{us1:List V}(hq:H q1=some (.lst us1)):bm (upd H q1 (.lst (us1++[v]))) q m a b:=by
 obtain⟨us,t,h1,h2,h3⟩:=h;have h3':=(cT.refl H).upd_lst (o:=.lst (us1++[v])) hq _ _ h3;by_cases e:q=q1
 ·subst e;rw[hq]at h1;cases h1;exact⟨_,t,zB,cP _ h2,h3'⟩
 ·exact⟨us,t,(zJ e).trans h1,h2,h3'⟩
def OG(aD:List Rw)(H:Hp)(qs:List Addr)(k:Nat):Prop:=∀(m:Nat)(a b:Int),m<k->aD[m]?=some (.bo a b)->∀(x:Nat)(q:Addr),((x:Int)=a\/(x:Int)=b)->qs[x]?=some q->bm H q m a b
theorem OG.same{k:Nat}(e:bA H H')(h:OG aD H qs k):OG aD H' qs k:=λm a b hm hr x q hx hq=>(h m a b hm hr x q hx hq).same e
theorem OG.upd{k:Nat}(h:OG aD H qs k){q1:Addr}{us1:List V}(hq1:H q1=some (.lst us1)):OG aD (upd H q1 (.lst (us1++[v]))) qs k:=λm a b hm hr x q hx hq=>(h m a b hm hr x q hx hq).upd hq1
theorem OG.succ{k:Nat}(h:OG aD H qs k)(hk:∀(a b:Int),aD[k]?=some (.bo a b)->∀(x:Nat)(q:Addr),((x:Int)=a\/(x:Int)=b)->qs[x]?=some q->bm H q k a b):OG aD H qs (k+1):=λm a b hm hr x q hx hq=>by
 rcases iF (mJ hm)with z |z
 ·exact h m a b z hr x q hx hq
 ·subst z;exact hk a b hr x q hx hq
inductive spBo (K:W.Frag) (vs:List V) (H:Hp) (Q:VK) (E:XK):Prop
 |mk (sa:Addr) (us:List V) (aD:List Rw) (_:vs=[.ref sa]) (_:H sa=some (.lst us)) (_:gD K H aD us) (_:aD.length<=100) (_:qP aD) (_:∀(p:Addr)(qs:List Addr)(n:Nat)(H':Hp),bA H H'->H p=none->(∀q∈qs,H q=none)->H' p=some (.lst (qs.map V.ref))->qs.length=2*aD.length->NW aD H' qs n->OG aD H' qs aD.length->Q (.ref p) H')
def OE(m:Nat)(H0 H:Hp)(kvs:List (List eI×V))(n:Nat):Prop:=∀kv∈kvs,∃(q:Addr)(ns:List Nat),kv.2=.ref q/\H q=some (.lst (ns.map nV))/\H0 q=none/\ns.length<=n/\∀x∈ns,x<m
theorem OE.same{m:Nat}{H0:Hp}(e:bA H H')(h:OE m H0 H kvs n):OE m H0 H' kvs n:=λkv hkv=>by
 obtain⟨q,ns,h1,h2,h3⟩:=h kv hkv;exact⟨q,ns,h1,e _ _ h2,h3⟩
theorem OE.upd{m:Nat}{H0:Hp}{q:Addr}{ns:List Nat}{r:Nat}(h:OE m H0 H kvs n)(hl:ns.length<=n)(hns:∀x∈ns,x<m)(hr:r<m)(hq:H0 q=none):OE m H0 (upd H q (.lst (ns.map nV++[nV r]))) kvs (n+1):=λkv hkv=>by
 obtain⟨q',ns',h1,h2,h3,h4,h5⟩:=h kv hkv;by_cases e:q'=q
 ·subst e;refine⟨q',ns++[r],h1,by rw[zB,aU];rfl,hq,by simp;lia,λx hx=>?_⟩;rcases bS.mp hx with hx |hx
  ·exact hns x hx
  ·rw[aT.mp hx];exact hr
 ·exact⟨q',ns',h1,(zJ e).trans h2,h3,(),h5⟩
theorem tM{κ:Type} [DecidableEq κ] {kvs:List (κ×V)} {k:κ} (h:yM kvs k=some v):∃kv∈kvs,kv.2=v:=by
 unfold yM at h;obtain⟨x,hx,e⟩:=aO.mp h;exact⟨x,List.mem_of_find?_eq_some hx,e⟩
theorem OQ{κ:Type} [DecidableEq κ] {kvs t:List (κ×V)} {k:κ} (h:yM kvs k=some v):yM (kvs++t) k=some v:=by
 unfold yM at h⊢;obtain⟨x,hx,e⟩:=aO.mp h;rw[List.find?_append,hx];exact dH some e
theorem OR{κ:Type} [DecidableEq κ] {kvs:List (κ×V)} {k:κ} (h:yM kvs k=none):yM (kvs++[(k,v)]) k=some v:=by
 unfold yM at h⊢;rw[pU]at h;rw[List.find?_append,h];simp
theorem FH:∀{a b:List Nat},a.map nV=b.map nV->a=b
 |[],[],_=>rfl
 |[],_::_,h=>by cases h
 |_::_,[],h=>by cases h
 |x::a,y::b,h=>by
  injection h with h1 h2
  have h3:=V.int.inj h1;have h4:x=y:=by lia
  rw[h4,FH h2]
def LI(H:Hp)(kvs:List (List eI×V))(pr:Pr)(r:Nat):Prop:=∃(q:Addr)(ns:List Nat),yM kvs (xF pr.1 pr.2)=some (.ref q)/\H q=some (.lst (ns.map nV))/\r∈ns
theorem LI.same{pr:Pr}{r:Nat}(e:bA H H')(h:LI H kvs pr r):LI H' kvs pr r:=by
 obtain⟨q,ns,h1,h2,h3⟩:=h;exact⟨q,ns,h1,e _ _ h2,h3⟩
theorem LI.app{t:List (List eI×V)}{pr:Pr}{r:Nat}(h:LI H kvs pr r):LI H (kvs++t) pr r:=by
 obtain⟨q,ns,h1,h2,h3⟩:=h;exact⟨q,ns,OQ h1,h2,h3⟩
theorem LI.upd{pr:Pr}{r:Nat}(h:LI H kvs pr r){q1:Addr}{ns1:List Nat}{x:Nat}(hq:H q1=some (.lst (ns1.map nV))):LI (upd H q1 (.lst (ns1.map nV++[nV x]))) kvs pr r:=by
 obtain⟨q,ns,h1,h2,h3⟩:=h;by_cases e:q=q1
 ·subst e;rw[hq]at h2;have e2:ns1=ns:=by
   have :=HO.lst.inj (dC h2);exact FH this
  subst e2;exact⟨q,ns1++[x],h1,by rw[zB,aU];rfl,cP _ h3⟩
 ·exact⟨q,ns,h1,(zJ e).trans h2,h3⟩
theorem LI.dic{pr:Pr}{r:Nat}(h:LI H kvs pr r){kvs0:List (List eI×V)}{o:HO}(hp:H p=some (.dT kvs0)):LI (L2.upd H p o) kvs pr r:=by
 obtain⟨q,ns,h1,h2,h3⟩:=h;exact⟨q,ns,h1,(zJ (λz=>by rw[z,hp]at h2;cases h2)).trans h2,h3⟩
def WaC(aX:List xM)(H:Hp)(kvs:List (List eI×V))(k m:Nat):Prop:=∀(r:Nat)(q:xM)(x:Nat)(pr:Pr),aX[r]?=some q->q.1[x]?=some pr->(r<k\/r=k/\x<m)->LI H kvs pr r
inductive spWa (vs:List V) (H:Hp) (Q:VK) (E:XK):Prop
 |mk (ra:Addr) (us:List V) (aX:List xM) (_:vs=[.ref ra]) (_:H ra=some (.lst us)) (_:bG H (aX.map a9) us) (_:aX.length<=100) (_:(∀r∈aX,r.1.length<=100)) (_:∀(p:Addr)(kvs:List (List eI×V))(n:Nat)(H':Hp),bA H H'->H p=none->H' p=some (.dT kvs)->OE aX.length H H' kvs n->WaC aX H' kvs aX.length 0->Q (.ref p) H')
theorem SY(bi:Bi mg)(be:mg "enumerate"=none)(F:gI K "boths_by_part" "boths_by_part" s_k f fd):dI P w K mg base fZ 1 f fd ["sheet"] (spBo K):=by
 refine F.okz da λfD A outer s H vs Q E hr h=>?_
 obtain⟨sa,us,aD,rfl,hsa,hrw,iA,hin,q⟩:=h;have hul:=hrw.len;refine⟨_,(zD (UQ (i:=1) ["n"] [] [] da.nd rfl (xX rfl bi.range (zA (zN xR zE (yC yL rfl bi.len xE (zA (pv 0) zC))) zC)) (λ_ _ _ _ nd=>yG 0 nd) (λ_ _ _ _=>yW) (λ_ _ _ _=>(xH zC))) (zD (yI bM rfl (jR rfl be (zA (pv 0) zC)) (vA rfl (zX (yG 2 da.nd) (zX (yG 3 da.nd) xG))) (zG (yK (zP xK (zL zM (pv 3) zE) zT (zV _)) (zD (zU (jD bT cL cK yU (zL yH (pv 1) (zL zM (pv 3) zE)) (zA (zQ (zA (zN xR zE (pv 2)) (zA (zL zM (pv 3) zE) (zA (zL zM (pv 3) zE) zC)))) zC))) (zG (zU (jD bT cL cK yU (zL yH (pv 1) (zL zM (pv 3) zE)) (zA (zQ (zA (zN xR zE (pv 2)) (zA (zL zM (pv 3) zE) (zA (zL zM (pv 3) zE) zC)))) zC))))) zZ))) (zG (zO (pv 1))))),?_⟩;refine zH λN hN=>?_
 dsimp![];refine⟨us.length,.inl ⟨_,dL.of hsa,rfl⟩,.inl ⟨(),()⟩,(),(),?_⟩;refine BW (lo:=0) (n:=(2*(us.length:Int)).toNat) (λi ys σ H'=>bA H H'/\(∃qs:List Addr,ys=qs.map V.ref/\qs.length=i/\(∀q∈qs,H q=none)/\NW aD H' qs 0)/\∃o,σ=[o]) ⟨bA.refl _,⟨[],rfl,rfl,(λq z=>by cases z),λq z=>by cases z⟩,_,rfl⟩ (small ()) (λi ys σ H' e=>?_) (λi ys σ H' C hi e hC=>?_) (λys σ H' e p hp=>hN _ _ ?_)
 ·obtain⟨_,⟨qs,rfl,hl,_⟩,_⟩:=e;rw[aE];lia
 ·obtain⟨es,⟨qs,rfl,hl,hfr,hbo⟩,o,rfl⟩:=e;dsimp![];refine⟨small (by simp),λq0 hq0=>hC _ _ _ ⟨es.trans (zF hq0 _),⟨qs++[q0],by rw[aU];rfl,by simp[hl],λq hq=>?_,λq hq=>?_⟩,_,rfl⟩⟩
  ·rcases bS.mp hq with hq |hq
   ·exact hfr q hq
   ·rw[aT.mp hq];exact es.free hq0
  ·rcases bS.mp hq with hq |hq
   ·exact NW.same (zF hq0 _) hbo q hq
   ·rw[aT.mp hq];exact⟨[],zB,aG _,λv z=>by cases z⟩
 obtain⟨es,⟨qs,rfl,hl,hfr,hbo⟩,o,rfl⟩:=e;clear hN;have s1:=zF hp (.lst (qs.map V.ref));have k1:upd H' p (.lst (qs.map V.ref)) p=some (.lst (qs.map V.ref)):=zB;have hp0:=es.free hp;have hpq:p∉qs:=λz=>by
  obtain⟨_,h1,_⟩:=hbo p z;rw[hp]at h1;cases h1
 replace hbo:=hbo.same s1;replace es:=es.trans s1;generalize upd H' p (.lst (qs.map V.ref))=H1 at k1 hbo es⊢;have hql:qs.length=2*aD.length:=by lia
 clear s1 hp hl;refine yA (λσ H'=>∃(o1 o2:Option V)(n:Nat),bA H H'/\H' p=some (.lst (qs.map V.ref))/\NW aD H' qs n/\OG aD H' qs aD.length/\σ=[some (V.ref sa),some (V.ref p),o1,o2]) (λN hN=>?_) (λσ H' h=>?_)
 ·dsimp![vK];refine⟨_,es _ _ hsa,?_⟩;refine YR (xs:=us) (λk σ H'=>∃(o1 o2:Option V),bA H H'/\H' p=some (.lst (qs.map V.ref))/\NW aD H' qs (2*k)/\OG aD H' qs k/\σ=[some (V.ref sa),some (V.ref p),o1,o2]) ⟨_,_,es,k1,hbo,(λm a b hm=>()),rfl⟩ (λk σ H' h=>?_) (λk x σ H' pe hx h hpe M hM=>?_) (λσ H' h=>?_)
  ·obtain⟨_,_,h,_⟩:=h;exact h _ _ hsa
  ·obtain⟨o1,o2,s2,k2,hb2,hc2,rfl⟩:=h;have hk:k<aD.length:=by rw[←hul];exact(aC.mp hx).1
   obtain⟨r,mV,hr2⟩:=hrw.get hx;obtain⟨xa,x',vs,rfl,hxa,hcase⟩:=GR.out hr2;have s3:=zF hpe (.tup [.int k,.ref xa]);have kp:upd H' pe (.tup [.int k,.ref xa]) pe=some (.tup [.int k,.ref xa]):=zB;generalize upd H' pe (.tup [.int k,.ref xa])=H2 at s3 kp⊢;replace s2:=s2.trans s3;replace k2:=s3 _ _ k2;replace hb2:=hb2.same s3;replace hc2:=hc2.same s3;replace hxa:=hxa.same s2;clear s3 hpe;have more:∀{a b:Nat},a<=b->NW aD H2 qs a->NW aD H2 qs b:=λhab h q hq=>by
    obtain⟨us,h1,h2,h3⟩:=h q hq;exact⟨us,h1,(),h3⟩
   dsimp![vN,jY,wD];refine⟨[.int k,.ref xa],dN.of kp,rfl,.int k,[.ref xa],rfl,.ref xa,[],rfl,rfl,xa,rfl,_,hxa.sq,_,lS,rfl,?_⟩;cases r with
   |no=>
    obtain⟨rfl,rfl⟩:=hcase;rw[aH (by intro z;exact absurd (V.str.inj z) ())];exact hM _ _ ⟨_,_,s2,k2,more () hb2,hc2.succ (λa b z=>by rw[mV]at z;cases z),rfl⟩
   |nm y=>
    obtain⟨rfl,rfl⟩:=hcase;rw[aH (by intro z;exact absurd (V.str.inj z) ())];exact hM _ _ ⟨_,_,s2,k2,more () hb2,hc2.succ (λa b z=>by rw[mV]at z;cases z),rfl⟩
   |bo i j=>
    obtain⟨rfl,rfl⟩:=hcase;rw[aL rfl];obtain⟨⟨b1,b2⟩,b3,b4⟩:=hin k i j mV;have hgx:∀(x:Int),0<=x->x<2*(aD.length:Int)->∃q,q∈qs/\oV (qs.map V.ref) x=some (V.ref q)/\qs[x.toNat]?=some q:=λx hx0 hx1=>by
     obtain⟨m,rfl⟩:=dU hx0;have hm:m<qs.length:=by lia
     refine⟨qs[m],cW hm,?_⟩;exact⟨yD (by rw[aK,aA hm];rfl),by rw[cE];exact aA hm⟩
    obtain⟨q1,hq1,ha1,hx1⟩:=hgx i b1 ();obtain⟨q2,hq2,ha2,hx2⟩:=hgx j b3 ();obtain⟨us1,hu1,hl1,ht1⟩:=hb2 q1 hq1;refine⟨_,rfl,_,hxa.sq,_,pH,_,rfl,_,dL.of k2,_,ha1,.inl ⟨rfl,_,dL.of hu1⟩,_,rfl,.inl ⟨(),()⟩,_,rfl,_,hxa.sq,_,pH,_,rfl,_,hxa.sq,_,rfl,small (),λt1 ht=>?_⟩;have s3:=zF ht (.tup [.int (2*(k:Int)),.int i,.int j]);have tr:WY aD (upd H2 t1 (.tup [.int (2*(k:Int)),.int i,.int j])) (.ref t1):=⟨t1,k,i,j,rfl,zB,mV⟩
    have kt1:upd H2 t1 (.tup [.int (2*(k:Int)),.int i,.int j]) t1=some (.tup [.int (2*(k:Int)),.int i,.int j]):=zB;generalize upd H2 t1 (.tup [.int (2*(k:Int)),.int i,.int j])=H3 at s3 tr kt1⊢;replace k2:=s3 _ _ k2;replace hxa:=hxa.same s3;replace hu1:=s3 _ _ hu1;replace ht1:∀v∈us1,WY aD H3 v:=λv hv=>(ht1 v hv).tups s3.tups
    replace hb2:=(hb2.same s3).put hu1 hl1 ht1 tr;replace hc2:=(hc2.same s3).upd (v:=.ref t1) hu1;have in1:bm (upd H3 q1 (.lst (us1++[V.ref t1]))) q1 k i j:=⟨_,t1,zB,by simp,(cT.refl H3).upd_lst hu1 _ _ kt1⟩
    refine⟨q1,rfl,us1,hu1,uD (),?_⟩;replace s2:=(s2.trans s3).upd (o:=.lst (us1++[V.ref t1])) (hfr q1 hq1);have n2:p≠q1:=λz=>hpq (z▸hq1)
    replace hxa:=hxa.tups ((cT.refl H3).upd_lst (o:=.lst (us1++[V.ref t1])) hu1);replace k2:upd H3 q1 (.lst (us1++[V.ref t1])) p=_:=(zJ n2).trans k2;clear kt1 hu1 hl1 ht1 tr s3 ht more;generalize upd H3 q1 (.lst (us1++[V.ref t1]))=H4 at s2 hxa k2 hb2 hc2 in1⊢;obtain⟨us2,hu2,hl2,ht2⟩:=hb2 q2 hq2;refine⟨_,rfl,_,hxa.sq,_,rfl,_,rfl,_,dL.of k2,_,ha2,.inl ⟨rfl,_,dL.of hu2⟩,_,rfl,.inl ⟨(),()⟩,_,rfl,_,hxa.sq,_,pH,_,rfl,_,hxa.sq,_,rfl,small (),λt1 ht=>?_⟩;have s3:=zF ht (.tup [.int (2*(k:Int)),.int i,.int j]);have tr:WY aD (upd H4 t1 (.tup [.int (2*(k:Int)),.int i,.int j])) (.ref t1):=⟨t1,k,i,j,rfl,zB,mV⟩
    have kt1:upd H4 t1 (.tup [.int (2*(k:Int)),.int i,.int j]) t1=some (.tup [.int (2*(k:Int)),.int i,.int j]):=zB;generalize upd H4 t1 (.tup [.int (2*(k:Int)),.int i,.int j])=H5 at s3 tr kt1⊢;replace k2:=s3 _ _ k2;replace hu2:=s3 _ _ hu2;replace ht2:∀v∈us2,WY aD H5 v:=λv hv=>(ht2 v hv).tups s3.tups
    replace hb2:=(hb2.same s3).put hu2 hl2 ht2 tr;replace hc2:=(hc2.same s3).upd (v:=.ref t1) hu2;replace in1:=(in1.same s3).upd (v:=.ref t1) hu2;have in2:bm (upd H5 q2 (.lst (us2++[V.ref t1]))) q2 k i j:=⟨_,t1,zB,by simp,(cT.refl H5).upd_lst hu2 _ _ kt1⟩
    have n2:p≠q2:=λz=>hpq (z▸hq2)
    refine⟨q2,rfl,us2,hu2,uD (),hM _ _ ⟨_,_,(s2.trans s3).upd (hfr q2 hq2),(zJ n2).trans k2,hb2,hc2.succ (λa b z x q' hx hq'=>?_),rfl⟩⟩;rw[mV]at z;cases z;rcases hx with hx |hx
    ·rw[←hx,cE,hq']at hx1;cases hx1;exact in1
    ·rw[←hx,cE,hq']at hx2;cases hx2;exact in2
  ·obtain⟨o1,o2,s2,k2,hb2,hc2,rfl⟩:=h;rw[hul]at hc2;exact hN _ _ ⟨_,_,_,s2,k2,hb2,hc2,rfl⟩
 obtain⟨o1,o2,n,s2,k2,hb2,hc2,rfl⟩:=h;dsimp![];exact q p qs n _ s2 hp0 hfr k2 hql hb2 hc2
theorem wC(bi:Bi mg)(be:mg "enumerate"=none)(F:gI K "rules_by_premise" "rules_by_premise" s_b f fd):dI P w K mg base fZ 1 f fd ["rules"] spWa:=by
 refine F.okz PY λfD A outer s H vs Q E hr h=>?_
 obtain⟨ra,us,aX,rfl,hra,hru,iA,hpr,q⟩:=h;have hul:=uB hru;refine⟨_,(zD (yE 1 PY.nd AQ) (zD (yI bM rfl (jR rfl be (zA (pv 0) zC)) (vA rfl (zX (yG 2 PY.nd) (zX (yG 3 PY.nd) xG))) (zG (yI bM rfl (yF (zL zM (pv 3) zE)) (yG 4 PY.nd) (zG (zU (jD bT cL cK yU (d9 (xT hr) (pv 1) (pv 4) (xH zC) ⟨rfl,rfl,rfl,rfl⟩) (zA (pv 2) zC))))))) (zG (zO (pv 1))))),?_⟩;refine zH λN hN=>?_
 dsimp![DY];refine λp hp=>hN _ _ ?_
 clear hN;have s1:=zF hp (.dT []);have k1:upd H p (.dT []) p=some (.dT []):=zB;generalize upd H p (.dT [])=H1 at s1 k1⊢;have sz:∀{n:Nat},n<=40000->n<sizeLine:=λh=>fH (m:=100000) () ()
 refine yA (λσ H'=>∃(o1 o2 o3:Option V)(kvs:List (List eI×V))(n:Nat),bA H H'/\H' p=some (.dT kvs)/\OE aX.length H H' kvs n/\WaC aX H' kvs aX.length 0/\σ=[some (V.ref ra),some (V.ref p),o1,o2,o3]) (λN hN=>?_) (λσ H' h=>?_)
 ·dsimp![vK];refine⟨_,s1 _ _ hra,?_⟩;refine YR (xs:=us) (λk σ H'=>∃(o1 o2 o3:Option V)(kvs:List (List eI×V)),bA H H'/\H' p=some (.dT kvs)/\kvs.length<=100*k/\OE aX.length H H' kvs (100*k)/\WaC aX H' kvs k 0/\σ=[some (V.ref ra),some (V.ref p),o1,o2,o3]) ⟨_,_,_,_,s1,k1,aG _,(λkv z=>by cases z),(λr q x pr _ _ hz=>()),rfl⟩ (λk σ H' h=>?_) (λk x σ H' pe hx h hpe M hM=>?_) (λσ H' h=>?_)
  ·obtain⟨_,_,_,_,h,_⟩:=h;exact h _ _ hra
  ·obtain⟨o1,o2,o3,kvs,s2,k2,hkl,hw2,hc2,rfl⟩:=h;have hk:k<aX.length:=by rw[←hul];exact(aC.mp hx).1
   obtain⟨r,mV,hr2⟩:=jE hru hx;have hrl:=hpr r (aV mV);obtain⟨xa,xl,xb,ps,rfl,hxa,hxl,hps,hxb⟩:=nrAt hr2;have hpl:=uB hps;have s3:=zF hpe (.tup [.int k,.ref xa]);have kp:upd H' pe (.tup [.int k,.ref xa]) pe=some (.tup [.int k,.ref xa]):=zB;generalize upd H' pe (.tup [.int k,.ref xa])=H2 at s3 kp⊢;replace s2:=s2.trans s3;replace k2:=s3 _ _ k2;replace hw2:=hw2.same s3;replace hc2:WaC aX H2 kvs k 0:=λr q x pr h1 h2 h3=>(hc2 r q x pr h1 h2 h3).same s3
   replace hxa:=s2 _ _ hxa;clear s3 hpe;dsimp![vN,jY,wD];refine⟨[.int k,.ref xa],dN.of kp,rfl,.int k,[.ref xa],rfl,.ref xa,[],rfl,rfl,?_⟩;have hxl2:=s2 _ _ hxl;refine⟨_,rfl,_,dN.of hxa,_,lS,_,rfl,⟨_,dL.of hxl2⟩,?_⟩;refine xV (xs:=ps) (λm σ H'=>∃(o:Option V)(kvs:List (List eI×V)),bA H H'/\H' p=some (.dT kvs)/\kvs.length<=100*k+m/\OE aX.length H H' kvs (100*k+m)/\WaC aX H' kvs k m/\σ=[some (V.ref ra),some (V.ref p),some (V.int k),some (V.ref xa),o]) ⟨_,_,s2,k2,hkl,hw2,hc2,rfl⟩ (λm σ H' _ h=>?_) (λm x σ H' hm h M2 hM2=>?_) (λσ H' h=>?_)
   ·obtain⟨_,_,h,_⟩:=h;exact dL.of (h _ _ hxl)
   ·obtain⟨o,kvs,s4,k4,hl4,hw4,hc4,rfl⟩:=h;have hmp:m<ps.length:=(aC.mp hm).1;obtain⟨pr,hpm,hpx⟩:=jE hps hm;obtain⟨xp,_,rfl,hxp,_,_,rfl,hv1,_,_,rfl,hv2,hv3⟩:=hpx;cases hv1;cases hv2;cases hv3;replace hxp:=s4 _ _ hxp;dsimp![jx,tBM];refine⟨.inr ⟨_,.inl k4⟩,cG _,λp1 hp1=>?_⟩;have n1:p≠p1:=λz=>by rw[z,hp1]at k4;cases k4
    have n2:xp≠p1:=λz=>by rw[z,hp1]at hxp;cases hxp
    have s5:=zF hp1 (.lst []);refine⟨kvs,s5 _ _ k4,[.inl pr.1,.inl pr.2],s5 _ _ hxp,sz (),λv hv=>?_,λhv=>?_⟩
    ·obtain⟨kv,hkv,rfl⟩:=tM hv;obtain⟨q',ns',h1,h2,h3,h4,h5⟩:=hw4 kv hkv;have n3:p≠q':=λz=>by rw[z,h2]at k4;cases k4
     rw[h1];refine⟨.inl ⟨rfl,_,dL.of (s5 _ _ h2)⟩,q',rfl,_,s5 _ _ h2,sz (by rw[aE];lia),hM2 _ _ ⟨_,kvs,(s4.trans s5).upd h3,(zJ n3).trans (s5 _ _ k4),(),OE.upd (hw4.same s5) h4 h5 hk h3,?_,rfl⟩⟩;intro r' q0 x pr' g1 g2 g3;by_cases g4:r'<k\/r'=k/\x<m
     ·exact((hc4 r' q0 x pr' g1 g2 g4).same s5).upd (s5 _ _ h2)
     ·obtain⟨rfl,rfl⟩:r'=k/\x=m:=by lia
      rw[mV]at g1;cases g1;rw[hpm]at g2;cases g2;exact⟨q',ns'++[r'],by rw[←h1];exact hv,by rw[zB,aU];rfl,by simp⟩
    ·have e1:upd (upd H' p1 (.lst [])) p (.dT (jM kvs [.inl pr.1,.inl pr.2] (V.ref p1))) p1=some (.lst []):=(zJ n1.symm).trans zB;refine⟨.inl ⟨rfl,_,dL.of e1⟩,[],e1,sz (by simp),hM2 _ _ ⟨_,_,((s4.trans s5).upd hp).upd (s4.free hp1),(zJ n1).trans zB,?_,?_,?_,rfl⟩⟩
     ·rw[wZ hv,aI,cJ];lia
     ·refine OE.upd (ns:=[]) (n:=100*k+m) (λkv hkv=>?_) (cG _) (λx z=>by cases z) hk (s4.free hp1);rw[wZ hv]at hkv;rcases bS.mp hkv with hkv |hkv
      ·obtain⟨q',ns',h1,h2,h3,h4,h5⟩:=hw4 kv hkv;have n3:q'≠p:=λz=>by rw[←z,h2]at k4;cases k4
       exact⟨q',ns',h1,(zJ n3).trans (s5 _ _ h2),h3,h4,h5⟩
      ·rw[aT.mp hkv];exact⟨p1,[],rfl,e1,s4.free hp1,cG _,λx z=>by cases z⟩
     ·intro r' q0 x pr' g1 g2 g3;by_cases g4:r'<k\/r'=k/\x<m
      ·have w:=(((hc4 r' q0 x pr' g1 g2 g4).same s5).dic (s5 _ _ k4) (o:=.dT (jM kvs [.inl pr.1,.inl pr.2] (V.ref p1)))).upd (ns1:=[]) (x:=k) e1;rw[wZ hv]at w⊢;exact w.app
      ·obtain⟨rfl,rfl⟩:r'=k/\x=m:=by lia
       rw[mV]at g1;cases g1;rw[hpm]at g2;cases g2;exact⟨p1,[r'],by rw[wZ hv];exact OR hv,by rw[zB];rfl,by simp⟩
   ·obtain⟨o,kvs,s4,k4,hl4,hw4,hc4,rfl⟩:=h;refine hM _ _ ⟨_,_,_,_,s4,k4,(),λkv hkv=>?_,λr' q0 x pr' g1 g2 g3=>hc4 r' q0 x pr' g1 g2 ?_,rfl⟩
    rotate_left
    ·rcases iF (show r'<=k by lia)with z |z
     ·exact .inl z
     ·refine .inr ⟨z,?_⟩;rw[z,mV]at g1;cases g1;rw[hpl];exact(aC.mp g2).1
    obtain⟨q',ns',h1,h2,h3,h4,h5⟩:=hw4 kv hkv;exact⟨q',ns',h1,h2,h3,(),h5⟩
  ·obtain⟨o1,o2,o3,kvs,s2,k2,_,hw2,hc2,rfl⟩:=h;rw[hul]at hc2;exact hN _ _ ⟨_,_,_,_,_,s2,k2,hw2,hc2,rfl⟩
 obtain⟨o1,o2,o3,kvs,n,s2,k2,hw2,hc2,rfl⟩:=h;dsimp![];exact q p kvs n _ s2 hp k2 hw2 hc2
abbrev s_v:Stmt:=top 34
theorem sc_v:cC ["growth","i","j"] ["growth","i","j"] (zK s_v):=by rfl'
abbrev s_j:Stmt:=top 35
theorem db:cC ["growth","i","j","line","m","h"] ["growth","i","j"] (zK s_j):=by rfl'
abbrev s_o:Stmt:=top 36
theorem cy:cC ["growth","i","boths","n","a","b"] ["growth","i","boths"] (zK s_o):=by rfl'
abbrev s_p:Stmt:=top 37
theorem sc_p:cC ["growth","i","j","n"] ["growth","i","j"] (zK s_p):=by rfl'
theorem uH{ls:List Ln}{p:Nat}(h:ls[p]?=some l):xJ ls ls.length (.n (p:Int))=some (l.i,l.j):=by
 have hp:=(aC.mp h).1;show(if 0<=(p:Int)/\(p:Int)<(ls.length:Int)then(ls[(p:Int).toNat]?).map λl=>(l.i,l.j)else none)=_;rw[aL ⟨(),()⟩,cE,h];rfl
theorem UE{ls:List Ln}{x:Str}{prs:List Pr}(hi:i<2*aD.length)(hj:j<2*aD.length)(hx:x≠"rule")(hn:QH x=some (as.length:Int))(hs:as.map (xJ ls ls.length)=prs.map some)(h:yZ aD i j x prs=true):xQ aD aX ls ls.length ⟨i,j,x,as⟩=true:=by
 have a1:(as.all λa=>(xJ ls ls.length a).isSome)=true:=by
  have :(as.map (xJ ls ls.length)).all (λo=>o.isSome)=true:=by rw[hs];simp
  rw[oE]at this;exact this
 have a2:as.filterMap (xJ ls ls.length)=prs:=by
  have :(as.map (xJ ls ls.length)).filterMap id=prs:=by rw[hs];simp[oJ]
  rw[oJ]at this;exact this
 unfold xQ;rw[aH (by
  intro z;rcases z with z |z
  ·exact z ⟨by show(0:Int)<=(i:Int);lia,by show(i:Int)<_;lia⟩
  ·exact z ⟨by show(0:Int)<=(j:Int);lia,by show(j:Int)<_;lia⟩),aH hx,aL ⟨hn,a1⟩,a2]
 exact h
theorem LM.rng{ls:List Ln}(h:LM aD aX ls)(hh:zR ls i j=true):i<2*aD.length/\j<2*aD.length:=by
 obtain⟨p,l,hl,h1,h2⟩:=eZ.mp hh;have :=uC (h.snd p l hl);lia
def lQ(n:Nat):Nat:=n+1-2*(n % 2)
theorem qF(n:Nat):rM (n:Int)=((lQ n:Nat):Int):=by
 unfold rM lQ;lia
theorem vT(n:Nat):lQ (lQ n)=n:=by
 unfold lQ;lia
theorem YX{m:Nat}(h:n<2*m):lQ n<2*m:=by
 unfold lQ;lia
theorem zW{ls t:List Ln}{i j:Int}(h:zR ls i j=true):zR (ls++t) i j=true:=by
 rw[vL,h,Bool.true_or]
theorem ow_n(h:as.length<=3)(hn:∀ps,Wt.ps ps∈as->False):OW as:=⟨h,λps z=>(hn ps z).elim⟩
theorem b8{ls:List Ln}{p:Nat}(hi:i<2*aD.length)(hj:j<2*aD.length)(hl:ls[p]?=some l)(h1:l.i=i)(h2:l.j=j):xQ aD aX ls ls.length ⟨(lQ j:Nat),(lQ i:Nat),"turn",[.n p]⟩=true:=by
 refine UE (prs:=[((i:Int),(j:Int))]) (YX hj) (YX hi) () rfl ?_ ?_
 ·show [xJ ls ls.length (.n (p:Int))]=_;rw[uH hl,h1,h2];rfl
 ·unfold yZ;rw[aH (),aH (),aH (),aH (),aL rfl,qF,qF,vT,vT];exact dR _
theorem PM{ls:List Ln}{p:Nat}(hi:i<2*aD.length)(hn:n<2*aD.length)(hj:(j:Int)=rM i)(hl:ls[p]?=some l)(h1:l.i=i)(h2:l.j=j):xQ aD aX ls ls.length ⟨i,n,"clash",[.n p]⟩=true:=by
 refine UE (prs:=[((i:Int),(j:Int))]) hi hn () rfl ?_ ?_
 ·show [xJ ls ls.length (.n (p:Int))]=_;rw[uH hl,h1,h2];rfl
 ·unfold yZ;rw[aH (),aH (),aH (),aH (),aH (),aH (),hj];exact dR _
theorem tV{ls:List Ln}{m p p':Nat}{l':Ln}(hi:i<2*aD.length)(hm:m<2*aD.length)(hl:ls[p]?=some l)(h1:l.i=i)(h2:l.j=j)(fG:ls[p']?=some l')(h1':l'.i=j)(h2':l'.j=m):xQ aD aX ls ls.length ⟨i,m,"chain",[.n p,.n p']⟩=true:=by
 refine UE (prs:=[((i:Int),(j:Int)),((j:Int),(m:Int))]) hi hm () rfl ?_ ?_
 ·show [xJ ls ls.length (.n (p:Int)),xJ ls ls.length (.n (p':Int))]=_;rw[uH hl,h1,h2,uH fG,h1',h2'];rfl
 ·unfold yZ;rw[aH (),aH (),aH (),aH (),aH (),aL rfl];simp
theorem ce{ls:List Ln}{p p':Nat}{a b:Int}{l':Ln}(hi:i<2*aD.length)(hn:n<2*aD.length)(hpt:vC aD (n:Int)=[a,b])(hl:ls[p]?=some l)(h1:l.i=i)(h2:l.j=a)(fG:ls[p']?=some l')(h1':l'.i=i)(h2':l'.j=b):xQ aD aX ls ls.length ⟨i,n,"both",[.n p,.n p']⟩=true:=by
 refine UE (prs:=[((i:Int),a),((i:Int),b)]) hi hn () rfl ?_ ?_
 ·show [xJ ls ls.length (.n (p:Int)),xJ ls ls.length (.n (p':Int))]=_;rw[uH hl,h1,h2,uH fG,h1',h2'];rfl
 ·unfold yZ;rw[aH (),aH (),aH (),aL rfl,hpt];exact dR _
theorem SI{p:Nat}:OW [.n p]:=ow_n (by simp) (λps z=>by simp at z)
theorem ET{p q:Nat}:OW [.n p,.n q]:=ow_n (by simp) (λps z=>by simp at z)
theorem HF{x:Str}:eA (upd H p (.tup [.str x,.int n])) (ZH x [.n n]) (.ref p):=⟨p,_,rfl,zB,_,_,rfl,rfl,_,_,rfl,rfl,rfl⟩
theorem QU{x:Str}{m:Nat}:eA (upd H p (.tup [.str x,.int n,.int m])) (ZH x [.n n,.n m]) (.ref p):=⟨p,_,rfl,zB,_,_,rfl,rfl,_,_,rfl,rfl,_,_,rfl,rfl,rfl⟩
theorem tS:∀(n a b:Nat),a<=n->∃d,a=(a&&&b)+d/\∀x,d.testBit x=(a.testBit x&&!b.testBit x)
 |0,a,b,h=>by
  have e:a=0:=by lia
  subst e;exact⟨0,by simp,λx=>by simp⟩
 |n+1,a,b,h=>by
  obtain⟨d,h1,h2⟩:=tS n (a/2) (b/2) ();have e1:(a&&&b)/2=a/2&&&b/2:=nH λi=>by
   rw[hJ,lN,lN,hJ,hJ]
  have e2:decide ((a&&&b) % 2=1)=(decide (a % 2=1)&&decide (b % 2=1)):=by
   rw[←iZ,←iZ,←iZ,lN]
  rw[←e1]at h1;refine⟨2*d+(if a % 2=1/\¬b % 2=1 then 1 else 0),?_,λx=>?_⟩
  ·have e3:(a&&&b) % 2=1↔(a % 2=1/\b % 2=1):=by
    rw[cD,bO,bY,bO,bO]at e2;exact e2
   clear e1 e2 h2;generalize a&&&b=c at h1 e3⊢;split<;>lia
  ·cases x with
   |zero=>
    rw[iZ,iZ,iZ];by_cases ha:a % 2=1<;>by_cases hb:b % 2=1<;>simp[ha,hb]<;>lia
   |succ x=>
    have ed:(2*d+(if a % 2=1/\¬b % 2=1 then 1 else 0))/2=d:=by split<;>lia
    rw[←hJ,ed,h2,hJ,hJ]
theorem QJ{b:Nat}(h:∀x,a.testBit x=true->x<300):∃(m:Nat)(xs:List Nat),Builtin.bitAnd (a:Int) (Builtin.bitNot (b:Int))=(m:Int)/\rH m xs/\(∀x∈xs,x<300/\a.testBit x=true)/\∀x,a.testBit x=true->x∈xs\/b.testBit x=true:=by
 obtain⟨d,h1,h2⟩:=tS a a b (aG _);have hd:∀x,d.testBit x=true->a.testBit x=true:=λx hx=>by
  rw[h2,bY]at hx;exact hx.1
 refine⟨d,(List.range 300).filter λx=>d.testBit x,?_,⟨gQ _ dQ,λi=>?_⟩,λx hx=>?_,λx hx=>?_⟩
 ·unfold Builtin.bitAnd;rw[not_not,dX (show(0:Int)<=(a:Int) by lia),dE (show¬(0:Int)<=Builtin.bitNot (b:Int) by unfold Builtin.bitNot;lia)];show(a:Int)-(((a:Int).toNat&&&(b:Int).toNat:Nat):Int)=_;rw[cE,cE];lia
 ·rw[cD,bO,cY,bR];exact⟨λz=>⟨h _ (hd _ z),z⟩,λz=>z.2⟩
 ·obtain⟨h3,h4⟩:=cY.mp hx;exact⟨bR.mp h3,hd _ h4⟩
 ·cases hb:b.testBit x with
  |true=>exact .inr rfl
  |false=>
   left
   rw[cY,bR];exact⟨h x hx,by rw[h2,hx,hb];rfl⟩
theorem lT.out{C:Addr}{g:oH}{ls:List Ln}(h:lT C H g aD aX ls)(hp:H p=none):JR g p:=by
 obtain⟨ws,h2,_⟩:=h.lin;obtain⟨as,h5,_⟩:=h.abv;obtain⟨bs,h7,_⟩:=h.blw;have go:∀{a:Addr}{o:HO},H a=some o->p≠a:=λha z=>by rw[z,ha]at hp;cases hp
 exact⟨go h2,go h.plc,go h5,go h7⟩
def lh(_rows:List Rw)(_ls L:List Ln)(i j:Nat):Prop:=zR L ((lQ j:Nat):Int) ((lQ i:Nat):Int)=true
def ag(_rows:List Rw)(ls L:List Ln)(i j:Nat):Prop:=(∀m:Nat,zR ls j m=true->zR L i m=true)/\∀h:Nat,zR ls h i=true->zR L h j=true
def af(aD:List Rw)(_ls L:List Ln)(i j:Nat):Prop:=(j:Int)=rM i->∀n:Nat,n<2*aD.length->zR L i n=true
def LJ(H:Hp)(us:List V)(ls L:List Ln)(i:Nat):Prop:=∀(t:Addr)(m:Nat)(a b:Int),V.ref t∈us->H t=some (.tup [.int (2*(m:Int)),.int a,.int b])->zR ls i a=true->zR ls i b=true->zR L i ((2*m:Nat):Int)=true
inductive sE (R:List Rw->List Ln->List Ln->Nat->Nat->Prop) (C:Addr) (vs:List V) (H:Hp) (Q:VK) (E:XK):Prop
 |mk (g:oH) (aD:List Rw) (aX:List xM) (ls:List Ln) (i j:Nat) (_:vs=[.ref g.r,.int i,.int j]) (_:lT C H g aD aX ls) (_:aD.length<=100) (_:zR ls i j=true) (_:∀H',mF C H g aD aX ls (λL=>R aD ls L i j) H'->Q .non H')
inductive spGB (C:Addr) (vs:List V) (H:Hp) (Q:VK) (E:XK):Prop
 |mk (g:oH) (aD:List Rw) (aX:List xM) (ls:List Ln) (i:Nat) (q:Addr) (us:List V) (_:vs=[.ref g.r,.int i,.ref q]) (_:lT C H g aD aX ls) (_:aD.length<=100) (_:i<2*aD.length) (_:H q=some (.lst us)) (_:JR g q) (_:(∀v∈us,WY aD H v)) (_:qP aD) (_:∀H',mF C H g aD aX ls (λL=>LJ H us ls L i) H'->Q .non H')
theorem fj{C:Addr}(T:OF K C)(h_a:lC P w K mg base 1 C "line_of" ["self","i","j"] (EB C))(h_d:lC P w K mg base 2 C "grow" ["self","i","j","why"] (rP C))(F:gI K "grow_by_turn" "grow_by_turn" s_v f fd):dI P w K mg base fZ 3 f fd ["growth","i","j"] (sE lh C):=by
 refine F.okz sc_v λfD A outer s H vs Q E hr h=>?_
 obtain⟨g,aD,aX,ls,i,j,rfl,hg,iA,hh,q⟩:=h;have cU:=T.cl;have lk:(rA g).lookup ("grow":Str)=none:=qW g () () () ();have lk2:(rA g).lookup ("line_of":Str)=none:=qW g () () () ();obtain⟨dx,eG⟩:=hg.ins;refine⟨_,(zG (zU (zY h_d cU hr.m (pv 0) (zA (zN kX (pv 2) zE) (zA (zN kX (pv 1) zE) (zA (zQ (zA zT (zA (zY h_a cU hr.m (pv 0) (zA (pv 1) (zA (pv 2) zC))) zC))) zC)))))),?_⟩;dsimp![yV];obtain⟨hi,hj⟩:=hg.ok.rng hh;refine⟨_,_,eG,lk,_,_,eG,lk2,g,aD,aX,ls,i,j,rfl,hg,hh,λp l H1 s1 hl h1 h2=>⟨small (),λp1 hp1=>?_⟩⟩;rw[DQ,DQ,qF,qF];exact wQ (t:=[]) (bA.g s1) (by rw[cN];exact hg.same s1) iA (zF hp1 _) HF (by rw[cN];exact b8 hi hj hl h1 h2) SI (λL e h=>h) λ_ H3 g3=>q _ g3
theorem SX{C:Addr}(T:OF K C)(bi:Bi mg)(h_F:gS P w K mg base 1 "bits_of" ["mask"] sI)(h_a:lC P w K mg base 1 C "line_of" ["self","i","j"] (EB C))(h_d:lC P w K mg base 2 C "grow" ["self","i","j","why"] (rP C))(F:gI K "grow_by_chain" "grow_by_chain" s_j f fd):dI P w K mg base fZ 3 f fd ["growth","i","j"] (sE ag C):=by
 refine F.okz db λfD A outer s H vs Q E hr h=>?_
 obtain⟨g,aD,aX,ls,i,j,rfl,hg,iA,hh,q⟩:=h;have cU:=T.cl;have lk:(rA g).lookup ("grow":Str)=none:=qW g () () () ();have lk2:(rA g).lookup ("line_of":Str)=none:=qW g () () () ();obtain⟨dx,eG⟩:=hg.ins;refine⟨_,(zD (yE 3 db.nd (zY h_a cU hr.m (pv 0) (zA (pv 1) (zA (pv 2) zC)))) (zD (yI bM rfl (yF (zI h_F hr.m rfl (zA (zN EW (zL yH (xC (pv 0) rfl) (pv 2)) (wF OV (zL yH (xC (pv 0) rfl) (pv 1)))) zC))) (yG 4 db.nd) (zG (zU (zY h_d cU hr.m (pv 0) (zA (pv 1) (zA (pv 4) (zA (zQ (zA zT (zA (pv 3) (zA (zY h_a cU hr.m (pv 0) (zA (pv 2) (zA (pv 4) zC))) zC)))) zC))))))) (zG (yI bM rfl (yF (zI h_F hr.m rfl (zA (zN EW (zL yH (xC (pv 0) rfl) (pv 1)) (wF OV (zL yH (xC (pv 0) rfl) (pv 2)))) zC))) (yG 5 db.nd) (zG (zU (zY h_d cU hr.m (pv 0) (zA (pv 5) (zA (pv 2) (zA (zQ (zA zT (zA (zY h_a cU hr.m (pv 0) (zA (pv 5) (zA (pv 1) zC))) (zA (pv 3) zC)))) zC)))))))))),?_⟩;refine zH λN hN=>?_
 dsimp![yV];obtain⟨hi,hj⟩:=hg.ok.rng hh;refine⟨_,_,eG,lk2,g,aD,aX,ls,i,j,rfl,hg,hh,λp l H1 s1 hl h1 h2=>hN _ _ ?_⟩;clear hN;refine yA (λσ H'=>∃(o1 o2:Option V),mF C H g aD aX ls (λL=>∀m:Nat,zR ls j m=true->zR L i m=true) H'/\σ=[some (V.ref g.r),some (V.int i),some (V.int j),some (V.int p),o1,o2]) (λN hN=>?_) (λσ H' h=>?_)
 ·dsimp![yV,xZ];have hg1:=hg.same s1;obtain⟨dx,eG⟩:=hg1.ins;obtain⟨as,hab,hmk⟩:=hg1.abv;have hil:i<as.length:=by rw[hmk.len];exact hi
  have hjl:j<as.length:=by rw[hmk.len];exact hj
  have hbit:=hmk.bit j as[j] (aA hjl);have hbx:∀x,as[j].testBit x=true->x<2*aD.length:=λx hx=>(hg.ok.rng (i:=j) (by rw[←hbit x];exact hx)).2
  obtain⟨m,xs,em,hbm,hxs,hxa⟩:=QJ (b:=as[i]) λx hx=>cI (hbx x hx) ()
  have hat:∀{k:Nat}(hk:k<as.length),oV (as.map nV) (k:Int)=some (V.int ((as[k]:Nat):Int)):=λ{k} hk=>yD (by rw[aK,aA hk];rfl)
  refine⟨_,_,_,eG,T.cl,T.nA,_,WB g,_,rfl,_,dL.of hab,_,hat hjl,_,_,_,eG,T.cl,T.nA,_,WB g,_,rfl,_,dL.of hab,_,hat hil,_,rfl,_,rfl,?_⟩;rw[em];refine⟨m,xs,rfl,hbm,λx hx=>(hxs x hx).1,λpb H2 s2 hpb0 hpb=>?_⟩;have ho:JR g pb:=hg1.out hpb0;replace s1:=s1.trans s2;have hg2:=hg.same s1;refine⟨_,rfl,⟨_,dL.of hpb⟩,?_⟩;refine xV (xs:=xs.map nV) (λk σ H'=>∃(o1 o2:Option V),mF C H2 g aD aX ls (λL=>∀x∈xs.take k,zR L i x=true) H'/\σ=[some (V.ref g.r),some (V.int i),some (V.int j),some (V.int p),o1,o2]) ⟨_,_,mF.refl hg2 (λx z=>by cases z),rfl⟩ (λk σ H' _ h=>?_) (λk x σ H' hx h M hM=>?_) (λσ H' h=>?_)
  ·obtain⟨_,_,h,_⟩:=h;exact dL.of (h.to.1.out ho hpb)
  ·obtain⟨o1,o2,⟨gs,t,gt,hP⟩,rfl⟩:=h;rw[aK]at hx;obtain⟨x',hx',rfl⟩:=aO.mp hx;obtain⟨_,hx2⟩:=hxs x' (aV hx');have hjx:zR ls j x'=true:=by rw[←hbit x'];exact hx2
   have hx3:=hbx x' hx2;obtain⟨dx,eG⟩:=gt.ins;dsimp![yV];refine⟨_,_,eG,lk,_,_,eG,lk2,g,aD,aX,_,j,x',rfl,gt,zW hjx,λp' l' H4 s4 fG h1' h2'=>⟨small (),λp1 hp1=>?_⟩⟩;refine wQ (gs.trans (bA.g s4)) (gt.same s4) iA (zF hp1 _) QU (tV hi hx3 (by rw[bE (aC.mp hl).1];exact hl) h1 h2 fG h1' h2') ET (λL e h x hx9=>?_) λ_ H3 g3=>hM _ _ ⟨_,_,g3,rfl⟩
   obtain⟨hkl,hke⟩:=aC.mp hx';rw[aM hkl,hke]at hx9;rcases bS.mp hx9 with hx9 |hx9
   ·exact e.has (hP x hx9)
   ·rw[aT.mp hx9];exact h
  ·obtain⟨o1,o2,h,rfl⟩:=h;obtain⟨h1',t,h2',h3'⟩:=h;rw[aE,aQ (aG _)]at h3';refine hN _ _ ⟨_,_,mF.pre s1 ⟨h1',t,h2',λm hm=>?_⟩,rfl⟩;rw[←hbit m]at hm;rcases hxa m hm with z |z
   ·exact h3' m z
   ·rw[hmk.bit i as[i] (aA hil)]at z;exact zW z
 obtain⟨o1,o2,⟨gs,t,gt,hP1⟩,rfl⟩:=h;have hl0:(ls++t)[p]?=some l:=by rw[bE (aC.mp hl).1];exact hl
 have hh0:zR (ls++t) i j=true:=zW hh;dsimp![yV,xZ];obtain⟨dx,eG⟩:=gt.ins;obtain⟨as,hab,hmk⟩:=gt.blw;have hil:i<as.length:=by rw[hmk.len];exact hi
 have hjl:j<as.length:=by rw[hmk.len];exact hj
 have hbit:=hmk.bit i as[i] (aA hil);have hbx:∀x,as[i].testBit x=true->x<2*aD.length:=λx hx=>(gt.ok.rng (j:=i) (by rw[←hbit x];exact hx)).1
 obtain⟨m,xs,em,hbm,hxs,hxa⟩:=QJ (b:=as[j]) λx hx=>cI (hbx x hx) ()
 have hat:∀{k:Nat}(hk:k<as.length),oV (as.map nV) (k:Int)=some (V.int ((as[k]:Nat):Int)):=λ{k} hk=>yD (by rw[aK,aA hk];rfl)
 refine⟨_,_,_,eG,T.cl,T.nB,_,q9 g,_,rfl,_,dL.of hab,_,hat hil,_,_,_,eG,T.cl,T.nB,_,q9 g,_,rfl,_,dL.of hab,_,hat hjl,_,rfl,_,rfl,?_⟩;rw[em];refine⟨m,xs,rfl,hbm,λx hx=>(hxs x hx).1,λpb H2 s2 hpb0 hpb=>?_⟩;have ho:JR g pb:=gt.out hpb0;have hg2:=gt.same s2;replace gs:=gs.trans (bA.g s2);refine⟨_,rfl,⟨_,dL.of hpb⟩,?_⟩;refine xV (xs:=xs.map nV) (λk σ H'=>∃(o1 o2:Option V),mF C H2 g aD aX (ls++t) (λL=>∀x∈xs.take k,zR L x j=true) H'/\σ=[some (V.ref g.r),some (V.int i),some (V.int j),some (V.int p),o1,o2]) ⟨_,_,mF.refl hg2 (λx z=>by cases z),rfl⟩ (λk σ H' _ h=>?_) (λk x σ H' hx h M hM=>?_) (λσ H' h=>?_)
 ·obtain⟨_,_,h,_⟩:=h;exact dL.of (h.to.1.out ho hpb)
 ·obtain⟨o1,o2,⟨gs',t',gt',hP⟩,rfl⟩:=h;rw[aK]at hx;obtain⟨x',hx',rfl⟩:=aO.mp hx;obtain⟨_,hx2⟩:=hxs x' (aV hx');have hjx:zR (ls++t) x' i=true:=by rw[←hbit x'];exact hx2
  have hx3:=hbx x' hx2;obtain⟨dx,eG⟩:=gt'.ins;dsimp![yV];refine⟨_,_,eG,lk,_,_,eG,lk2,g,aD,aX,_,x',i,rfl,gt',zW hjx,λp' l' H4 s4 fG h1' h2'=>⟨small (),λp1 hp1=>?_⟩⟩;refine wQ (gs'.trans (bA.g s4)) (gt'.same s4) iA (zF hp1 _) QU (tV hx3 hj fG h1' h2' (by rw[bE (aC.mp hl0).1];exact hl0) h1 h2) ET (λL e h x hx9=>?_) λ_ H3 g3=>hM _ _ ⟨_,_,g3,rfl⟩
  obtain⟨hkl,hke⟩:=aC.mp hx';rw[aM hkl,hke]at hx9;rcases bS.mp hx9 with hx9 |hx9
  ·exact e.has (hP x hx9)
  ·rw[aT.mp hx9];exact h
 ·obtain⟨o1,o2,h,rfl⟩:=h;refine q _ (mF.then gs h λL e hL=>⟨λm hm=>e.has (hP1 m hm),λh0 hh0=>?_⟩);rw[aE,aQ (aG _)]at hL;have hm:as[i].testBit h0=true:=by rw[hbit h0];exact zW hh0
  rcases hxa h0 hm with z |z
  ·exact hL h0 z
  ·rw[hmk.bit j as[j] (aA hjl)]at z;exact e.has z
theorem fz{C:Addr}(T:OF K C)(h_a:lC P w K mg base 1 C "line_of" ["self","i","j"] (EB C))(h_D:lC P w K mg base 1 C "has" ["self","i","j"] (PU C))(h_d:lC P w K mg base 2 C "grow" ["self","i","j","why"] (rP C))(F:gI K "grow_by_both" "grow_by_both" s_o f fd):dI P w K mg base fZ 3 f fd ["growth","i","boths"] (spGB C):=by
 refine F.okz cy λfD A outer s H vs Q E hr h=>?_
 obtain⟨g,aD,aX,ls,i,qa,us,rfl,hg,iA,hi,hqa,hout,htr,hin,q⟩:=h;have cU:=T.cl;have lk:(rA g).lookup ("grow":Str)=none:=qW g () () () ();have lk2:(rA g).lookup ("line_of":Str)=none:=qW g () () () ();have lk3:(rA g).lookup ("has":Str)=none:=qW g () () () ();refine⟨_,(zG (yI bM rfl (yF (pv 2)) (vA rfl (zX (yG 3 cy.nd) (zX (yG 4 cy.nd) (zX (yG 5 cy.nd) xG)))) (zG (yK (PW.pt (uY (XG (zY h_D cU hr.m (pv 0) (zA (pv 1) (zA (pv 4) zC)))) (vV (XG (zY h_D cU hr.m (pv 0) (zA (pv 1) (zA (pv 5) zC))))))) (zG (zU (zY h_d cU hr.m (pv 0) (zA (pv 1) (zA (pv 3) (zA (zQ (zA zT (zA (zY h_a cU hr.m (pv 0) (zA (pv 1) (zA (pv 4) zC))) (zA (zY h_a cU hr.m (pv 0) (zA (pv 1) (zA (pv 5) zC))) zC)))) zC)))))) zZ)))),?_⟩;dsimp![yV];refine⟨⟨_,dL.of hqa⟩,?_⟩;refine xV (xs:=us) (λk σ H'=>∃(o1 o2 o3:Option V),mF C H g aD aX ls (λL=>LJ H (us.take k) ls L i) H'/\σ=[some (V.ref g.r),some (V.int i),some (V.ref qa),o1,o2,o3]) ⟨_,_,_,mF.refl hg (λt m a b z=>by cases z),rfl⟩ (λk σ H' _ h=>?_) (λk x σ H' hx h M hM=>?_) (λσ H' h=>?_)
 ·obtain⟨_,_,_,h,_⟩:=h;exact dL.of (h.to.1.out hout hqa)
 ·obtain⟨o1,o2,o3,hgt,rfl⟩:=h;obtain⟨xa,k',a,b,rfl,hxa,hrk⟩:=htr x (aV hx);obtain⟨⟨b1,b2⟩,b3,b4⟩:=hin k' a b hrk;have hxa':=hg.tups hgt.to.1 _ _ hxa;dsimp![vN,jY,wD,yV];obtain⟨gs,t,gt,hP⟩:=hgt;have nxt:∀{L:List Ln},Le (ls++t) L->(zR ls i a=true->zR ls i b=true->zR L i ((2*k':Nat):Int)=true)->LJ H (us.take (k+1)) ls L i:=λ{L} e hL t0 m a0 b0 hm ht0 ha0 hb0=>by
   obtain⟨hkl,hke⟩:=aC.mp hx;rw[aM hkl,hke]at hm;rcases bS.mp hm with hm |hm
   ·exact e.has (hP t0 m a0 b0 hm ht0 ha0 hb0)
   ·have e1:=V.ref.inj (aT.mp hm);subst e1;rw[hxa]at ht0;have e2:=HO.tup.inj (dC ht0);injection e2 with e3 e4
    injection e4 with e5 e6
    injection e6 with e7 _
    have e3:=V.int.inj e3;have e5:=V.int.inj e5;have e7:=V.int.inj e7;subst e5 e7;rw[show m=k' by lia];exact hL ha0 hb0
  obtain⟨dx,eG⟩:=gt.ins;refine⟨_,dN.of hxa',rfl,_,_,rfl,_,_,rfl,_,_,rfl,rfl,_,_,eG,lk3,g,aD,aX,_,i,a,rfl,gt,λH1 s1=>⟨_,rfl,?_⟩⟩;have ge1:zR (ls++t) i a=false->mF C H g aD aX ls (λL=>LJ H (us.take (k+1)) ls L i) H1:=λz=>⟨gs.trans (bA.g s1),t,gt.same s1,nxt (Le.refl _) (λha _=>by rw[zW ha]at z;cases z)⟩
  by_cases c1:zR (ls++t) i a=true
  ·rw[aL c1];replace gs:=gs.trans (bA.g s1);replace gt:=gt.same s1;obtain⟨dx,eG⟩:=gt.ins;refine⟨_,_,eG,lk3,g,aD,aX,_,i,b,rfl,gt,λH2 s2=>⟨_,rfl,?_⟩⟩;replace gs:=gs.trans (bA.g s2);replace gt:=gt.same s2;by_cases c2:zR (ls++t) i b=true
   ·rw[aL c2];obtain⟨dx,eG⟩:=gt.ins;have hk1:k'<aD.length:=(aC.mp hrk).1;have e2:(2:Int)*(k':Int)=((2*k':Nat):Int):=by lia
    have hpt:vC aD ((2*k':Nat):Int)=[a,b]:=kE (r:=.bo a b) () (by rw[show(((2*k':Nat):Int)/2).toNat=k' by lia];exact hrk);refine⟨_,_,eG,lk,_,_,eG,lk2,g,aD,aX,_,i,a,rfl,gt,c1,λp l H3 s3 hl h1 h2=>?_⟩;replace gs:=gs.trans (bA.g s3);replace gt:=gt.same s3;obtain⟨dx,eG⟩:=gt.ins;refine⟨_,_,eG,lk2,g,aD,aX,_,i,b,rfl,gt,c2,λp' l' H4 s4 fG h1' h2'=>⟨small (),λp1 hp1=>?_⟩⟩;rw[e2];exact wQ (gs.trans (bA.g s4)) (gt.same s4) iA (zF hp1 _) QU (ce hi () hpt hl h1 h2 fG h1' h2') ET (λL e h=>nxt e λ_ _=>h) λ_ H3 g3=>hM _ _ ⟨_,_,_,g3,rfl⟩
   ·rw[aH c2];exact hM _ _ ⟨_,_,_,⟨gs,t,gt,nxt (Le.refl _) (λ_ hb=>absurd (zW hb) c2)⟩,rfl⟩
  ·rw[aH c1];exact hM _ _ ⟨_,_,_,ge1 (dS.mpr c1),rfl⟩
 ·obtain⟨_,_,_,h,rfl⟩:=h;rw[aQ (aG _)]at h;exact q _ h
theorem SW{C:Addr}(T:OF K C)(bi:Bi mg)(h_a:lC P w K mg base 1 C "line_of" ["self","i","j"] (EB C))(h_d:lC P w K mg base 2 C "grow" ["self","i","j","why"] (rP C))(F:gI K "grow_by_clash" "grow_by_clash" s_p f fd):dI P w K mg base fZ 3 f fd ["growth","i","j"] (sE af C):=by
 refine F.okz sc_p λfD A outer s H vs Q E hr h=>?_
 obtain⟨g,aD,aX,ls,i,j,rfl,hg,iA,hh,q⟩:=h;have cU:=T.cl;have lk:(rA g).lookup ("grow":Str)=none:=qW g () () () ();have lk2:(rA g).lookup ("line_of":Str)=none:=qW g () () () ();obtain⟨dx,eG⟩:=hg.ins;refine⟨_,(zG (yK (zP xK (pv 2) (zN kX (pv 1) zE) (zV _)) (zG (yI bM rfl (xX rfl bi.range (zA (yC yL rfl bi.len xE (zA (xC (pv 0) rfl) zC)) zC)) (yG 3 sc_p.nd) (zG (zU (zY h_d cU hr.m (pv 0) (zA (pv 1) (zA (pv 3) (zA (zQ (zA zT (zA (zY h_a cU hr.m (pv 0) (zA (pv 1) (zA (pv 2) zC))) zC))) zC)))))))) zZ)),?_⟩;dsimp![yV,xZ];refine⟨rfl,?_⟩;obtain⟨hi,hj⟩:=hg.ok.rng hh;by_cases e:(j:Int)=Builtin.bitXor (i:Int) 1
 ·rw[aL e];rw[DQ]at e;obtain⟨as,hab,hmk⟩:=hg.abv;refine⟨_,_,_,eG,T.cl,T.nA,_,WB g,as.length,.inl ⟨_,dL.of hab,by simp⟩,(),by have :=hmk.len;lia,?_⟩;refine kL (n:=(as.length:Int).toNat) (λk σ H'=>∃(o1:Option V),mF C H g aD aX ls (λL=>∀n:Nat,n<k->zR L i n=true) H'/\σ=[some (V.ref g.r),some (V.int i),some (V.int j),o1]) ⟨_,mF.refl hg (λn z=>()),rfl⟩ (λk σ H' hk h M hM=>?_) (λσ H' h=>?_)
  ·obtain⟨o1,⟨gs,t,gt,hP⟩,rfl⟩:=h;have hk':k<2*aD.length:=by have :=hmk.len;lia
   have e0:(0:Int)+(k:Int)=((k:Nat):Int):=by lia
   obtain⟨dx,eG⟩:=gt.ins;dsimp![yV];rw[e0];refine⟨_,_,eG,lk,_,_,eG,lk2,g,aD,aX,_,i,j,rfl,gt,zW hh,λp l H1 s1 hl h1 h2=>⟨small (),λp1 hp1=>?_⟩⟩;refine wQ (gs.trans (bA.g s1)) (gt.same s1) iA (zF hp1 _) HF (PM hi hk' e hl h1 h2) SI (λL e h n hn=>?_) λ_ H3 g3=>hM _ _ ⟨_,g3,rfl⟩
   rcases iF (mJ hn)with z |z
   ·exact e.has (hP n z)
   ·rw[z];exact h
  ·obtain⟨_,⟨h1,t,h2,h3⟩,rfl⟩:=h;exact q _ ⟨h1,t,h2,λ_ n hn=>h3 n (by have :=hmk.len;lia)⟩
 ·rw[aH e];exact q _ (mF.refl hg λz=>absurd (by rw[DQ];exact z) e)
abbrev s_n:Stmt:=top 38
theorem cz:cC ["growth","rules","r","premises","pair","lines"] ["growth","rules","r"] (zK s_n):=by rfl'
theorem b9{ls:List Ln}{r:Nat}{q:xM}{ps:List Int}(hi:i<2*aD.length)(hj:j<2*aD.length)(hr:aX[r]?=some q)(hq:q.2=((i:Int),(j:Int)))(hp:(ps.map λp=>xJ ls ls.length (.n p))=q.1.map some):xQ aD aX ls ls.length ⟨i,j,"rule",[.n r,.ps ps]⟩=true:=by
 have hrl:=(aC.mp hr).1;unfold xQ;rw[aH (by
  intro z;rcases z with z |z
  ·exact z ⟨by show(0:Int)<=(i:Int);lia,by show(i:Int)<_;lia⟩
  ·exact z ⟨by show(0:Int)<=(j:Int);lia,by show(j:Int)<_;lia⟩),aL rfl,oe rfl,aL ⟨(),()⟩,cE,hr]
 show(((i:Int),(j:Int))==q.2&&_==_)=true;rw[hq,hp,bY];exact⟨dR _,dR _⟩
def InR(aD:List Rw)(q:xM):Prop:=(0<=q.2.1/\q.2.1<2*(aD.length:Int))/\(0<=q.2.2/\q.2.2<2*(aD.length:Int))
def ll(aD:List Rw)(aX:List xM)(ls L:List Ln)(r:Nat):Prop:=∀q:xM,aX[r]?=some q->InR aD q->(∀p∈q.1,zR ls p.1 p.2=true)->zR L q.2.1 q.2.2=true
inductive spGR (C:Addr) (vs:List V) (H:Hp) (Q:VK) (E:XK):Prop
 |mk (g:oH) (aD:List Rw) (aX:List xM) (ls:List Ln) (ra:Addr) (us:List V) (r:Nat) (_:vs=[.ref g.r,.ref ra,.int r]) (_:lT C H g aD aX ls) (_:aD.length<=100) (_:H ra=some (.lst us)) (_:bG H (aX.map a9) us) (_:r<aX.length) (_:(∀r∈aX,r.1.length<=100)) (_:∀H',mF C H g aD aX ls (λL=>ll aD aX ls L r) H'->Q .non H')
theorem fm{C:Addr}(T:OF K C)(bi:Bi mg)(h_U:gS P w K mg base 2 "is_below" ["n","bound"] PV)(h_a:lC P w K mg base 1 C "line_of" ["self","i","j"] (EB C))(h_D:lC P w K mg base 1 C "has" ["self","i","j"] (PU C))(h_d:lC P w K mg base 2 C "grow" ["self","i","j","why"] (rP C))(F:gI K "grow_by_rule" "grow_by_rule" s_n f fd):dI P w K mg base fZ 3 f fd ["growth","rules","r"] (spGR C):=by
 refine F.okz cz λfD A outer s H vs Q E hr h=>?_
 obtain⟨g,aD,aX,ls,ra,us,r,rfl,hg,iA,hra,hru,hrl,hpr,q⟩:=h;have hul:=uB hru;have cU:=T.cl;have lk:(rA g).lookup ("grow":Str)=none:=qW g () () () ();have lk2:(rA g).lookup ("line_of":Str)=none:=qW g () () () ();have lk3:(rA g).lookup ("has":Str)=none:=qW g () () () ();obtain⟨dx,eG⟩:=hg.ins;have mV:aX[r]?=some aX[r]:=aA hrl;have hq1:=hpr _ (cW hrl);generalize aX[r]=nr at mV hq1;obtain⟨rv,hrv,hrd⟩:=bG.get (d:=a9 nr) hru (by rw[aK,mV];rfl);obtain⟨xa,xl,xb,ps,rfl,hxa,hxl,hps,hxb⟩:=nrAt hrd;have hpl:=uB hps;refine⟨_,(zD (yE 3 cz.nd (zL zM (zL yH (pv 1) (pv 2)) zE)) (zD (yE 4 cz.nd (zL zM (zL yH (pv 1) (pv 2)) zE)) (zD (yK (oq (XG (yC CS rfl bi.all WS (zA (yS ["n"] ["growth"] [0] (uZ (pv 4)) (λ_ _ _ _ nd=>yG 0 nd) (λ_ _ _ _=>yW) (λ_ _ _ _=>(zI h_U hr.m rfl (zA (pv 0) (zA (yC (NQ K) rfl bi.len xE (zA (IM K (pv 1) rfl) zC)) zC))))) zC)))) (zG IH) zZ) (zG (yK (XG (yC CS rfl bi.all WS (zA (yS ["i","j"] ["growth"] [0] (yF (pv 3)) (λ_ _ _ _ nd=>qT (K:=K) (n:=2) rfl (zX (yG 0 nd) (zX (yG 1 nd) xG))) (λ_ _ _ _=>yW) (λ_ _ _ _=>(zY h_D cU hr.m (pv 2) (zA (pv 0) (zA (pv 1) zC))))) zC))) (zD (yE 5 cz.nd (xO jU rfl bi.tuple kP (zA (yS ["i","j"] ["growth"] [0] (yF (pv 3)) (λ_ _ _ _ nd=>qT (K:=K) (n:=2) rfl (zX (yG 0 nd) (zX (yG 1 nd) xG))) (λ_ _ _ _=>yW) (λ_ _ _ _=>(zY h_a cU hr.m (pv 2) (zA (pv 0) (zA (pv 1) zC))))) zC))) (zG (zU (zY h_d cU hr.m (pv 0) (zA (zL zM (pv 4) zE) (zA (zL zM (pv 4) zE) (zA (zQ (zA zT (zA (pv 2) (zA (pv 5) zC)))) zC))))))) zZ))))),?_⟩;refine zH λN hN=>?_
 dsimp![];refine⟨_,dL.of hra,_,yD hrv,xa,rfl,_,dN.of hxa,_,lS,hN _ _ ?_⟩;clear hN;refine zH λN hN=>?_
 dsimp![];refine⟨_,dL.of hra,_,yD hrv,xa,rfl,_,dN.of hxa,_,pH,hN _ _ ?_⟩;clear hN;obtain⟨as,hab,hmk⟩:=hg.abv;have eQ:=hmk.len;refine zH λN hN=>?_
 dsimp![];refine⟨⟨_,dN.of hxb⟩,?_⟩;refine UY (xs:=[.int nr.2.1,.int nr.2.2]) (λi ys σ H'=>bA H H'/\ys=(([nr.2.1,nr.2.2].take i).map λx=>JQ as.length (.n x)).map V.bl/\∃o,σ=[o,some (V.ref g.r)]) ⟨bA.refl _,rfl,_,rfl⟩ (small (by simp)) (λi ys σ H' e=>?_) (λi ys σ H' e=>dN.of (e.1 _ _ hxb)) (λi x ys σ H' D hx e hD=>?_) (λys σ H' e p hp=>?_)
 ·obtain⟨_,rfl,_⟩:=e;rw[aE,aE,bU];lia
 ·obtain⟨es,rfl,o,rfl⟩:=e;have hg':=hg.same es;obtain⟨dx,eG⟩:=hg'.ins;have hx':∃n,x=V.int n/\[nr.2.1,nr.2.2][i]?=some n:=by
   match i,hx with
   |0,hx=>cases hx;exact⟨_,rfl,rfl⟩
   |1,hx=>cases hx;exact⟨_,rfl,rfl⟩
  obtain⟨n,rfl,hn⟩:=hx';obtain⟨hil,hn2⟩:=aC.mp hn;dsimp![xZ,PV];refine⟨C,dx,_,eG,T.cl,T.nA,_,WB g,as.length,.inl ⟨_,dL.of (es _ _ hab),by simp⟩,.n n,rfl,hD _ _ _ ⟨es,?_,_,rfl⟩⟩;rw[aM hil,hn2,aU,aU];rfl
 obtain⟨es,rfl,o,rfl⟩:=e;refine⟨p,rfl,_,dL.of zB,?_⟩;have s1:=es.trans (zF hp (.lst ((([nr.2.1,nr.2.2].take 2).map λx=>JQ as.length (.n x)).map V.bl)))
 change (if([JQ as.length (.n nr.2.1),JQ as.length (.n nr.2.2)].all id)=false then Q V.non (upd H' p (.lst ((([nr.2.1,nr.2.2].take 2).map λx=>JQ as.length (.n x)).map V.bl)))else N _ (upd H' p (.lst ((([nr.2.1,nr.2.2].take 2).map λx=>JQ as.length (.n x)).map V.bl))))
 generalize upd H' p (.lst ((([nr.2.1,nr.2.2].take 2).map λx=>JQ as.length (.n x)).map V.bl))=H1 at s1⊢;clear hp es eG;have hg1:=hg.same s1;by_cases hB:(0<=nr.2.1/\nr.2.1<2*(aD.length:Int))/\(0<=nr.2.2/\nr.2.2<2*(aD.length:Int))
 case neg=>
  rw[aL]
  ·exact q _ ((mF.refl hg (λq' hq' mB _=>by rw[mV]at hq';cases hq';exact absurd mB hB)).same s1)
  ·rw[dS];intro z;simp[JQ]at z;exact hB ()
 rw[aH (by simp[JQ];lia)];refine hN _ _ ?_;clear hN;obtain⟨⟨b1,b2⟩,b3,b4⟩:=hB;obtain⟨i,hi⟩:=dU b1;obtain⟨j,hj⟩:=dU b3;have hps1:=bG.same s1 hps;have hxl1:=s1 _ _ hxl;have hxb1:=s1 _ _ hxb;clear hab hmk eQ;dsimp![];refine⟨⟨_,dL.of hxl1⟩,?_⟩;refine jS (xs:=ps) (λk ys σ H'=>bA H1 H'/\ys=((nr.1.take k).map λx=>zR ls x.1 x.2).map V.bl/\∃o1 o2,σ=[o1,o2,some (V.ref g.r)]) ⟨bA.refl _,rfl,_,_,rfl⟩ (small ()) (λk ys σ H' e=>?_) (λi ys σ H' e=>dL.of (e.1 _ _ hxl1)) (λk x ys σ H' D hx e hD=>?_) (λys σ H' e p hp=>?_)
 ·obtain⟨_,rfl,_⟩:=e;rw[aE,aE,bU];lia
 ·obtain⟨es,rfl,o1,o2,rfl⟩:=e;have hg':=hg1.same es;obtain⟨dx,eG⟩:=hg'.ins;obtain⟨pr,hpk,hpx⟩:=jE hps1 hx;obtain⟨xp,rfl,hxp⟩:=ox hpx;replace hxp:=es _ _ hxp;obtain⟨hkl,hk2⟩:=aC.mp hpk;dsimp![vN,jY,wD,yV];refine⟨_,dN.of hxp,rfl,_,_,rfl,_,_,rfl,rfl,_,_,eG,lk3,g,aD,aX,ls,_,_,rfl,hg',λH3 s3=>hD _ _ _ ⟨es.trans s3,?_,_,_,rfl⟩⟩;rw[aM hkl,hk2,aU,aU];rfl
 obtain⟨es,rfl,o1,o2,rfl⟩:=e;refine⟨p,rfl,_,dL.of zB,?_⟩;rw[aQ ()];have s2:=es.trans (zF hp (.lst ((nr.1.map λx=>zR ls x.1 x.2).map V.bl)));generalize upd H' p (.lst ((nr.1.map λx=>zR ls x.1 x.2).map V.bl))=H2 at s2⊢;clear hp es;have hg2:=hg1.same s2;replace hxl1:=s2 _ _ hxl1;replace hxb1:=s2 _ _ hxb1;replace hps1:=bG.same s2 hps1;by_cases hA:(nr.1.map λx=>zR ls x.1 x.2).all id=true
 case neg=>
  rw[aH hA];exact q _ ((mF.refl hg (λq' hq' _ hp'=>absurd (by rw[mV]at hq';cases hq';rw[oE,cX];exact λp hp=>hp' p hp) hA)).same (s1.trans s2))
 rw[aL hA];rw[oE,cX]at hA;refine⟨⟨_,dL.of hxl1⟩,?_⟩;refine jS (xs:=ps) (λk ys σ H'=>bA H2 H'/\(∃ns:List Int,ys=ns.map V.int/\ns.length=k/\(ns.map λp=>xJ ls ls.length (.n p))=(nr.1.take k).map some)/\∃o1 o2,σ=[o1,o2,some (V.ref g.r)]) ⟨bA.refl _,⟨[],rfl,rfl,rfl⟩,_,_,rfl⟩ (small ()) (λk ys σ H' e=>?_) (λi ys σ H' e=>dL.of (e.1 _ _ hxl1)) (λk x ys σ H' D hx e hD=>?_) (λys σ H' e p hp=>?_)
 ·obtain⟨_,⟨ns,rfl,hl,_⟩,_⟩:=e;rw[aE];lia
 ·obtain⟨es,⟨ns,rfl,hl,hns⟩,o1,o2,rfl⟩:=e;have hg':=hg2.same es;obtain⟨dx,eG⟩:=hg'.ins;obtain⟨pr,hpk,hpx⟩:=jE hps1 hx;obtain⟨xp,rfl,hxp⟩:=ox hpx;replace hxp:=es _ _ hxp;obtain⟨hkl,hk2⟩:=aC.mp hpk;dsimp![vN,jY,wD,yV];refine⟨_,dN.of hxp,rfl,_,_,rfl,_,_,rfl,rfl,_,_,eG,lk2,g,aD,aX,ls,_,_,rfl,hg',hA pr (aV hpk),λp l H3 s3 hl1 h1 h2=>hD _ _ _ ⟨es.trans s3,⟨ns++[(p:Int)],by rw[aU];rfl,by simp[hl],?_⟩,_,_,rfl⟩⟩;rw[aM hkl,hk2,aU,aU,hns];show _++[xJ ls ls.length (.n (p:Int))]=_;rw[uH hl1,h1,h2];rfl
 obtain⟨es,⟨ns,rfl,hl,hns⟩,o1,o2,rfl⟩:=e;rw[aQ ()]at hns;refine⟨p,rfl,_,.inl ⟨dL.of zB,λl fG=>?_⟩⟩;have s3:=(es.trans (zF hp (.lst (ns.map V.int)))).trans (zF fG (.tup (ns.map V.int)));have kl:upd (upd H' p (.lst (ns.map V.int))) l (.tup (ns.map V.int)) l=some (.tup (ns.map V.int)):=zB;generalize upd (upd H' p (.lst (ns.map V.int))) l (.tup (ns.map V.int))=H3 at s3 kl⊢;replace hxb1:=s3 _ _ hxb1;have hg3:=hg2.same s3;obtain⟨dx,eG⟩:=hg3.ins;dsimp![yV];refine⟨_,_,eG,lk,_,dN.of hxb1,_,lS,_,dN.of hxb1,_,pH,small (),λp2 lX=>?_⟩;rw[hi,hj];refine wQ (t:=[]) (bA.g ((s1.trans s2).trans s3)) (by rw[cN];exact hg3) iA (zF lX _) (x:="rule") (as:=[.n r,.ps ns]) ⟨p2,_,rfl,zB,_,_,rfl,rfl,_,_,rfl,rfl,_,_,rfl,sn (zF lX _ _ _ kl),rfl⟩ ?_ ⟨by simp,λps' h=>?_⟩ (λL e h q' hq' _ _=>by rw[mV]at hq';cases hq';rw[hi,hj];exact h) λ_ H4 g4=>q _ g4
 ·rw[cN];exact b9 () () mV (Prod.ext hi hj) hns
 ·simp at h;subst h;lia
abbrev s_G:Stmt:=top 39
theorem rR:cC ["sheet","rules","growth","boths","waiting","r","k","i","j"] ["sheet","rules"] (zK s_G):=by rfl'
theorem Le.back{L L':List Ln}(e:Le L L')(ha:a<L.length)(h:L'[a]?=some l):L[a]?=some l:=by
 obtain⟨t,rfl⟩:=e;rw[bE ha]at h;exact h
structure Cl(aD:List Rw)(aX:List xM)(k:Nat)(L:List Ln):Prop where
 turn:∀(a:Nat)(l:Ln)(i j:Nat),a<k->L[a]?=some l->l.i=i->l.j=j->zR L ((lQ j:Nat):Int) ((lQ i:Nat):Int)=true
 clash:∀(a:Nat)(l:Ln)(i j:Nat),a<k->L[a]?=some l->l.i=i->l.j=j->(j:Int)=rM i->∀n:Nat,n<2*aD.length->zR L i n=true
 chain:∀(a b:Nat)(l l':Ln)(i j m:Nat),a<k->b<k->L[a]?=some l->L[b]?=some l'->l.i=i->l.j=j->l'.i=j->l'.j=m->zR L i m=true
 both:∀(a b:Nat)(l l':Ln)(i n:Nat)(x y:Int),a<k->b<k->L[a]?=some l->L[b]?=some l'->l.i=i->l.j=x->l'.i=i->l'.j=y->aD[n]?=some (.bo x y)->zR L i ((2*n:Nat):Int)=true
 rule:∀(r:Nat)(q:xM),aX[r]?=some q->InR aD q->(∀p∈q.1,∃(a:Nat)(l:Ln),a<k/\L[a]?=some l/\l.i=p.1/\l.j=p.2)->zR L q.2.1 q.2.2=true
theorem Cl.le{k:Nat}{L L':List Ln}(h:Cl aD aX k L)(hk:k<=L.length)(e:Le L L'):Cl aD aX k L':=by
 have b:∀{a:Nat}{l:Ln},a<k->L'[a]?=some l->L[a]?=some l:=λha hl=>e.back () hl
 refine⟨λa l i j ha hl h1 h2=>e.has (h.turn a l i j ha (b ha hl) h1 h2),λa l i j ha hl h1 h2 h3 n hn=>e.has (h.clash a l i j ha (b ha hl) h1 h2 h3 n hn),λa b' l l' i j m ha hb hl fG h1 h2 h3 h4=>e.has (h.chain a b' l l' i j m ha hb (b ha hl) (b hb fG) h1 h2 h3 h4),
  λa b' l l' i n x y ha hb hl fG h1 h2 h3 h4 hr=>e.has (h.both a b' l l' i n x y ha hb (b ha hl) (b hb fG) h1 h2 h3 h4 hr),λr q hr hi hp=>e.has (h.rule r q hr hi λp hpq=>?_)⟩
 obtain⟨a,l,ha,hl,h1,h2⟩:=hp p hpq;exact⟨a,l,ha,b ha hl,h1,h2⟩
theorem Cl.step{k:Nat}{L L':List Ln}(h:Cl aD aX k L)(e:Le L L'){l0:Ln}(hk:L[k]?=some l0)(hi:l0.i=i)(hj:l0.j=j)
 (h1:zR L' ((lQ j:Nat):Int) ((lQ i:Nat):Int)=true) (h2:∀m:Nat,zR L j m=true->zR L' i m=true) (h3:∀m:Nat,zR L m i=true->zR L' m j=true)
 (h4:∀(n:Nat)(x y:Int),aD[n]?=some (.bo x y)->((j:Int)=x\/(j:Int)=y)->zR L i x=true->zR L i y=true->zR L' i ((2*n:Nat):Int)=true)
 (h5:(j:Int)=rM i->∀n:Nat,n<2*aD.length->zR L' i n=true)
 (h6:∀(r:Nat)(q:xM),aX[r]?=some q->InR aD q->((i:Int),(j:Int))∈q.1->(∀p∈q.1,zR L p.1 p.2=true)->zR L' q.2.1 q.2.2=true):Cl aD aX (k+1) L':=by
 have hkl:=(aC.mp hk).1;have hc:=h.le () e;have b:∀{a:Nat}{l:Ln},a<k+1->L'[a]?=some l->L[a]?=some l:=λha hl=>e.back () hl
 have z:∀{a:Nat},a<k+1->a<k\/a=k:=λha=>by lia
 have lz:∀{a:Nat}{l:Ln},a=k->a<k+1->L'[a]?=some l->l=l0:=λea ha hl=>by
  have :=b ha hl;rw[ea,hk]at this;exact(dC this).symm
 have hs:∀{a:Nat}{l:Ln},a<k+1->L'[a]?=some l->zR L l.i l.j=true:=λha hl=>eZ.mpr ⟨_,_,b ha hl,rfl,rfl⟩
 refine⟨λa l i' j' ha hl g1 g2=>?_,λa l i' j' ha hl g1 g2 g3 n hn=>?_,λa b' l l' i' j' m ha hb hl fG g1 g2 g3 g4=>?_,λa b' l l' i' n x y ha hb hl fG g1 g2 g3 g4 hr=>?_,λr q hr hir hp=>?_⟩
 ·rcases z ha with za |za
  ·exact hc.turn a l i' j' za hl g1 g2
  ·have el:=lz za ha hl;subst el;have ei:i'=i:=by lia
   have ej:j'=j:=by lia
   rw[ei,ej];exact h1
 ·rcases z ha with za |za
  ·exact hc.clash a l i' j' za hl g1 g2 g3 n hn
  ·have el:=lz za ha hl;subst el;have ei:i'=i:=by lia
   have ej:j'=j:=by lia
   subst ei ej;exact h5 g3 n hn
 ·rcases z ha with za |za
  ·rcases z hb with zb |zb
   ·exact hc.chain a b' l l' i' j' m za zb hl fG g1 g2 g3 g4
   ·have el:=lz zb hb fG;subst el;have ej:j'=i:=by lia
    have em:m=j:=by lia
    have :=hs ha hl;rw[g1,g2,ej]at this;rw[em];exact h3 i' this
  ·have el:=lz za ha hl;subst el;have ei:i'=i:=by lia
   have ej:j'=j:=by lia
   have :=hs hb fG;rw[g3,g4,ej]at this;rw[ei];exact h2 m this
 ·have ha':=hs ha hl;have hb':=hs hb fG;rw[g1,g2]at ha';rw[g3,g4]at hb';rcases z ha with za |za
  ·rcases z hb with zb |zb
   ·exact hc.both a b' l l' i' n x y za zb hl fG g1 g2 g3 g4 hr
   ·have el:=lz zb hb fG;subst el;have ei:i'=i:=by lia
    subst ei;exact h4 n x y hr (.inr ()) ha' hb'
  ·have el:=lz za ha hl;subst el;have ei:i'=i:=by lia
   subst ei;exact h4 n x y hr (.inl ()) ha' hb'
 ·by_cases hall:∀p∈q.1,∃(a:Nat)(l:Ln),a<k/\L'[a]?=some l/\l.i=p.1/\l.j=p.2
  ·exact hc.rule r q hr hir hall
  ·refine h6 r q hr hir (oT λhno=>hall λp hpq=>?_) λp hpq=>?_
   ·obtain⟨a,l,ha,hl,g1,g2⟩:=hp p hpq;rcases z ha with za |za
    ·exact⟨a,l,za,hl,g1,g2⟩
    ·have el:=lz za ha hl;subst el;have ep:p=((i:Int),(j:Int)):=Prod.ext (by rw[←g1,hi]) (by rw[←g2,hj]);exact absurd (ep▸hpq) hno
   ·obtain⟨a,l,ha,hl,g1,g2⟩:=hp p hpq;have :=hs ha hl;rw[g1,g2]at this;exact this
inductive j4 (K:W.Frag) (vs:List V) (H:Hp) (Q:VK) (E:XK):Prop
 |mk (sa ra:Addr) (us iH:List V) (aD:List Rw) (aX:List xM) (_:vs=[.ref sa,.ref ra]) (_:H sa=some (.lst us)) (_:gD K H aD us) (_:H ra=some (.lst iH)) (_:bG H (aX.map a9) iH) (_:aD.length<=100) (_:qP aD) (_:aX.length<=100) (_:(∀r∈aX,r.1.length<=100)) (_:∀(la:Addr)(ws:List V)(ls:List Ln) H',bA H H'->H' la=some (.lst ws)->jZ H' ls ws->LM aD aX ls->Pl aD (2*aD.length) aD.length ls->Cl aD aX ls.length ls->Q (.ref la) H')
theorem fT.same{g:oH}{H2:Hp}(s:bA H H2)(e:fT g H2 H')(h1:H g.la=none)(h2:H g.pa=none)(h3:H g.aa=none)(h4:H g.ba=none):bA H H':=λb o hb=>by
 have go:∀{a:Addr},H a=none->b≠a:=λha z=>by rw[z,ha]at hb;cases hb
 exact e b o (s b o hb) (go h1) (go h2) (go h3) (go h4)
theorem FD{C:Addr}(T:OF K C)(bi:Bi mg)(h_A:am P w K mg base 1 C "Growth" ["self","many"] (m3 C))(h_k:gS P w K mg base 1 "boths_by_part" ["sheet"] (spBo K))(h_b:gS P w K mg base 1 "rules_by_premise" ["rules"] spWa)(h_ae:gS P w K mg base 3 "begin" ["growth","sheet"] (spBe K C))(h_v:gS P w K mg base 3 "grow_by_turn" ["growth","i","j"] (sE lh C))(h_j:gS P w K mg base 3 "grow_by_chain" ["growth","i","j"] (sE ag C))(h_o:gS P w K mg base 3 "grow_by_both" ["growth","i","boths"] (spGB C))(h_p:gS P w K mg base 3 "grow_by_clash" ["growth","i","j"] (sE af C))(h_n:gS P w K mg base 3 "grow_by_rule" ["growth","rules","r"] (spGR C))(F:gI K "closing" "closing" s_G f fd):dI P w K mg base fZ 4 f fd ["sheet","rules"] (j4 K):=by
 refine F.okz rR λfD A outer s H vs Q E hr h=>?_
 obtain⟨sa,ra,us,iH,aD,aX,rfl,hsa,hrw,hra,hru,iA,hin,hr100,hpr,q⟩:=h;have hul:=hrw.len;have hvl:=uB hru;have cU:=T.cl;refine⟨_,(zD (yE 2 rR.nd (AO h_A hr.m rfl (zA (zN xR zE (yC yL rfl bi.len xE (zA (pv 0) zC))) zC))) (zD (yE 3 rR.nd (zI h_k hr.m rfl (zA (pv 0) zC))) (zD (yE 4 rR.nd (zI h_b hr.m rfl (zA (pv 1) zC))) (zD (zU (zI h_ae hr.m rfl (zA (pv 2) (zA (pv 0) zC)))) (zD (yI bM rfl (xX rfl bi.range (zA (yC yL rfl bi.len xE (zA (pv 1) zC)) zC)) (yG 5 rR.nd) (zG (zU (zI h_n hr.m rfl (zA (pv 2) (zA (pv 1) (zA (pv 5) zC))))))) (zD (yE 6 rR.nd zE) (zD (AE bM (zP ZM (pv 6) (yC yL rfl bi.len xE (zA (xC (pv 2) rfl) zC)) (zV _)) (zD (yE 7 rR.nd (zL zM (zL yH (xC (pv 2) rfl) (pv 6)) zE)) (zD (yE 8 rR.nd (zL zM (zL yH (xC (pv 2) rfl) (pv 6)) zE)) (zD (zU (zI h_v hr.m rfl (zA (pv 2) (zA (pv 7) (zA (pv 8) zC))))) (zD (zU (zI h_j hr.m rfl (zA (pv 2) (zA (pv 7) (zA (pv 8) zC))))) (zD (zU (zI h_o hr.m rfl (zA (pv 2) (zA (pv 7) (zA (zL yH (pv 3) (pv 8)) zC))))) (zD (zU (zI h_p hr.m rfl (zA (pv 2) (zA (pv 7) (zA (pv 8) zC))))) (zD (yI bM rfl (yF (SE (xT hr) (pv 4) (zQ (zA (pv 7) (zA (pv 8) zC))) (xH zC) ⟨rfl,rfl,rfl,rfl⟩)) (yG 5 rR.nd) (zG (zU (zI h_n hr.m rfl (zA (pv 2) (zA (pv 1) (zA (pv 5) zC))))))) (zG (UR (i:=6) rR.nd rfl (Or.inl rfl) zE qr)))))))))) (zG (zO (xC (pv 2) rfl)))))))))),?_⟩;refine zH λN hN=>?_
 dsimp![HM];refine⟨us.length,.inl ⟨_,dL.of hsa,rfl⟩,.inl ⟨(),()⟩,λx dx hx hdx lU=>?_⟩;have s1:bA H (upd (upd H dx (.own x)) x (.ins C dx [])):=((bA.refl H).upd hdx).upd hx;have k1:upd (upd H dx (.own x)) x (.ins C dx []) x=some (.ins C dx []):=zB;generalize upd (upd H dx (.own x)) x (.ins C dx [])=H1 at s1 k1⊢;have e2:(2:Int)*(us.length:Int)=((2*aD.length:Nat):Int):=by rw[hul];lia
 rw[e2];refine⟨x,dx,aD,aX,rfl,k1,iA,λg H2 hgr x2 hla hpa haa hba hg=>⟨rfl,hN _ _ ?_⟩⟩;subst hgr;clear hN;have s2:bA H H2:=λb o hb=>x2 b o (s1 _ _ hb) (λz=>by rw[z,hx]at hb;cases hb)
 replace hla:=s1.free hla;replace hpa:=s1.free hpa;replace haa:=s1.free haa;replace hba:=s1.free hba;have outH:∀{a:Addr}{o:HO},H a=some o->JR g a:=λ{a o} ha=>by
  have go:∀{b:Addr},H b=none->a≠b:=λhb z=>by rw[z,hb]at ha;cases ha
  exact⟨go hla,go hpa,go haa,go hba⟩
 clear x2 k1 s1;refine zH λN hN=>?_
 dsimp![];refine⟨sa,us,aD,rfl,s2 _ _ hsa,hrw.same s2,iA,hin,λpb qs n H3 s3 hpb0 hqs0 hpb hql hbo hbc=>hN _ _ ?_⟩;clear hN;have outb:=hg.out hpb0;have outq:∀q∈qs,JR g q:=λq hq=>hg.out (hqs0 q hq)
 replace hg:=hg.same s3;replace s2:=s2.trans s3;clear s3 hqs0 hpb0;refine zH λN hN=>?_
 dsimp![];refine⟨ra,iH,aX,rfl,s2 _ _ hra,bG.same s2 hru,hr100,hpr,λpw kvs n' H4 s4 hpw0 hpw hwa hwc=>hN _ _ ?_⟩;clear hN;have outw:=hg.out hpw0;have hwa':∀kv∈kvs,∃(q:Addr)(ns:List Nat),kv.2=.ref q/\H4 q=some (.lst (ns.map nV))/\JR g q/\∀x∈ns,x<aX.length:=λkv hkv=>by
  obtain⟨q',ns',h1,h2,h3,h4,h5⟩:=hwa kv hkv;exact⟨q',ns',h1,h2,hg.out h3,h5⟩
 clear hwa;replace hg:=hg.same s4;replace s2:=s2.trans s4;replace hpb:=s4 _ _ hpb;replace hbo:=hbo.same s4;replace hbc:=hbc.same s4;clear s4 hpw0;have SS:∀{H'},fT g H4 H'->bA H H':=λe=>fT.same s2 e hla hpa haa hba
 refine zH λN hN=>?_
 dsimp![];refine⟨g,sa,us,aD,aX,rfl,hg,iA,s2 _ _ hsa,hrw.same s2,outH hsa,hin,λH5 g5=>hN _ _ ?_⟩;clear hN;have np:∀{r:Nat}{ls L L':List Ln},ll aD aX ls L r->Le L L'->∀q:xM,aX[r]?=some q->InR aD q->q.1=[]->zR L' q.2.1 q.2.2=true:=λh e q hq hi h0=>e.has (h q hq hi (λp hp=>by rw[h0]at hp;cases hp))
 refine yA (λσ H'=>∃(o1 o2 o3 o4:Option V),mF C H4 g aD aX [] (λL=>Pl aD (2*aD.length) aD.length L/\Cl aD aX 0 L) H'/\σ=[some (V.ref sa),some (V.ref ra),some (V.ref g.r),some (V.ref pb),some (V.ref pw),o1,o2,o3,o4]) (λN hN=>?_) (λσ H' h=>?_)
 ·dsimp![];refine⟨iH.length,.inl ⟨_,dL.of (SS g5.to.1 _ _ hra),rfl⟩,(),(),?_⟩;refine kL (n:=(iH.length:Int).toNat) (λi σ H'=>∃(o1 o2 o3 o4:Option V),mF C H4 g aD aX [] (λL=>Pl aD (2*aD.length) aD.length L/\∀r:Nat,r<i->∀q:xM,aX[r]?=some q->InR aD q->q.1=[]->zR L q.2.1 q.2.2=true) H'/\σ=[some (V.ref sa),some (V.ref ra),some (V.ref g.r),some (V.ref pb),some (V.ref pw),o1,o2,o3,o4]) ⟨_,_,_,_,(by
   obtain⟨h1,t,h2,h3⟩:=g5;exact⟨h1,t,h2,h3,λr hr=>()⟩),rfl⟩ (λi σ H' hi h M hM=>?_) (λσ H' h=>?_)
  rotate_left
  ·obtain⟨o1,o2,o3,o4,⟨h1,t,h2,h3,h4⟩,rfl⟩:=h;refine hN _ _ ⟨_,_,_,_,⟨h1,t,h2,h3,⟨λa l i j ha=>(),λa l i j ha=>(),λa b l l' i j m ha=>(),λa b l l' i n x y ha=>(),λr q hr hir hp=>?_⟩⟩,rfl⟩;refine h4 r (by have :=(aC.mp hr).1;lia) q hr hir ?_;cases hq:q.1 with
   |nil=>rfl
   |cons p ps=>
    obtain⟨a,l,ha,_⟩:=hp p (by rw[hq];exact bB);lia
  obtain⟨o1,o2,o3,o4,⟨gs,t,gt,hP,hR⟩,rfl⟩:=h;have e0:(0:Int)+(i:Int)=((i:Nat):Int):=by lia
  dsimp![];rw[e0];refine⟨g,aD,aX,_,ra,iH,i,rfl,gt,iA,SS gs _ _ hra,bG.same (SS gs) hru,(),hpr,λH6 g6=>?_⟩;refine hM _ _ ⟨_,_,_,_,mF.then gs g6 (λL e h=>⟨hP.le e,λr hr=>?_⟩),rfl⟩;rcases iF (mJ hr)with z |z
  ·exact λq hq hi h0=>e.has (hR r z q hq hi h0)
  ·rw[z];exact np h (Le.refl _)
 obtain⟨o1,o2,o3,o4,⟨gs,t,gt,hP,hC⟩,rfl⟩:=h;rw[aw]at gt hP hC;refine zH λN hN=>?_
 dsimp![];refine hN _ _ ?_;clear hN;refine yA (λσ H'=>∃(o1 o2 o3 o4:Option V)(t:List Ln),fT g H4 H'/\lT C H' g aD aX t/\Pl aD (2*aD.length) aD.length t/\Cl aD aX t.length t/\σ=[some (V.ref sa),some (V.ref ra),some (V.ref g.r),some (V.ref pb),some (V.ref pw),o1,o2,o3,o4]) (λN hN=>?_) (λσ H' h=>?_)
 ·refine l7 (λm σ H'=>∃(k:Nat)(t:List Ln)(o1 o3 o4:Option V),m=(2*aD.length)*(2*aD.length)-k/\k<=t.length/\fT g H4 H'/\lT C H' g aD aX t/\Pl aD (2*aD.length) aD.length t/\Cl aD aX k t/\σ=[some (V.ref sa),some (V.ref ra),some (V.ref g.r),some (V.ref pb),some (V.ref pw),o1,some (V.int k),o3,o4]) ⟨_,0,t,_,_,_,rfl,cG _,gs,gt,hP,hC,rfl⟩ (λm σ H' h B hB=>?_);clear hP hC;obtain⟨k,t,o1,o3,o4,rfl,hk,gs,gt,hP,hC,rfl⟩:=h;have htl:=gt.ok.len;obtain⟨dx,eG⟩:=gt.ins;obtain⟨ws,hl,hws⟩:=gt.lin;have hwl:=uB hws;dsimp![xZ];refine⟨_,_,_,eG,T.cl,T.nL,_,NH g,ws.length,.inl ⟨_,dL.of hl,rfl⟩,?_⟩;by_cases hkl:k<t.length
  case neg=>
   rw[aH ()];rw[show k=t.length by lia]at hC;exact hN _ _ ⟨_,_,_,_,t,gs,gt,hP,hC,rfl⟩
  rw[aL ()];have hlk:t[k]?=some t[k]:=aA hkl;have hrng:=uC (gt.ok.snd k _ hlk);generalize t[k]=l0 at hlk hrng;obtain⟨i,hi⟩:∃i:Nat,l0.i=(i:Int):=dU hrng.1.1;obtain⟨j,hj⟩:∃j:Nat,l0.j=(j:Int):=dU hrng.2.1;obtain⟨v,hv,hvd⟩:=bG.get (d:=NM l0) hws (by rw[aK,hlk];rfl);obtain⟨xa,u,rfl,hxa,_⟩:=TR hvd;rw[hi,hj]at hxa hrng;have hh:zR t i j=true:=eZ.mpr ⟨k,l0,hlk,hi,hj⟩;refine hB _ (λσ' H''=>∃(t':List Ln)(o1 o3 o4:Option V),k+1<=t'.length/\fT g H4 H''/\lT C H'' g aD aX t'/\Pl aD (2*aD.length) aD.length t'/\Cl aD aX (k+1) t'/\σ'=[some (V.ref sa),some (V.ref ra),some (V.ref g.r),some (V.ref pb),some (V.ref pw),o1,some (V.int ((k+1:Nat):Int)),o3,o4]) (λσ' H'' h=>?_) (λM hM=>?_)
  ·obtain⟨t',o1,o3,o4,h1,h2,h3,h4,h5,rfl⟩:=h;exact⟨_,(),k+1,t',_,_,_,rfl,h1,h2,h3,h4,h5,rfl⟩
  refine zH λN1 hN1=>?_
  dsimp![xZ];refine⟨_,_,_,eG,T.cl,T.nL,_,NH g,_,rfl,_,dL.of hl,_,yD hv,_,rfl,_,dN.of hxa,_,lS,hN1 _ _ ?_⟩;clear hN1;refine zH λN1 hN1=>?_
  dsimp![xZ];refine⟨_,_,_,eG,T.cl,T.nL,_,NH g,_,rfl,_,dL.of hl,_,yD hv,_,rfl,_,dN.of hxa,_,pH,hN1 _ _ ?_⟩;clear hN1;refine zH λN1 hN1=>?_
  dsimp![];refine⟨g,aD,aX,t,i,j,rfl,gt,iA,hh,λH6 g6=>hN1 _ _ ?_⟩;clear hN1;obtain⟨gs6,t6,gt6,rt⟩:=g6;replace gs:=gs.trans gs6;refine zH λN1 hN1=>?_
  dsimp![];refine⟨g,aD,aX,_,i,j,rfl,gt6,iA,zW hh,λH7 g7=>hN1 _ _ ?_⟩;clear hN1;obtain⟨gs7,t7,gt7,rc⟩:=g7;replace gs:=gs.trans gs7;have hjl:j<qs.length:=by lia
  obtain⟨us1,hu1,_,ht1⟩:=hbo qs[j] (cW hjl);have tu:=hg.tups gs;refine zH λN1 hN1=>?_
  dsimp![];refine⟨_,dL.of (gs.out outb hpb),_,yD (by rw[aK,aA hjl];rfl),?_⟩;refine⟨g,aD,aX,_,i,qs[j],us1,rfl,gt7,iA,(),gs.out (outq _ (cW hjl)) hu1,outq _ (cW hjl),λv hv=>(ht1 v hv).tups tu,hin,λH8 g8=>hN1 _ _ ?_⟩;clear hN1;obtain⟨gs8,t8,gt8,rb⟩:=g8;replace gs:=gs.trans gs8;refine zH λN1 hN1=>?_
  dsimp![];refine⟨g,aD,aX,_,i,j,rfl,gt8,iA,zW (zW (zW hh)),λH9 g9=>hN1 _ _ ?_⟩;clear hN1;obtain⟨gs9,t9,gt9,rx⟩:=g9;replace gs:=gs.trans gs9;have hk9:k+1<=((((t++t6)++t7)++t8)++t9).length:=by simp only[aI];lia
  have h1:zR ((((t++t6)++t7)++t8)++t9) ((lQ j:Nat):Int) ((lQ i:Nat):Int)=true:=zW (zW (zW rt));have h2:∀m:Nat,zR t j m=true->zR ((((t++t6)++t7)++t8)++t9) i m=true:=λm hm=>zW (zW (rc.1 m (zW hm)))
  have h3:∀m:Nat,zR t m i=true->zR ((((t++t6)++t7)++t8)++t9) m j=true:=λm hm=>zW (zW (rc.2 m (zW hm)))
  have h4:∀(n:Nat)(x y:Int),aD[n]?=some (.bo x y)->((j:Int)=x\/(j:Int)=y)->zR t i x=true->zR t i y=true->zR ((((t++t6)++t7)++t8)++t9) i ((2*n:Nat):Int)=true:=λn x y hn hxy hx hy=>by
   obtain⟨us',t',g1,g2,g3⟩:=hbc n x y (aC.mp hn).1 hn j qs[j] hxy (aA hjl);rw[hu1]at g1;cases g1;exact zW (rb t' n x y g2 (tu _ _ g3) (zW (zW hx)) (zW (zW hy)))
  have h5:(j:Int)=rM i->∀n:Nat,n<2*aD.length->zR ((((t++t6)++t7)++t8)++t9) i n=true:=rx;have ett:Le t ((((t++t6)++t7)++t8)++t9):=⟨t6++(t7++(t8++t9)),by simp[cM]⟩
  generalize (((t++t6)++t7)++t8)++t9=tt at gt9 hk9 h1 h2 h3 h4 h5 ett;clear rt rc rb rx;clear gs6 gt6 gs7 gt7 gs8 gt8 gs9 tu eG hl hws htl gt;refine zH λN1 hN1=>?_
  dsimp![PH];have hpw9:=gs.out outw hpw;refine⟨.inr ⟨_,.inl hpw9⟩,small (),λp hp=>⟨cG _,λp1 hp1=>?_⟩⟩;have s10:=(zF hp (.tup [V.int i,V.int j])).trans (zF hp1 (.lst []));have kp:upd (upd H9 p (.tup [V.int i,V.int j])) p1 (.lst []) p=some (.tup [V.int i,V.int j]):=zF hp1 (.lst []) _ _ zB;have kp1:upd (upd H9 p (.tup [V.int i,V.int j])) p1 (.lst []) p1=some (.lst []):=zB;have op1:=(gt9.same (zF hp (.tup [V.int i,V.int j]))).out hp1;generalize upd (upd H9 p (.tup [V.int i,V.int j])) p1 (.lst [])=H10 at s10 kp kp1⊢;have hq:∃(q:Addr)(ns:List Nat),(yM kvs (xF i j)).getD (.ref p1)=.ref q/\H10 q=some (.lst (ns.map nV))/\JR g q/\(∀x∈ns,x<aX.length)/\∀r,LI H4 kvs ((i:Int),(j:Int)) r->r∈ns:=by
   cases hv:yM kvs (xF i j)with
   |none=>exact⟨p1,[],rfl,kp1,op1,(λx z=>by cases z),λr ⟨q,ns,g1,_⟩=>by rw[show yM kvs (xF (i:Int) (j:Int))=none from hv]at g1;cases g1⟩
   |some v=>
    obtain⟨kv,hkv,rfl⟩:=tM hv;obtain⟨q',ns',g1,g2,g3,g4⟩:=hwa' kv hkv;refine⟨q',ns',g1,s10 _ _ (gs.out g3 g2),g3,g4,λr ⟨q,ns,w1,w2,w3⟩=>?_⟩;rw[show yM kvs (xF (i:Int) (j:Int))=some kv.2 from hv,g1]at w1;have e1:=V.ref.inj (dC w1);subst e1;rw[g2]at w2;rw[FH (HO.lst.inj (dC w2))];exact w3
  obtain⟨qa,ns,hqa1,hqa2,hqa3,hqa4,hqa5⟩:=hq;refine⟨_,.inr ⟨_,xF i j,p,.inl (s10 _ _ hpw9),rfl,kp,rfl⟩,qa,hqa1,⟨_,dL.of hqa2⟩,?_⟩;replace gs:=gs.trans (bA.g s10);replace gt9:=gt9.same s10;clear s10 kp kp1 hp hp1 op1 hqa1;refine xV (xs:=ns.map nV) (λm σ H'=>∃(o1:Option V)(t':List Ln),k+1<=t'.length/\fT g H4 H'/\fT g H10 H'/\lT C H' g aD aX t'/\Le tt t'/\(∀r∈ns.take m,∀q:xM,aX[r]?=some q->InR aD q->(∀p∈q.1,zR tt p.1 p.2=true)->zR t' q.2.1 q.2.2=true)/\σ=[some (V.ref sa),some (V.ref ra),some (V.ref g.r),some (V.ref pb),some (V.ref pw),o1,some (V.int k),some (V.int i),some (V.int j)]) ⟨_,tt,hk9,gs,bA.g (bA.refl _),gt9,Le.refl _,(λr z=>by cases z),rfl⟩ (λm σ H' _ h=>?_) (λm x σ H' hx h M hM=>?_) (λσ H' h=>?_)
  ·obtain⟨_,_,_,_,h,_⟩:=h;exact dL.of (h.out hqa3 hqa2)
  ·obtain⟨o1,t',hk',gs',gs2',gt',le',hR,rfl⟩:=h;rw[aK]at hx;obtain⟨x',hx',rfl⟩:=aO.mp hx;dsimp![];refine⟨g,aD,aX,_,ra,iH,x',rfl,gt',iA,SS gs' _ _ hra,bG.same (SS gs') hru,hqa4 _ (aV hx'),hpr,λH6 g6=>?_⟩;obtain⟨gs6,t6,gt6,rr⟩:=g6;refine hM _ _ ⟨_,t'++t6,by rw[aI];lia,gs'.trans gs6,gs2'.trans gs6,gt6,le'.trans ⟨t6,rfl⟩,λr hr q hq hi0 hp0=>?_,rfl⟩;obtain⟨hkl',hke⟩:=aC.mp hx';rw[aM hkl',hke]at hr;rcases bS.mp hr with hr |hr
   ·exact zW (hR r hr q hq hi0 hp0)
   ·rw[aT.mp hr]at hq;exact rr q hq hi0 λp hp=>le'.has (hp0 p hp)
  ·obtain⟨o1,t',hk',gs',gs2',gt',le',hR,rfl⟩:=h;rw[aE,aQ (aG _)]at hR;have e9:=ett.trans le';have hC':Cl aD aX (k+1) t':=hC.step e9 hlk hi hj (le'.has h1) (λm hm=>le'.has (h2 m hm)) (λm hm=>le'.has (h3 m hm)) (λn x y a b c d=>le'.has (h4 n x y a b c d)) (λa n b=>le'.has (h5 a n b)) (λr q hr hir hin' hp=>?_)
   ·refine hN1 _ _ ?_;dsimp![PK,VX];exact hM _ _ ⟨t',_,_,_,hk',gs',gt',hP.le e9,hC',by rw[Int.natCast_add];rfl⟩
   ·obtain⟨x,hx⟩:=iV hin';exact hR r (hqa5 r (hwc r q x _ hr hx (.inl (aC.mp hr).1))) q hr hir λp hpq=>ett.has (hp p hpq)
 obtain⟨o1,o2,o3,o4,t,gs,gt,hP,hC,rfl⟩:=h;obtain⟨dx,eG⟩:=gt.ins;obtain⟨ws,hl,hws⟩:=gt.lin;dsimp![xZ];exact⟨_,_,_,eG,T.cl,T.nL,_,NH g,q g.la ws t _ (SS gs) hl hws gt.ok hP hC⟩
def oU(n:Nat):Nat:=n+1-2*(n % 2)
def lR(e:Bool)(n:Nat):Nat:=if e then oU n else n
def oP(aD:List Rw)(r:Rw):Option Nat:=aD.findIdx? λx=>eR (si x) (si r)
def xN(aD:List Rw)(r:Rw):List Rw×Nat:=match oP aD r with
 |some k=>(aD,2*k)
 |none=>(aD++[r],2*aD.length)
mutual
def num(aD:List Rw):Tm->Option Nat
 | .name x=>(oP aD (.nm x)).map (2* ·)
 | .node w ts=>if w="none" then some 0 else if w="all" then some 1 else if w="not" then(uJ aD false ts).map oU else(uJ aD (decide (w="either")) ts).map (lR (decide (w="either")))
def uJ(aD:List Rw)(e:Bool):List Tm->Option Nat
 |[]=>none
 |t::ts=>(num aD t).bind λm=>uR aD e (lR e m) ts
def uR(aD:List Rw)(e:Bool):Nat->List Tm->Option Nat
 |m,[]=>some m
 |m,t::ts=>(num aD t).bind λn=>(oP aD (.bo (m:Int) (lR e n:Nat))).bind λk=>uR aD e (2*k) ts
end
mutual
def eK:Tm->List Rw->List Rw×Nat
 | .name x,aD=>xN aD (.nm x)
 | .node w ts,aD=>if w="none" then(aD,0)else if w="all" then(aD,1)else if w="not" then((jJ false ts aD).1,oU (jJ false ts aD).2)else((jJ (decide (w="either")) ts aD).1,lR (decide (w="either")) (jJ (decide (w="either")) ts aD).2)
def jJ(e:Bool):List Tm->List Rw->List Rw×Nat
 |[],aD=>(aD,0)
 |t::ts,aD=>jA e ts (eK t aD).1 (lR e (eK t aD).2)
def jA(e:Bool):List Tm->List Rw->Nat->List Rw×Nat
 |[],aD,m=>(aD,m)
 |t::ts,aD,m=>jA e ts (xN (eK t aD).1 (.bo (m:Int) (lR e (eK t aD).2:Nat))).1 (xN (eK t aD).1 (.bo (m:Int) (lR e (eK t aD).2:Nat))).2
end
theorem UL{k:Nat}(xs:List Rw)(h:oP aD r=some k):oP (aD++xs) r=some k:=by
 unfold oP at h⊢;rw[List.findIdx?_append,h];rfl
theorem XC(h:oP aD r=none):oP (aD++[r]) r=some aD.length:=by
 unfold oP at h⊢;rw[List.findIdx?_append,h];simp[List.findIdx?_cons,xU]
theorem uW(aD:List Rw)(r:Rw):∃xs,(xN aD r).1=aD++xs:=by
 unfold xN;split
 ·exact⟨[],(cN _).symm⟩
 ·exact⟨[r],rfl⟩
theorem IA(aD:List Rw)(r:Rw):∃k,oP (xN aD r).1 r=some k/\(xN aD r).2=2*k:=by
 unfold xN;split
 ·rename_i k h
  exact⟨k,h,rfl⟩
 ·rename_i h
  exact⟨_,XC h,rfl⟩
mutual
theorem vW(aD xs:List Rw):∀(t:Tm)(n:Nat),num aD t=some n->num (aD++xs) t=some n
 | .name x,n,h=>by
   rw[num]at h⊢;obtain⟨k,hk,e⟩:=aO.mp h;rw[UL xs hk];exact dH some e
 | .node w ts,n,h=>by
   rw[num]at h⊢;split
   ·rename_i c
    rwa[aL c]at h
   ·rename_i c
    rw[aH c]at h;split
    ·rename_i c
     rwa[aL c]at h
    ·rename_i c
     rw[aH c]at h;split
     ·rename_i c
      rw[aL c]at h;obtain⟨k,hk,e⟩:=aO.mp h;rw[BM aD xs _ ts k hk];exact dH some e
     ·rename_i c
      rw[aH c]at h;obtain⟨k,hk,e⟩:=aO.mp h;rw[BM aD xs _ ts k hk];exact dH some e
theorem BM(aD xs:List Rw)(e:Bool):∀(ts:List Tm)(n:Nat),uJ aD e ts=some n->uJ (aD++xs) e ts=some n
 |[],n,h=>by rw[uJ]at h;cases h
 |t::ts,n,h=>by
  rw[uJ]at h⊢;obtain⟨m,hm,h⟩:=cZ.mp h;rw[vW aD xs t m hm];exact BK aD xs e ts _ n h
theorem BK(aD xs:List Rw)(e:Bool):∀(ts:List Tm)(m n:Nat),uR aD e m ts=some n->uR (aD++xs) e m ts=some n
 |[],m,n,h=>by rw[uR]at h⊢;exact h
 |t::ts,m,n,h=>by
  rw[uR]at h⊢;obtain⟨a,ha,h⟩:=cZ.mp h;obtain⟨b,hb,h⟩:=cZ.mp h;rw[vW aD xs t a ha];show(oP (aD++xs) _).bind _=_;rw[UL xs hb];exact BK aD xs e ts _ n h
end
mutual
theorem kR:∀(t:Tm)(aD:List Rw),∃xs,(eK t aD).1=aD++xs
 | .name x,aD=>by rw[eK];exact uW _ _
 | .node w ts,aD=>by
   rw[eK];split
   ·exact⟨[],(cN _).symm⟩
   ·split
    ·exact⟨[],(cN _).symm⟩
    ·split
     ·exact DB _ ts aD
     ·exact DB _ ts aD
theorem DB(e:Bool):∀(ts:List Tm)(aD:List Rw),∃xs,(jJ e ts aD).1=aD++xs
 |[],aD=>by rw[jJ];exact⟨[],(cN _).symm⟩
 |t::ts,aD=>by
  rw[jJ];obtain⟨xs,hx⟩:=kR t aD;obtain⟨ys,hy⟩:=qN e ts (eK t aD).1 (lR e (eK t aD).2);exact⟨xs++ys,by rw[hy,hx,cM]⟩
theorem qN(e:Bool):∀(ts:List Tm)(aD:List Rw)(m:Nat),∃xs,(jA e ts aD m).1=aD++xs
 |[],aD,m=>by rw[jA];exact⟨[],(cN _).symm⟩
 |t::ts,aD,m=>by
  rw[jA];obtain⟨xs,hx⟩:=kR t aD;obtain⟨ys,hy⟩:=uW (eK t aD).1 (.bo (m:Int) (lR e (eK t aD).2:Nat));obtain⟨zs,hz⟩:=qN e ts (xN (eK t aD).1 (.bo (m:Int) (lR e (eK t aD).2:Nat))).1 (xN (eK t aD).1 (.bo (m:Int) (lR e (eK t aD).2:Nat))).2;exact⟨xs++(ys++zs),by rw[hz,hy,hx,cM,cM]⟩
end
mutual
theorem kQ:∀(t:Tm)(n:Nat)(aD:List Rw),fM n t->num (eK t aD).1 t=some (eK t aD).2
 | .name x,n,aD,_=>by
   rw[eK,num];obtain⟨k,h1,h2⟩:=IA aD (.nm x);rw[h1,h2];rfl
 | .node w ts,n,aD,h=>by
   have hf:∀t∈ts,∃m,fM m t:=λt ht=>by
    cases n with
    |zero=>unfold fM at h;rw[h.2]at ht;cases ht
    |succ n=>unfold fM at h;exact⟨n,h.2 t ht⟩
   have hs:Sh w ts.length:=by cases n<;>(unfold fM at h;exact h.1)
   rw[eK,num];split
   ·rfl
   ·split
    ·rfl
    ·rename_i c1 c2
     have lU:ts≠[]:=λz=>by
      subst z;rcases hs with h |h |h |h |h
      ·exact c1 h.1
      ·exact c2 h.1
      ·cases h.2
      ·exact absurd h.2 ()
      ·exact absurd h.2 ()
     split
     ·show(uJ (jJ false ts aD).1 false ts).map oU=_;rw[CZ false ts aD hf lU];rfl
     ·show(uJ (jJ _ ts aD).1 _ ts).map _=_;rw[CZ _ ts aD hf lU];rfl
theorem CZ(e:Bool):∀(ts:List Tm)(aD:List Rw),(∀t∈ts,∃m,fM m t)->ts≠[]->uJ (jJ e ts aD).1 e ts=some (jJ e ts aD).2
 |[],aD,_,h=>absurd rfl h
 |t::ts,aD,hf,_=>by
  rw[jJ,uJ];obtain⟨m,hm⟩:=hf t bB;obtain⟨ys,hy⟩:=qN e ts (eK t aD).1 (lR e (eK t aD).2);have h1:=CW e ts (eK t aD).1 (lR e (eK t aD).2) (λu hu=>hf u (bC _ hu));have h2:=vW _ ys t _ (kQ t m aD hm);rw[←hy]at h2;rw[h2];exact h1
theorem CW(e:Bool):∀(ts:List Tm)(aD:List Rw)(m:Nat),(∀t∈ts,∃m,fM m t)->uR (jA e ts aD m).1 e m ts=some (jA e ts aD m).2
 |[],aD,m,_=>by rw[jA,uR]
 |t::ts,aD,m,hf=>by
  obtain⟨a,ha⟩:=hf t bB;have h1:=kQ t a aD ha;obtain⟨ys,hy⟩:=uW (eK t aD).1 (.bo (m:Int) (lR e (eK t aD).2:Nat));obtain⟨k,hk,hk2⟩:=IA (eK t aD).1 (.bo (m:Int) (lR e (eK t aD).2:Nat));obtain⟨zs,hz⟩:=qN e ts (xN (eK t aD).1 (.bo (m:Int) (lR e (eK t aD).2:Nat))).1 (xN (eK t aD).1 (.bo (m:Int) (lR e (eK t aD).2:Nat))).2;have h3:=CW e ts (xN (eK t aD).1 (.bo (m:Int) (lR e (eK t aD).2:Nat))).1 (xN (eK t aD).1 (.bo (m:Int) (lR e (eK t aD).2:Nat))).2 (λu hu=>hf u (bC _ hu));rw[jA,uR];have h4:=vW _ (ys++zs) t _ h1;rw[←cM,←hy,←hz]at h4;have h5:=UL zs hk;rw[←hz]at h5;rw[h4];show(oP _ (.bo (m:Int) (lR e (eK t aD).2:Nat))).bind _=_;rw[h5];show uR _ e (2*k) ts=_;rw[←hk2];exact h3
end
structure rC(aD:List Rw):Prop where
 in_:∀(k:Nat)(i j:Int),aD[k]?=some (.bo i j)->(0<=i/\i<2*(k:Int))/\0<=j/\j<2*(k:Int)
 hd:aD[0]?=some .no
 few:∀k,aD[k]?=some .no->k=0
 nm:∀(k:Nat)(x:Str),aD[k]?=some (.nm x)->Nm x
theorem rC.pos(h:rC aD):1<=aD.length:=(aC.mp h.hd).1
theorem rC.one:rC [.no]:=by
 have o:∀(k:Nat)(r:Rw),([Rw.no]:List Rw)[k]?=some r->k=0/\r=.no:=λk r h=>by
  cases k with
  |zero=>simp at h;exact⟨rfl,h.symm⟩
  |succ k=>simp at h
 exact⟨λk i j h=>(by cases (o k _ h).2),rfl,λk h=>(o k _ h).1,λk x h=>(by cases (o k _ h).2)⟩
def lm(n:Nat):Rw->Prop
 | .no=>False
 | .nm x=>Nm x
 | .bo i j=>(0<=i/\i<2*(n:Int))/\0<=j/\j<2*(n:Int)
theorem rC.snoc(h:rC aD)(hr:lm aD.length r):rC (aD++[r]):=by
 have o:∀(k:Nat)(q:Rw),(aD++[r])[k]?=some q->aD[k]?=some q\/(k=aD.length/\q=r):=λk q hq=>by
  by_cases c:k<aD.length
  ·rw[bE c]at hq;exact .inl hq
  ·have :=(aC.mp hq).1;rw[aI,cJ]at this;have e:k=aD.length:=by lia
   subst e;rw[bN (aG _)]at hq;simp at hq;exact .inr ⟨rfl,hq.symm⟩
 refine⟨λk i j hk=>?_,?_,λk hk=>?_,λk x hk=>?_⟩
 ·rcases o k _ hk with h1 |⟨rfl,rfl⟩
  ·exact h.in_ k i j h1
  ·exact hr
 ·rw[bE (by have :=h.pos;lia)];exact h.hd
 ·rcases o k _ hk with h1 |⟨rfl,rfl⟩
  ·exact h.few k h1
  ·exact hr.elim
 ·rcases o k _ hk with h1 |⟨rfl,rfl⟩
  ·exact h.nm k x h1
  ·exact hr
def Grw(aD:List Rw)(m:Nat)(p:List Rw×Nat):Prop:=rC p.1/\aD.length<=p.1.length/\p.1.length<=aD.length+m/\p.2<2*p.1.length
theorem OZ{m:Nat}(h:n<2*m):oU n<2*m:=by unfold oU;lia
theorem QY{e:Bool}{m:Nat}(h:n<2*m):lR e n<2*m:=by
 cases e
 ·exact h
 ·exact OZ h
theorem RI{k:Nat}(h:oP aD r=some k):k<aD.length:=by
 unfold oP at h;exact(gC.mp h).1
theorem tZ(h:rC aD)(hr:lm aD.length r):Grw aD 1 (xN aD r):=by
 unfold xN;split
 ·rename_i k hk
  have :=RI hk;exact⟨h,aG _,rW _,by show 2*k<2*aD.length;lia⟩
 ·refine⟨h.snoc hr,?_,?_,?_⟩
  ·simp
  ·simp
  ·show 2*aD.length<2*(aD++[r]).length;rw[aI,cJ];lia
mutual
theorem VR:∀(t:Tm)(n:Nat)(aD:List Rw),fM n t->rC aD->Grw aD (2*wt t-1) (eK t aD)
 | .name x,n,aD,hf,h=>by
   rw[eK,wt];exact tZ h (by unfold fM at hf;exact hf)
 | .node w ts,n,aD,hf,h=>by
   have hf':∀t∈ts,∃m,fM m t:=λt ht=>by
    cases n with
    |zero=>unfold fM at hf;rw[hf.2]at ht;cases ht
    |succ n=>unfold fM at hf;exact⟨n,hf.2 t ht⟩
   have hp:=h.pos;rw[eK,wt];split
   ·exact⟨h,aG _,by show aD.length<=_;lia,by show 0<2*aD.length;lia⟩
   ·split
    ·exact⟨h,aG _,by show aD.length<=_;lia,by show 1<2*aD.length;lia⟩
    ·split
     ·obtain⟨h1,h2,h3,h4⟩:=DA false ts aD hf' h;exact⟨h1,h2,by show(jJ false ts aD).1.length<=_;lia,OZ h4⟩
     ·obtain⟨h1,h2,h3,h4⟩:=DA (decide (w="either")) ts aD hf' h;exact⟨h1,h2,by show(jJ _ ts aD).1.length<=_;lia,QY h4⟩
theorem DA(e:Bool):∀(ts:List Tm)(aD:List Rw),(∀t∈ts,∃m,fM m t)->rC aD->Grw aD (2*mD ts) (jJ e ts aD)
 |[],aD,_,h=>by
  rw[jJ];have :=h.pos;exact⟨h,aG _,Nat.le_add_right _ _,by show 0<2*aD.length;lia⟩
 |t::ts,aD,hf,h=>by
  rw[jJ,mD];obtain⟨m,hm⟩:=hf t bB;obtain⟨a1,a2,a3,a4⟩:=VR t m aD hm h;obtain⟨b1,b2,b3,b4⟩:=CY e ts (eK t aD).1 (lR e (eK t aD).2) (λu hu=>hf u (bC _ hu)) a1 (QY a4);have hw:=DR t;exact⟨b1,(),(),b4⟩
theorem CY(e:Bool):∀(ts:List Tm)(aD:List Rw)(m:Nat),(∀t∈ts,∃m,fM m t)->rC aD->m<2*aD.length->Grw aD (2*mD ts) (jA e ts aD m)
 |[],aD,m,_,h,hm=>by
  rw[jA];exact⟨h,aG _,Nat.le_add_right _ _,hm⟩
 |t::ts,aD,m,hf,h,hm=>by
  rw[jA,mD];obtain⟨n,hn⟩:=hf t bB;obtain⟨a1,a2,a3,a4⟩:=VR t n aD hn h;have a5:=QY (e:=e) a4;obtain⟨c1,c2,c3,c4⟩:=tZ (r:=.bo (m:Int) (lR e (eK t aD).2:Nat)) a1 ⟨⟨(),()⟩,(),()⟩;obtain⟨b1,b2,b3,b4⟩:=CY e ts _ _ (λu hu=>hf u (bC _ hu)) c1 c4;have hw:=DR t;exact⟨b1,(),(),b4⟩
end
abbrev n6:Stmt:=top 21
theorem sc_ac:cC ["places","row"] ["places","row"] (zK n6):=by rfl'
abbrev nu:Stmt:=top 20
theorem j5:cC ["places","row","place"] ["places","row"] (zK nu):=by rfl'
abbrev s_H:Stmt:=top 19
theorem sc_H:cC ["sheet"] ["sheet"] (zK s_H):=by rfl'
abbrev s_N:Stmt:=top 22
theorem sc_N:cC ["n","turn"] ["n","turn"] (zK s_N):=by rfl'
abbrev s_m:Stmt:=top 23
theorem sc_m:cC ["row_number","places","t"] ["row_number","places","t"] (zK s_m):=by rfl'
abbrev s_c:Stmt:=top 24
theorem MD:cC ["row_number","places","t","turn","whole","part","last"] ["row_number","places","t"] (zK s_c):=by rfl'
theorem VZ{A:Around}{k:Nat}(hr:hZ k A):A.units+2<cLine:=fH (Nat.add_le_add_left (by decide:2<=64) _) hr.units
theorem bw(e:Bool)(n:Nat):Builtin.bitXor (n:Int) (if e=true then 1 else 0)=((lR e n:Nat):Int):=by
 cases e with
 |false=>exact PyProof.Rows.bitXor_zero _
 |true=>
  rw[aL rfl,DQ];unfold rM lR oU;rw[aL rfl];lia
def jX:Rw->List eI
 | .no=>[.inr "none"]
 | .nm x=>[.inr "name",.inr x]
 | .bo i j=>[.inr "both",.inl i,.inl j]
theorem BX{q:Rw}(h:jX r=jX q):r=q:=by
 cases r<;>cases q<;>simp[jX]at h⊢ <;>first |exact h |exact h.elim
theorem VJ(r q:Rw):eR (si r) (si q)=true↔r=q:=by
 constructor
 ·intro h;cases r<;>cases q<;>simp[si,eR,kO]at h⊢ <;>first |exact h |exact h.elim |exact absurd h.1 () |exact absurd h () |skip
 ·rintro rfl;exact xU _
def sM:Nat->Tm->Prop
 |0,_=>False
 |n+1,t=>fM n t
theorem sM.node{wd:Str}(h:sM (n+1) (.node wd ts)):Sh wd ts.length/\∀t∈ts,sM n t:=by
 have h:fM n (.node wd ts):=h;cases n with
 |zero=>unfold fM at h;exact⟨h.1,λt ht=>by rw[h.2]at ht;cases ht⟩
 |succ n=>unfold fM at h;exact h
theorem VH(a b:Str):eR (.str a) (.str b)=decide (a=b):=by
 rw[cD,bO];simp[eR]
theorem i3(x y:V)(xs:List V):qM (x::y::xs) (some 2) none=xs:=by
 unfold qM;have e:HT.sIx (x::y::xs).length 0 (some 2)=2:=by
  unfold HT.sIx;simp only[bF];rw[aH ()];lia
 rw[e,HT.sIx_none,aQ (by simp)];rfl
def pZ:List Rw->List Addr->Nat->List XE
 |r::aD,a::as,k=>(jX r,a,V.int (k:Nat))::pZ aD as (k+1)
 |_,_,_=>[]
theorem kC:∀(aD:List Rw)(as:List Addr)(k:Nat),as.length=aD.length->(pZ aD as k).length=aD.length
 |[],[],_,_=>rfl
 |[],_::_,_,h=>by cases h
 |_::_,[],_,h=>by cases h
 |r::aD,a::as,k,h=>dH (· +1) (kC aD as (k+1) (mI h))
theorem II:∀(aD:List Rw)(as:List Addr)(k:Nat)(x:XE),x∈pZ aD as k->∃(i:Nat)(r:Rw)(a:Addr),aD[i]?=some r/\as[i]?=some a/\x.1=jX r/\x.2.1=a
 |[],_,_,_,h=>by unfold pZ at h;cases h
 |_::_,[],_,_,h=>by unfold pZ at h;cases h
 |r::aD,a::as,k,x,h=>by
  unfold pZ at h;rcases bK.mp h with rfl |h
  ·exact⟨0,r,a,rfl,rfl,rfl,rfl⟩
  ·obtain⟨i,r',a',h1,h2,h3⟩:=II aD as (k+1) x h;exact⟨i+1,r',a',h1,h2,h3⟩
theorem kA(r:Rw):∀(aD:List Rw)(as:List Addr)(k:Nat),as.length=aD.length->kT (pZ aD as k) (jX r)=(oP aD r).map λi=>V.int ((k+i:Nat):Int)
 |[],[],_,_=>rfl
 |[],_::_,_,h=>by cases h
 |_::_,[],_,h=>by cases h
 |q::aD,a::as,k,h=>by
  have ih:=kA r aD as (k+1) (mI h);unfold kT oP at ih⊢;rw[pZ,eN,List.findIdx?_cons];by_cases c:q=r
  ·subst c;rw[dX rfl,xU];rfl
  ·rw[dE (λz=>c (BX z)),dS.mpr (λz=>c ((VJ q r).mp z))];show Option.map _ (List.find? _ (pZ aD as (k+1)))=_;rw[ih];cases List.findIdx? (λx=>eR (si x) (si r)) aD with
   |none=>rfl
   |some i=>show some (V.int ((k+1+i:Nat):Int))=some (V.int ((k+(i+1):Nat):Int));rw[show k+1+i=k+(i+1) by lia]
theorem AG(r:Rw)(b:Addr):∀(aD:List Rw)(as:List Addr)(k:Nat),as.length=aD.length->pZ (aD++[r]) (as++[b]) k=pZ aD as k++[(jX r,b,V.int ((k+aD.length:Nat):Int))]
 |[],[],k,_=>rfl
 |[],_::_,_,h=>by cases h
 |_::_,[],_,h=>by cases h
 |q::aD,a::as,k,h=>by
  show(jX q,a,V.int (k:Nat))::pZ (aD++[r]) (as++[b]) (k+1)=_;rw[AG r b aD as (k+1) (mI h),show k+1+aD.length=k+(q::aD).length by rw[bF];lia];rfl
theorem AH:∀(aD:List Rw)(as:List Addr)(k:Nat),as.length=aD.length->((pZ aD as k).map λx=>V.ref x.2.1)=as.map V.ref
 |[],[],_,_=>rfl
 |[],_::_,_,h=>by cases h
 |_::_,[],_,h=>by cases h
 |q::aD,a::as,k,h=>dH (V.ref a:: ·) (AH aD as (k+1) (mI h))
structure Px(P:Program)(w:World)(K:W.Frag)(H J:Hp)(pa:Addr)(aD:List Rw)(as:List Addr):Prop where
 eq:H=upd J pa (DJ P w pa (pZ aD as 0))
 no:J pa=none
 len:as.length=aD.length
 few:aD.length<=40
 lo:(pa==sysModules)=false
 keys:∀(i:Nat)(r:Rw)(a:Addr),aD[i]?=some r->as[i]?=some a->Tw K J a ((jX r).map kV)
section
variable {pa:Addr} {as:List Addr}
theorem Px.at(h:Px P w K H J pa aD as):H pa=some (DJ P w pa (pZ aD as 0)):=by rw[h.eq];exact zB
theorem Px.sub(h:Px P w K H J pa aD as):bA J H:=by rw[h.eq];exact zF h.no _
theorem Px.dx(h:Px P w K H J pa aD as):rS P w K H pa (pZ aD as 0):=by
 refine⟨h.at,by rw[kC _ _ _ h.len];have :=h.few;lia,h.lo,λx hx=>?_⟩;obtain⟨i,r,a,h1,h2,h3,h4⟩:=II aD as 0 x hx;rw[h3,h4];exact((h.keys i r a h1 h2).same h.sub).sq
theorem Px.free(h:Px P w K H J pa aD as)(hp:H p=none):J p=none:=h.sub.free hp
theorem Px.ext(h:Px P w K H J pa aD as)(e:bA H H'):∃J',Px P w K H' J' pa aD as/\bA J J':=by
 have sJ:bA J (λb=>if b=pa then none else H' b):=λb o hb=>by
  have lU:b≠pa:=λz=>by rw[z,h.no]at hb;cases hb
  show(if b=pa then none else H' b)=some o;rw[aH lU];exact e _ _ (h.sub _ _ hb)
 refine⟨λb=>if b=pa then none else H' b,⟨?_,aL rfl,h.len,h.few,h.lo,λi r a h1 h2=>(h.keys i r a h1 h2).same sJ⟩,sJ⟩
 funext b
 by_cases hb:b=pa
 ·subst hb;rw[zB];exact e _ _ h.at
 ·rw[zJ hb];exact(aH hb).symm
theorem Px.tup{p:Addr}{vs:List V}(h:Px P w K H J pa aD as)(hp:H p=some (.tup vs)):J p=some (.tup vs):=by
 have hn:p≠pa:=λz=>by rw[z,h.at]at hp;cases hp
 rw[h.eq,zJ hn]at hp;exact hp
theorem Px.new(h:Px P w K H J pa aD as)(hp:H p=none)(o:HO):Px P w K (upd H p o) (upd J p o) pa aD as:=by
 have lU:p≠pa:=λz=>by rw[z,h.at]at hp;cases hp
 refine⟨?_,by rw[zJ (cH lU)];exact h.no,h.len,h.few,h.lo,λi r a h1 h2=>(h.keys i r a h1 h2).same (zF (h.free hp) o)⟩;rw[h.eq]
 funext b
 by_cases h1:b=p
 ·subst h1;rw[zB,zJ lU,zB]
 ·rw[zJ h1];by_cases h2:b=pa
  ·subst h2;rw[zB,zB]
  ·rw[zJ h2,zJ h2,zJ h1]
end
theorem HY(r:Rw):(jX r).map kV=rwV r:=by cases r<;>rfl
def NU(gr:Bool)(aD fin:List Rw):Prop:=(gr=false->fin=aD)/\fin.length<=40
theorem NU.mid{gr:Bool}{mid fin:List Rw}(h1:∃xs,mid=aD++xs)(h2:∃ys,fin=mid++ys)(h:NU gr aD fin):NU gr aD mid/\NU gr mid fin:=by
 obtain⟨xs,rfl⟩:=h1;obtain⟨ys,rfl⟩:=h2;have hl:=h.2;rw[aI]at hl;refine⟨⟨λhg=>?_,()⟩,λhg=>?_,h.2⟩
 all_goals
  have :=dH List.length (h.1 hg);rw[aI,aI]at this
 ·have :xs=[]:=lZ.mp ();rw[this,cN]
 ·have :ys=[]:=lZ.mp ();rw[this,cN]
def Fo(P:Program)(w:World)(K:W.Frag)(gr:Bool)(aD:List Rw)(J:Hp)(pa:Addr)(p:List Rw×Nat)(Q:VK):Prop:=
 NU gr aD p.1/\∀(H' J':Hp)(as':List Addr),bA J J'->Px P w K H' J' pa p.1 as'->Q (.int (p.2:Nat)) H'
inductive LZ (P:Program) (w:World) (K:W.Frag) (gr:Bool) (vs:List V) (H:Hp) (Q:VK) (E:XK):Prop
 |mk (pa b:Addr) (J:Hp) (aD:List Rw) (as:List Addr) (r:Rw) (_:vs=[.ref pa,.ref b]) (_:Px P w K H J pa aD as) (_:J b=some (.tup ((jX r).map kV))) (_:Fo P w K gr aD J pa (xN aD r) Q)
inductive PP (vs:List V) (H:Hp) (Q:VK) (E:XK):Prop
 |mk (n:Nat) (e:Bool) (_:vs=[.int n,.int (if e then 1 else 0)]) (_:Q (.int (lR e n:Nat)) H)
inductive DZ (P:Program) (w:World) (K:W.Frag) (gr:Bool) (ff:Addr) (n:Nat) (vs:List V) (H:Hp) (Q:VK) (E:XK):Prop
 |mk (pa:Addr) (v:V) (J:Hp) (aD:List Rw) (as:List Addr) (t:Tm) (_:vs=[.ref ff,.ref pa,v]) (_:Px P w K H J pa aD as) (_:fO J t v) (_:sM n t) (_:Fo P w K gr aD J pa (eK t aD) Q)
inductive spJn (P:Program) (w:World) (K:W.Frag) (gr:Bool) (ff:Addr) (n:Nat) (vs:List V) (H:Hp) (Q:VK) (E:XK):Prop
 |mk (pa ta:Addr) (us:List V) (J:Hp) (aD:List Rw) (as:List Addr) (e:Bool) (ts:List Tm) (_:vs=[.ref ff,.ref pa,.ref ta]) (_:Px P w K H J pa aD as) (_:J ta=some (.tup (.str (if e then"either" else"both")::us))) (_:TAts J ts us) (_:(∀t∈ts,sM n t)) (_:ts≠[]) (_:Fo P w K gr aD J pa ((jJ e ts aD).1,lR e (jJ e ts aD).2) Q)
section
variable {ff:Addr} {k:Nat} {gr:Bool}
theorem MO(bi:Bi mg)(F:gI K "turned" "turned" s_N f fd):dI P w K mg base fZ 1 f fd ["n","turn"] PP:=by
 refine F.okz sc_N λfD A outer s H vs Q E hr h=>?_
 obtain⟨n,e,rfl,q⟩:=h;refine⟨_,(zG (zO (vB (zP EV (pv 0) uI (zV _)) uI (zN kX (pv 0) (pv 1))))),?_⟩;dsimp![];rw[aH (λz=>by cases z),bw];exact q
theorem MQ(g_MOST_ROWS:Gc mg "MOST_ROWS" (.int 40))(bi:Bi mg)(F:gI K "put_in" "put_in" n6 f fd):dI P w K mg base fZ 1 f fd ["places","row"] (LZ P w K true):=by
 refine F.okz sc_ac λfD A outer s H vs Q E hr h=>?_
 obtain⟨pa,b,J,aD,as,r,rfl,px,hb,hfi,q⟩:=h;refine⟨_,(zD (yK (zP (ML (xT hr)) (pv 1) (pv 0) (by with_unfolding_all rfl)) (zD (yK (zP xK (yC QO rfl bi.len xE (zA (pv 0) zC)) (j9 g_MOST_ROWS rfl) (zV _)) (zG AF) zZ) (zG (RT (xT hr) (pv 0) (pv 1) (yC QO rfl bi.len xE (zA (pv 0) zC)) rfl))) zZ) (zG (zO (zN xR zE (SD (xT hr) (pv 0) (pv 1) (λ_ _=>rfl)))))),?_⟩;refine zH λN hN=>?_
 dsimp![rNiX];have hfew:=px.few;refine⟨_,px.dx,jX r,dN.of (px.sub _ _ hb),?_⟩;rw[kA r aD as 0 px.len];have fin:∀(rows':List Rw)(as':List Addr)(G:Hp)(k:Nat),Px P w K G J pa rows' as'->oP rows' r=some k->Q (.int ((2*k:Nat):Int)) G->N [some (V.ref pa),some (V.ref b)] G:=λrows' as' G k px' hk q'=>hN _ _ (by
  dsimp![tDGX];refine⟨_,px'.dx,jX r,dN.of (px'.sub _ _ hb),V.int ((0+k:Nat):Int),by rw[kA r rows' as' 0 px'.len,hk];rfl,?_⟩;refine⟨_,rfl,.inl ⟨(),()⟩,?_⟩;rw[show(2:Int)*((0+k:Nat):Int)=((2*k:Nat):Int) by lia];exact q')
 unfold xN at q hfi;cases c:oP aD r with
 |some k=>
  rw[c]at q hfi;rw[aH (show¬((Option.map (λi:Nat=>V.int ((0+i:Nat):Int)) (some k)).isSome=false)from λz=>by cases z)];exact fin aD as H k px c (q H J as (bA.refl _) px)
 |none=>
  rw[c]at q hfi;rw[aL (show(Option.map (λi:Nat=>V.int ((0+i:Nat):Int)) none).isSome=false from rfl)];refine⟨_,px.dx,rfl,?_⟩;rw[kC _ _ _ px.len];have h40:=hfi.2;rw[show(aD++[r]).length=aD.length+1 by rw[aI];rfl]at h40
  ·rw[aH ()];dsimp![sDPX];refine⟨_,px.dx,_,px.dx,jX r,dN.of (px.sub _ _ hb),by rw[kA r aD as 0 px.len,c];rfl,?_⟩;have px2:Px P w K (upd H pa (DJ P w pa (pZ aD as 0++[(jX r,b,V.int ((pZ aD as 0).length:Nat))]))) J pa (aD++[r]) (as++[b]):=by
    refine⟨?_,px.no,by rw[aI,aI,px.len];rfl,by rw[aI,cJ];lia,px.lo,λi q a h1 h2=>?_⟩
    ·rw[AG r b aD as 0 px.len,kC _ _ _ px.len,iE,px.eq,YD]
    ·by_cases hi:i<aD.length
     ·rw[bE hi]at h1;rw[bE (by rw[px.len];exact hi)]at h2;exact px.keys i q a h1 h2
     ·have hi2:=(aC.mp h1).1;rw[aI,cJ]at hi2;have ei:i=aD.length:=by lia
      subst ei;rw[bN (aG _),fJ]at h1;rw[bN (by rw[px.len];exact aG _),px.len,fJ]at h2;cases h1;cases h2;exact .inl hb
   exact fin _ _ _ _ px2 (XC c) (q _ J _ (bA.refl _) px2)
theorem SU(bi:Bi mg)(F:gI K "found" "found" nu f fd):dI P w K mg base fZ 1 f fd ["places","row"] (LZ P w K false):=by
 refine F.okz j5 λfD A outer s H vs Q E hr h=>?_
 obtain⟨pa,b,J,aD,as,r,rfl,px,hb,hfi,q⟩:=h;refine⟨_,(zD (yE 2 j5.nd (eh (xT hr) (pv 0) (pv 1) ⟨rfl,rfl,rfl,rfl⟩)) (zG (zO (vB (zP EV (pv 2) uI (zV _)) uI (zN xR zE (pv 2)))))),?_⟩;refine zH λN hN=>?_
 dsimp![PF];refine⟨_,px.dx,_,px.dx,jX r,dN.of (px.sub _ _ hb),hN _ _ ?_⟩;clear hN;rw[kA r aD as 0 px.len];dsimp![];unfold xN at q hfi;cases c:oP aD r with
 |none=>
  rw[c]at hfi;have :=dH List.length (hfi.1 rfl);rw[aI,cJ]at this;lia
 |some k=>
  rw[c]at q;rw[aH (λz=>by cases z)];refine⟨_,rfl,.inl ⟨(),()⟩,?_⟩;rw[show(2:Int)*((0+k:Nat):Int)=((2*k:Nat):Int) by lia];exact q H J as (bA.refl _) px
end
section
variable {ff:Addr} {k:Nat} {gr:Bool}
theorem MT(eX:NT P w K mg base 1 ff ["places","row"] (LZ P w K gr))(h_N:gS P w K mg base 1 "turned" ["n","turn"] PP)(h_m:gS P w K mg base (k+1) "number_by" ["row_number","places","t"] (DZ P w K gr ff n))(F:gI K "joined_number" "joined_number" s_c f fd):dI P w K mg base fZ (k+2) f fd ["row_number","places","t"] (spJn P w K gr ff n):=by
 refine F.okz MD λfD A outer s H vs Q E hr h=>?_
 obtain⟨pa,ta,us,J,aD,as,e,ts,rfl,px,hta,hts,hf,lU,hfi,q⟩:=h;refine⟨_,(zD (yE 3 MD.nd (vB (zP (kZ hr.units) (zL zM (pv 2) zE) zT (zV _)) zE zE)) (zD (yE 4 MD.nd (zI h_N hr.m rfl (zA (zI h_m hr.m rfl (zA (pv 0) (zA (pv 1) (zA (zL zM (pv 2) zE) zC)))) (zA (pv 3) zC)))) (zD (yI bM rfl (uZ (jC YE (pv 2) (jQ zE) qS)) (yG 5 MD.nd) (zD (yE 6 MD.nd (zI h_N hr.m rfl (zA (zI h_m hr.m rfl (zA (pv 0) (zA (pv 1) (zA (pv 5) zC)))) (zA (pv 3) zC)))) (zG (yE 4 MD.nd (AR (i:=0) eX hr.m (zA (pv 1) (zA (zQ (zA zT (zA (pv 4) (zA (pv 6) zC)))) zC))))))) (zG (zO (zI h_N hr.m rfl (zA (pv 4) (zA (pv 3) zC)))))))),?_⟩;obtain⟨t0,ts',rfl⟩:∃t0 ts',ts=t0::ts':=by
  cases ts with
  |nil=>exact absurd rfl lU
  |cons t0 ts'=>exact⟨t0,ts',rfl⟩
 obtain⟨u0,us',rfl,hu0,hus⟩:=hts;rw[jJ]at q hfi;obtain⟨fi1,fi2⟩:=hfi.mid (kR t0 aD) (qN e ts' _ _);have hul:us'.length=ts'.length:=by have :=bG.length hus;rwa[aE]at this
 have htaH:=px.sub _ _ hta;refine zH λN hN=>?_
 dsimp![dv];have cont:N [some (V.ref ff),some (V.ref pa),some (V.ref ta),some (V.int (if e then 1 else 0)),none,none,none] H:=hN _ _ (by
  clear hN;refine zH λN hN=>?_
  dsimp![];refine⟨_,dN.of htaH,_,yD (j:=1) rfl,pa,u0,J,aD,as,t0,rfl,px,hu0,hf t0 bB,fi1,λH1 J1 pG s1 px1=>?_⟩;refine⟨_,e,rfl,hN _ _ ?_⟩;clear hN;generalize (eK t0 aD).1=rows1 at px1 q fi2;generalize lR e (eK t0 aD).2=m1 at q fi2⊢;refine yA (λσ G=>∃(J':Hp)(as':List Addr)(o5 o6:Option V),bA J J'/\Px P w K G J' pa (jA e ts' rows1 m1).1 as'/\σ=[some (V.ref ff),some (V.ref pa),some (V.ref ta),some (V.int (if e then 1 else 0)),some (V.int ((jA e ts' rows1 m1).2:Nat)),o5,o6]) (λN hN=>?_) (λσ G h=>?_)
  ·dsimp![RN];refine⟨_,(s1.trans px1.sub) _ _ hta,λp H2 s2 kp=>?_⟩;rw[i3]at kp;obtain⟨J2,px2,s2'⟩:=px1.ext s2;have kp2:=px2.tup kp;refine⟨⟨_,dN.of kp⟩,?_⟩;refine rf (xs:=us') (λi σ G=>∃(J':Hp)(as':List Addr)(rows':List Rw)(mi:Nat)(o5 o6:Option V),bA J2 J'/\Px P w K G J' pa rows' as'/\jA e (ts'.drop i) rows' mi=jA e ts' rows1 m1/\NU gr rows' (jA e ts' rows1 m1).1/\σ=[some (V.ref ff),some (V.ref pa),some (V.ref ta),some (V.int (if e then 1 else 0)),some (V.int (mi:Nat)),o5,o6]) ⟨J2,pG,rows1,m1,_,_,bA.refl _,px2,by rw[rY],fi2,rfl⟩ (λi σ G _ h=>by obtain⟨_,_,_,_,_,_,sg,pg,_⟩:=h;exact dN.of (pg.sub _ _ (sg _ _ kp2))) (λi x σ G hx h M hM=>?_) (λσ G h=>?_)
   ·obtain⟨J3,as3,lI,mi,o5,o6,s3,px3,hb3,fi3,rfl⟩:=h;obtain⟨t,hti,hx'⟩:=jE (f:=HG) hus hx;obtain⟨hil,hie⟩:=aC.mp hti;rw[gG hil,hie,jA]at hb3;have fi4:=fi3;rw[←hb3]at fi4;obtain⟨fi5,fi6⟩:=fi4.mid (mid:=(eK t lI).1) (kR t lI) (by
     obtain⟨xs,hx⟩:=uW (eK t lI).1 (.bo (mi:Int) (lR e (eK t lI).2:Nat));obtain⟨ys,hy⟩:=qN e (ts'.drop (i+1)) (xN (eK t lI).1 (.bo (mi:Int) (lR e (eK t lI).2:Nat))).1 (xN (eK t lI).1 (.bo (mi:Int) (lR e (eK t lI).2:Nat))).2;exact⟨xs++ys,by rw[←cM,←hx];exact hy⟩)
    obtain⟨fi7,fi8⟩:=fi6.mid (uW _ _) (qN e (ts'.drop (i+1)) (xN (eK t lI).1 (.bo (mi:Int) (lR e (eK t lI).2:Nat))).1 (xN (eK t lI).1 (.bo (mi:Int) (lR e (eK t lI).2:Nat))).2);rw[hb3]at fi8;clear fi4 fi6;have sA:=s1.trans (s2'.trans s3);refine zH λN hN=>?_
    dsimp![];refine⟨pa,x,J3,lI,as3,t,rfl,px3,eA.same sA hx',hf t (bC _ (aV hti)),fi5,λH4 J4 as4 s4 px4=>?_⟩;refine⟨_,e,rfl,hN _ _ ?_⟩;clear hN;generalize (eK t lI).1=rows4 at px4 hb3 fi7 fi8;generalize lR e (eK t lI).2=m4 at hb3 fi7 fi8⊢;dsimp![UC];refine⟨small (),λp2 lX=>?_⟩;have px5:=px4.new lX (.tup [V.str "both",V.int (mi:Int),V.int (m4:Int)]);have s5:=zF (px4.free lX) (.tup [V.str "both",V.int (mi:Int),V.int (m4:Int)]);have k5:upd J4 p2 (.tup [V.str "both",V.int (mi:Int),V.int (m4:Int)]) p2=some (.tup ((jX (.bo (mi:Int) (m4:Int))).map kV)):=zB;refine⟨pa,p2,_,rows4,as4,.bo (mi:Int) (m4:Int),rfl,px5,k5,fi7,λH6 J6 as6 s6 px6=>?_⟩;exact hM _ _ ⟨J6,as6,_,_,_,_,s3.trans (s4.trans (s5.trans s6)),px6,hb3,fi8,rfl⟩
   ·obtain⟨J3,as3,lI,mi,o5,o6,s3,px3,hb3,fi3,rfl⟩:=h;rw[hul,List.drop_length,jA]at hb3;refine hN _ _ ⟨J3,as3,o5,o6,s1.trans (s2'.trans s3),?_,?_⟩
    ·rw[←hb3];exact px3
    ·rw[←hb3]
  obtain⟨J',as',o5,o6,sJ,px',rfl⟩:=h;dsimp![];exact⟨_,e,rfl,q _ J' as' sJ px'⟩)
 cases e with
 |true=>exact⟨_,dN.of htaH,_,lS,0,.str "either",rfl,.str "either",rfl,trivial,(),by rw[xU,aL rfl];exact cont⟩
 |false=>exact⟨_,dN.of htaH,_,lS,0,.str "both",rfl,.str "either",rfl,trivial,(),by rw[show eR (.str "both") (.str "either")=false from by simp[eR];decide,aH ()];exact cont⟩
theorem MS(eX:NT P w K mg base 1 ff ["places","row"] (LZ P w K gr))(h_N:gS P w K mg base 1 "turned" ["n","turn"] PP)(h_m:gS P w K mg base (k+2) "number_by" ["row_number","places","t"] (DZ P w K gr ff n))(h_c:gS P w K mg base (k+2) "joined_number" ["row_number","places","t"] (spJn P w K gr ff n))(F:gI K "number_by" "number_by" s_m f fd):dI P w K mg base fZ (k+3) f fd ["row_number","places","t"] (DZ P w K gr ff (n+1)):=by
 refine F.okz sc_m λfD A outer s H vs Q E hr h=>?_
 obtain⟨pa,v,J,aD,as,t,rfl,px,hv,hf,hfi,q⟩:=h;refine⟨_,(zD (yK (zP (kZ hr.units) (zL zM (pv 2) zE) zT (zV _)) (zG (zO zE)) zZ) (zD (yK (zP (kZ hr.units) (zL zM (pv 2) zE) zT (zV _)) (zG (zO zE)) zZ) (zD (yK (zP (kZ hr.units) (zL zM (pv 2) zE) zT (zV _)) (zG (zO (AR (i:=0) eX hr.m (zA (pv 1) (zA (zQ (zA zT (zA (zL zM (pv 2) zE) zC))) zC))))) zZ) (zD (yK (zP (kZ hr.units) (zL zM (pv 2) zE) zT (zV _)) (zG (zO (zI h_N hr.m rfl (zA (zI h_m hr rfl (zA (pv 0) (zA (pv 1) (zA (zL zM (pv 2) zE) zC)))) (zA zE zC))))) zZ) (zG (zO (zI h_c hr.m rfl (zA (pv 0) (zA (pv 1) (zA (pv 2) zC)))))))))),?_⟩;cases t with
 |name x=>
  obtain⟨a,vs,rfl,ha,u1,r1,rfl,h1,u2,r2,rfl,h2,h3⟩:=hv;have h1:u1=.str "name":=h1;have h2:u2=.str x:=h2;have h3:r2=[]:=h3;subst h1 h2 h3;replace ha:=px.sub _ _ ha;dsimp![dv,UC];rw[eK]at q hfi;refine⟨_,dN.of ha,_,lS,0,.str "name",rfl,.str "none",rfl,trivial,(),?_⟩;rw[VH,aH ()];refine⟨_,dN.of ha,_,lS,0,.str "name",rfl,.str "all",rfl,trivial,(),?_⟩;rw[VH,aH ()];refine⟨_,dN.of ha,_,lS,0,.str "name",rfl,.str "name",rfl,trivial,(),?_⟩;rw[VH,aL ()];refine⟨_,dN.of ha,_,pH,small (),λp2 lX=>?_⟩;have px5:=px.new lX (.tup [V.str "name",V.str x]);have s5:=zF (px.free lX) (.tup [V.str "name",V.str x]);have k5:upd J p2 (.tup [V.str "name",V.str x]) p2=some (.tup ((jX (.nm x)).map kV)):=zB;exact⟨pa,p2,_,aD,as,.nm x,rfl,px5,k5,hfi,λH6 J6 as6 s6 px6=>q H6 J6 as6 (s5.trans s6) px6⟩
 |node wd ts=>
  obtain⟨a,vs,rfl,ha,u1,us,rfl,h1,hus⟩:=hv;have h1:u1=.str wd:=h1;subst h1;obtain⟨hs,hfs⟩:=hf.node;have haH:=px.sub _ _ ha;have step:∀{c:Str}{A B:Prop},(wd=c->A)->(wd≠c->B)->∃x,dN K H a x/\∃x_1,oV x 0=some x_1/\∃n_1 d,eA H d x_1/\∃x,eA H x (V.str c)/\ZL (n_1+1) d/\n_1<=60/\if eR d x=true then A else B:=λ{c A B} h1 h2=>by
   refine⟨_,dN.of haH,_,lS,0,.str wd,rfl,.str c,rfl,trivial,(),?_⟩;rw[VH];by_cases e:wd=c
   ·rw[aL (dX e)];exact h1 e
   ·rw[aH (by simp[e])];exact h2 e
  dsimp![dv,UC];rw[eK]at q hfi;refine step (λe=>?_) (λe1=>step (λe=>?_) (λe2=>step (λe=>?_) (λe3=>step (λe=>?_) (λe4=>?_))))
  ·rw[aL e]at q;exact q H J as (bA.refl _) px
  ·rw[aH e1,aL e]at q;exact q H J as (bA.refl _) px
  ·subst e;rcases hs with h |h |h |h |h<;>exact absurd h.1 ()
  ·subst e;rw[aH e1,aH e2,aL rfl]at q hfi;have hl:ts.length=1:=by
    rcases hs with h |h |h |h |h
    ·exact absurd h.1 ()
    ·exact absurd h.1 ()
    ·exact h.2
    ·exact absurd h.1 ()
    ·exact absurd h.1 ()
   obtain⟨t,rfl⟩:∃t,ts=[t]:=by
    cases ts with
    |nil=>simp at hl
    |cons t r=>
     cases r with
     |nil=>exact⟨t,rfl⟩
     |cons _ _=>simp at hl
   obtain⟨u,r,rfl,hu,_⟩:=hus;rw[jJ,jA]at q hfi;exact⟨_,dN.of haH,_,yD (j:=1) rfl,pa,u,J,aD,as,t,rfl,px,hu,hfs t bB,hfi,λH6 J6 as6 s6 px6=>⟨_,true,rfl,q H6 J6 as6 s6 px6⟩⟩
  ·rw[aH e1,aH e2,aH e4]at q hfi;refine⟨pa,a,us,J,aD,as,decide (wd="either"),ts,rfl,px,?_,(by rw[YW]at hus;exact hus),hfs,λz=>?_,hfi,q⟩
   ·rw[ha];rcases hs with h |h |h |h |h
    ·exact absurd h.1 e1
    ·exact absurd h.1 e2
    ·exact absurd h.1 e4
    ·rw[h.1];rfl
    ·rw[h.1];rfl
   ·subst z;rcases hs with h |h |h |h |h
    ·exact absurd h.1 e1
    ·exact absurd h.1 e2
    ·exact absurd h.1 e4
    ·exact absurd h.2 ()
    ·exact absurd h.2 ()
theorem EZ(F:gI K "number_by" "number_by" s_m f fd)(eX:NT P w K mg base 1 ff ["places","row"] (LZ P w K gr))(h_N:gS P w K mg base 1 "turned" ["n","turn"] PP):dI P w K mg base fZ 1 f fd ["row_number","places","t"] (DZ P w K gr ff 0):=by
 refine F.okz sc_m λfD A outer s H vs Q E hr h=>?_
 ·obtain⟨pa,v,J,aD,as,t,rfl,px,hv,hf,_⟩:=h;exact hf.elim
theorem wP{g:Addr}{gd:FuncData}(eX:NT P w K mg base 1 ff ["places","row"] (LZ P w K gr))(h_N:gS P w K mg base 1 "turned" ["n","turn"] PP)(F:gI K "number_by" "number_by" s_m f fd)(b:Binds K fd ["row_number","places","t"] [])(m:mg "number_by"=some (.ref f))(G:gI K "joined_number" "joined_number" s_c g gd)(bg:Binds K gd ["row_number","places","t"] [])(mgg:mg "joined_number"=some (.ref g)):∀n,gS P w K mg base (2*n+2) "number_by" ["row_number","places","t"] (DZ P w K gr ff n)
 |0=>(zS F (EZ F eX h_N) b m).mono ()
 |n+1=>by
  have ih:=wP eX h_N F b m G bg mgg n;have hj:=zS G (MT (k:=2*n+1) eX h_N ih G) bg mgg;exact zS F (MS (k:=2*n+1) eX h_N (ih.mono ()) hj F) b m
end
abbrev s_O:Stmt:=top 25
theorem nh:cC ["terms","places","t"] ["terms"] (zK s_O):=by rfl'
def uS:List Tm->List Rw->List Rw
 |[],aD=>aD
 |t::ts,aD=>uS ts (eK t aD).1
theorem JG:∀(ts:List Tm)(aD:List Rw),∃xs,uS ts aD=aD++xs
 |[],aD=>⟨[],(cN _).symm⟩
 |t::ts,aD=>by
  obtain⟨xs,hx⟩:=kR t aD;obtain⟨ys,hy⟩:=JG ts (eK t aD).1;exact⟨xs++ys,by rw[uS,hy,hx,cM]⟩
inductive spSo (K:W.Frag) (vs:List V) (H:Hp) (Q:VK) (E:XK):Prop
 |mk (ta:Addr) (us:List V) (ts:List Tm) (_:vs=[.ref ta]) (_:H ta=some (.lst us)) (_:TAts H ts us) (_:(∀t∈ts,sM 21 t)) (_:(uS ts [.no]).length<=40) (_:∀(p:Addr)(ws:List V)(H':Hp),bA H H'->H' p=some (.lst ws)->gD K H' (uS ts [.no]) ws->Q (.ref p) H')
theorem RF{K:W.Frag}{H:Hp}:∀(aD:List Rw)(as:List Addr),as.length=aD.length->(∀(i:Nat)(r:Rw)(a:Addr),aD[i]?=some r->as[i]?=some a->Tw K H a ((jX r).map kV))->gD K H aD (as.map V.ref)
 |[],[],_,_=>rfl
 |[],_::_,h,_=>by cases h
 |_::_,[],h,_=>by cases h
 |r::aD,a::as,h,hk=>⟨_,_,rfl,⟨a,rfl,by rw[←HY];exact hk 0 r a rfl rfl⟩,RF aD as (mI h) λi r' a' h1 h2=>hk (i+1) r' a' h1 h2⟩
section
variable {ff aN:Addr}
theorem AZ(g_NONE_ROW:Gc mg "NONE_ROW" (.ref aN))(hNo:∀H,Tw K H aN [.str "none"])(mf_put_in:mg "put_in"=some (.ref ff))(bi:Bi mg)(h_m:gS P w K mg base 44 "number_by" ["row_number","places","t"] (DZ P w K true ff 21))(F:gI K "sheet_of" "sheet_of" s_O f fd):dI P w K mg base fZ 45 f fd ["terms"] (spSo K):=by
 refine F.okz nh λfD A outer s H vs Q E hr h=>?_
 obtain⟨ta,us,ts,rfl,hta,hts,hf,hb40,q⟩:=h;have hul:us.length=ts.length:=by have :=bG.length hts;rwa[aE]at this
 refine⟨_,(zD (yE 1 nh.nd (SA (xT hr) (j9 g_NONE_ROW rfl) zE)) (zD (yI bM rfl (yF (pv 0)) (yG 2 nh.nd) (zG (zU (zI h_m hr.m rfl (zA (EO mf_put_in rfl) (zA (pv 1) (zA (pv 2) zC))))))) (zG (zO (RY rfl bi.list rfl (pv 1)))))),?_⟩;refine zH λN hN=>?_
 dsimp![tDX1];refine λpa hpa hlo=>⟨jX .no,(hNo _).sq,zB,hN _ _ ?_⟩
 clear hN;have px0:Px P w K (upd (upd H pa (DJ P w pa [])) pa (DJ P w pa [(jX .no,aN,V.int 0)])) H pa [.no] [aN]:=by
  refine⟨by rw[YD];rfl,hpa,rfl,(),hlo,λi r a h1 h2=>?_⟩;cases i with
  |zero=>cases h1;cases h2;exact hNo _
  |succ i=>cases h1
 generalize upd (upd H pa (DJ P w pa [])) pa (DJ P w pa [(jX .no,aN,V.int 0)])=H0 at px0⊢;refine yA (λσ G=>∃(J:Hp)(as:List Addr)(o2:Option V),bA H J/\Px P w K G J pa (uS ts [.no]) as/\σ=[some (V.ref ta),some (V.ref pa),o2]) (λN hN=>?_) (λσ G h=>?_)
 ·dsimp![];refine⟨⟨_,dL.of (px0.sub _ _ hta)⟩,?_⟩;refine xV (xs:=us) (λi σ G=>∃(J:Hp)(as:List Addr)(aD:List Rw)(o2:Option V),bA H J/\Px P w K G J pa aD as/\uS (ts.drop i) aD=uS ts [.no]/\σ=[some (V.ref ta),some (V.ref pa),o2]) ⟨H,_,_,_,bA.refl _,px0,by rw[rY],rfl⟩ (λi σ G _ h=>by obtain⟨_,_,_,_,sg,pg,_⟩:=h;exact dL.of (pg.sub _ _ (sg _ _ hta))) (λi x σ G hx h M hM=>?_) (λσ G h=>?_)
  ·obtain⟨J,as,aD,o2,sJ,px,hb,rfl⟩:=h;obtain⟨t,hti,hx'⟩:=jE (f:=HG) hts hx;obtain⟨hil,hie⟩:=aC.mp hti;rw[gG hil,hie,uS]at hb;dsimp![];refine⟨pa,x,J,aD,as,t,rfl,px,eA.same sJ hx',hf t (aV hti),⟨(λz=>by cases z),by obtain⟨ys,hy⟩:=JG (ts.drop (i+1)) (eK t aD).1;rw[←hb,hy,aI]at hb40;lia⟩,λH1 J1 pG s1 px1=>?_⟩;exact hM _ _ ⟨J1,pG,_,_,sJ.trans s1,px1,hb,rfl⟩
  ·obtain⟨J,as,aD,o2,sJ,px,hb,rfl⟩:=h;rw[hul,List.drop_length,uS]at hb;exact hN _ _ ⟨J,as,o2,sJ,by rw[←hb];exact px,rfl⟩
 obtain⟨J,as,o2,sJ,px,rfl⟩:=h;dsimp![tLX];refine⟨_,px.dx,λl hl=>?_⟩;rw[AH _ _ _ px.len];have sl:=zF hl (.lst (as.map V.ref));exact q l _ _ (sJ.trans (px.sub.trans sl)) zB (RF _ _ px.len λi r a h1 h2=>(px.keys i r a h1 h2).same (px.sub.trans sl))
end
abbrev s_L:Stmt:=top 13
theorem dh:cC ["book","saying","terms","rule","premise"] ["book","saying"] (zK s_L):=by rfl'
abbrev mE:=List (Tm×Tm)×(Tm×Tm)
def nO(p:Tm×Tm):List Tm:=[p.1,p.2]
def uQ(ps:List (Tm×Tm)):List Tm:=ps.flatMap nO
def PB(r:mE):List Tm:=uQ r.1++nO r.2
def oW(rs:List mE):List Tm:=rs.flatMap PB
theorem LW{ps:List (Tm×Tm)}{p:Tm×Tm}(h:ps[i]?=some p):uQ (ps.take (i+1))=uQ (ps.take i)++nO p:=by
 obtain⟨il,ie⟩:=aC.mp h;unfold uQ;rw[aM il,ie,hV];simp
theorem tP{rs:List mE}{r:mE}(h:rs[i]?=some r):oW (rs.take (i+1))=oW (rs.take i)++PB r:=by
 obtain⟨il,ie⟩:=aC.mp h;unfold oW;rw[aM il,ie,hV];simp
theorem LX(rs:List mE)(i:Nat):(oW (rs.take i)).length<=(oW rs).length:=by
 have :oW rs=oW (rs.take i)++oW (rs.drop i):=by
  unfold oW;rw[←hV,eJ]
 rw[this,aI];lia
theorem DW(ps:List (Tm×Tm))(i:Nat):(uQ (ps.take i)).length<=(uQ ps).length:=by
 have :uQ ps=uQ (ps.take i)++uQ (ps.drop i):=by
  unfold uQ;rw[←hV,eJ]
 rw[this,aI];lia
abbrev iD(H:Hp)(rs:List mE)(vs:List V):Prop:=bG H (rs.map WK) vs
theorem iD.length{rs:List mE}{vs:List V}(h:iD H rs vs):vs.length=rs.length:=by
 have :=bG.length h;rw[aE]at this;exact this
theorem iD.getV{rs:List mE}{vs:List V}(h:iD H rs vs)(hv:vs[i]?=some v):∃r,rs[i]?=some r/\bh H r v:=by
 have hi:i<rs.length:=by rw[←h.length];exact(aC.mp hv).1
 obtain⟨u,h1,h2⟩:=bG.get (d:=WK rs[i]) h (by rw[aK,aA hi];rfl);rw[hv]at h1;cases h1;exact⟨_,aA hi,h2⟩
theorem oR.two{p:Tm×Tm}(h:oR H p v):∃a us,v=.ref a/\H a=some (.tup us)/\TAts H (nO p) us/\us.length=2:=by
 obtain⟨a,v1,v2,e1,e2,e3,e4⟩:=oR.out h;exact⟨a,_,e1,e2,⟨v1,_,rfl,e3,v2,_,rfl,e4,rfl⟩,rfl⟩
theorem wW{o:HO}(e:bA H H')(hp:H p=none):bA H (upd H' p o):=e.upd hp
inductive spTI (vs:List V) (H:Hp) (Q:VK) (E:XK):Prop
 |mk (a:Addr) (sv:V) (bs:List V) (rs:List mE) (s:Tm×Tm) (_:vs=[.ref a,sv]) (_:H a=some (.lst bs)) (_:iD H rs bs) (_:oR H s sv) (_:(oW rs).length<=1000) (_:∀p us H',bA H H'->H' p=some (.lst us)->TAts H' (oW rs++nO s) us->Q (.ref p) H')
theorem AX(bi:Bi mg)(F:gI K "terms_in" "terms_in" s_L f fd):dI P w K mg base fZ 1 f fd ["book","saying"] spTI:=by
 refine F.okz dh λfD A outer s H vs Q E hr h=>?_
 obtain⟨a,sv,bs,rs,s,rfl,ha,mB,hs,hz,q⟩:=h;have hbl:=mB.length;refine⟨_,(zD (yE 2 dh.nd (xH zC)) (zD (yI bM rfl (yF (pv 0)) (yG 3 dh.nd) (zD (yI bM rfl (yF (zL zM (pv 3) zE)) (yG 4 dh.nd) (zG (zU (jD bT gU lK wM (pv 2) (zA (pv 4) zC))))) (zG (zU (jD bT gU lK wM (pv 2) (zA (zL zM (pv 3) zE) zC)))))) (zD (zU (jD bT gU lK wM (pv 2) (zA (pv 1) zC))) (zG (zO (pv 2)))))),?_⟩;refine zH λN hN=>?_
 dsimp![];refine⟨small (),λp hp=>hN _ _ ?_⟩;refine yA (λσ H'=>bA H H'/\(∃us,H' p=some (.lst us)/\TAts H (oW rs) us)/\∃o1 o2,σ=[some (V.ref a),some sv,some (V.ref p),o1,o2]) (λN hN=>?_) (λσ H' h=>?_)
 ·dsimp![];refine⟨⟨_,dL.of (zF hp _ _ _ ha)⟩,?_⟩;refine xV (xs:=bs) (λi σ H'=>bA H H'/\(∃us,H' p=some (.lst us)/\TAts H (oW (rs.take i)) us)/\∃o1 o2,σ=[some (V.ref a),some sv,some (V.ref p),o1,o2]) ?_ (λi σ H' _ h=>dL.of (h.1 _ _ ha)) (λi x σ H' hx h M hM=>?_) (λσ H' h=>?_)
  ·exact⟨zF hp _,⟨[],zB,rfl⟩,_,_,rfl⟩
  ·obtain⟨es,⟨us,hus,hut⟩,o1,o2,rfl⟩:=h;obtain⟨r,hri,hx'⟩:=mB.getV hx;obtain⟨ra,l,sv2,vs,rfl,hra,hl,hps,hs2⟩:=bh.out hx';have hln:vs.length=r.1.length:=mP.length hps;have hb1:=LX rs (i+1);rw[tP hri,aI]at hb1;have hb2:(PB r).length=(uQ r.1).length+2:=by unfold PB;rw[aI];rfl
   show PD _ _ _ _ _;refine yA (λσ H'=>bA H H'/\(∃us,H' p=some (.lst us)/\TAts H (oW (rs.take i)++uQ r.1) us)/\∃o2,σ=[some (V.ref a),some sv,some (V.ref p),some (V.ref ra),o2]) (λN hN=>?_) (λσ H' h=>?_)
   ·dsimp![];refine⟨_,dN.of (es _ _ hra),.ref l,lS,_,rfl,⟨_,dL.of (es _ _ hl)⟩,?_⟩;refine xV (xs:=vs) (λj σ H'=>bA H H'/\(∃us,H' p=some (.lst us)/\TAts H (oW (rs.take i)++uQ (r.1.take j)) us)/\∃o2,σ=[some (V.ref a),some sv,some (V.ref p),some (V.ref ra),o2]) ?_ (λj σ H' _ h=>dL.of (h.1 _ _ hl)) (λj y σ H' hy h M2 hM2=>?_) (λσ H' h=>?_)
    ·exact⟨es,⟨us,hus,by simpa[uQ]using hut⟩,_,rfl⟩
    ·obtain⟨es,⟨us,hus,hut⟩,o2,rfl⟩:=h;obtain⟨pr,hpi,hy'⟩:=mP.getV hps hy;obtain⟨sa,ws,rfl,hsa,hws,hw2⟩:=oR.two hy';have hlu:=hut.length;have hb3:=DW r.1 j;rw[aI]at hlu;dsimp![wY];refine⟨.inl ⟨rfl,_,dL.of hus⟩,_,hus,_,dN.of (es _ _ hsa),cR (m:=1000000) () (),?_⟩;refine hM2 _ _ ⟨wW es hp,⟨_,zB,?_⟩,_,rfl⟩;rw[LW hpi,←cM];exact TAts.append hut hws
    ·obtain⟨es,⟨us,hus,hut⟩,o2,rfl⟩:=h;rw[show r.1.take vs.length=r.1 from aQ ()]at hut;exact hN _ _ ⟨es,⟨us,hus,hut⟩,_,rfl⟩
   ·obtain⟨es,⟨us,hus,hut⟩,o2,rfl⟩:=h;obtain⟨sa,ws,rfl,hsa,hws,hw2⟩:=oR.two hs2;have hlu:=hut.length;rw[aI]at hlu;dsimp![wY];refine⟨.inl ⟨rfl,_,dL.of hus⟩,_,dN.of (es _ _ hra),.ref sa,pH,sa,rfl,_,hus,_,dN.of (es _ _ hsa),cR (m:=1000000) () (),?_⟩;refine hM _ _ ⟨wW es hp,⟨_,zB,?_⟩,_,_,rfl⟩;rw[tP hri];unfold PB;rw[←cM];exact TAts.append hut hws
  ·obtain⟨es,⟨us,hus,hut⟩,o1,o2,rfl⟩:=h;rw[aQ ()]at hut;exact hN _ _ ⟨es,⟨us,hus,hut⟩,_,_,rfl⟩
 ·obtain⟨es,⟨us,hus,hut⟩,o1,o2,rfl⟩:=h;obtain⟨sa,ws,rfl,hsa,hws,hw2⟩:=oR.two hs;have hlu:=hut.length;refine zH λN hN=>?_
  dsimp![wY];refine⟨.inl ⟨rfl,_,dL.of hus⟩,_,hus,_,dN.of (es _ _ hsa),cR (m:=1000000) () (),hN _ _ ?_⟩;dsimp![];exact q p _ _ (wW es hp) zB (bG.same (wW es hp) (TAts.append hut hws))
abbrev s_X:Stmt:=top 26
theorem sc_X:cC ["places","saying"] ["places","saying"] (zK s_X):=by rfl'
abbrev s_s:Stmt:=top 27
theorem sc_s:cC ["places","rule"] ["places","rule"] (zK s_s):=by rfl'
abbrev s_R:Stmt:=top 28
theorem sc_R:cC ["sheet","book","places"] ["sheet","book"] (zK s_R):=by rfl'
theorem HX{K:W.Frag}{H:Hp}:∀(aD:List Rw)(us:List V),gD K H aD us->∃as:List Addr,us=as.map V.ref/\as.length=aD.length/\∀(i:Nat)(r:Rw)(a:Addr),aD[i]?=some r->as[i]?=some a->Tw K H a ((jX r).map kV)
 |[],us,h=>⟨[],h,rfl,λi r a h=>by simp at h⟩
 |r::aD,us,⟨v,vs,e1,⟨a,e2,e3⟩,e4⟩=>by
  obtain⟨as,g1,g2,g3⟩:=HX aD vs e4;subst e1 e2 g1;refine⟨a::as,rfl,dH (· +1) g2,λi r' a' h1 h2=>?_⟩;cases i with
  |zero=>cases h1;cases h2;rw[HY];exact e3
  |succ i=>exact g3 i r' a' (by simpa using h1) (by simpa using h2)
theorem IJ:∀(aD:List Rw)(as:List Addr)(k i:Nat)(x:XE),(pZ aD as k)[i]?=some x->∃r a,aD[i]?=some r/\as[i]?=some a/\x=(jX r,a,V.int ((k+i:Nat):Int))
 |[],_,_,_,_,h=>by unfold pZ at h;simp at h
 |_::_,[],_,_,_,h=>by unfold pZ at h;simp at h
 |r::aD,a::as,k,0,x,h=>by cases h;exact⟨r,a,rfl,rfl,rfl⟩
 |r::aD,a::as,k,i+1,x,h=>by
  obtain⟨r',a',h1,h2,h3⟩:=IJ aD as (k+1) i x (by simpa[pZ]using h);exact⟨r',a',by simpa using h1,by simpa using h2,by rw[h3,show k+1+i=k+(i+1) by lia]⟩
theorem AI:∀(aD:List Rw)(as:List Addr)(k:Nat),as.length=aD.length->(pZ aD as k).map (·.1)=aD.map jX
 |[],[],_,_=>rfl
 |[],_::_,_,h=>by cases h
 |_::_,[],_,h=>by cases h
 |q::aD,a::as,k,h=>dH (jX q:: ·) (AI aD as (k+1) (mI h))
inductive mq (P:Program) (w:World) (K:W.Frag) (vs:List V) (H:Hp) (Q:VK) (E:XK):Prop
 |mk (sa:Addr) (us:List V) (aD:List Rw) (_:vs=[.ref sa]) (_:H sa=some (.lst us)) (_:gD K H aD us) (_:aD.Nodup) (_:aD.length<=40) (_:∀pa as J H',bA H J->Px P w K H' J pa aD as->Q (.ref pa) H')
def nS(aD:List Rw)(s:Tm×Tm):Pr:=(((eK s.1 aD).2:Nat),((eK s.2 aD).2:Nat))
def nR(aD:List Rw)(r:List (Tm×Tm)×(Tm×Tm)):xM:=(r.1.map (nS aD),nS aD r.2)
def jo(aD:List Rw)(t:Tm):Prop:=fM 20 t/\(eK t aD).1=aD
def jp(aD:List Rw)(s:Tm×Tm):Prop:=jo aD s.1/\jo aD s.2
def GdR(aD:List Rw)(r:List (Tm×Tm)×(Tm×Tm)):Prop:=r.1.length<=5/\(∀s∈r.1,jp aD s)/\jp aD r.2
inductive mv (P:Program) (w:World) (K:W.Frag) (vs:List V) (H:Hp) (Q:VK) (E:XK):Prop
 |mk (pa:Addr) (v:V) (aD:List Rw) (as:List Addr) (s:Tm×Tm) (J:Hp) (_:vs=[.ref pa,v]) (_:Px P w K H J pa aD as) (_:oR J s v) (_:jp aD s) (_:∀p J' H' as',bA J J'->Px P w K H' J' pa aD as'->J' p=some (.tup [.int (nS aD s).1,.int (nS aD s).2])->Q (.ref p) H')
inductive spNr (P:Program) (w:World) (K:W.Frag) (vs:List V) (H:Hp) (Q:VK) (E:XK):Prop
 |mk (pa:Addr) (v:V) (aD:List Rw) (as:List Addr) (r:List (Tm×Tm)×(Tm×Tm)) (J:Hp) (_:vs=[.ref pa,v]) (_:Px P w K H J pa aD as) (_:bh J r v) (_:GdR aD r) (_:∀v' J' H' as',bA J J'->Px P w K H' J' pa aD as'->eA J' (a9 (nR aD r)) v'->Q v' H')
inductive spNm (K:W.Frag) (vs:List V) (H:Hp) (Q:VK) (E:XK):Prop
 |mk (sa ba:Addr) (us bs:List V) (aD:List Rw) (b:List (List (Tm×Tm)×(Tm×Tm))) (_:vs=[.ref sa,.ref ba]) (_:H sa=some (.lst us)) (_:gD K H aD us) (_:aD.Nodup) (_:aD.length<=40) (_:H ba=some (.lst bs)) (_:iD H b bs) (_:b.length<=100) (_:(∀r∈b,GdR aD r)) (_:∀p ws H',bA H H'->H' p=some (.lst ws)->bG H' ((b.map (nR aD)).map a9) ws->Q (.ref p) H')
section
variable {ff:Addr}
theorem MR(bi:Bi mg)(be:mg "enumerate"=none)(F:gI K "places_of" "places_of" s_H f fd):dI P w K mg base fZ 1 f fd ["sheet"] (mq P w K):=by
 refine F.okz sc_H λfD A outer s H vs Q E hr h=>?_
 obtain⟨sa,us,aD,rfl,hsa,hrw,lG,hrl,q⟩:=h;obtain⟨bs,rfl,hbl,hbk⟩:=HX _ _ hrw;refine⟨_,(zG (zO (xO (CP (VZ hr)) rfl bi.dict YT (zA (yS ["k","row"] [] [] (jR rfl be (zA (pv 0) zC)) (λ_ _ _ _ nd=>qT (K:=K) (n:=2) rfl (zX (yG 0 nd) (zX (yG 1 nd) xG))) (λ_ _ _ _=>yW) (λ_ _ _ _=>(zQ (zA (pv 1) (zA (pv 0) zC))))) zC)))),?_⟩;dsimp![vK];refine⟨_,hsa,?_⟩;refine IY (xs:=bs.map V.ref) (λi ys σ H'=>bA H H'/\(∃as:List Addr,ys=as.map V.ref/\as.length=i/\∀(j:Nat)(a b:Addr),as[j]?=some a->bs[j]?=some b->H' a=some (.tup [.ref b,.int (j:Nat)]))/\∃o1 o2,σ=[o1,o2]) ⟨bA.refl _,⟨[],rfl,rfl,λj a r h=>by simp at h⟩,_,_,rfl⟩ (small (by rw[aE];lia)) (λi ys σ H' e=>?_) (λi ys σ H' e=>e.1 _ _ hsa) (λi x ys σ H' p C hx e hp hC=>?_) (λys σ H' e p hp=>?_)
 ·obtain⟨_,⟨as,rfl,h1,_⟩,_⟩:=e;rw[aE,h1];exact aG _
 ·obtain⟨es,⟨as,rfl,h1,h3⟩,o1,o2,rfl⟩:=e;rw[aK]at hx;obtain⟨b,hb,rfl⟩:=aO.mp hx;have e1:=zF hp (.tup [V.int i,V.ref b]);dsimp![vN,jY,wD];refine⟨_,dN.of zB,rfl,_,_,rfl,_,_,rfl,rfl,?_⟩;generalize upd H' p (.tup [V.int i,V.ref b])=H1 at e1⊢;refine⟨small (),λa' ha'=>hC _ _ _ ?_⟩;have e2:=zF ha' (.tup [V.ref b,V.int i]);refine⟨es.trans (e1.trans e2),⟨as++[a'],by rw[aU];rfl,by rw[aI,h1];rfl,λj a b' ha hb'=>?_⟩,_,_,rfl⟩;by_cases hj:j<i
  ·rw[bE ()]at ha;exact(e1.trans e2) _ _ (h3 j a b' ha hb')
  ·have ej:j=i:=by
    have :=(aC.mp ha).1;rw[aI]at this;simp at this;lia
   rw[ej,←h1,bN (aG _)]at ha;simp at ha;subst ha;rw[ej,hb]at hb';cases hb';rw[ej];exact zB
 obtain⟨es,⟨as,rfl,h1,h3⟩,o1,o2,rfl⟩:=e;rw[aE]at h1;have e1:=zF hp (.lst (as.map V.ref));refine⟨p,rfl,as,dL.of zB,pZ aD bs 0,by rw[kC _ _ _ hbl];lia,by rw[AI _ _ _ hbl];exact mK.mpr (lG.imp λlU z=>lU (BX z)),λi x hi=>?_,λd hd hlo=>?_⟩
 ·obtain⟨r,b,g1,g2,rfl⟩:=IJ _ _ _ _ _ hi;have hil:=(aC.mp g1).1;have k1:=h3 i (as[i]'()) b (aA ()) g2;exact⟨_,aA (),dN.of (e1 _ _ (by rw[iE];exact k1)),((hbk i r b g1 g2).same (es.trans e1)).sq⟩
 ·exact q d bs _ _ (es.trans e1) ⟨rfl,hd,hbl,hrl,hlo,λi r a g1 g2=>(hbk i r a g1 g2).same (es.trans e1)⟩
theorem EY(mf_found:mg "found"=some (.ref ff))(h_m:gS P w K mg base 44 "number_by" ["row_number","places","t"] (DZ P w K false ff 21))(F:gI K "pair_of" "pair_of" s_X f fd):dI P w K mg base fZ 45 f fd ["places","saying"] (mv P w K):=by
 refine F.okz sc_X λfD A outer s H vs Q E hr h=>?_
 obtain⟨pa,v,aD,as,s,J,rfl,px,hv,⟨⟨f1,e1⟩,f2,e2⟩,q⟩:=h;obtain⟨a,v1,v2,rfl,ha,t1,t2⟩:=hv.out;refine⟨_,(zG (zO (zQ (zA (zI h_m hr.m rfl (zA (EO mf_found rfl) (zA (pv 0) (zA (zL zM (pv 1) zE) zC)))) (zA (zI h_m hr.m rfl (zA (EO mf_found rfl) (zA (pv 0) (zA (zL zM (pv 1) zE) zC)))) zC))))),?_⟩;dsimp![];refine⟨_,dN.of (px.sub _ _ ha),_,lS,pa,v1,J,aD,as,s.1,rfl,px,t1,f1,⟨λ_=>e1,by rw[e1];exact px.few⟩,λH1 J1 pG s1 px1=>?_⟩;rw[e1]at px1;refine⟨_,dN.of (px1.sub _ _ (s1 _ _ ha)),_,pH,pa,v2,J1,aD,pG,s.2,rfl,px1,eA.same s1 t2,f2,⟨λ_=>e2,by rw[e2];exact px.few⟩,λH2 J2 bd s2 px2=>⟨small (),λp hp=>?_⟩⟩;rw[e2]at px2;exact q p _ _ bd (s1.trans (s2.trans (zF (px2.free hp) _))) (px2.new hp _) zB
theorem ZA(h_X:gS P w K mg base 45 "pair_of" ["places","saying"] (mv P w K))(F:gI K "numbered_rule" "numbered_rule" s_s f fd):dI P w K mg base fZ 46 f fd ["places","rule"] (spNr P w K):=by
 refine F.okz sc_s λfD A outer s H vs Q E hr h=>?_
 obtain⟨pa,v,aD,as,r,J,rfl,px,hv,⟨hl,hps,hc⟩,q⟩:=h;obtain⟨a,l,u,vs,rfl,ha,hl2,hps2,hc2⟩:=hv.out;have hvl:=hps2.length;refine⟨_,(zG (zO (zQ (zA (yS ["premise"] ["places"] [0] (yF (zL zM (pv 1) zE)) (λ_ _ _ _ nd=>yG 0 nd) (λ_ _ _ _=>yW) (λ_ _ _ _=>(zI h_X hr.m rfl (zA (pv 1) (zA (pv 0) zC))))) (zA (zI h_X hr.m rfl (zA (pv 0) (zA (zL zM (pv 1) zE) zC))) zC))))),?_⟩;dsimp![];refine⟨_,dN.of (px.sub _ _ ha),_,lS,l,rfl,⟨_,dL.of (px.sub _ _ hl2)⟩,?_⟩;refine jS (xs:=vs) (λi ys σ G=>∃J' as',bA J J'/\Px P w K G J' pa aD as'/\bG J' ((r.1.take i).map λs=>GH (nS aD s)) ys/\∃o,σ=[o,some (V.ref pa)]) ⟨J,as,bA.refl _,px,rfl,_,rfl⟩ (small ()) (λi ys σ G e=>?_) (λi ys σ G e=>?_) (λi x ys σ G C hx e hC=>?_) (λys σ G e p hp=>?_)
 ·obtain⟨J',_,_,_,hd,_⟩:=e;have :=bG.length hd;rw[aE,bU]at this;lia
 ·obtain⟨J',as',sJ,px',_⟩:=e;exact dL.of (px'.sub _ _ (sJ _ _ hl2))
 ·obtain⟨J',as',sJ,px',hd,o,rfl⟩:=e;obtain⟨s1,hs1,hx'⟩:=hps2.getV hx;obtain⟨hil,hie⟩:=aC.mp hs1;dsimp![];refine⟨pa,x,aD,as',s1,J',rfl,px',eA.same sJ hx',hps s1 (aV hs1),λp J2 G2 bd S2 px2 hp=>hC _ _ _ ⟨J2,bd,sJ.trans S2,px2,?_,_,rfl⟩⟩;rw[aM hil,hie,aU];exact bG.append (bG.same S2 hd) (bG.one ⟨p,_,rfl,hp,_,_,rfl,rfl,_,_,rfl,rfl,rfl⟩)
 obtain⟨J1,pG,s1,px1,hd,o,rfl⟩:=e;have px2:=px1.new hp (.lst ys);have s2:=zF (px1.free hp) (.lst ys);have kp:upd J1 p (.lst ys) p=some (.lst ys):=zB;generalize upd J1 p (.lst ys)=J2 at px2 s2 kp;generalize upd G p (.lst ys)=G2 at px2⊢;have s12:=s1.trans s2;refine⟨_,dN.of (px2.sub _ _ (s12 _ _ ha)),_,pH,pa,u,aD,pG,r.2,J2,rfl,px2,eA.same s12 hc2,hc,λp3 J3 G3 as3 s3 px3 h3=>⟨small (),λp4 hp4=>?_⟩⟩;have s4:=zF (px3.free hp4) (.tup [V.ref p,V.ref p3]);refine q _ _ _ as3 (s12.trans (s3.trans s4)) (px3.new hp4 _) ⟨p4,_,rfl,zB,_,_,rfl,⟨p,ys,rfl,(s3.trans s4) _ _ kp,?_⟩,_,_,rfl,⟨p3,_,rfl,s4 _ _ h3,_,_,rfl,rfl,_,_,rfl,rfl,rfl⟩,rfl⟩;show bG _ ((r.1.map (nS aD)).map GH) ys;rw[eC];rw[hvl,aQ (aG _)]at hd;exact bG.same (s2.trans (s3.trans s4)) hd
theorem BC(bi:Bi mg)(h_H:gS P w K mg base 1 "places_of" ["sheet"] (mq P w K))(h_s:gS P w K mg base 46 "numbered_rule" ["places","rule"] (spNr P w K))(F:gI K "numbered" "numbered" s_R f fd):dI P w K mg base fZ 47 f fd ["sheet","book"] (spNm K):=by
 refine F.okz sc_R λfD A outer s H vs Q E hr h=>?_
 obtain⟨sa,ba,us,bs,aD,b,rfl,hsa,hrw,lG,hrl,hba,hb,hbl,hgd,q⟩:=h;have hbs:bs.length=b.length:=by have :=bG.length hb;rwa[aE]at this
 refine⟨_,(zD (qZ (i:=2) sc_R.nd rfl (Or.inr rfl) (zI h_H hr.m rfl (zA (pv 0) zC))) (zG (zO (yS ["rule"] ["places"] [2] (yF (pv 1)) (λ_ _ _ _ nd=>yG 0 nd) (λ_ _ _ _=>yW) (λ_ _ _ _=>(zI h_s hr.m rfl (zA (pv 1) (zA (pv 0) zC)))))))),?_⟩;refine zH λN hN=>?_
 dsimp![];refine⟨sa,us,aD,rfl,hsa,hrw,lG,hrl,λd as J H1 s1 px=>hN _ _ ?_⟩;clear hN;dsimp![];have hbl1:=s1 _ _ hba;refine⟨⟨_,dL.of (px.sub _ _ hbl1)⟩,?_⟩;refine jS (xs:=bs) (λi ys σ G=>∃J' as',bA J J'/\Px P w K G J' d aD as'/\bG J' ((b.take i).map λr=>a9 (nR aD r)) ys/\∃o,σ=[o,some (V.ref d)]) ⟨J,as,bA.refl _,px,rfl,_,rfl⟩ (small ()) (λi ys σ G e=>?_) (λi ys σ G e=>?_) (λi x ys σ G C hx e hC=>?_) (λys σ G e p hp=>?_)
 ·obtain⟨J',_,_,_,hd,_⟩:=e;have :=bG.length hd;rw[aE,bU]at this;lia
 ·obtain⟨J',as',sJ,px',_⟩:=e;exact dL.of (px'.sub _ _ (sJ _ _ hbl1))
 ·obtain⟨J',as',sJ,px',hd,o,rfl⟩:=e;obtain⟨r,mV,hx'⟩:=jE hb hx;obtain⟨hil,hie⟩:=aC.mp mV;dsimp![];refine⟨d,x,aD,as',r,J',rfl,px',eA.same (s1.trans sJ) hx',hgd r (aV mV),λv' J2 G2 bd S2 px2 hv=>hC _ _ _ ⟨J2,bd,sJ.trans S2,px2,?_,_,rfl⟩⟩;rw[aM hil,hie,aU];exact bG.append (bG.same S2 hd) (bG.one hv)
 obtain⟨J1,pG,sJ,px1,hd,o,rfl⟩:=e;rw[hbs,aQ (aG _)]at hd;have sp:=zF hp (.lst ys);refine q p ys _ (s1.trans (sJ.trans (px1.sub.trans sp))) zB ?_;rw[eC];exact bG.same (px1.sub.trans sp) hd
end
abbrev s_Z:Stmt:=top 2
theorem de:cC ["numbers","mask","n"] ["numbers"] (zK s_Z):=by rfl'
abbrev s_E:Stmt:=qV (top 41) 0
theorem nk:cC ["self","many","clashes","a","b"] ["self","many","clashes"] (zK s_E):=by rfl'
abbrev s_e:Stmt:=qV (top 41) 1
theorem dc:cC ["self","sets","common","spots"] ["self","sets"] (zK s_e):=by rfl'
abbrev s_i:Stmt:=qV (top 41) 2
theorem sc_i:cC ["self","spots"] ["self","spots"] (zK s_i):=by rfl'
def jP(m:Nat)(ns:List Nat):Prop:=∀i,m.testBit i=decide (i∈ns)
def EA(K:W.Frag):Sp:=λvs H Q _=>∃(a:Addr)(ns:List Nat),vs=[.ref a]/\dL K H a (ns.map nV)/\(∀n∈ns,n<100)/\∀m:Nat,jP m ns->Q (.int m) H
theorem TL{m:Nat}{ns:List Nat}(h:jP m ns):jP (m|||2^n) (ns++[n]):=λi=>by
 rw[rV,h,lE];by_cases e:n=i
 ·subst e;simp
 ·simp[e,cH e]
theorem FA(bi:Bi mg)(F:gI K "mask_of" "mask_of" s_Z f fd):dI P w K mg base fZ 1 f fd ["numbers"] (EA K):=by
 refine F.okz de λfD A outer s H vs Q E hr h=>?_
 obtain⟨a,ns,rfl,ha,hn,q⟩:=h;refine⟨_,(zD (yE 1 de.nd zE) (zD (yI bM rfl (yF (pv 0)) (yG 2 de.nd) (zG (UR (i:=1) de.nd rfl (Or.inl rfl) (zN kY zE (pv 2)) BY))) (zG (zO (pv 1))))),?_⟩;refine zH λN hN=>?_
 dsimp![];refine hN _ _ ?_;clear hN;refine yA (λσ H'=>H'=H/\∃(m:Nat)(o:Option V),jP m ns/\σ=[some (V.ref a),some (V.int m),o]) (λN hN=>?_) (λσ H' h=>?_)
 ·dsimp![];refine⟨⟨_,ha⟩,?_⟩;refine YS (xs:=ns.map nV) (λi σ H'=>H'=H/\∃(m:Nat)(o:Option V),jP m (ns.take i)/\σ=[some (V.ref a),some (V.int m),o]) ⟨rfl,0,_,λi=>by simp,rfl⟩ (λi σ H' _ h=>by rw[h.1];exact ha) (λi x σ H' hx h=>?_) (λσ H' h=>?_)
  ·obtain⟨rfl,m,o,hm,rfl⟩:=h;rw[aK]at hx;cases hni:ns[i]? with
   |none=>rw[hni]at hx;cases hx
   |some n=>
    rw[hni]at hx;cases hx;have hnb:=hn n (aV hni);dsimp![PK,VX];refine⟨⟨(),(),()⟩,m|||2^n,?_,?_,_,rfl⟩
    ·obtain⟨hi,e⟩:=aC.mp hni;rw[aM hi,e];exact TL hm
    ·rw[vU,kF]
  ·obtain⟨rfl,m,o,hm,rfl⟩:=h;rw[aE,aQ (aG _)]at hm;exact hN _ _ ⟨rfl,m,o,hm,rfl⟩
 obtain⟨rfl,m,o,hm,rfl⟩:=h;dsimp![];exact q m hm
def uN(ps:List (Nat×Nat))(a b:Nat):Bool:=ps.any λp=>(p.1==a&&p.2==b) ||(p.1==b&&p.2==a)
theorem QN(ps:List (Nat×Nat))(a b:Nat):uN ps a b=uN ps b a:=by
 unfold uN
 congr 1
 funext p
 rw[Bool.or_comm]
theorem NP(ps:List (Nat×Nat))(p:Nat×Nat)(a b:Nat):uN (ps++[p]) a b=(uN ps a b ||((p.1==a&&p.2==b) ||(p.1==b&&p.2==a))):=by
 unfold uN;rw[List.any_append];simp
def OD(p:Nat×Nat):Dt:=.tup [.int p.1,.int p.2]
def Ok2(m:Nat)(ps:List (Nat×Nat)):Prop:=∀p∈ps,p.1<p.2/\p.2<m
theorem p2At{p:Nat×Nat}(h:eA H (OD p) v):∃a,v=.ref a/\H a=some (.tup [nV p.1,nV p.2]):=by
 obtain⟨a,vs,e1,e2,u1,r1,q1,h1,u2,r2,q2,h2,h3⟩:=h;have h1:u1=nV p.1:=h1;have h2:u2=nV p.2:=h2;have h3:r2=[]:=h3;subst h3 q2 q1 h1 h2;exact⟨a,e1,e2⟩
def cnt(m:Nat)(ps:List (Nat×Nat))(sp:List Nat):List Nat:=(List.range m).filter λi=>sp.all λa=>uN ps a i
theorem rB{m:Nat}:i∈cnt m ps sp↔i<m/\(sp.all λa=>uN ps a i)=true:=by
 unfold cnt;rw[cY,bR]
theorem CM(m:Nat)(ps:List (Nat×Nat))(sp:List Nat):(cnt m ps sp).Pairwise (· < ·):=gQ _ dQ
theorem NR{xs ys:List Nat}(h:∀x,x∈xs↔x∈ys)(f:Nat->Bool):xs.all f=ys.all f:=by
 rw[cD,cX,cX];exact⟨λg x hx=>g x ((h x).mpr hx),λg x hx=>g x ((h x).mp hx)⟩
theorem ZI{m:Nat}{xs ys:List Nat}(h:∀x,x∈xs↔x∈ys):cnt m ps xs=cnt m ps ys:=by
 unfold cnt
 congr 1
 funext i
 exact NR h _
theorem VS(m:Nat)(ns:List Nat)(h:jP m ns):∃xs,rH m xs/\∀x,x∈xs↔x∈ns:=by
 refine⟨(List.range (m+1)).filter λi=>m.testBit i,⟨gQ _ dQ,λi=>?_⟩,λx=>?_⟩
 ·rw[cD,bO,cY,bR];constructor
  ·intro hb;have :=lw hb;have :=Nat.lt_two_pow_self (n:=i);exact⟨(),hb⟩
  ·exact λhb=>hb.2
 ·rw[cY,bR,h x,bO];constructor
  ·exact λhb=>hb.2
  ·intro hb;have hb':m.testBit x=true:=by rw[h x];simpa using hb
   have :=lw hb';have :=Nat.lt_two_pow_self (n:=x);exact⟨(),hb⟩
structure FlC(K:W.Frag)(C:Addr):Prop where
 cl:LN K C
 nE:lH K C "everywhere"
 nC:lH K C "clashing"
def DN(e:Nat)(l:Addr):List (Str×V):=[("everywhere",nV e),("clashing",.ref l)]
theorem fl_e(e:Nat)(l:Addr):(DN e l).lookup ("everywhere":Str)=some (nV e):=by
 unfold DN;rw[bH,show(("everywhere":Str)=="everywhere")=true by decide+kernel]
theorem rh(e:Nat)(l:Addr):(DN e l).lookup ("clashing":Str)=some (.ref l):=by
 unfold DN;rw[bH,show(("clashing":Str)=="everywhere")=false by decide+kernel,bH,show(("clashing":Str)=="clashing")=true by decide+kernel]
structure Msk(m:Nat)(ps:List (Nat×Nat))(cs:List Nat):Prop where
 len:cs.length=m
 bit:∀(a c:Nat),cs[a]?=some c->∀i,c.testBit i=uN ps a i
def DI(C:Addr)(H:Hp)(r:Addr)(m:Nat)(ps:List (Nat×Nat)):Prop:=∃dx l cs,H r=some (.ins C dx (DN (2^m-1) l))/\H l=some (.lst (cs.map nV))/\Msk m ps cs
theorem DI.same{C:Addr}{r:Addr}{m:Nat}(e:bA H H')(h:DI C H r m ps):DI C H' r m ps:=by
 obtain⟨dx,l,cs,h1,h2,h3⟩:=h;exact⟨dx,l,cs,e _ _ h1,e _ _ h2,h3⟩
theorem gn(m:Nat):Msk m [] (List.replicate m 0):=⟨rL ..,λa c h i=>by
 obtain⟨_,e⟩:=aC.mp h;rw[List.getElem_replicate]at e;subst e;simp[uN]⟩
theorem gm{m:Nat}{cs:List Nat}{b ca cb:Nat}(h:Msk m ps cs)(hab:a≠b)(ha:cs[a]?=some ca)(hb:cs[b]?=some cb):Msk m (ps++[(a,b)]) ((cs.set a (ca|||2^b)).set b (cb|||2^a)):=by
 refine⟨by rw[lO,lO];exact h.len,λx c hx i=>?_⟩;have la:=(aC.mp ha).1;have lb:=(aC.mp hb).1;rw[NP];by_cases e1:b=x
 ·subst e1;rw[iG (by rw[lO];exact lb)]at hx;cases hx;rw[rV,h.bit b cb hb,lE];have :(a==b)=false:=cV.mpr hab;simp only[this,fK,Bool.false_or,dR,Bool.and_true]
  congr 1
 ·rw[gP e1]at hx;by_cases e2:a=x
  ·subst e2;rw[iG la]at hx;cases hx;rw[rV,h.bit a ca ha,lE];have :(b==a)=false:=cV.mpr (cH hab);simp only[this,oM,tI,dR,pF]
   congr 1
  ·rw[gP e2]at hx;rw[h.bit x c hx];have t1:(a==x)=false:=cV.mpr e2;have t2:(b==x)=false:=cV.mpr e1;simp[t1,t2]
inductive m5 (C:Addr) (vs:List V) (H:Hp) (Q:VK) (E:XK):Prop
 |mk (r dx ca:Addr) (m:Nat) (us:List V) (ps:List (Nat×Nat)) (_:vs=[.ref r,.int m,.ref ca]) (_:H r=some (.ins C dx [])) (_:ca≠r) (_:H ca=some (.lst us)) (_:bG H (ps.map OD) us) (_:Ok2 m ps) (_:m<=90) (_:∀H',fL r H H'->DI C H' r m ps->Q .non H')
inductive cr (K:W.Frag) (C:Addr) (vs:List V) (H:Hp) (Q:VK) (E:XK):Prop
 |mk (r sa:Addr) (m:Nat) (ps:List (Nat×Nat)) (ms:List Nat) (_:vs=[.ref r,.ref sa]) (_:DI C H r m ps) (_:dL K H sa (ms.map nV)) (_:ms.length<=1000) (_:∀c:Nat,(∀i,c.testBit i=(decide (i<m)&&ms.all λx=>x.testBit i))->Q (.int c) H)
inductive m6 (C:Addr) (vs:List V) (H:Hp) (Q:VK) (E:XK):Prop
 |mk (r:Addr) (m s:Nat) (ps:List (Nat×Nat)) (xs:List Nat) (_:vs=[.ref r,.int s]) (_:DI C H r m ps) (_:m<=90) (_:rH s xs) (_:(∀x∈xs,x<m)) (_:∀(c:Nat) H',bA H H'->jP c (cnt m ps xs)->Q (.int c) H')
theorem MU{C:Addr}(T:FlC K C)(F:gI K "common_of" "Floor.common_of" s_e f fd):dI P w K mg base fZ 1 f fd ["self","sets"] (cr K C):=by
 refine F.okz dc λfD A outer s H vs Q E hr h=>?_
 obtain⟨r,sa,m,ps,ms,rfl,⟨dx,l,cs,mB,hl,hm⟩,hs,h1000,q⟩:=h;refine⟨_,(zD (yE 2 dc.nd (xC (pv 0) rfl)) (zD (yI bM rfl (yF (pv 1)) (yG 3 dc.nd) (zG (UR (i:=2) dc.nd rfl (Or.inl rfl) (pv 3) qq))) (zG (zO (pv 2))))),?_⟩;refine zH λN hN=>?_
 dsimp![xZ];refine⟨C,dx,_,mB,T.cl,T.nE,_,fl_e _ _,hN _ _ ?_⟩;clear hN;refine yA (λσ H'=>H'=H/\∃(c:Nat)(o:Option V),(∀i,c.testBit i=(decide (i<m)&&ms.all λx=>x.testBit i))/\σ=[some (V.ref r),some (V.ref sa),some (nV c),o]) (λN hN=>?_) (λσ H' h=>?_)
 ·dsimp![];refine⟨⟨_,hs⟩,?_⟩;refine YS (xs:=ms.map nV) (λk σ H'=>H'=H/\∃(c:Nat)(o:Option V),(∀i,c.testBit i=(decide (i<m)&&(ms.take k).all λx=>x.testBit i))/\σ=[some (V.ref r),some (V.ref sa),some (nV c),o]) ⟨rfl,2^m-1,_,λi=>by rw[oC];simp,rfl⟩ (λi σ H' _ h=>by rw[h.1];exact hs) (λk x σ H' hx h=>?_) (λσ H' h=>?_)
  ·obtain⟨rfl,c,o,hc,rfl⟩:=h;rw[aK]at hx;cases hni:ms[k]? with
   |none=>rw[hni]at hx;cases hx
   |some n=>
    rw[hni]at hx;cases hx;dsimp![PK,VX];refine⟨c&&&n,λi=>?_,DG c n,_,rfl⟩;obtain⟨hk,e⟩:=aC.mp hni;rw[lN,hc,aM hk,e,List.all_append,Bool.and_assoc];simp
  ·obtain⟨rfl,c,o,hc,rfl⟩:=h;rw[aE,aQ (aG _)]at hc;exact hN _ _ ⟨rfl,c,o,hc,rfl⟩
 obtain⟨rfl,c,o,hc,rfl⟩:=h;dsimp![];exact q c hc
theorem ZR(e:Nat)(l:Addr){x:Str}(h1:(x==("everywhere":Str))=false)(h2:(x==("clashing":Str))=false):(DN e l).lookup x=none:=by
 unfold DN;rw[bH,h1,bH,h2];rfl
theorem rg(e:Nat)(l:Addr):xA "clashing" (.ref l) (xA "everywhere" (nV e) [])=DN e l:=by
 unfold DN;rfl
theorem WW(m:Nat):(1:Int)*2^(m:Int).toNat-1=((2^m-1:Nat):Int):=by
 rw[vU];have :=au m;lia
theorem SV{C:Addr}(T:FlC K C)(F:gI K "__init__" "Floor.__init__" s_E f fd):dI P w K mg base fZ 1 f fd ["self","many","clashes"] (m5 C):=by
 refine F.okz nk λfD A outer s H vs Q E hr h=>?_
 obtain⟨r,dx,ca,m,us,ps,rfl,mB,hcr,hca,hps,hok,hm,q⟩:=h;have hul:us.length=ps.length:=by have :=bG.length hps;rwa[aE]at this
 refine⟨_,(zD (kW (pv 0) (zN SJ (zN kY zE (pv 1)) zE) rfl) (zD (kW (pv 0) (zN EU (xH (zA zE zC)) (pv 1)) rfl) (zG (yI bM rfl (yF (pv 2)) (vA rfl (zX (yG 3 nk.nd) (zX (yG 4 nk.nd) xG))) (zD (YH (xC (pv 0) rfl) (pv 3) kJ (zN kY zE (pv 4)) BY wV) (zG (YH (xC (pv 0) rfl) (pv 4) kJ (zN kY zE (pv 3)) BY wV))))))),?_⟩;refine zH λN hN=>?_
 dsimp![EG];refine⟨⟨(),(),()⟩,C,dx,[],mB,T.cl,T.nE,(),hN _ _ ?_⟩;clear hN;rw[WW];refine zH λN hN=>?_
 dsimp![EG,dr];refine⟨small (by simp),λp0 hp0=>⟨[V.int 0],zB,(),(),small (by simp;lia),λl hl=>?_⟩⟩;have hn0:p0≠r:=λz=>by rw[z,zB]at hp0;cases hp0
 have hH0:H p0=none:=by rw[zJ hn0]at hp0;exact hp0
 have hln:l≠p0:=λz=>by rw[z,zB]at hl;cases hl
 rw[zJ hln]at hl;have hlr:l≠r:=λz=>by rw[z,zB]at hl;cases hl
 rw[zJ hlr]at hl;have kr:upd (upd (upd H r (.ins C dx (xA "everywhere" (nV (2^m-1)) []))) p0 (.lst [.int 0])) l (.lst ((List.replicate (m:Int).toNat [V.int 0]).flatten)) r=some (.ins C dx (xA "everywhere" (nV (2^m-1)) [])):=by
  rw[zJ (cH hlr),zJ (cH hn0),zB]
 refine⟨C,dx,_,kr,T.cl,T.nC,by show 1<1000;decide,hN _ _ ?_⟩;clear hN;rw[rg];have x1:fL r H (upd (upd (upd (upd H r (.ins C dx (xA "everywhere" (nV (2^m-1)) []))) p0 (.lst [.int 0])) l (.lst ((List.replicate (m:Int).toNat [V.int 0]).flatten))) r (.ins C dx (DN (2^m-1) l))):=fL.upd (xL (xL (fL.upd (fL.refl r H)) hH0) hl);have x2:upd (upd (upd (upd H r (.ins C dx (xA "everywhere" (nV (2^m-1)) []))) p0 (.lst [.int 0])) l (.lst ((List.replicate (m:Int).toNat [V.int 0]).flatten))) r (.ins C dx (DN (2^m-1) l)) r=some (.ins C dx (DN (2^m-1) l)):=zB;have x3:upd (upd (upd (upd H r (.ins C dx (xA "everywhere" (nV (2^m-1)) []))) p0 (.lst [.int 0])) l (.lst ((List.replicate (m:Int).toNat [V.int 0]).flatten))) r (.ins C dx (DN (2^m-1) l)) l=some (.lst ((List.replicate m 0).map nV)):=by
  rw[zJ hlr,zB,cE,XF]
 generalize upd (upd (upd (upd H r (.ins C dx (xA "everywhere" (nV (2^m-1)) []))) p0 (.lst [.int 0])) l (.lst ((List.replicate (m:Int).toNat [V.int 0]).flatten))) r (.ins C dx (DN (2^m-1) l))=H1 at x1 x2 x3⊢;clear kr hn0 hln hp0 hH0;dsimp![];refine⟨⟨_,dL.of (x1 _ _ hca hcr)⟩,?_⟩;refine xV (xs:=us) (λk σ H'=>∃(o1 o2:Option V)(cs:List Nat),fL r H H'/\H' r=some (.ins C dx (DN (2^m-1) l))/\H' l=some (.lst (cs.map nV))/\Msk m (ps.take k) cs/\σ=[some (V.ref r),some (V.int m),some (V.ref ca),o1,o2]) ⟨_,_,_,x1,x2,x3,gn m,rfl⟩ (λk σ H' _ h=>?_) (λk x σ H' hx h M hM=>?_) (λσ H' h=>?_)
 ·obtain⟨o1,o2,cs,h1,_⟩:=h;exact dL.of (h1 _ _ hca hcr)
 ·obtain⟨o1,o2,cs,h1,h2,h3,h4,rfl⟩:=h;have hk:k<ps.length:=by rw[←hul];exact(aC.mp hx).1
  obtain⟨v,hv1,hv2⟩:=bG.get (d:=OD ps[k]) hps (by rw[aK,aA hk];rfl);rw[hx]at hv1;cases hv1;have hab:=hok _ (cW hk);obtain⟨t,rfl,ht⟩:=p2At hv2;have htr:t≠r:=λz=>by rw[z,mB]at ht;cases ht
  have ht':=h1 _ _ ht htr;have e4:ps.take (k+1)=ps.take k++[(ps[k].1,ps[k].2)]:=by rw[aM hk]
  rw[e4]at hM;clear e4;generalize ps[k].1=a at ht' hab hM;generalize ps[k].2=b at ht' hab hM;have la:a<cs.length:=by rw[h4.len];lia
  have lb:b<cs.length:=by rw[h4.len];lia
  have ga:=aA la;have gb:=aA lb;generalize cs[a]=ca' at ga;generalize cs[b]=cb' at gb;dsimp![vN,jY,wD,HN,xZ,IE,VX,ID];refine⟨[nV a,nV b],dN.of ht',rfl,nV a,[nV b],rfl,nV b,[],rfl,rfl,?_⟩;have mset:∀(cs:List Nat)(i v:Nat),(cs.map nV).set i (V.int (v:Int))=(cs.set i v).map nV:=λcs i v=>(List.map_set (f:=nV) (l:=cs) (i:=i) (a:=v)).symm
  refine⟨C,dx,_,h2,T.cl,T.nC,_,rh _ _,l,rfl,_,a,rfl,h3,nV ca',by rw[aK,ga];rfl,_,rfl,⟨(),(),()⟩,_,rfl,l,rfl,_,rfl,_,h3,a,YM (by rw[aE];exact la),?_⟩;rw[vU b,kF,mset];have gb':(cs.set a (ca'|||2^b))[b]?=some cb':=by rw[gP ()];exact gb
  have lb':b<(cs.set a (ca'|||2^b)).length:=by rw[lO];exact lb
  have j1:upd H' l (.lst ((cs.set a (ca'|||2^b)).map nV)) r=some (.ins C dx (DN (2^m-1) l)):=by rw[zJ (cH hlr)];exact h2
  have j2:upd H' l (.lst ((cs.set a (ca'|||2^b)).map nV)) l=some (.lst ((cs.set a (ca'|||2^b)).map nV)):=zB;have j3:=xL (o:=.lst ((cs.set a (ca'|||2^b)).map nV)) h1 hl;generalize upd H' l (.lst ((cs.set a (ca'|||2^b)).map nV))=H2 at j1 j2 j3⊢;refine⟨C,dx,_,j1,T.cl,T.nC,_,rh _ _,l,rfl,_,b,rfl,j2,nV cb',by rw[aK,gb'];rfl,_,rfl,⟨(),(),()⟩,_,rfl,l,rfl,_,rfl,_,j2,b,YM (by rw[aE];exact lb'),?_⟩;rw[vU a,kF,mset];exact hM _ _ ⟨_,_,_,xL j3 hl,by rw[zJ (cH hlr)];exact j1,zB,gm h4 () ga gb,rfl⟩
 ·obtain⟨o1,o2,cs,h1,h2,h3,h4,rfl⟩:=h;rw[hul,aQ (aG _)]at h4;exact q _ h1 ⟨dx,l,cs,h2,h3,h4⟩
theorem JM{C:Addr}(T:FlC K C)(bi:Bi mg)(h_F:gS P w K mg base 1 "bits_of" ["mask"] sI)(h_e:lC P w K mg base 1 C "common_of" ["self","sets"] (cr K C))(F:gI K "counter_of" "Floor.counter_of" s_i f fd):dI P w K mg base fZ 2 f fd ["self","spots"] (m6 C):=by
 refine F.okz sc_i λfD A outer s H vs Q E hr h=>?_
 obtain⟨r,m,s',ps,xs,rfl,hfl,hm90,hb,hxm,q⟩:=h;have hfl':=hfl;obtain⟨dx,l,cs,mB,hl,hm⟩:=hfl';have hx100:∀x∈xs,x<100:=λx hx=>by have :=hxm x hx;lia
 have hxl:=DC hb (λx hx=>Nat.lt_trans (hx100 x hx) ());have gA:=T.cl;refine⟨_,(zG (zO (zY h_e gA hr.m (pv 0) (zA (yS ["a"] ["self"] [0] (yF (zI h_F hr.m rfl (zA (pv 1) zC))) (λ_ _ _ _ nd=>yG 0 nd) (λ_ _ _ _=>yW) (λ_ _ _ _=>(zL (kI K) (IM K (pv 1) rfl) (pv 0)))) zC)))),?_⟩;dsimp![yV,xZ];refine⟨_,_,mB,ZR _ _ () (),?_⟩;refine⟨s',xs,rfl,hb,(λx hx=>Nat.lt_trans (hx100 x hx) ()),λp H1 s1 hp k1=>⟨p,rfl,⟨_,dL.of k1⟩,?_⟩⟩;refine jS (xs:=xs.map nV) (λi ys σ H'=>H'=H1/\ys=((xs.take i).map λa=>cs.getD a 0).map nV/\∃o,σ=[o,some (V.ref r)]) ⟨rfl,rfl,_,rfl⟩ (small (by rw[aE];lia)) (λi ys σ H' e=>?_) (λi ys σ H' e=>by rw[e.1];exact dL.of k1) (λi x ys σ H' C' hx e hC=>?_) (λys σ H' e p3 hp3=>?_)
 ·obtain⟨_,rfl,_⟩:=e;rw[aE,aE,bU];lia
 ·obtain⟨rfl,rfl,o,rfl⟩:=e;rw[aK]at hx;cases hni:xs[i]? with
  |none=>rw[hni]at hx;cases hx
  |some n=>
   rw[hni]at hx;cases hx;have hn:=hxm n (aV hni);have hnc:n<cs.length:=by rw[hm.len];exact hn
   dsimp![xZ];refine⟨C,dx,_,s1 _ _ mB,T.cl,T.nC,_,rh _ _,l,rfl,_,dL.of (s1 _ _ hl),nV (cs.getD n 0),?_,hC _ _ _ ⟨rfl,?_,_,rfl⟩⟩
   ·refine yD (j:=n) ?_;rw[aK,bZ,aA hnc];rfl
   ·obtain⟨hi,e⟩:=aC.mp hni;rw[aM hi,e,aU,aU];rfl
 obtain⟨rfl,rfl,o,rfl⟩:=e;rw[aE,aQ (aG _)];have s3:=zF hp3 (.lst ((xs.map λa=>cs.getD a 0).map nV));refine⟨r,p3,m,ps,xs.map λa=>cs.getD a 0,rfl,DI.same (s1.trans s3) hfl,dL.of zB,by rw[aE];lia,λc hc=>q c _ (s1.trans s3) λi=>?_⟩;rw[hc,cD,bO,rB,bY,bO,oE];refine and_congr_right λ_=>?_
 rw[cX,cX];have hbit:∀x∈xs,(cs.getD x 0).testBit i=uN ps x i:=λx hx=>by
  have hnc:x<cs.length:=by rw[hm.len];exact hxm x hx
  rw[bZ,aA hnc];exact hm.bit x _ (aA hnc) i
 constructor
 ·intro h x hx;rw[←hbit x hx];exact h x hx
 ·intro h x hx;show(cs.getD x 0).testBit i=true;rw[hbit x hx];exact h x hx
theorem XL{H H':Hp}(e:cT H H'):∀{ps:List (Nat×Nat)}{us:List V},bG H (ps.map OD) us->bG H' (ps.map OD) us
 |[],us,h=>h
 |p::ps,us,h=>by
  obtain⟨v,r,e1,e2,e3⟩:=h;obtain⟨a,g1,g2⟩:=p2At e2;exact⟨v,r,e1,⟨a,_,g1,e _ _ g2,_,_,rfl,rfl,_,_,rfl,rfl,rfl⟩,XL e e3⟩
mutual
def nms:Tm->List Str
 | .name x=>[x]
 | .node _ ts=>xS ts
def xS:List Tm->List Str
 |[]=>[]
 |t::ts=>nms t++xS ts
end
theorem rF{x:Str}:∀{ts:List Tm},x∈xS ts↔∃t∈ts,x∈nms t
 |[]=>by simp[xS]
 |t::ts=>by rw[xS,bS,rF (ts:=ts)];simp
structure TsOk(zs:List Str)(d n:Nat)(ts:List Tm):Prop where
 fit:∀t∈ts,fM d t
 nam:∀t∈ts,∀x∈nms t,x∈zs
 sz:mD ts<=n
theorem LQ(j:Int)(h:0<=j/\j<2):∃w:Str,(w="both"\/w="either")/\oV [V.str "both",V.str "either"] j=some (.str w):=by
 have :j=0\/j=1:=by lia
 rcases this with rfl |rfl
 ·exact⟨"both",.inl rfl,rfl⟩
 ·exact⟨"either",.inr rfl,rfl⟩
theorem m7{w:Str}{k:Nat}(hw:w="both"\/w="either")(hk:2<=k):Sh w k:=by
 rcases hw with h |h
 ·exact .inr (.inr (.inr (.inl ⟨h,hk⟩)))
 ·exact .inr (.inr (.inr (.inr ⟨h,hk⟩)))
theorem BQ:∀ts us:List Tm,xS (ts++us)=xS ts++xS us
 |[],us=>by simp[xS]
 |t::ts,us=>by rw[List.cons_append,xS,xS,BQ ts us,cM]
theorem QG{t:Tm}(h:ts[i]?=some t):xS (ts.take (i+1))=xS (ts.take i)++nms t:=by
 obtain⟨il,ie⟩:=aC.mp h;rw[aM il,ie,BQ];show _++(nms t++xS [])=_;rw[xS,cN]
mutual
theorem gf:∀t:Tm,(nms t).length<=wt t
 | .name _=>by rw[nms,wt];exact aG _
 | .node _ ts=>by
   rw[nms,wt];have :=kG ts;lia
theorem kG:∀ts:List Tm,(xS ts).length<=mD ts
 |[]=>by rw[xS,mD];exact aG _
 |t::ts=>by
  rw[xS,mD,aI];have :=gf t;have :=kG ts;lia
end
abbrev s_T:Stmt:=top 9
theorem sc_T:cC ["t"] ["t"] (zK s_T):=by rfl'
def sW:Tm->List Tm
 | .name _=>[]
 | .node _ ts=>ts
def mn:Sp:=λvs H Q _=>∃(v:V)(t:Tm),vs=[v]/\fO H t v/\(∀w ts,t=.node w ts->Wrd w)/\∀p us H',bA H H'->H' p=some (.tup us)->TAts H' (sW t) us->Q (.ref p) H'
abbrev s_l:Stmt:=top 10
theorem sc_l:cC ["t","found","part"] ["t","found"] (zK s_l):=by rfl'
abbrev s_r:Stmt:=top 11
theorem m8:cC ["terms","found","t"] ["terms"] (zK s_r):=by rfl'
abbrev s_S:Stmt:=top 12
theorem sc_S:cC ["t"] ["t"] (zK s_S):=by rfl'
def YB(zs:List Str)(x:Str):List Str:=if x∈zs then zs else zs++[x]
def yY(zs:List Str)(xs:List Str):List Str:=xs.foldl YB zs
theorem wT(zs xs ys:List Str):yY zs (xs++ys)=yY (yY zs xs) ys:=by unfold yY;rw[List.foldl_append]
theorem uO:∀(xs zs:List Str),(yY zs xs).length<=zs.length+xs.length
 |[],zs=>by simp[yY]
 |x::xs,zs=>by
  have :=uO xs (YB zs x);have h2:(YB zs x).length<=zs.length+1:=by unfold YB;split<;>simp
  show(yY (YB zs x) xs).length<=_;rw[bF];lia
def dz(zs:List Str):List (eI×V):=zs.map λx=>(.inr x,.bl true)
theorem dw(zs:List Str)(x:Str):jM (dz zs) (.inr x:eI) (.bl true)=dz (YB zs x):=by
 have e:((dz zs).any λkv=>decide (kv.1=(.inr x:eI)))=decide (x∈zs):=by
  rw[cD,eV,bO];unfold dz;constructor
  ·rintro⟨p,hp,h⟩;obtain⟨y,hy,rfl⟩:=bP.mp hp;have h:(Sum.inr y:eI)=.inr x:=by simpa using h
   rw[←OJ h];exact hy
  ·intro h;exact⟨_,bP.mpr ⟨x,h,rfl⟩,by simp⟩
 unfold jM YB;rw[e];by_cases h:x∈zs
 ·rw[aL (by simpa using h),aL h];unfold dz;rw[eC];apply nX;intro y hy;simp only[Function.comp];split<;>rfl
 ·rw[aH (by simpa using h),aH h];unfold dz;rw[aU];rfl
def gW(d:Addr)(H H':Hp):Prop:=∀b o,H b=some o->b≠d->H' b=some o
theorem gW.refl(d:Addr)(H:Hp):gW d H H:=λ_ _ h _=>h
theorem gW.trans{d:Addr}{H1 H2:Hp}(a:gW d H H1)(b:gW d H1 H2):gW d H H2:=λc o h n=>b c o (a c o h n) n
theorem gW.of{d:Addr}(a:bA H H'):gW d H H':=λc o h _=>a c o h
theorem gW.upd{d:Addr}{H1:Hp}{o:HO}(a:gW d H H1):gW d H (L2.upd H1 d o):=λc o' h n=>by
 rw[zJ n];exact a c o' h n
theorem gW.tups{d:Addr}{kvs:List (eI×V)}(a:gW d H H')(h:H d=some (.dK kvs)):cT H H':=λb xs e=>a b _ e (jK e h (by intro z;cases z))
def ay:Tm->List Str
 | .name x=>[x]
 | .node _ _=>[]
def cq:Nat->Sp
 |0=>λ_ _ _ _=>False
 |1=>λ_ _ _ _=>False
 |n+2=>λvs H Q _=>∃(v:V)(d:Addr)(t:Tm)(zs:List Str),vs=[v,.ref d]/\fO H t v/\fM n t/\wt t<=900/\H d=some (.dK (dz zs))/\zs.length+wt t<=100000/\∀H',gW d H H'->H' d=some (.dK (dz (yY zs (nms t))))->Q .non H'
def my:Sp:=λvs H Q _=>∃(a:Addr)(us:List V)(ts:List Tm),vs=[.ref a]/\H a=some (.lst us)/\TAts H ts us/\(∀t∈ts,fM 20 t/\wt t<=900)/\mD ts<=20000/\(yY [] (xS ts)).length<64/\
 ∀p zs' H',bA H H'->H' p=some (.lst (zs'.map V.str))->zs'.Perm (yY [] (xS ts))->PyProof.Rows.sortedS zs'=true->Q (.ref p) H'
inductive spNO (vs:List V) (H:Hp) (Q:VK) (E:XK):Prop
 |mk (v:V) (t:Tm) (_:vs=[v]) (_:fO H t v) (_:fM 20 t) (_:wt t<=900) (_:(yY [] (nms t)).length<64) (_:∀p zs' H',bA H H'->H' p=some (.lst (zs'.map V.str))->zs'.Perm (yY [] (nms t))->PyProof.Rows.sortedS zs'=true->Q (.ref p) H')
theorem BB(bi:Bi mg)(F:gI K "parts_of" "parts_of" s_T f fd):dI P w K mg base fZ 1 f fd ["t"] mn:=by
 refine F.okz sc_T λfD A outer s H vs Q E hr h=>?_
 obtain⟨v,t,rfl,ht,hw,q⟩:=h;refine⟨_,(zG (zO (vB (zP xK (zL zM (pv 0) zE) zT (zV _)) (zQ zC) (jC UJ (pv 0) (jQ zE) qS)))),?_⟩;cases t with
 |name x=>
  obtain⟨a,rfl,ha⟩:=fO.name ht;dsimp![];refine⟨_,dN.of ha,.str "name",lS,rfl,?_⟩;rw[aL rfl];exact⟨small (),λp hp=>q _ [] _ (zF hp _) zB rfl⟩
 |node wd ts=>
  obtain⟨a,us,rfl,ha,hu⟩:=fO.node ht;dsimp![];refine⟨_,dN.of ha,.str wd,lS,rfl,?_⟩;rw[aH (λe=>(hw wd ts rfl).ne (V.str.inj e))];refine⟨_,dN.of ha,qG _ _,λp hp=>?_⟩;rw[vP];exact q p us _ (zF hp _) zB (TAts.tups (zF hp _).tups hu)
theorem ZY(bi:Bi mg)(h_T:gS P w K mg base 1 "parts_of" ["t"] mn)(F:gI K "gather_names" "gather_names" s_l f fd)(b:Binds K fd ["t","found"] [])(m:mg "gather_names"=some (.ref f)):∀n,dI P w K mg base fZ n f fd ["t","found"] (cq n):=by
 refine EK F b m (λvs H Q E h=>h) (λn h_l=>?_);cases n with
 |zero=>exact⟨λvs H Q E h=>h.elim,λA outer s H args us vs Q E _ _ _ _ h=>h.elim⟩
 |succ n=>
 refine F.okz sc_l λfD A outer s H vs Q E hr h=>?_
 obtain⟨v,d,t,zs,rfl,ht,hf,hw,hd,hz,q⟩:=h;refine⟨_,(zD (yK (zP xK (zL zM (pv 0) zE) zT (zV _)) (zG (UP (xT hr) (pv 1) (zL zM (pv 0) zE) IN rfl)) zZ) (zG (yI bM rfl (uZ (zI h_T hr.m rfl (zA (pv 0) zC))) (yG 2 sc_l.nd) (zG (zU (zI h_l hr rfl (zA (pv 2) (zA (pv 1) zC)))))))),?_⟩;have hnm:nms t=ay t++xS (sW t):=by
  cases t with
  |name x=>rw[nms,ay,sW,xS];rfl
  |node wd ts=>rw[nms,ay,sW];rfl
 have hwp:mD (sW t)<=wt t/\(ay t).length+mD (sW t)<=wt t:=by
  cases t with
  |name x=>rw[sW,mD,ay,wt];exact⟨(),by simp⟩
  |node wd ts=>rw[sW,wt,ay];exact⟨(),by simp⟩
 have hwr:∀w ts,t=.node w ts->Wrd w:=λw ts e=>by subst e;exact hf.wrd
 have part:∀(i:Nat)(u:Tm),(sW t)[i]?=some u->∃m,n=m+1/\fM m u/\wt u<=mD (sW t):=λi u hi=>by
  have hm:=aV hi;have :=wU hm;cases t with
  |name x=>cases hm
  |node wd ts=>
   have hm:u∈ts:=hm;cases n with
   |zero=>rw[hf.2]at hm;cases hm
   |succ n=>exact⟨n,rfl,hf.part hm,this⟩
 refine yA (λσ H'=>gW d H H'/\H' d=some (.dK (dz (yY zs (ay t))))/\∃o,σ=[some v,some (V.ref d),o]) (λN hN=>?_) (λσ H' h=>?_)
 ·dsimp![HW];cases t with
  |name x=>
   obtain⟨a,rfl,ha⟩:=fO.name ht;refine⟨_,rfl,_,dN.of ha,.str "name",lS,rfl,?_⟩;rw[aL rfl];refine⟨_,rfl,_,dN.of ha,.str x,pH,_,GX.k (k:=.inr x) hd (fH (show(dz zs).length<=1000000 by unfold dz;rw[aE];lia) ()),hN _ _ ?_⟩;rw[dw];exact⟨(gW.refl d H).upd,zB,_,rfl⟩
  |node wd ts=>
   obtain⟨a,us,rfl,ha,hu⟩:=fO.node ht;refine⟨_,rfl,_,dN.of ha,.str wd,lS,rfl,?_⟩;rw[aH (λe=>hf.wrd.ne (V.str.inj e))];exact hN _ _ ⟨gW.refl d H,hd,_,rfl⟩
 ·obtain⟨es,hd1,o,rfl⟩:=h;have ht1:=fO.tups (es.tups hd) ht;dsimp![mn];refine⟨t,ht1,hwr,λp us H2 e2 hp hu=>⟨⟨_,dN.of hp⟩,?_⟩⟩;have hl:=hu.length;have hpd:p≠d:=jK hp (e2 _ _ hd1) (by intro z;cases z);refine FY (xs:=us) (λi σ H'=>gW d H2 H'/\H' p=some (.tup us)/\H' d=some (.dK (dz (yY (yY zs (ay t)) (xS ((sW t).take i)))))/\∃o,σ=[some v,some (V.ref d),o]) ?_ (λi σ H' _ h=>dN.of h.2.1) (λi x σ H' hx h=>?_) (λσ H' h=>?_)
  ·exact⟨gW.refl _ _,hp,e2 _ _ hd1,_,rfl⟩
  ·obtain⟨es3,hp3,hd3,o',rfl⟩:=h;obtain⟨u,hu',hx'⟩:=hu.getV hx;obtain⟨m',rfl,f1,f2⟩:=part i u hu';have l1:=uO (ay t) zs;have l2:=uO (xS ((sW t).take i)) (yY zs (ay t));have l3:=kG ((sW t).take i);have l4:mD ((sW t).take (i+1))<=mD (sW t):=by
    have :=dH mD (eJ (i+1) (sW t));rw[uG]at this;lia
   have l5:mD ((sW t).take (i+1))=mD ((sW t).take i)+wt u:=by
    obtain⟨il,ie⟩:=aC.mp hu';rw[aM il,ie,uG];show _+(wt u+mD [])=_;rw[mD];lia
   dsimp![cq];refine⟨u,fO.tups (es3.tups (e2 _ _ hd1)) hx',f1,(),_,hd3,(),λH4 e4 h4=>⟨es3.trans e4,e4 _ _ hp3 hpd,?_,_,rfl⟩⟩;rw[QG hu',wT];exact h4
  ·obtain⟨es3,hp3,hd3,o',rfl⟩:=h;rw[aQ ()]at hd3;refine q _ ((es.trans (gW.of e2)).trans es3) ?_;rw[hnm,wT];exact hd3
theorem ZX(bi:Bi mg)(h_l:gS P w K mg base 22 "gather_names" ["t","found"] (cq 22))(F:gI K "names_of_all" "names_of_all" s_r f fd):dI P w K mg base fZ 23 f fd ["terms"] my:=by
 refine F.okz m8 λfD A outer s H vs Q E hr h=>?_
 obtain⟨a,us,ts,rfl,ha,hu,hf,hw,h64,q⟩:=h;have hl:=hu.length;have hwl:=YC ts;refine⟨_,(zD (yE 1 m8.nd RZ) (zD (yI bM rfl (yF (pv 0)) (yG 2 m8.nd) (zG (zU (zI h_l hr.m rfl (zA (pv 2) (zA (pv 1) zC)))))) (zG (zO (yC VP rfl bi.sorted ZJ (zA (pv 1) zC)))))),?_⟩;refine zH λN hN=>?_
 dsimp![];refine λd lG=>hN _ _ ?_
 have e1:=zF lG (.dK []);have h1:upd H d (.dK []) d=some (.dK (dz [])):=zB;generalize upd H d (.dK [])=H1 at e1 h1⊢;have had:a≠d:=xD ha lG;refine yA (λσ H'=>gW d H1 H'/\H' d=some (.dK (dz (yY [] (xS ts))))/\∃o1 o2,σ=[o1,some (V.ref d),o2]) (λN hN=>?_) (λσ H' h=>?_)
 ·dsimp![];refine⟨⟨_,dL.of (e1 _ _ ha)⟩,?_⟩;refine YS (xs:=us) (λi σ H'=>gW d H1 H'/\H' d=some (.dK (dz (yY [] (xS (ts.take i)))))/\∃o1 o2,σ=[o1,some (V.ref d),o2]) ?_ (λi σ H' _ h=>dL.of (h.1 _ _ (e1 _ _ ha) had)) (λi x σ H' hx h=>?_) (λσ H' h=>?_)
  ·exact⟨gW.refl _ _,h1,_,_,rfl⟩
  ·obtain⟨es3,hd3,o1,o2,rfl⟩:=h;obtain⟨u,hu',hx'⟩:=hu.getV hx;have hm:=aV hu';have l0:=wU hm;have l2:=uO (xS (ts.take i)) [];have l3:=kG (ts.take i);have l4:mD (ts.take i)<=mD ts:=by
    have :=dH mD (eJ i ts);rw[uG]at this;lia
   dsimp![cq];refine⟨u,fO.tups (e1.tups.trans (es3.tups h1)) hx',(hf u hm).1,(hf u hm).2,_,hd3,by simp at l2;lia,λH4 e4 h4=>⟨es3.trans e4,?_,_,rfl⟩⟩;rw[QG hu',wT];exact h4
  ·obtain⟨es3,hd3,o1,o2,rfl⟩:=h;rw[aQ ()]at hd3;exact hN _ _ ⟨es3,hd3,_,_,rfl⟩
 ·obtain⟨es3,hd3,o1,o2,rfl⟩:=h;dsimp![];refine⟨_,hd3,yY [] (xS ts),by unfold dz;rw[eC];rfl,h64,λl zs' fG hp hs=>?_⟩;have es:bA H H':=λb o hb=>es3 b o (e1 _ _ hb) (xD hb lG)
  exact q _ _ _ (es.trans (zF fG _)) zB hp hs
theorem BD(bi:Bi mg)(h_r:gS P w K mg base 23 "names_of_all" ["terms"] my)(F:gI K "names_of" "names_of" s_S f fd):dI P w K mg base fZ 24 f fd ["t"] spNO:=by
 refine F.okz sc_S λfD A outer s H vs Q E hr h=>?_
 obtain⟨v,t,rfl,ht,hf,hw,h64,q⟩:=h;refine⟨_,(zG (zO (zI h_r hr.m rfl (zA (xH (zA (pv 0) zC)) zC)))),?_⟩;dsimp![my];refine⟨small (),λp hp=>⟨[v],zB,[t],TAts.one (fO.tups (zF hp _).tups ht),λu hu=>?_,?_,?_,λp2 zs' H' e h2 hpm hs=>?_⟩⟩
 ·rw[aT.mp hu];exact⟨hf,hw⟩
 ·show wt t+0<=20000;lia
 ·rw[xS,xS,cN];exact h64
 ·rw[xS,xS,cN]at hpm;exact q _ _ _ ((zF hp _).trans e) h2 hpm hs
abbrev s_h:Stmt:=qV (top 41) 4
theorem sc_h:cC ["self","sets","t","values"] ["self","sets","t"] (zK s_h):=by rfl'
abbrev s_Q:Stmt:=top 42
theorem nc:cC ["world","names","sets","name"] ["world","names"] (zK s_Q):=by rfl'
abbrev nw:Stmt:=top 43
theorem j6:cC ["world","t","sets"] ["world","t"] (zK nw):=by rfl'
def cmn(m:Nat)(vs:List (List Nat)):List Nat:=(List.range m).filter λi=>vs.all λv=>decide (i∈v)
def qE(m:Nat)(ps:List (Nat×Nat))(w:Str)(vs:List (List Nat)):List Nat:=
 if w="none" then []else if w="all" then List.range m else if w="not" then cnt m ps (vs.headD [])else if w="both" then cmn m vs else cnt m ps (cmn m (vs.map (cnt m ps)))
mutual
def val(m:Nat)(ps:List (Nat×Nat))(S:Str->List Nat):Tm->List Nat
 | .name x=>S x
 | .node w ts=>qE m ps w (vals m ps S ts)
def vals(m:Nat)(ps:List (Nat×Nat))(S:Str->List Nat):List Tm->List (List Nat)
 |[]=>[]
 |t::ts=>val m ps S t::vals m ps S ts
end
theorem jV(m:Nat)(ps:List (Nat×Nat))(S:Str->List Nat):∀ts:List Tm,vals m ps S ts=ts.map (val m ps S)
 |[]=>rfl
 |t::ts=>by rw[vals,jV m ps S ts,cF]
theorem WN{m:Nat}(h:i∈cnt m ps sp):i<m:=(rB.mp h).1
theorem WQ{m:Nat}(h:i∈cmn m vs):i<m:=bR.mp (cY.mp h).1
theorem br{m:Nat}{w:Str}(h:i∈qE m ps w vs):i<m:=by
 unfold qE at h;split at h
 ·cases h
 split at h
 ·exact bR.mp h
 split at h
 ·exact WN h
 split at h
 ·exact WQ h
 ·exact WN h
theorem QX{m:Nat}(hS:∀x,∀i∈S x,i<m):∀(t:Tm){i:Nat},i∈val m ps S t->i<m
 | .name x,i,h=>by rw[val]at h;exact hS x i h
 | .node w ts,i,h=>by rw[val]at h;exact br h
theorem WP(m:Nat)(vs:List (List Nat)):(cmn m vs).Pairwise (· < ·):=gQ _ dQ
theorem tK{m:Nat}(hS:∀x,(S x).Pairwise (· < ·)):∀t:Tm,(val m ps S t).Pairwise (· < ·)
 | .name x=>by rw[val];exact hS x
 | .node w ts=>by
   rw[val];unfold qE;split
   ·exact .nil
   split
   ·exact dQ
   split
   ·exact CM ..
   split
   ·exact WP ..
   ·exact CM ..
theorem jd{x:Str}(h:zs.Nodup):(YB zs x).Nodup:=by
 unfold YB;split
 ·exact h
 ·rename_i hx
  rw[mL];refine⟨h,by simp,λa ha b hb e=>?_⟩;rw[aT.mp hb]at e;exact hx (e▸ha)
theorem QT:∀(xs zs:List Str),zs.Nodup->(yY zs xs).Nodup
 |[],zs,h=>h
 |x::xs,zs,h=>QT xs (YB zs x) (jd h)
theorem wS:∀(xs zs:List Str){y:Str},y∈yY zs xs->y∈zs\/y∈xs
 |[],zs,y,h=>.inl h
 |x::xs,zs,y,h=>by
  rcases wS xs (YB zs x) h with h |h
  ·unfold YB at h;split at h
   ·exact .inl h
   ·rcases bS.mp h with h |h
    ·exact .inl h
    ·exact .inr (by rw[aT.mp h];exact bB)
  ·exact .inr (bC _ h)
theorem qI{α:Type} [DecidableEq α]:∀{l m:List α},l.Nodup->(∀x∈l,x∈m)->l.length<=m.length
 |[],m,_,_=>cG _
 |x::l,m,hn,hs=>by
  have hx:x∈m:=hs x bB;have hn':=iI.mp hn;have :=qI (l:=l) (m:=m.erase x) hn'.2 λy hy=>by
   have hy':=hs y (bC _ hy);have lU:y≠x:=λe=>hn'.1 (by rw[←e];exact hy)
   exact(List.mem_erase_of_ne lU).mpr hy'
  rw[List.length_erase_of_mem hx]at this;have :=List.length_pos_of_mem hx;rw[bF];lia
def pA(cs:List Nat)(vs:List (List Nat)):Prop:=cs.length=vs.length/\∀(i:Nat)(c:Nat)(v:List Nat),cs[i]?=some c->vs[i]?=some v->jP c v
theorem pA.snoc{cs:List Nat}{c:Nat}{v:List Nat}(h:pA cs vs)(hc:jP c v):pA (cs++[c]) (vs++[v]):=by
 refine⟨by rw[aI,aI,h.1];rfl,λi c' v' h1 h2=>?_⟩;by_cases hi:i<cs.length
 ·rw[bE hi]at h1;rw[bE (by rw[←h.1];exact hi)]at h2;exact h.2 i c' v' h1 h2
 ·have :i=cs.length:=by
   have :=(aC.mp h1).1;rw[aI,cJ]at this;lia
  subst this;rw[bN (aG _),fJ]at h1;rw[bN (by rw[h.1];exact aG _),h.1,fJ]at h2;simp at h1 h2;subst h1 h2;exact hc
theorem pA.cmn{m:Nat}{cs:List Nat}(h:pA cs vs){c:Nat}(hc:∀i,c.testBit i=(decide (i<m)&&cs.all λx=>x.testBit i)):jP c (C.cmn m vs):=λi=>by
 rw[hc,cD,bO,bY,bO,cX];unfold C.cmn;rw[cY,bR,cX];refine and_congr_right λ_=>⟨λg v hv=>?_,λg x hx=>?_⟩
 ·obtain⟨j,hj,e⟩:=dJ hv;have hj':j<cs.length:=by rw[h.1];exact hj
  have :=g cs[j] (cW hj');rw[h.2 j cs[j] v (aA hj') (by rw[aA hj,e]) i]at this;exact this
 ·obtain⟨j,hj,e⟩:=dJ hx;have hj':j<vs.length:=by rw[←h.1];exact hj
  rw[h.2 j x vs[j] (by rw[aA hj,e]) (aA hj') i];exact g vs[j] (cW hj')
theorem IC{P:Program}{w:World}{K:W.Frag}{mg:Str->Option Value}{base:Heap}{C:Addr}{x:Str}{ps:List Str}{f:Addr}{fd:FuncData}{sp:Nat->Sp}(b:Binds K fd ps [])(m:pK K C x f)
 (h0:∀vs H Q E,¬sp 0 vs H Q E) (step:∀n,lC P w K mg base n C x ps (sp n)->dI P w K mg base fZ (n+1) f fd ps (sp (n+1))):∀n,dI P w K mg base fZ n f fd ps (sp n)
 |0=>⟨λvs H Q E h=>(h0 vs H Q E h).elim,λA outer s H args us vs Q E _ _ _ _ h=>(h0 vs H Q E h).elim⟩
 |n+1=>step n ⟨f,fd,IC b m h0 step n,b,m⟩
def cn(C:Addr):Nat->Sp
 |0=>λ_ _ _ _=>False
 |1=>λ_ _ _ _=>False
 |2=>λ_ _ _ _=>False
 |n+3=>λvs H Q _=>∃(r d:Addr)(v:V)(t:Tm)(m:Nat)(ps:List (Nat×Nat))(kvs:List (eI×V))(S:Str->List Nat),vs=[.ref r,.ref d,v]/\DI C H r m ps/\m<=90/\fO H t v/\fM n t/\wt t<=900/\H d=some (.dK kvs)/\(∀x∈nms t,∃c:Nat,yM kvs (.inr x)=some (nV c)/\jP c (S x))/\(∀x,∀i∈S x,i<m)/\∀(c:Nat) H',bA H H'->jP c (val m ps S t)->Q (.int c) H'
theorem kc{ps:List Str}{sp:Sp}(h:∀vs H Q E,¬sp vs H Q E):dI P w K mg base fZ n f fd ps sp:=⟨λvs H Q E g=>(h vs H Q E g).elim,λA outer s H args us vs Q E _ _ _ _ g=>(h vs H Q E g).elim⟩
structure mY(H:Hp)(la:Addr)(zs:List Str)(Ss:List (List Nat))(m:Nat):Prop where
 ex:∃(as ls:List Addr),H la=some (.lst (as.map V.ref))/\as.length=zs.length/\ls.length=zs.length/\∀(i:Nat)(z:Str)(sp:List Nat),zs[i]?=some z->Ss[i]?=some sp->∃a l,as[i]?=some a/\ls[i]?=some l/\H a=some (.tup [.str z,.ref l])/\H l=some (.lst (sp.map nV))
 len:Ss.length=zs.length
 low:∀sp∈Ss,(∀i∈sp,i<m)/\sp.Pairwise (· < ·)
theorem mY.same{la:Addr}{Ss:List (List Nat)}{m:Nat}(e:bA H H')(h:mY H la zs Ss m):mY H' la zs Ss m:=by
 obtain⟨⟨as,ls,h1,h2,h3,h4⟩,h5,h6⟩:=h;refine⟨⟨as,ls,e _ _ h1,h2,h3,λi z sp hz hs=>?_⟩,h5,h6⟩;obtain⟨a,l,g1,g2,g3,g4⟩:=h4 i z sp hz hs;exact⟨a,l,g1,g2,e _ _ g3,e _ _ g4⟩
theorem mY.mono{la:Addr}{Ss:List (List Nat)}{m:Nat}(h:mY H la zs Ss m)(hm:m<=n):mY H la zs Ss n:=⟨h.ex,h.len,λsp hsp=>⟨λi hi=>cI ((h.low sp hsp).1 i hi) hm,(h.low sp hsp).2⟩⟩
def zc(zs:List Str)(cs:List Nat):List (eI×V):=(zs.zip cs).map λp=>(.inr p.1,nV p.2)
theorem DP:∀{zs:List Str}{cs:List Nat}{i:Nat}{x:Str}{c:Nat},zs.Nodup->zs[i]?=some x->cs[i]?=some c->yM (zc zs cs) (.inr x)=some (nV c)
 |z::zs,d::cs,0,x,c,_,h1,h2=>by
  simp only[pQ,HA]at h1 h2;subst h1 h2;exact qC rfl
 |z::zs,d::cs,i+1,x,c,hn,h1,h2=>by
  simp only[List.getElem?_cons_succ]at h1 h2;have hn':=iI.mp hn;have e:yM (zc (z::zs) (d::cs)) (.inr x)=yM (zc zs cs) (.inr x):=qD (λe=>hn'.1 (by rw[show z=x from OJ e];exact aV h1));rw[e];exact DP hn'.2 h1 h2
 |[],_,i,x,c,_,h1,_=>by simp at h1
 |_,[],i,x,c,_,_,h2=>by simp at h2
inductive ml (K:W.Frag) (vs:List V) (H:Hp) (Q:VK) (E:XK):Prop
 |mk (wa:Addr) (v:V) (t:Tm) (m:Nat) (ca:Addr) (us:List V) (ps:List (Nat×Nat)) (la:Addr) (zs:List Str) (Ss:List (List Nat)) (S:Str->List Nat) (_:vs=[.ref wa,v]) (_:H wa=some (.tup [nV m,.ref ca,.ref la])) (_:H ca=some (.lst us)) (_:bG H (ps.map OD) us) (_:Ok2 m ps) (_:m<=90) (_:mY H la zs Ss m) (_:(zs.Nodup/\zs.length<=5)) (_:fO H t v) (_:fM 20 t) (_:wt t<=900) (_:(∀x∈nms t,x∈zs)) (_:(∀(i:Nat)(z:Str),zs[i]?=some z->Ss[i]?=some (S z))) (_:(∀z,(∀i∈S z,i<m)/\(S z).Pairwise (· < ·))) (_:∀(p:Addr)(H':Hp),bA H H'->H p=none->H' p=some (.lst ((val m ps S t).map nV))->Q (.ref p) H')
inductive spSF (K:W.Frag) (vs:List V) (H:Hp) (Q:VK) (E:XK):Prop
 |mk (wa na:Addr) (ys:List Str) (m:Nat) (cps:V) (la:Addr) (zs:List Str) (Ss:List (List Nat)) (_:vs=[.ref wa,.ref na]) (_:H wa=some (.tup [nV m,cps,.ref la])) (_:mY H la zs Ss 90) (_:H na=some (.lst (ys.map V.str))) (_:(∀y∈ys,y∈zs)) (_:(zs.Nodup/\zs.length<=5)) (_:∀p cs H',bA H H'->H' p=some (.dK (zc zs cs))->pA cs Ss->Q (.ref p) H')
theorem AW{C:Addr}(T:FlC K C)(bi:Bi mg)(h_e:lC P w K mg base 1 C "common_of" ["self","sets"] (cr K C))(h_i:lC P w K mg base 2 C "counter_of" ["self","spots"] (m6 C))(F:gI K "value_of" "Floor.value_of" s_h f fd)(b:Binds K fd ["self","sets","t"] [])(mt:pK K C "value_of" f):∀n,dI P w K mg base fZ n f fd ["self","sets","t"] (cn C n):=by
 refine IC b mt (λvs H Q E h=>h) (λn h_h=>?_)
 match n with
 |0=>exact kc λvs H Q E h=>h
 |1=>exact kc λvs H Q E h=>h
 |n+2=>
 refine F.okz sc_h λfD A outer s H vs Q E hr h=>?_
 obtain⟨r,d,v,t,m,ps,kvs,S,rfl,hfl,hm90,ht,hf,hw,hd,hS,hSm,q⟩:=h;have hfl':=hfl;obtain⟨dx,lx,cs,mB,fG,hmk⟩:=hfl';have gA:=T.cl;refine⟨_,(zD (yK (zP xK (zL zM (pv 2) zE) zT (zV _)) (zG (zO zE)) zZ) (zD (yK (zP xK (zL zM (pv 2) zE) zT (zV _)) (zG (zO (xC (pv 0) rfl))) zZ) (zD (yK (zP xK (zL zM (pv 2) zE) zT (zV _)) (zG (zO (YK (xT hr) (pv 1) (zL zM (pv 2) zE) (λ_ _=>rfl)))) zZ) (zD (UQ (i:=3) ["part"] ["sets","self"] [1,0] sc_h.nd rfl (uZ (jC UJ (pv 2) (jQ zE) qS)) (λ_ _ _ _ nd=>yG 0 nd) (λ_ _ _ _=>yW) (λ_ _ _ _=>(zY h_h gA hr.m (pv 2) (zA (pv 1) (zA (pv 0) zC))))) (zD (yK (zP xK (zL zM (pv 2) zE) zT (zV _)) (zG (zO (zY h_i gA hr.m (pv 0) (zA (zL yH (pv 3) zE) zC)))) zZ) (zD (yK (zP xK (zL zM (pv 2) zE) zT (zV _)) (zG (zO (zY h_e gA hr.m (pv 0) (zA (pv 3) zC)))) zZ) (zG (zO (zY h_i gA hr.m (pv 0) (zA (zY h_e gA hr.m (pv 0) (zA (yS ["spots"] ["self"] [0] (yF (pv 3)) (λ_ _ _ _ nd=>yG 0 nd) (λ_ _ _ _=>yW) (λ_ _ _ _=>(zY h_i gA hr.m (pv 1) (zA (pv 0) zC)))) zC)) zC)))))))))),?_⟩;cases t with
 |name x=>
  obtain⟨a,rfl,ha⟩:=fO.name ht;obtain⟨c,hc1,hc2⟩:=hS x (by rw[nms];exact aT.mpr rfl);dsimp![yV,xZ];refine⟨_,dN.of ha,.str "name",lS,rfl,?_⟩;rw[aH (by intro z;exact absurd (V.str.inj z) ())];refine⟨_,dN.of ha,.str "name",lS,rfl,?_⟩;rw[aH (by intro z;exact absurd (V.str.inj z) ())];refine⟨_,dN.of ha,.str "name",lS,rfl,?_⟩;rw[aL rfl];refine⟨_,dN.of ha,.str x,pH,_,hc1▸oB.k (k:=.inr x) hd,?_⟩;exact q c _ (bA.refl _) (by rw[val];exact hc2)
 |node wd ts=>
  obtain⟨a,us,rfl,ha,hu⟩:=fO.node ht;have hwd:=hf.wrd;have hsh:=hf.sh;have hl:=hu.length;have hll:=YC ts;rw[wt]at hw;have hwr:val m ps S (.node wd ts)=qE m ps wd (ts.map (val m ps S)):=by rw[val,jV]
  rw[hwr]at q;have hSm':∀t∈ts,∀x∈nms t,∃c:Nat,yM kvs (.inr x)=some (nV c)/\jP c (S x):=λt ht x hx=>hS x (by rw[nms];exact rF.mpr ⟨t,ht,hx⟩)
  refine zH λN hN=>?_
  dsimp![yV,xZ];refine⟨_,dN.of ha,.str wd,lS,rfl,?_⟩;by_cases c1:wd="none"
  ·rw[aL (by rw[c1])];have e:qE m ps wd (ts.map (val m ps S))=[]:=by unfold qE;rw[aL c1]
   rw[e]at q;exact q 0 _ (bA.refl _) λi=>by simp
  rw[aH (λz=>c1 (V.str.inj z))];refine hN _ _ ?_;clear hN;refine zH λN hN=>?_
  dsimp![yV,xZ];refine⟨_,dN.of ha,.str wd,lS,rfl,?_⟩;by_cases c2:wd="all"
  ·rw[aL (by rw[c2])];have e:qE m ps wd (ts.map (val m ps S))=List.range m:=by unfold qE;rw[aH c1,aL c2]
   rw[e]at q;exact⟨C,dx,_,mB,T.cl,T.nE,_,fl_e _ _,q (2^m-1) _ (bA.refl _) λi=>by rw[oC];simp⟩
  rw[aH (λz=>c2 (V.str.inj z))];refine hN _ _ ?_;clear hN;refine zH λN hN=>?_
  dsimp![yV,xZ];refine⟨_,dN.of ha,.str wd,lS,rfl,?_⟩;rw[aH (λz=>hwd.ne (V.str.inj z))];refine hN _ _ ?_;clear hN;refine zH λN hN=>?_
  dsimp![yV,xZ];refine⟨_,dN.of ha,qG _ _,λp2 lX=>?_⟩;rw[vP];have s2:=zF lX (.tup us);have k2:upd H p2 (.tup us) p2=some (.tup us):=zB;generalize upd H p2 (.tup us)=H2 at s2 k2⊢;refine⟨⟨_,dN.of k2⟩,?_⟩;refine UY (xs:=us) (λi ys σ H'=>bA H2 H'/\(∃cs:List Nat,ys=cs.map nV/\cs.length=i/\pA cs ((ts.map (val m ps S)).take i))/\∃o,σ=[o,some (V.ref d),some (V.ref r)]) ⟨bA.refl _,⟨[],rfl,rfl,rfl,λi c v h=>by simp at h⟩,_,rfl⟩ (small ()) (λi ys σ H' e=>?_) (λi ys σ H' e=>dN.of (e.1 _ _ k2)) (λi x ys σ H' C' hx e hC=>?_) (λys σ H' e p3 hp3=>hN _ _ ?_)
  ·obtain⟨_,⟨cs,rfl,h1,_⟩,_⟩:=e;rw[aE,h1];exact aG _
  ·obtain⟨es,⟨cs,rfl,hcl,hcs⟩,o,rfl⟩:=e;obtain⟨t,ht',hx'⟩:=hu.getV hx;cases n with
   |zero=>have :=hf.2;subst this;simp at ht'
   |succ n=>
    have hm:=aV ht';have hmt:=wU hm;have s3:=s2.trans es;dsimp![yV,xZ,cn];refine⟨_,_,s3 _ _ mB,ZR _ _ () (),t,m,ps,hfl.same s3,hm90,fO.tups s3.tups hx',hf.part hm,(),kvs,s3 _ _ hd,S,hSm' t hm,hSm,λc H3 e3 hc=>hC _ _ _ ⟨es.trans e3,⟨cs++[c],by rw[aU];rfl,by rw[aI,hcl];rfl,?_⟩,_,rfl⟩⟩;obtain⟨hil,hi2⟩:=aC.mp (show(ts.map (val m ps S))[i]?=some (val m ps S t) by rw[aK,ht'];rfl);rw[aM hil,hi2];exact hcs.snoc hc
  clear hN;obtain⟨es,⟨cs,rfl,hcl,hcs⟩,o,rfl⟩:=e;rw[show(ts.map (val m ps S)).take us.length=ts.map (val m ps S)from aQ (by rw[aE];lia)]at hcs;have s3:=(s2.trans es).trans (zF hp3 (.lst (cs.map nV)));have k3:upd H' p3 (.lst (cs.map nV)) p3=some (.lst (cs.map nV)):=zB;generalize upd H' p3 (.lst (cs.map nV))=H3 at s3 k3⊢;have hfl3:=hfl.same s3;have iY:∀(i:Nat)(v:List Nat),(ts.map (val m ps S))[i]?=some v->∀x∈v,x<m:=λi v hv x hx=>by
   rw[aK]at hv;obtain⟨t,ht,rfl⟩:=aO.mp hv;exact QX hSm t hx
  have hvl:(ts.map (val m ps S)).length=ts.length:=aE _;generalize hvs:ts.map (val m ps S)=vs at hcs q iY hvl;refine zH λN hN=>?_
  dsimp![yV,xZ];refine⟨_,dN.of (s3 _ _ ha),.str wd,lS,rfl,?_⟩;by_cases c3:wd="not"
  ·rw[aL (by rw[c3])];have h1:ts.length=1:=by
    rcases hsh with h |h |h |h |h
    ·exact absurd h.1 c1
    ·exact absurd h.1 c2
    ·exact h.2
    ·rw[c3]at h;exact absurd h.1 ()
    ·rw[c3]at h;exact absurd h.1 ()
   obtain⟨v0,rfl⟩:∃v0,vs=[v0]:=by
    match vs,(show vs.length=1 by lia)with
    |[v0],_=>exact⟨v0,rfl⟩
   obtain⟨c0,rfl⟩:∃c0,cs=[c0]:=by
    match cs,(show cs.length=1 by rw[hcs.1];rfl)with
    |[c0],_=>exact⟨c0,rfl⟩
   have e:qE m ps wd [v0]=cnt m ps v0:=by unfold qE;rw[aH c1,aH c2,aL c3];rfl
   rw[e]at q;obtain⟨xs,hx1,hx2⟩:=VS c0 v0 (hcs.2 0 c0 v0 rfl rfl);refine⟨_,_,s3 _ _ mB,ZR _ _ () (),_,dL.of k3,nV c0,lS,?_⟩;refine⟨r,m,c0,ps,xs,rfl,hfl3,hm90,hx1,λx hx=>iY 0 v0 rfl x ((hx2 x).mp hx),λc H4 s4 hc=>q c _ (s3.trans s4) ?_⟩;rw[ZI hx2]at hc;exact hc
  rw[aH (λz=>c3 (V.str.inj z))];refine hN _ _ ?_;clear hN;refine zH λN hN=>?_
  dsimp![yV,xZ];refine⟨_,dN.of (s3 _ _ ha),.str wd,lS,rfl,?_⟩;by_cases c4:wd="both"
  ·rw[aL (by rw[c4])];have e:qE m ps wd vs=cmn m vs:=by unfold qE;rw[aH c1,aH c2,aH c3,aL c4]
   rw[e]at q;refine⟨_,_,s3 _ _ mB,ZR _ _ () (),?_⟩;exact⟨r,p3,m,ps,cs,rfl,hfl3,dL.of k3,(),λc hc=>q c _ s3 (hcs.cmn hc)⟩
  rw[aH (λz=>c4 (V.str.inj z))];refine hN _ _ ?_;clear hN;have e:qE m ps wd vs=cnt m ps (cmn m (vs.map (cnt m ps))):=by unfold qE;rw[aH c1,aH c2,aH c3,aH c4]
  rw[e]at q;dsimp![yV,xZ];refine⟨_,_,s3 _ _ mB,ZR _ _ () (),_,_,s3 _ _ mB,ZR _ _ () (),⟨_,dL.of k3⟩,?_⟩;refine jS (xs:=cs.map nV) (λi ys σ H'=>bA H3 H'/\(∃ds:List Nat,ys=ds.map nV/\ds.length=i/\pA ds ((vs.map (cnt m ps)).take i))/\∃o,σ=[o,some (V.ref r)]) ⟨bA.refl _,⟨[],rfl,rfl,rfl,λi c v h=>by simp at h⟩,_,rfl⟩ (small (by rw[aE];lia)) (λi ys σ H' e=>?_) (λi ys σ H' e=>dL.of (e.1 _ _ k3)) (λi x ys σ H' C' hx e hC=>?_) (λys σ H' e p4 hp4=>?_)
  ·obtain⟨_,⟨ds,rfl,h1,_⟩,_⟩:=e;rw[aE,h1];exact aG _
  ·obtain⟨es',⟨ds,rfl,hdl,hds⟩,o,rfl⟩:=e;rw[aK]at hx;obtain⟨c0,hc0,rfl⟩:=aO.mp hx;have hiv:i<vs.length:=by rw[←hcs.1];exact(aC.mp hc0).1
   have hv0:vs[i]?=some vs[i]:=aA hiv;obtain⟨xs,hx1,hx2⟩:=VS c0 vs[i] (hcs.2 i c0 _ hc0 hv0);have s4:=s3.trans es';dsimp![yV,xZ];refine⟨_,_,s4 _ _ mB,ZR _ _ () (),r,m,c0,ps,xs,rfl,hfl.same s4,hm90,hx1,λx hx=>iY i _ hv0 x ((hx2 x).mp hx),λc H4 s5 hc=>hC _ _ _ ⟨es'.trans s5,⟨ds++[c],by rw[aU];rfl,by rw[aI,hdl];rfl,?_⟩,_,rfl⟩⟩;rw[ZI hx2]at hc;obtain⟨hil,hi2⟩:=aC.mp (show(vs.map (cnt m ps))[i]?=some (cnt m ps vs[i]) by rw[aK,hv0];rfl);rw[aM hil,hi2];exact hds.snoc hc
  obtain⟨es',⟨ds,rfl,hdl,hds⟩,o,rfl⟩:=e;rw[aE]at hds hdl;rw[show(vs.map (cnt m ps)).take cs.length=vs.map (cnt m ps)from aQ (by rw[aE,hcs.1];exact aG _)]at hds;have s4:=(s3.trans es').trans (zF hp4 (.lst (ds.map nV)));have k4:upd H' p4 (.lst (ds.map nV)) p4=some (.lst (ds.map nV)):=zB;generalize upd H' p4 (.lst (ds.map nV))=H4 at s4 k4⊢;refine⟨r,p4,m,ps,ds,rfl,hfl.same s4,dL.of k4,(),λc hc=>?_⟩;have hm1:=hds.cmn hc;obtain⟨xs,hx1,hx2⟩:=VS c _ hm1;refine⟨r,m,c,ps,xs,rfl,hfl.same s4,hm90,hx1,λx hx=>WQ ((hx2 x).mp hx),λc' H5 s5 hc'=>q c' _ (s4.trans s5) ?_⟩;rw[ZI hx2]at hc';exact hc'
theorem BA(bi:Bi mg)(h_Z:gS P w K mg base 1 "mask_of" ["numbers"] (EA K))(F:gI K "sets_for" "sets_for" s_Q f fd):dI P w K mg base fZ 2 f fd ["world","names"] (spSF K):=by
 refine F.okz nc λfD A outer s H vs Q E hr h=>?_
 obtain⟨wa,na,ys,m,cps,la,zs,Ss,rfl,hwa,hrw,hys,hsub,lG,q⟩:=h;refine⟨_,(zD (yE 2 nc.nd (xO JF rfl bi.dict YT (zA (yS ["name","spots"] [] [] (yF (zL zM (pv 0) zE)) (λ_ _ _ _ nd=>qT (K:=K) (n:=2) rfl (zX (yG 0 nd) (zX (yG 1 nd) xG))) (λ_ _ _ _=>yW) (λ_ _ _ _=>(zQ (zA (pv 0) (zA (zI h_Z hr.m rfl (zA (pv 1) zC)) zC))))) zC))) (zD (yI bM rfl (yF (pv 1)) (yG 3 nc.nd) (zG (yK (kU (QB (xT hr) (pv 3) (pv 2)) (by with_unfolding_all rfl)) (zG AF) zZ))) (zG (zO (pv 2))))),?_⟩;refine zH λN hN=>?_
 dsimp![];have at2:∀{a b c:V},oV [a,b,c] 2=some c:=yD (j:=2) rfl;obtain⟨⟨as,ls,h1,h2,h3,h4⟩,h5,h6⟩:=hrw;refine⟨_,dN.of hwa,.ref la,at2,la,rfl,⟨_,dL.of h1⟩,?_⟩;refine jS (xs:=as.map V.ref) (λi ys σ H'=>bA H H'/\(∃(bs:List Addr)(cs:List Nat),ys=bs.map V.ref/\bs.length=i/\pA cs (Ss.take i)/\∀(j:Nat)(z:Str)(c:Nat),(zs.take i)[j]?=some z->cs[j]?=some c->∃b,bs[j]?=some b/\H' b=some (.tup [.str z,nV c]))/\∃o1 o2,σ=[o1,o2]) ⟨bA.refl _,⟨[],[],rfl,rfl,⟨rfl,λi c v h=>by simp at h⟩,λj z c h=>by simp at h⟩,_,_,rfl⟩ (small (by rw[aE];lia)) (λi ys σ H' e=>?_) (λi ys σ H' e=>dL.of (e.1 _ _ h1)) (λi x ys σ H' C' hx e hC=>?_) (λys σ H' e p3 hp3=>?_)
 ·obtain⟨_,⟨bs,cs,rfl,h1,_⟩,_⟩:=e;rw[aE,h1];exact aG _
 ·obtain⟨es,⟨bs,cs,rfl,hbl,hcs,hbs⟩,o1,o2,rfl⟩:=e;rw[aK]at hx;obtain⟨a,ha,rfl⟩:=aO.mp hx;have hia:=(aC.mp ha).1;have hiz:i<zs.length:=by lia
  have hiS:i<Ss.length:=by lia
  obtain⟨a',l,g1,g2,g3,g4⟩:=h4 i zs[i] Ss[i] (aA hiz) (aA hiS);rw[ha]at g1;cases g1;have hlow:=h6 Ss[i] (cW hiS);dsimp![vN,jY,wD,EA];refine⟨_,dN.of (es _ _ g3),rfl,_,_,rfl,_,_,rfl,rfl,l,rfl,Ss[i],dL.of (es _ _ g4),λn hn=>by have :=hlow.1 n hn;lia,λc hc=>⟨small (),λp hp=>hC _ _ _ ⟨es.trans (zF hp _),⟨bs++[p],cs++[c],by rw[aU];rfl,by rw[aI,hbl];rfl,?_,λj z c' hz hc'=>?_⟩,_,_,rfl⟩⟩⟩
  ·rw[aM hiS];exact hcs.snoc hc
  ·have hcl:cs.length=i:=by rw[hcs.1,bU];lia
   have hjl:=(aC.mp hc').1;rw[aI,cJ]at hjl;by_cases hj:j<i
   ·rw[bE ()]at hc';rw[lL ()]at hz;obtain⟨b,q1,q2⟩:=hbs j z c' (by rw[lL hj];exact hz) hc';exact⟨b,by rw[bE ()];exact q1,zF hp _ _ _ q2⟩
   ·have hji:j=i:=by lia
    subst hji;rw[lL (),aA hiz]at hz;rw[bN (),hcl,fJ]at hc';simp at hc';cases hz;subst hc';exact⟨p,by rw[bN (),hbl];simp,zB⟩
 obtain⟨es,⟨bs,cs,rfl,hbl,hcs,hbs⟩,o1,o2,rfl⟩:=e;rw[aE]at hbl hcs hbs;rw[aQ ()]at hcs hbs;have hcl:cs.length=zs.length:=by rw[hcs.1];lia
 have s3:=es.trans (zF hp3 (.lst (bs.map V.ref)));have k3:upd H' p3 (.lst (bs.map V.ref)) p3=some (.lst (bs.map V.ref)):=zB;have hbs3:∀(j:Nat)(z:Str)(c:Nat),zs[j]?=some z->cs[j]?=some c->∃b,bs[j]?=some b/\upd H' p3 (.lst (bs.map V.ref)) b=some (.tup [.str z,nV c]):=λj z c hz hc=>by
  obtain⟨b,q1,q2⟩:=hbs j z c hz hc;exact⟨b,q1,zF hp3 _ _ _ q2⟩
 generalize upd H' p3 (.lst (bs.map V.ref))=H3 at s3 k3 hbs3⊢;have hkl:(zc zs cs).length=zs.length:=by
  unfold zc;rw[aE,List.length_zip];lia
 refine⟨p3,rfl,bs,dL.of k3,zc zs cs,(),?_,λi k u hi=>?_,λl hl=>hN _ _ ?_⟩
 ·have e:(zc zs cs).map (·.1)=zs.map Sum.inr:=by
   unfold zc;rw[eC];have :((λx:eI×V=>x.1) ∘ λp:Str×Nat=>((.inr p.1:eI),nV p.2))=Sum.inr ∘ Prod.fst:=rfl;rw[this,←eC,List.map_fst_zip ()]
  rw[e];exact List.Pairwise.map _ (λa b h e=>h (OJ e)) lG.1
 ·unfold zc at hi;rw[aK]at hi;obtain⟨y,hy,ey⟩:=aO.mp hi;obtain⟨y1,y2⟩:=ly.mp hy;cases ey;obtain⟨b,q1,q2⟩:=hbs3 i y.1 y.2 y1 y2;exact⟨b,q1,dN.of q2⟩
 clear hN;have s4:=s3.trans (zF hl (.dK (zc zs cs)));have k4:upd H3 l (.dK (zc zs cs)) l=some (.dK (zc zs cs)):=zB;generalize upd H3 l (.dK (zc zs cs))=H4 at s4 k4⊢;refine yA (λσ H'=>H'=H4/\∃o,σ=[some (V.ref wa),some (V.ref na),some (V.ref l),o]) (λN hN=>?_) (λσ H' h=>?_)
 ·dsimp![];refine⟨⟨_,dL.of (s4 _ _ hys)⟩,?_⟩;refine YS (xs:=ys.map V.str) (λi σ H'=>H'=H4/\∃o,σ=[some (V.ref wa),some (V.ref na),some (V.ref l),o]) ⟨rfl,_,rfl⟩ (λi σ H' _ h=>by rw[h.1];exact dL.of (s4 _ _ hys)) (λi x σ H' hx h=>?_) (λσ H' h=>hN _ _ h);obtain⟨rfl,o,rfl⟩:=h;rw[aK]at hx;obtain⟨y,hy,rfl⟩:=aO.mp hx;obtain⟨j,hj,e⟩:=dJ (hsub y (aV hy));dsimp![UB];refine⟨_,oB.k (k:=.inr y) k4,?_⟩;have hv:=DP lG.1 (show zs[j]?=some y by rw[aA hj,e]) (aA (show j<cs.length by lia));rw[hv,aH (by simp)];exact⟨_,rfl⟩
 obtain⟨rfl,o,rfl⟩:=h;dsimp![];exact q _ _ _ s4 k4 hcs
theorem SL{C:Addr}(T:FlC K C)(bi:Bi mg)(h_Q:gS P w K mg base 2 "sets_for" ["world","names"] (spSF K))(h_S:gS P w K mg base 24 "names_of" ["t"] spNO)(h_F:gS P w K mg base 1 "bits_of" ["mask"] sI)(h_E:am P w K mg base 1 C "Floor" ["self","many","clashes"] (m5 C))(h_h:lC P w K mg base 23 C "value_of" ["self","sets","t"] (cn C 23))(F:gI K "value" "value" nw f fd):dI P w K mg base fZ 25 f fd ["world","t"] (ml K):=by
 refine F.okz j6 λfD A outer s H vs Q E hr h=>?_
 obtain⟨wa,v,t,m,ca,us,ps,la,zs,Ss,S,rfl,hwa,hca,hps,hok2,hm90,hrw,lG,ht,hf,hw,hsub,hSS,hSr,q⟩:=h;have gA:=T.cl;refine⟨_,(zD (yE 2 j6.nd (zI h_Q hr.m rfl (zA (pv 0) (zA (zI h_S hr.m rfl (zA (pv 1) zC)) zC)))) (zG (zO (zI h_F hr.m rfl (zA (zY h_h gA hr.m (AO h_E hr.m rfl (zA (zL zM (pv 0) zE) (zA (zL zM (pv 0) zE) zC))) (zA (pv 2) (zA (pv 1) zC))) zC))))),?_⟩;refine zH λN hN=>?_
 dsimp![];have hal:(yY [] (nms t)).length<=zs.length:=qI (QT _ _ .nil) λy hy=>by
  rcases wS _ _ hy with h |h
  ·cases h
  ·exact hsub y h
 refine⟨v,t,rfl,ht,hf,hw,(),λpn zs' H1 s1 k1 hperm _=>?_⟩;refine⟨wa,pn,zs',m,.ref ca,la,zs,Ss,rfl,s1 _ _ hwa,(hrw.same s1).mono hm90,k1,λy hy=>?_,lG,λpd cs H2 s2 k2 hcs=>hN _ _ ?_⟩
 ·rcases wS _ _ (hperm.mem_iff.mp hy)with h |h
  ·cases h
  ·exact hsub y h
 clear hN;replace s2:=s1.trans s2;dsimp![yV,HM];have at1':∀{a b c:V},oV [a,b,c] 1=some b:=yD (j:=1) rfl;refine⟨_,dN.of (s2 _ _ hwa),_,lS,_,dN.of (s2 _ _ hwa),_,at1',λx dx hx hdx lU=>?_⟩;have s3:bA H2 (upd (upd H2 dx (.own x)) x (.ins C dx [])):=((bA.refl H2).upd hdx).upd hx;have k3:upd (upd H2 dx (.own x)) x (.ins C dx []) x=some (.ins C dx []):=zB;generalize upd (upd H2 dx (.own x)) x (.ins C dx [])=H3 at s3 k3⊢;have hca2:=s2 _ _ hca;have hcx:ca≠x:=λz=>by rw[z,hx]at hca2;cases hca2
 refine⟨x,dx,ca,m,us,ps,rfl,k3,hcx,s3 _ _ hca2,bG.same (s2.trans s3) hps,hok2,hm90,λH4 s4 hfl=>?_⟩;have s24:bA H2 H4:=λb o hb=>s4 b o (s3 _ _ hb) (λz=>by rw[z,hx]at hb;cases hb)
 have hfl':=hfl;obtain⟨dx',l,cs',mB,_,_⟩:=hfl';have s5:=s2.trans s24;refine⟨rfl,_,_,mB,ZR _ _ () (),?_⟩;refine⟨x,pd,v,t,m,ps,zc zs cs,S,rfl,hfl,hm90,fO.tups s5.tups ht,hf,hw,s24 _ _ k2,λy hy=>?_,λy i hi=>(hSr y).1 i hi,λc H6 s6 hc=>?_⟩
 ·obtain⟨j,hj,e⟩:=dJ (hsub y hy);have hz:zs[j]?=some y:=by rw[aA hj,e]
  have hjc:j<cs.length:=by rw[hcs.1,hrw.len];exact hj
  exact⟨cs[j],DP lG.1 hz (aA hjc),hcs.2 j _ _ (aA hjc) (hSS j y hz)⟩
 ·refine⟨c,val m ps S t,rfl,⟨tK (λy=>(hSr y).2) t,hc⟩,λy hy=>by have :=QX (λy i hi=>(hSr y).1 i hi) t hy;lia,λp H7 s7 hp k7=>q p H7 ((s5.trans s6).trans s7) ((s5.trans s6).free hp) k7⟩
abbrev s_V:Stmt:=top 51
theorem sc_V:cC ["many","pairs"] ["many","pairs"] (zK s_V):=by rfl'
abbrev s_x:Stmt:=top 52
theorem cw:cC ["spots","pairs","clashes","a","i"] ["spots","pairs"] (zK s_x):=by rfl'
abbrev s_B:Stmt:=top 53
theorem sc_B:cC ["spots","pairs","n"] ["spots","pairs","n"] (zK s_B):=by rfl'
theorem ZC{a:Addr}{ns:List Str}{js:List Nat}{g:TG}{tc:TT}{te:TE}{σ:St}{Q:VK}(Pv:Nat->List V->St->Hp->Prop)(h0:Pv 0 [] (JP ns js σ) H)(hz:xs.length<=sizeLine)(hl:∀i ys σ H,Pv i ys σ H->ys.length<=i)
 (hK:∀i ys σ H,Pv i ys σ H->H a=some (.lst xs))
 (hs:∀(i:Nat) x ys σ H p (C:V->St->Hp->Prop) (D:St->Hp->Prop),xs[i]?=some x->Pv i ys σ H->H p=none->(∀y σ2 H3,Pv (i+1) (ys++[y]) σ2 H3->C y σ2 H3)->(∀σ2 H3,Pv (i+1) ys σ2 H3->D σ2 H3)->
  g (.ref p) σ (upd H p (.tup [.int i,x])) λσ2 H2=>tc σ2 H2 λb H3=>if b=true then te σ2 H3 λy H4=>C y σ2 H4 else D σ2 H3)
 (hd:∀ys σ H,Pv xs.length ys σ H->∀p,H p=none->Q (.ref p) (upd H p (.lst ys))):
 bj (Ite a) ns js g (some tc) te σ H Q:=by
 refine⟨λi m ys σ H=>m=xs.length-i/\i<=xs.length/\Pv i ys σ H,⟨xs.length,(),cG _,h0⟩,λi m ys σ1 H1 ⟨hm,hi,hp⟩=>?_⟩;have k1:=hK i ys σ1 H1 hp;by_cases h:i<xs.length
 ·refine .inr ⟨⟨xs,xs[i],k1,aA h⟩,?_,λx H' ⟨p,y,e1,e2,e3,e4⟩=>?_⟩
  ·have :=hl i ys σ1 H1 hp;lia
  ·subst e1;subst e3;exact hs i y ys σ1 H1 p _ _ (e4 xs k1) hp e2 (λy σ2 H3 q=>⟨xs.length-(i+1),(),rfl,(),q⟩) λσ2 H3 q=>⟨xs.length-(i+1),(),rfl,(),q⟩
 ·have e:i=xs.length:=by lia
  subst e;exact .inl ⟨⟨xs,k1,aG _⟩,hd ys σ1 H1 hp⟩
def sF(ls:List Ln):List (List eI×V):=ls.map λl=>(xF l.i l.j,V.bl true)
def rl(ls:List Ln)(i j:Nat):Bool:=zR ls i j
theorem YJ(ls:List Ln)(i j:Int):(yM (sF ls) (xF i j)).isSome=zR ls i j:=by
 induction ls with
 |nil=>rfl
 |cons l ls ih=>
  unfold zR;rw[iK];by_cases e:xF l.i l.j=xF i j
  ·have h:yM (sF (l::ls)) (xF i j)=some (V.bl true):=qC e;rw[h];have e':l.i=i/\l.j=j:=by
    unfold xF at e;simp only[List.cons.injEq,Sum.inl.injEq,and_true]at e;exact e
   simp[e'.1,e'.2]
  ·have h:yM (sF (l::ls)) (xF i j)=yM (sF ls) (xF i j):=qD e;rw[h,ih];have e':(l.i==i&&l.j==j)=false:=by
    rw[dS];intro z;simp only[bY,cS]at z;exact e (by rw[z.1,z.2])
   rw[e',Bool.false_or];rfl
theorem dgB{d:Addr}{ls:List Ln}{i j:Int}(hd:H d=some (.dT (sF ls)))(es:bA H H')(hp:H' p=some (.tup [V.int i,V.int j])):oB H' d (.ref p) (yM (sF ls) (xF i j)):=oB.t (k:=xF i j) (es _ _ hd) hp
def yQ(m:Nat)(R:Nat->Nat->Bool):List Nat:=(List.range m).filter λn=>!R n (lQ n)
def jI(sp:List Nat)(R:Nat->Nat->Bool)(n:Nat):List Nat:=(List.range sp.length).filter λa=>R (sp.getD a 0) n
def wR(sp:List Nat)(R:Nat->Nat->Bool):List (Nat×Nat):=(List.range sp.length).flatMap λa=>((List.range sp.length).filter λb=>decide (a<b)&&R (sp.getD a 0) (lQ (sp.getD b 0))).map λb=>(a,b)
inductive spSb (vs:List V) (H:Hp) (Q:VK) (E:XK):Prop
 |mk (m:Nat) (d:Addr) (ls:List Ln) (_:vs=[.int m,.ref d]) (_:m<=200) (_:H d=some (.dT (sF ls))) (_:∀p H',bA H H'->H p=none->H' p=some (.lst ((yQ m (rl ls)).map nV))->Q (.ref p) H')
inductive spSu (vs:List V) (H:Hp) (Q:VK) (E:XK):Prop
 |mk (sa d:Addr) (sp:List Nat) (ls:List Ln) (n:Nat) (_:vs=[.ref sa,.ref d,.int n]) (_:H sa=some (.lst (sp.map nV))) (_:sp.length<=200) (_:H d=some (.dT (sF ls))) (_:∀p H',bA H H'->H p=none->H' p=some (.lst ((jI sp (rl ls) n).map nV))->Q (.ref p) H')
inductive spCb (vs:List V) (H:Hp) (Q:VK) (E:XK):Prop
 |mk (sa d:Addr) (sp:List Nat) (ls:List Ln) (_:vs=[.ref sa,.ref d]) (_:H sa=some (.lst (sp.map nV))) (_:sp.length<=60) (_:(∀x∈sp,x<200)) (_:H d=some (.dT (sF ls))) (_:∀p us H',bA H H'->H p=none->H' p=some (.lst us)->bG H' ((wR sp (rl ls)).map OD) us->Q (.ref p) H')
theorem AY(bi:Bi mg)(F:gI K "spots_by" "spots_by" s_V f fd):dI P w K mg base fZ 1 f fd ["many","pairs"] spSb:=by
 refine F.okz sc_V λfD A outer s H vs Q E hr h=>?_
 obtain⟨m,d,ls,rfl,hm,hd,q⟩:=h;refine⟨_,(zG (zO (yS ["n"] ["pairs"] [1] (xX rfl bi.range (zA (pv 0) zC)) (λ_ _ _ _ nd=>yG 0 nd) (λ_ _ _ _=>kD (kU (QB (xT hr) (zQ (zA (pv 0) (zA (zN kX (pv 0) zE) zC))) (pv 1)) (by with_unfolding_all rfl))) (λ_ _ _ _=>(pv 0))))),?_⟩;dsimp![];refine⟨(),(),?_⟩;refine FR (n:=(m:Int).toNat) (λi ys σ H'=>bA H H'/\ys=((List.range i).filter λn=>!rl ls n (lQ n)).map nV/\∃o,σ=[o,some (V.ref d)]) ⟨bA.refl _,rfl,_,rfl⟩ (small ()) (λi ys σ H' e=>?_) (λi ys σ H' C D hi e hC hD=>?_) (λys σ H' e p hp=>?_)
 ·obtain⟨_,rfl,_⟩:=e;rw[aE];exact cR (iN _ _) (by rw[eY];exact aG _)
 ·obtain⟨es,rfl,o,rfl⟩:=e;dsimp![UB];rw[show(0:Int)+(i:Int)=(i:Int) by lia,DQ,qF];refine⟨small (),λp hp=>⟨_,dgB hd (es.trans (zF hp _)) zB,?_⟩⟩;have e2:=es.trans (zF hp (.tup [V.int (i:Int),V.int ((lQ i:Nat):Int)]));rw[show(yM (sF ls) (xF (i:Int) ((lQ i:Nat):Int))).isSome=rl ls i (lQ i)from YJ ls _ _];cases c:rl ls i (lQ i)with
  |false=>
   rw[aL rfl];exact hC _ _ _ ⟨e2,by rw[gH,fI,aU];simp[c],_,rfl⟩
  |true=>
   rw[aH ()];exact hD _ _ ⟨e2,by rw[gH,fI,aU];simp[c],_,rfl⟩
 ·obtain⟨es,rfl,o,rfl⟩:=e;exact q p _ (es.trans (zF hp _)) (es.free hp) (by rw[zB];rfl)
theorem XQ(bi:Bi mg)(be:mg "enumerate"=none)(F:gI K "spots_under" "spots_under" s_B f fd):dI P w K mg base fZ 1 f fd ["spots","pairs","n"] spSu:=by
 refine F.okz sc_B λfD A outer s H vs Q E hr h=>?_
 obtain⟨sa,d,sp,ls,n,rfl,hs,hl,hd,q⟩:=h;refine⟨_,(zG (zO (yS ["a","i"] ["pairs","n"] [1,2] (jR rfl be (zA (pv 0) zC)) (λ_ _ _ _ nd=>qT (K:=K) (n:=2) rfl (zX (yG 0 nd) (zX (yG 1 nd) xG))) (λ_ _ _ _=>kD (kU (XJ (xT hr) (zQ (zA (pv 1) (zA (pv 3) zC))) (pv 2)) (by with_unfolding_all rfl))) (λ_ _ _ _=>(pv 0))))),?_⟩;dsimp![vK];refine⟨sp.map nV,hs,?_⟩;refine ZC (xs:=sp.map nV) (λi ys σ H'=>bA H H'/\ys=((List.range i).filter λa=>rl ls (sp.getD a 0) n).map nV/\∃o1 o2,σ=[o1,o2,some (V.ref d),some (V.int n)]) ⟨bA.refl _,rfl,_,_,rfl⟩ (small (by rw[aE];lia)) (λi ys σ H' e=>?_) (λi ys σ H' e=>e.1 _ _ hs) (λi x ys σ H' p C D hx e hp hC hD=>?_) (λys σ H' e p hp=>?_)
 ·obtain⟨_,rfl,_⟩:=e;rw[aE];exact cR (iN _ _) (by rw[eY];exact aG _)
 ·obtain⟨es,rfl,o1,o2,rfl⟩:=e;rw[aK]at hx;obtain⟨y,hy,rfl⟩:=aO.mp hx;have ey:sp.getD i 0=y:=by rw[bZ,hy];rfl
  have e1:=es.trans (zF hp (.tup [V.int i,nV y]));dsimp![vN,jY,wD,LY];refine⟨_,dN.of zB,rfl,_,_,rfl,_,_,rfl,rfl,?_⟩;generalize upd H' p (.tup [V.int i,nV y])=H1 at e1⊢;refine⟨small (),λp2 lX=>⟨_,dgB hd (e1.trans (zF lX _)) zB,?_⟩⟩;have e2:=e1.trans (zF lX (.tup [V.int y,V.int n]));rw[show(yM (sF ls) (xF (y:Int) (n:Int))).isSome=rl ls y n from YJ ls _ _];cases c:rl ls y n with
  |true=>
   rw[aL rfl];exact hC _ _ _ ⟨e2,by rw[gH,fI,aU,lA,ey,c];rfl,_,_,rfl⟩
  |false=>
   rw[aH ()];exact hD _ _ ⟨e2,by rw[gH,fI,aU,lA,ey,c];simp,_,_,rfl⟩
 ·obtain⟨es,rfl,_⟩:=e;exact q p _ (es.trans (zF hp _)) (es.free hp) (by rw[zB,aE];rfl)
theorem JN(bi:Bi mg)(be:mg "enumerate"=none)(F:gI K "clashes_by" "clashes_by" s_x f fd):dI P w K mg base fZ 1 f fd ["spots","pairs"] spCb:=by
 refine F.okz cw λfD A outer s H vs Q E hr h=>?_
 obtain⟨sa,d,sp,ls,rfl,hs,hl,iY,hd,q⟩:=h;refine⟨_,(zD (yE 2 cw.nd (xH zC)) (zD (yI bM rfl (jR rfl be (zA (pv 0) zC)) (vA rfl (zX (US (i:=3) cw.nd rfl (Or.inr rfl)) (zX (US (i:=4) cw.nd rfl (Or.inr rfl)) xG))) (zG (zU (jD bT gU lK MW (pv 2) (zA (yS ["b","j"] ["a","pairs","i"] [3,1,4] (jR rfl be (zA (pv 0) zC)) (λ_ _ _ _ nd=>qT (K:=K) (n:=2) rfl (zX (yG 0 nd) (zX (yG 1 nd) xG))) (λ_ _ _ _=>kD (PW.pt (uY (zP ZM (pv 2) (pv 0) (zV _)) (vV (kU (XJ (xT hr) (zQ (zA (pv 4) (zA (zN kX (pv 1) zE) zC))) (pv 3)) (by with_unfolding_all rfl)))))) (λ_ _ _ _=>(zQ (zA (pv 2) (zA (pv 0) zC))))) zC))))) (zG (zO (pv 2))))),?_⟩;refine zH λN hN=>?_
 dsimp![];refine⟨small (),λp hp=>hN _ _ ?_⟩;clear hN;have s0:=zF hp (.lst []);have k0:upd H p (.lst []) p=some (.lst []):=zB;generalize upd H p (.lst [])=H0 at s0 k0⊢;refine yA (λσ H'=>∃(us:List V)(o3 o4:Option V),bA H H'/\H' p=some (.lst us)/\bG H' ((wR sp (rl ls)).map OD) us/\σ=[some (V.ref sa),some (V.ref d),some (V.ref p),o3,o4]) (λN hN=>?_) (λσ H' h=>?_)
 ·dsimp![vK];refine⟨sp.map nV,s0 _ _ hs,?_⟩;refine YR (xs:=sp.map nV) (λi σ H'=>∃(us:List V)(o3 o4:Option V),bA H H'/\H' p=some (.lst us)/\bG H' (((List.range i).flatMap λa=>((List.range sp.length).filter λb=>decide (a<b)&&rl ls (sp.getD a 0) (lQ (sp.getD b 0))).map λb=>(a,b)).map OD) us/\us.length<=60*i/\σ=[some (V.ref sa),some (V.ref d),some (V.ref p),o3,o4]) ⟨[],_,_,s0,k0,rfl,aG _,rfl⟩ (λi σ H' h=>by obtain⟨_,_,_,e,_⟩:=h;exact e _ _ hs) (λi x σ H' p1 hx h hp1 M hM=>?_) (λσ H' h=>?_)
  ·obtain⟨us,o3,o4,es,kp,hd1,hul,rfl⟩:=h;rw[aK]at hx;obtain⟨y,hy,rfl⟩:=aO.mp hx;have ey:sp.getD i 0=y:=by rw[bZ,hy];rfl
   have hi:=(aC.mp hy).1;have e1:=zF hp1 (.tup [V.int i,nV y]);dsimp![vN,jY,wD,vK,IF];refine⟨_,dN.of zB,rfl,_,_,rfl,_,_,rfl,rfl,.inl ⟨rfl,_,dL.of (e1 _ _ kp)⟩,sp.map nV,(es.trans e1) _ _ hs,?_⟩;replace kp:=e1 _ _ kp;replace hd1:=bG.same e1 hd1;replace es:=es.trans e1;generalize upd H' p1 (.tup [V.int i,nV y])=H1 at kp hd1 es⊢;refine ZC (xs:=sp.map nV) (λj ys σ H2=>bA H1 H2/\bG H2 ((((List.range j).filter λb=>decide (i<b)&&rl ls y (lQ (sp.getD b 0))).map λb=>(i,b)).map OD) ys/\ys.length<=j/\∃o1 o2,σ=[o1,o2,some (V.int i),some (V.ref d),some (V.int y)]) ⟨bA.refl _,rfl,aG _,_,_,rfl⟩ (small (by rw[aE];lia)) (λj ys σ H2 e=>e.2.2.1) (λj ys σ H2 e=>(es.trans e.1) _ _ hs) (λj x ys σ H2 p2 C D hx e lX hC hD=>?_) (λys σ H2 e p2 lX=>?_)
   ·obtain⟨e2,hys,hyl,o1,o2,rfl⟩:=e;rw[aK]at hx;obtain⟨u,hu,rfl⟩:=aO.mp hx;have eu:sp.getD j 0=u:=by rw[bZ,hu];rfl
    have e3:=e2.trans (zF lX (.tup [V.int j,nV u]));replace hys:=bG.same (zF lX (.tup [V.int j,nV u])) hys;dsimp![vN,jY,wD,LY];refine⟨_,dN.of zB,rfl,_,_,rfl,_,_,rfl,rfl,?_⟩;generalize upd H2 p2 (.tup [V.int j,nV u])=H3 at e3 hys⊢;have no:(decide (i<j)&&rl ls y (lQ (sp.getD j 0)))=false->∀H4,bA H3 H4->D [some (V.int j),some (V.int u),some (V.int i),some (V.ref d),some (V.int y)] H4:=λc H4 e4=>hD _ _ ⟨e3.trans e4,by rw[gH,fI,lA,c];simpa using bG.same e4 hys,(),_,_,rfl⟩
    refine⟨_,rfl,?_⟩;by_cases c1:i<j
    ·rw[aL ()];refine⟨_,rfl,?_⟩;rw[DQ,qF];refine⟨small (),λp3 hp3=>⟨_,dgB hd ((es.trans e3).trans (zF hp3 _)) zB,?_⟩⟩;have e4:=zF hp3 (.tup [V.int y,V.int ((lQ u:Nat):Int)]);rw[show(yM (sF ls) (xF (y:Int) ((lQ u:Nat):Int))).isSome=rl ls y (lQ u)from YJ ls _ _];cases c:rl ls y (lQ u)with
     |true=>
      rw[aL rfl];refine⟨small (),λp4 hp4=>hC _ _ _ ⟨(e3.trans e4).trans (zF hp4 _),?_,by rw[aI];simp;lia,_,_,rfl⟩⟩;rw[gH,fI,lA,eu,c,dX c1,aU,aU];exact bG.append (bG.same (e4.trans (zF hp4 _)) hys) (bG.one ⟨p4,_,rfl,zB,_,_,rfl,rfl,_,_,rfl,rfl,rfl⟩)
     |false=>
      rw[aH ()];exact no (by rw[eu,c,oM]) _ e4
    ·rw[aH ()];exact no (by rw[dE c1,fK]) _ (bA.refl _)
   ·obtain⟨e2,hys,hyl,o1,o2,rfl⟩:=e;rw[aE]at hys hyl;have kp2:=e2 _ _ kp;have n2:p2≠p:=λz=>by rw[z,kp2]at lX;cases lX
    have e3:=zF lX (.lst ys);refine⟨p2,rfl,us,e3 _ _ kp2,ys,zB,cR (m:=1000000) () (),?_⟩;have kp3:=e3 _ _ kp2;have tsm:cT (upd H2 p2 (.lst ys)) (upd (upd H2 p2 (.lst ys)) p (.lst (us++ys))):=(cT.refl _).upd_lst kp3;refine hM _ _ ⟨us++ys,_,_,((es.trans e2).trans e3).upd hp,zB,?_,by rw[aI];lia,rfl⟩;rw[gH,hV,aU];refine bG.append (XL (e2.tups.trans (e3.tups.trans tsm)) hd1) ?_;rw[List.flatMap_cons,List.flatMap_nil,cN,ey];exact XL (e3.tups.trans tsm) hys
  ·obtain⟨us,o3,o4,es,kp,hd1,_,rfl⟩:=h;rw[aE]at hd1;exact hN _ _ ⟨us,_,_,es,kp,hd1,rfl⟩
 obtain⟨us,o3,o4,es,kp,hd1,rfl⟩:=h;dsimp![];exact q p us _ es hp kp hd1
abbrev s_M:Stmt:=top 54
theorem dg:cC ["sheet","lines","pairs","spots","names"] ["sheet","lines"] (zK s_M):=by rfl'
theorem AN{α β:Type}{f:α->β}{l' l:List β}(h:l'.Perm l):∀T:List α,l=T.map f->∃T':List α,T'.Perm T/\l'=T'.map f:=by
 induction h with
 |nil=>intro T e;exact⟨T,sC _,e⟩
 |cons x _ ih=>
  intro T e;cases T with
  |nil=>cases e
  |cons t T1=>
   rw[cF]at e;obtain⟨e1,e2⟩:=tG e;obtain⟨T',p,e3⟩:=ih T1 e2;exact⟨t::T',p.cons _,by rw[cF,e1,e3]⟩
 |swap x y l=>
  intro T e;cases T with
  |nil=>cases e
  |cons t1 T=>
   cases T with
   |nil=>cases (tG e).2
   |cons t2 T1=>
    rw[cF,cF]at e;obtain⟨e1,e2⟩:=tG e;obtain⟨e2,e3⟩:=tG e2;exact⟨t2::t1::T1,List.Perm.swap ..,by rw[cF,cF,e1,e2,e3]⟩
 |trans _ _ ih1 ih2=>
  intro T e;obtain⟨T1,p1,e1⟩:=ih2 T e;obtain⟨T2,p2,e2⟩:=ih1 T1 e1;exact⟨T2,p2.trans p1,e2⟩
def TD(aD:List Rw)(k:Nat):Option Str:=match aD[k]? with |some (.nm x)=>some x |_=>none
def IT(aD:List Rw):List (Str×Nat):=(List.range aD.length).filterMap λk=>(TD aD k).map λx=>(x,k)
abbrev Ro:=Addr×Str×Addr×List Nat
def WZ(H:Hp)(m:Nat)(T:List Ro):Prop:=∀e∈T,H e.1=some (.tup [.str e.2.1,.ref e.2.2.1])/\H e.2.2.1=some (.lst (e.2.2.2.map nV))/\(∀i∈e.2.2.2,i<m)/\e.2.2.2.Pairwise (· < ·)
theorem WZ.same{m:Nat}{T:List Ro}(e:bA H H')(h:WZ H m T):WZ H' m T:=λr hr=>let ⟨h1,h2,h3⟩:=h r hr;⟨e _ _ h1,e _ _ h2,h3⟩
structure WoAt(H0 H:Hp)(wa:Addr)(sp:List Nat)(aD:List Rw)(ls:List Ln)(T:List Ro)(ca la:Addr)(us:List V):Prop where
 tup:H wa=some (.tup [nV sp.length,.ref ca,.ref la])
 cl:H ca=some (.lst us)
 dat:bG H ((wR sp (rl ls)).map OD) us
 lst:H la=some (.lst ((T.map (·.1)).map V.ref))
 tr:WZ H sp.length T
 is:∀e∈T,∃k,(e.2.1,k)∈IT aD/\e.2.2.2=jI sp (rl ls) (2*k)
 perm:(T.map (·.2.1)).Perm ((IT aD).map (·.1))
inductive PN (K:W.Frag) (vs:List V) (H:Hp) (Q:VK) (E:XK):Prop
 |mk (sa la:Addr) (us ws:List V) (aD:List Rw) (ls:List Ln) (_:vs=[.ref sa,.ref la]) (_:H sa=some (.lst us)) (_:gD K H aD us) (_:aD.length<=30) (_:(IT aD).length<=3) (_:((IT aD).map (·.1)).Nodup) (_:H la=some (.lst ws)) (_:jZ H ls ws) (_:ls.length<=10000) (_:(ls.map λl=>xF l.i l.j).Nodup) (_:(zR ls 1 0=true->∀H',bA H H'->Q .non H')) (_:(zR ls 1 0=false->∀wa T ca ra vs H',bA H H'->WoAt H H' wa (yQ (2*aD.length) (rl ls)) aD ls T ca ra vs->Q (.ref wa) H'))
theorem AV(bi:Bi mg)(be:mg "enumerate"=none)(h_V:gS P w K mg base 1 "spots_by" ["many","pairs"] spSb)(h_B:gS P w K mg base 1 "spots_under" ["spots","pairs","n"] spSu)(h_x:gS P w K mg base 1 "clashes_by" ["spots","pairs"] spCb)(F:gI K "world_of" "world_of" s_M f fd):dI P w K mg base fZ 2 f fd ["sheet","lines"] (PN K):=by
 refine F.okz dg λfD A outer s H vs Q E hr h=>?_
 obtain⟨sa,la,us,ws,aD,ls,rfl,hsa,hrw,hrl,hn3,hnn,hla,hls,hll,hkn,qn,qw⟩:=h;refine⟨_,(zD (qZ (i:=2) dg.nd rfl (Or.inr rfl) (xO (CQ (VZ hr)) rfl bi.dict YT (zA (yS ["line"] [] [] (yF (pv 1)) (λ_ _ _ _ nd=>yG 0 nd) (λ_ _ _ _=>yW) (λ_ _ _ _=>(zQ (zA (zQ (zA (zL (uL K) (pv 0) zE) (zA (zL (uL K) (pv 0) zE) zC))) (zA IN zC))))) zC))) (zD (yK (kU (XJ (xT hr) (zQ (zA zE (zA zE zC))) (pv 2)) (by with_unfolding_all rfl)) (zG (zO uI)) zZ) (zD (qZ (i:=3) dg.nd rfl (Or.inr rfl) (zI h_V hr.m rfl (zA (zN xR zE (yC yL rfl bi.len xE (zA (pv 0) zC))) (zA (pv 2) zC)))) (zD (UQ (i:=4) ["k","row"] ["spots","pairs"] [3,2] dg.nd rfl (jR rfl be (zA (pv 0) zC)) (λ_ _ _ _ nd=>qT (K:=K) (n:=2) rfl (zX (yG 0 nd) (zX (yG 1 nd) xG))) (λ_ _ _ _=>kD (zP xK (zL (uL K) (pv 1) zE) zT (zV _))) (λ_ _ _ _=>(zQ (zA (zL (uL K) (pv 1) zE) (zA (zI h_B hr.m rfl (zA (pv 2) (zA (pv 3) (zA (zN xR zE (pv 0)) zC)))) zC))))) (zG (zO (zQ (zA (yC yL rfl bi.len xE (zA (pv 3) zC)) (zA (zI h_x hr.m rfl (zA (pv 3) (zA (pv 2) zC))) (zA (yC VO rfl bi.sorted ZJ (zA (pv 4) zC)) zC)))))))))),?_⟩;refine zH λN hN=>?_
 dsimp![];have hwl:ws.length=ls.length:=by have :=bG.length hls;rwa[aE]at this
 refine⟨⟨_,dL.of hla⟩,?_⟩;refine jS (xs:=ws) (λi ys σ H'=>bA H H'/\(∃as bs:List Addr,ys=as.map V.ref/\as.length=i/\bs.length=i/\∀(j:Nat)(a b:Addr)(l:Ln),as[j]?=some a->bs[j]?=some b->ls[j]?=some l->H' a=some (.tup [.ref b,.bl true])/\H' b=some (.tup ((xF l.i l.j).map kV)))/\∃o,σ=[o]) ⟨bA.refl _,⟨[],[],rfl,rfl,rfl,λj a b l h=>by simp at h⟩,_,rfl⟩ (cR (m:=1000000) () ()) (λi ys σ H' e=>?_) (λi ys σ H' e=>dL.of (e.1 _ _ hla)) (λi x ys σ H' C hx e hC=>?_) (λys σ H' e p hp=>?_)
 ·obtain⟨_,⟨as,bs,rfl,h1,_⟩,_⟩:=e;rw[aE,h1];exact aG _
 ·obtain⟨es,⟨as,bs,rfl,h1,h2,h3⟩,o,rfl⟩:=e;obtain⟨l,hl,hx'⟩:=jE hls hx;obtain⟨a0,b0,us0,rfl,g1,_⟩:=LnAt.out hx';replace g1:=es _ _ g1;dsimp![];refine⟨_,dN.of g1,_,lS,_,dN.of g1,_,yD (j:=1) rfl,small (),λb' hb'=>⟨small (),λa' ha'=>hC _ _ _ ?_⟩⟩;have e1:=zF hb' (.tup [V.int l.i,V.int l.j]);have e2:=zF ha' (.tup [V.ref b',V.bl true]);refine⟨es.trans (e1.trans e2),⟨as++[a'],bs++[b'],by rw[aU];rfl,by rw[aI,h1];rfl,by rw[aI,h2];rfl,λj a b l' ha hb fG=>?_⟩,_,rfl⟩;by_cases hj:j<i
  ·rw[bE ()]at ha hb;obtain⟨k1,k2⟩:=h3 j a b l' ha hb fG;exact⟨(e1.trans e2) _ _ k1,(e1.trans e2) _ _ k2⟩
  ·have ej:j=i:=by
    have :=(aC.mp ha).1;rw[aI]at this;simp at this;lia
   rw[ej,←h1,bN (aG _)]at ha;rw[ej,←h2,bN (aG _)]at hb;simp at ha hb;subst ha hb;rw[ej,hl]at fG;cases fG;exact⟨zB,e2 _ _ zB⟩
 obtain⟨es,⟨as,bs,rfl,h1,h2,h3⟩,o,rfl⟩:=e;have e1:=zF hp (.lst (as.map V.ref));refine⟨p,rfl,as,dL.of zB,sF ls,by unfold sF;rw[aE];lia,by unfold sF;rw[eC];exact hkn,λi k v hi=>?_,λd hd=>hN _ _ ?_⟩
 ·unfold sF at hi;rw[aK]at hi;obtain⟨l,hl,el⟩:=aO.mp hi;cases el;have hil:=(aC.mp hl).1;obtain⟨k1,k2⟩:=h3 i as[i] bs[i] l (aA ()) (aA ()) hl;exact⟨_,aA (),_,dN.of (e1 _ _ k1),e1 _ _ k2⟩
 clear hN h3;have s1:=(es.trans e1).trans (zF hd (.dT (sF ls)));have kd:upd (upd H' p (.lst (as.map V.ref))) d (.dT (sF ls)) d=some (.dT (sF ls)):=zB;generalize upd (upd H' p (.lst (as.map V.ref))) d (.dT (sF ls))=H1 at s1 kd⊢;clear es e1 hp hd h1 h2;refine zH λN hN=>?_
 dsimp![LY];refine⟨small (),λp hp=>⟨_,dgB kd (zF hp _) zB,?_⟩⟩;replace s1:=s1.trans (zF hp (.tup [V.int 1,V.int 0]));replace kd:=zF hp (.tup [V.int 1,V.int 0]) _ _ kd;rw[YJ];generalize upd H1 p (.tup [V.int 1,V.int 0])=H2 at s1 kd⊢;cases c:zR ls 1 0 with
 |true=>
  rw[aL rfl];exact qn c _ s1
 |false=>
 rw[aH ()];refine hN _ _ ?_;clear hN qn hp;have qw:=qw c;refine zH λN hN=>?_
 dsimp![];have hul:=hrw.len;refine⟨us.length,.inl ⟨_,dL.of (s1 _ _ hsa),rfl⟩,.inl ⟨(),()⟩,2*aD.length,d,ls,by rw[hul];rfl,(),kd,λps H3 s3 fps kps=>hN _ _ ?_⟩;clear hN;replace s1:=s1.trans s3;replace kd:=s3 _ _ kd;clear fps;refine zH λN hN=>?_
 dsimp![vK];have hm60:(yQ (2*aD.length) (rl ls)).length<=60:=cR (iN _ _) (by rw[eY];lia);have hsl:∀x∈yQ (2*aD.length) (rl ls),x<200:=λx hx=>by have :=bR.mp (cY.mp hx).1;lia
 have hud:∀n,(∀i∈jI (yQ (2*aD.length) (rl ls)) (rl ls) n,i<(yQ (2*aD.length) (rl ls)).length)/\(jI (yQ (2*aD.length) (rl ls)) (rl ls) n).Pairwise (· < ·):=λn=>⟨λi hi=>bR.mp (cY.mp hi).1,gQ _ dQ⟩
 have e0:∀{q:Nat->Option (Str×Nat)}{i:Nat},(List.range (i+1)).filterMap q=(List.range i).filterMap q++(q i).toList:=λ{q i}=>by
  rw[gH,List.filterMap_append];cases h:q i<;>simp[h]
 generalize yQ (2*aD.length) (rl ls)=sp at kps qw hm60 hsl hud;refine⟨us,s1 _ _ hsa,?_⟩;refine ZC (xs:=us) (λi ys σ H'=>bA H3 H'/\(∃T:List Ro,ys=(T.map (·.1)).map V.ref/\T.length<=i/\WZ H' sp.length T/\(T.map λe=>(e.2.1,e.2.2.2))=((List.range i).filterMap λk=>(TD aD k).map λx=>(x,k)).map (λq=>(q.1,jI sp (rl ls) (2*q.2)))/\(∀e∈T,H3 e.2.2.1=none)/\(T.map (·.2.2.1)).Nodup)/\∃o1 o2,σ=[o1,o2,some (V.ref ps),some (V.ref d)]) ⟨bA.refl _,⟨[],rfl,aG _,(λe he=>by cases he),rfl,(λe he=>by cases he),.nil⟩,_,_,rfl⟩ (small ()) (λi ys σ H' e=>?_) (λi ys σ H' e=>(s1.trans e.1) _ _ hsa) (λi x ys σ H' p C D hx e hp hC hD=>?_) (λys σ H' e p hp=>hN _ _ ?_)
 ·obtain⟨_,⟨T,rfl,h1,_⟩,_⟩:=e;rw[aE,aE];exact h1
 ·obtain⟨es,⟨T,rfl,h1,h2,h3,h4,h5⟩,o1,o2,rfl⟩:=e;obtain⟨r,hri,mV⟩:=hrw.get hx;obtain⟨ra,x,us',rfl,g1,g2⟩:=GR.out mV;have e1:=zF hp (.tup [V.int i,V.ref ra]);have g1':=g1.same (s1.trans (es.trans e1));replace h2:=h2.same e1;replace es:=es.trans e1;dsimp![vN,jY,wD];refine⟨_,dN.of zB,rfl,_,_,rfl,_,_,rfl,rfl,?_⟩;generalize upd H' p (.tup [V.int i,V.ref ra])=H4 at es g1' h2⊢;have no:TD aD i=none->D [some (V.int i),some (V.ref ra),some (V.ref ps),some (V.ref d)] H4:=λhn=>hD _ _ ⟨es,⟨T,rfl,(),h2,by rw[e0,hn];simpa using h3,h4,h5⟩,_,_,rfl⟩
  refine⟨_,rfl,_,g1'.sq,_,lS,rfl,?_⟩;cases r with
  |no=>
   obtain⟨rfl,rfl⟩:=g2;rw[aH ()];exact no (by unfold TD;rw[hri])
  |bo i' j'=>
   obtain⟨rfl,rfl⟩:=g2;rw[aH ()];exact no (by unfold TD;rw[hri])
  |nm y=>
  obtain⟨rfl,rfl⟩:=g2;rw[aL rfl];have hn:TD aD i=some y:=by unfold TD;rw[hri]
  refine⟨ra,rfl,_,g1'.sq,_,pH,_,rfl,.inl ⟨(),()⟩,ps,d,sp,ls,2*i,by rw[show(2:Int)*(i:Int)=((2*i:Nat):Int) by lia],es _ _ kps,(),es _ _ kd,λpl H5 s5 fpl kpl=>⟨small (),λp4 hp4=>hC _ _ _ ?_⟩⟩;have e5:=zF hp4 (.tup [V.str y,V.ref pl]);refine⟨es.trans (s5.trans e5),⟨T++[(p4,y,pl,jI sp (rl ls) (2*i))],by rw[aU,aU];rfl,by rw[aI];simp;lia,λe he=>?_,?_,λe he=>?_,?_⟩,_,_,rfl⟩
  ·rcases bS.mp he with he |he
   ·exact(h2.same (s5.trans e5)) e he
   ·rw[aT.mp he];exact⟨zB,e5 _ _ kpl,hud _⟩
  ·rw[e0,hn,aU,aU,h3];rfl
  ·rcases bS.mp he with he |he
   ·exact h4 e he
   ·rw[aT.mp he];exact es.free fpl
  ·rw[aU,mL];refine⟨h5,by simp,λa ha b hb e=>?_⟩;rw[cF,pW,aT]at hb;obtain⟨t,ht,rfl⟩:=bP.mp ha;have :=(h2 t ht).2.1;rw[e,hb,fpl]at this;cases this
 clear hN;obtain⟨es,⟨T,rfl,h1,h2,h3,h4,h5⟩,o1,o2,rfl⟩:=e;have e1:=zF hp (.lst ((T.map (·.1)).map V.ref));have k4:upd H' p (.lst ((T.map (·.1)).map V.ref)) p=some (.lst ((T.map (·.1)).map V.ref)):=zB;replace h2:=h2.same e1;replace es:=es.trans e1;generalize upd H' p (.lst ((T.map (·.1)).map V.ref))=H4 at es k4 h2⊢;rw[hul]at h3;have h3n:T.map (·.2.1)=(IT aD).map (·.1):=by
  have :=dH (List.map Prod.fst) h3;rwa[eC,eC]at this
 dsimp![];refine⟨sp.length,.inl ⟨_,dL.of (es _ _ kps),(aE _).symm⟩,ps,d,sp,ls,rfl,es _ _ kps,hm60,hsl,es _ _ kd,λca vs H5 s5 fca kca hdc=>?_⟩;have h2':=h2.same s5;refine⟨T.map (·.1),s5 _ _ k4,T.map (·.2.1),by rw[aE,aE],by rw[h3n,aE];lia,by rw[h3n];exact hnn,λi a z ha hz=>?_,λl as' hl hpa=>⟨small (),λwa hwa=>?_⟩⟩
 ·rw[aK]at ha hz;obtain⟨t,ht,rfl⟩:=aO.mp ha;rw[ht]at hz;cases hz;exact⟨_,(h2' t (aV ht)).1⟩
 obtain⟨T',hT,rfl⟩:=AN hpa T rfl;have el:=zF hl (.lst ((T'.map (·.1)).map V.ref));have ew:=zF hwa (.tup [V.int sp.length,V.ref ca,V.ref l]);have elw:=el.trans ew;have hall:bA H4 (upd (upd H5 l (.lst ((T'.map (·.1)).map V.ref))) wa (.tup [V.int sp.length,V.ref ca,V.ref l])):=s5.trans elw;refine qw wa T' ca l vs _ ((s1.trans es).trans hall) ⟨zB,elw _ _ kca,bG.same elw hdc,ew _ _ zB,λe he=>(h2.same hall) e (hT.mem_iff.mp he),λe he=>?_,?_⟩
 ·have :(e.2.1,e.2.2.2)∈T.map λe=>(e.2.1,e.2.2.2):=bP.mpr ⟨e,hT.mem_iff.mp he,rfl⟩
  rw[h3]at this;obtain⟨q,hq,eq⟩:=bP.mp this;injection eq with q1 q2
  exact⟨q.2,by rw[←q1];exact hq,q2.symm⟩
 ·rw[←h3n];exact hT.map _
theorem DE{α:Type}{xs:List α}{n:Int}{x:α}(h0:0<=n)(h:xs[n.toNat]?=some x):oV xs n=some x:=by
 obtain⟨m,rfl⟩:∃m:Nat,n=(m:Int):=⟨n.toNat,()⟩
 exact yD (by simpa using h)
def GW(x:Str)(as:List Wt):Prop:=(x≠"rule"/\∃ns:List Int,as=ns.map .n/\ns.length<=2)\/(x="rule"/\∃r ps,as=[.n r,.ps ps]/\ps.length<=100)
theorem p7{H:Hp}:∀{ns:List Int}{us:List V},JH H (ns.map .n) us->us=ns.map V.int
 |[],us,h=>h
 |n::ns,us,h=>by
  obtain⟨v,r,e1,e2,e3⟩:=h;have e2:v=.int n:=e2;rw[e1,e2,p7 e3];rfl
theorem atNs(H:Hp):∀ns:List Int,JH H (ns.map .n) (ns.map V.int)
 |[]=>rfl
 |n::ns=>⟨_,_,rfl,rfl,atNs H ns⟩
theorem gwN(x:Str)(h:x≠"rule")(ns:List Int)(hn:ns.length<=2):GW x (ns.map .n):=.inl ⟨h,ns,rfl,hn⟩
def plc(x:Str)(as:List Wt):List Int:=if x="rule" then(match as with |[_,.ps ps]=>ps |_=>[])else as.filterMap λa=>match a with | .n i=>some i | .ps _=>none
def GL(n:Nat)(x:Str)(as:List Wt):Prop:=GW x as/\∀p∈plc x as,0<=p/\p<(n:Int)
theorem d7{x:Str}(h:x≠"rule")(ns:List Int):plc x (ns.map .n)=ns:=by
 unfold plc;rw[aH h,oJ]
 induction ns with
 |nil=>rfl
 |cons n ns ih=>simp[ih]
theorem d6(r:Wt)(ps:List Int):plc "rule" [r,.ps ps]=ps:=by
 unfold plc;rw[aL rfl]
theorem glN(n:Nat)(x:Str)(h:x≠"rule")(ns:List Int)(hn:ns.length<=2)(hp:∀p∈ns,0<=p/\p<(n:Int)):GL n x (ns.map .n):=⟨gwN x h ns hn,by rw[d7 h];exact hp⟩
theorem glR(n:Nat)(r:Int)(ps:List Int)(hl:ps.length<=100)(hp:∀p∈ps,0<=p/\p<(n:Int)):GL n "rule" [.n r,.ps ps]:=⟨.inr ⟨rfl,r,ps,rfl,hl⟩,by rw[d6];exact hp⟩
abbrev s_C:Stmt:=top 45
theorem sc_C:cC ["why"] ["why"] (zK s_C):=by rfl'
abbrev n8:Stmt:=top 46
theorem sc_ab:cC ["why","places"] ["why","places"] (zK n8):=by rfl'
abbrev s_P:Stmt:=top 47
theorem ng:cC ["lines","i","j","k","line"] ["lines","i","j"] (zK s_P):=by rfl'
abbrev s_Y:Stmt:=top 48
theorem df:cC ["lines","k","needed","n","p"] ["lines","k"] (zK s_Y):=by rfl'
abbrev n5:Stmt:=top 49
theorem HV:cC ["lines","i","j","k","kept","places"] ["lines","i","j"] (zK n5):=by rfl'
def jH(ks ps:List Int):List Int:=ps.foldl (λks p=>if p∈ks then ks else ks++[p]) ks
theorem ZV(ks:List Int)(p:Int)(ps:List Int):jH ks (p::ps)=jH (if p∈ks then ks else ks++[p]) ps:=rfl
theorem DH(ks ps:List Int)(p:Int):jH ks (ps++[p])=if p∈jH ks ps then jH ks ps else jH ks ps++[p]:=by
 unfold jH;rw[List.foldl_append];rfl
theorem jO(z:Int):∀(ps ks:List Int),z∈jH ks ps↔z∈ks\/z∈ps
 |[],ks=>by simp[jH]
 |p::ps,ks=>by
  rw[ZV,jO z ps];by_cases h:p∈ks
  ·rw[aL h,bK];constructor
   ·rintro(h1 |h1)
    ·exact .inl h1
    ·exact .inr (.inr h1)
   ·rintro(h1 |rfl |h1)
    ·exact .inl h1
    ·exact .inl h
    ·exact .inr h1
  ·rw[aH h,bS,aT,bK];constructor
   ·rintro((h1 |h1) |h1)
    ·exact .inl h1
    ·exact .inr (.inl h1)
    ·exact .inr (.inr h1)
   ·rintro(h1 |h1 |h1)
    ·exact .inl (.inl h1)
    ·exact .inl (.inr h1)
    ·exact .inr h1
theorem FF{p:Int}(h:ks.Nodup)(hp:p∉ks):(ks++[p]).Nodup:=
 mL.mpr ⟨h,by simp,λa ha b hb e=>hp (by rw[aT.mp hb]at e;rw[←e];exact ha)⟩
theorem qA:∀(ps ks:List Int),ks.Nodup->(jH ks ps).Nodup
 |[],ks,h=>h
 |p::ps,ks,h=>by
  rw[ZV];by_cases hp:p∈ks
  ·rw[aL hp];exact qA ps ks h
  ·rw[aH hp];exact qA ps _ (FF h hp)
def back(nm:Int->List Int)(k:Nat):Nat->List Int
 |0=>[(k:Int)]
 |i+1=>if((k:Int)-i)∈back nm k i then jH (back nm k i) (nm ((k:Int)-i))else back nm k i
theorem uF{k:Nat}(h:((k:Int)-i)∈back nm k i):back nm k (i+1)=jH (back nm k i) (nm ((k:Int)-i)):=by
 show(if _ then _ else _)=_;rw[aL h]
theorem vQ{k:Nat}(h:((k:Int)-i)∉back nm k i):back nm k (i+1)=back nm k i:=by
 show(if _ then _ else _)=_;rw[aH h]
theorem qO(nm:Int->List Int)(k:Nat):∀i,(back nm k i).Nodup
 |0=>by simp[back]
 |i+1=>by
  by_cases h:((k:Int)-i)∈back nm k i
  ·rw[uF h];exact qA _ _ (qO nm k i)
  ·rw[vQ h];exact qO nm k i
theorem kS{nm:Int->List Int}{k:Nat}(hn:∀n:Int,0<=n->n<=k->∀p∈nm n,0<=p/\p<n):∀i,i<=k+1->∀p∈back nm k i,0<=p/\p<=(k:Int)
 |0,_,p,hp=>by
  rw[aT.mp hp];lia
 |i+1,hi,p,hp=>by
  by_cases h:((k:Int)-i)∈back nm k i
  ·rw[uF h,jO]at hp;rcases hp with hp |hp
   ·exact kS hn i () p hp
   ·have :=hn _ () () p hp;lia
  ·rw[vQ h]at hp;exact kS hn i () p hp
theorem DD{k:Nat}{p:Int}(hp:p∈back nm k i):p∈back nm k (i+1):=by
 by_cases h:((k:Int)-i)∈back nm k i
 ·rw[uF h,jO];exact .inl hp
 ·rw[vQ h];exact hp
theorem vR{nm:Int->List Int}{k:Nat}(hn:∀n:Int,0<=n->n<=k->∀p∈nm n,0<=p/\p<n):∀i,i<=k+1->∀n∈back nm k i,(k:Int)-i<n->∀p∈nm n,p∈back nm k i
 |0,_,n,hm,iY,p,hp=>by
  rw[aT.mp hm]at iY;lia
 |i+1,hi,n,hm,iY,p,hp=>by
  by_cases h:((k:Int)-i)∈back nm k i
  ·have hm':=hm;rw[uF h,jO]at hm;by_cases e:n=(k:Int)-i
   ·subst e;rw[uF h,jO];exact .inr hp
   ·rcases hm with hm |hm
    ·exact DD (vR hn i () n hm () p hp)
    ·have :=hn _ () () n hm;lia
  ·rw[vQ h]at hm;have e:n≠(k:Int)-i:=λz=>h (z▸hm)
   exact DD (vR hn i () n hm () p hp)
def uK(ls:List Ln)(n:Int):List Int:=match ls[n.toNat]? with |some l=>plc l.w l.as |none=>[]
def wJ(ls:List Ln):Prop:=∀(i:Nat)(l:Ln),ls[i]?=some l->GL i l.w l.as
theorem kf{ls:List Ln}{n:Int}(h:ls[n.toNat]?=some l):uK ls n=plc l.w l.as:=by
 unfold uK;rw[h]
theorem vD{ls:List Ln}(h:wJ ls):∀n:Int,0<=n->∀p∈uK ls n,0<=p/\p<n:=by
 intro n h0 p hp;unfold uK at hp;cases e:ls[n.toNat]? with
 |none=>rw[e]at hp;cases hp
 |some l=>
  rw[e]at hp;have :=(h _ l e).2 p hp;lia
def CC(ls:List Ln)(k:Nat):List Int:=back (uK ls) k (k+1)
theorem XY(ls:List Ln)(k:Nat):(CC ls k).Nodup:=qO _ _ _
theorem VC{ls:List Ln}(h:wJ ls)(k:Nat):∀p∈CC ls k,0<=p/\p<=(k:Int):=kS (λn h0 _=>vD h n h0) (k+1) (aG _)
theorem CB{ls:List Ln}(h:wJ ls)(k:Nat):∀n∈CC ls k,∀p∈uK ls n,p∈CC ls k:=λn hn p hp=>
 vR (λn h0 _=>vD h n h0) (k+1) (aG _) n hn (by have :=VC h k n hn;lia) p hp
theorem VA{l:List Int}{k:Nat}(hn:l.Nodup)(h:∀p∈l,0<=p/\p<=(k:Int)):l.length<=k+1:=by
 have :=wL (m:=(List.range (k+1)).map λi:Nat=>(i:Int)) hn λx hx=>by
  have :=h x hx;rw[bP];exact⟨x.toNat,by rw[bR];lia,()⟩
 rwa[aE,eY]at this
structure Kept(ls:List Ln)(k:Nat)(ks:List Int):Prop where
 perm:ks.Perm (CC ls k)
 rise:ks.Pairwise (· <= ·)
theorem Kept.nodup{ls:List Ln}{k:Nat}(h:Kept ls k ks):ks.Nodup:=h.perm.nodup_iff.mpr (XY ls k)
theorem Kept.inn{ls:List Ln}{k:Nat}(h:Kept ls k ks)(ha:wJ ls):∀p∈ks,0<=p/\p<=(k:Int):=λp hp=>VC ha k p (h.perm.mem_iff.mp hp)
theorem Kept.closed{ls:List Ln}{k:Nat}(h:Kept ls k ks)(ha:wJ ls):∀n∈ks,∀p∈uK ls n,p∈ks:=λn hn p hp=>h.perm.mem_iff.mpr (CB ha k n (h.perm.mem_iff.mp hn) p hp)
def wA(p:Int):List Int->Nat
 |[]=>0
 |x::xs=>if x=p then 0 else wA p xs+1
def wK:List Int->Nat->List (eI×V)
 |[],_=>[]
 |n::ns,i=>(.inl n,.int i)::wK ns (i+1)
theorem AK:∀(ns:List Int)(i:Nat),(wK ns i).length=ns.length
 |[],_=>rfl
 |n::ns,i=>by show(wK ns (i+1)).length+1=_;rw[AK ns (i+1)];rfl
theorem QA:∀(ns:List Int)(i:Nat),(wK ns i).map (·.1)=ns.map Sum.inl
 |[],_=>rfl
 |n::ns,i=>by show _::(wK ns (i+1)).map (·.1)=_;rw[QA ns (i+1)];rfl
theorem AL:∀{ns:List Int}{i j:Nat}{k:eI}{v:V},(wK ns i)[j]?=some (k,v)->∃n,ns[j]?=some n/\k=.inl n/\v=.int ((i+j:Nat):Int)
 |[],i,j,k,v,h=>by cases h
 |n::ns,i,0,k,v,h=>by
  cases h;exact⟨n,rfl,rfl,rfl⟩
 |n::ns,i,j+1,k,v,h=>by
  obtain⟨m,h1,h2,h3⟩:=AL (ns:=ns) (i:=i+1) (j:=j) h;exact⟨m,h1,h2,by rw[h3];congr 2;lia⟩
theorem XI{p:Int}:∀{ns:List Int}(i:Nat),p∈ns->yM (wK ns i) (.inl p)=some (.int ((i+wA p ns:Nat):Int))
 |[],i,h=>by cases h
 |n::ns,i,h=>by
  by_cases e:n=p
  ·subst e;show yM ((Sum.inl n,V.int i)::wK ns (i+1)) (.inl n)=_;rw[qC rfl];simp[wA]
  ·show yM ((Sum.inl n,V.int i)::wK ns (i+1)) (.inl p)=_;rw[qD (λz=>e (rT z)),XI (i+1) ((bK.mp h).resolve_left (cH e))];have ep:wA p (n::ns)=wA p ns+1:=by
    show(if n=p then 0 else wA p ns+1)=_;rw[aH e]
   rw[ep]
   congr 2
   lia
def OC(ks:List Int)(l:Ln):Ln:=
 if l.w="rule" then⟨l.i,l.j,"rule",[l.as.headD (.n 0),.ps ((plc l.w l.as).map λp=>(wA p ks:Int))]⟩
 else⟨l.i,l.j,l.w,((plc l.w l.as).map λp=>(wA p ks:Int)).map .n⟩
theorem RH{r:Int}{ps:List Int}(hw:l.w="rule")(ha:l.as=[.n r,.ps ps]):OC ks l=⟨l.i,l.j,"rule",[.n r,.ps (ps.map λp=>(wA p ks:Int))]⟩:=by
 unfold OC;rw[aL hw,ha,hw,d6];rfl
theorem dk{ns:List Int}(hw:l.w≠"rule")(ha:l.as=ns.map .n):OC ks l=⟨l.i,l.j,l.w,(ns.map λp=>(wA p ks:Int)).map .n⟩:=by
 unfold OC;rw[aH hw,ha,d7 hw]
def ER(ls:List Ln)(ks:List Int)(i:Nat):List Ln:=(ks.take i).filterMap λn=>(ls[n.toNat]?).map (OC ks)
theorem MK{ls:List Ln}{n:Int}(hn:ks[i]?=some n)(hl:ls[n.toNat]?=some l):ER ls ks (i+1)=ER ls ks i++[OC ks l]:=by
 obtain⟨hi,e⟩:=aC.mp hn;unfold ER;rw[aM hi,e,List.filterMap_append]
 congr 1
 simp[hl]
theorem SG(ls:List Ln)(ks:List Int)(i:Nat):(ER ls ks i).length<=i:=by
 unfold ER;refine cR (List.length_filterMap_le _ _) ?_;rw[bU];lia
def DV(ks:List Int):List (eI×V):=ks.map λn=>(.inl n,.bl true)
theorem bu(ks:List Int)(p:Int):jM (DV ks) (.inl p) (.bl true)=DV (if p∈ks then ks else ks++[p]):=by
 unfold jM;have e:((DV ks).any λkv=>decide (kv.1=(.inl p:eI)))=decide (p∈ks):=by
  unfold DV;rw[List.any_map,cD,eV,bO];constructor
  ·rintro⟨x,hx,h⟩;have h:x=p:=by simpa using h
   exact h▸hx
  ·intro h;exact⟨p,h,by simp⟩
 rw[e];by_cases h:p∈ks
 ·rw[aL (by simpa using h),aL h];unfold DV;rw[eC];refine nX λx _=>?_
  show(if(Sum.inl x:eI)=.inl p then _ else _)=_;split<;>rfl
 ·rw[aH (by simpa using h),aH h];unfold DV;rw[aU];rfl
theorem bt(ks:List Int)(p:Int):(yM (DV ks) (.inl p)).isSome=decide (p∈ks):=by
 unfold yM DV;rw[gL,List.find?_map,gL,cD,List.find?_isSome,bO];constructor
 ·rintro⟨x,hx,h⟩;have h:x=p:=by simpa using h
  exact h▸hx
 ·intro h;exact⟨p,h,by simp⟩
theorem OY(ks:List Int):(DV ks).map (·.1)=ks.map Sum.inl:=by
 unfold DV;rw[eC];rfl
theorem cut_1(x:V)(xs:List V):qM (x::xs) none (some 1)=[x]:=by
 show qM (x::xs) none (some ((1:Nat):Int))=[x]
 unfold qM;rw[HT.sIx_nat,HT.sIx_none,bF,Nat.min_eq_left (),rY,Nat.sub_zero,List.take_succ_cons,List.take_zero]
theorem smB1(h:n<=100000):n<sizeLine:=fH h ()
theorem ax(h:n<=100000):n<=sizeLine:=pV (smB1 h)
inductive spLN (vs:List V) (H:Hp) (Q:VK) (E:XK):Prop
 |mk (v:V) (x:Str) (as:List Wt) (_:vs=[v]) (_:eA H (ZH x as) v) (_:GW x as) (_:∀p H',bA H H'->H' p=some (.tup ((plc x as).map V.int))->Q (.ref p) H')
inductive spRn (vs:List V) (H:Hp) (Q:VK) (E:XK):Prop
 |mk (v:V) (d:Addr) (l:Ln) (ks:List Int) (_:vs=[v,.ref d]) (_:eA H (ZH l.w l.as) v) (_:GW l.w l.as) (_:H d=some (.dK (wK ks 0))) (_:(∀p∈plc l.w l.as,p∈ks)) (_:∀v' H',bA H H'->eA H' (ZH (OC ks l).w (OC ks l).as) v'->Q v' H')
def FP(ls:List Ln)(i j:Int)(r:V):Prop:=(r=.non/\∀l∈ls,¬(l.i=i/\l.j=j))\/∃(k:Nat)(l:Ln),r=.int k/\ls[k]?=some l/\(l.i=i/\l.j=j)/\∀(m:Nat)(l':Ln),m<k->ls[m]?=some l'->¬(l'.i=i/\l'.j=j)
inductive jz (vs:List V) (H:Hp) (Q:VK) (E:XK):Prop
 |mk (la:Addr) (ws:List V) (ls:List Ln) (i j:Int) (_:vs=[.ref la,.int i,.int j]) (_:H la=some (.lst ws)) (_:jZ H ls ws) (_:∀r H',bA H H'->FP ls i j r->Q r H')
theorem XR(bi:Bi mg)(F:gI K "lines_named" "lines_named" s_C f fd):dI P w K mg base fZ 1 f fd ["why"] spLN:=by
 refine F.okz sc_C λfD A outer s H vs Q E hr h=>?_
 obtain⟨v,x,as,rfl,hv,hg,q⟩:=h;have at2:∀{a b c:V},oV [a,b,c] 2=some c:=yD (j:=2) rfl;obtain⟨a,us,rfl,ha,hus⟩:=OP hv;refine⟨_,(zG (zO (vB (zP xK (zL zM (pv 0) zE) zT (zV _)) (zL zM (pv 0) zE) (jC YE (pv 0) (jQ zE) qS)))),?_⟩;dsimp![RN];refine⟨_,dN.of ha,_,lS,rfl,?_⟩;rcases hg with⟨hw,ns,rfl,_⟩ |⟨rfl,r,ps,rfl,_⟩
 ·rw[aH (λe=>hw (V.str.inj e))];have e:=p7 hus;subst e;refine⟨_,ha,λp H' s1 k1=>q p H' s1 ?_⟩;rw[vP]at k1;rw[d7 hw];exact k1
 ·rw[aL rfl];obtain⟨v1,r1,e1,e2,v2,r2,e3,e4,e5⟩:=hus;have e5:r2=[]:=e5;subst e5 e3 e1;obtain⟨b,rfl,hb⟩:=ou e4;refine⟨_,dN.of ha,_,at2,q b H (bA.refl H) ?_⟩;rw[d6];exact hb
theorem EX(bi:Bi mg)(F:gI K "renamed" "renamed" n8 f fd):dI P w K mg base fZ 1 f fd ["why","places"] spRn:=by
 refine F.okz sc_ab λfD A outer s H vs Q E hr h=>?_
 obtain⟨v,d,l,ks,rfl,hv,hg,hd,hin,q⟩:=h;have at2:∀{a b c:V},oV [a,b,c] 2=some c:=yD (j:=2) rfl;obtain⟨a,us,rfl,ha,hus⟩:=OP hv;refine⟨_,(zD (yK (zP xK (zL zM (pv 0) zE) zT (zV _)) (zG (zO (zQ (zA zT (zA (zL zM (pv 0) zE) (zA (xO jU rfl bi.tuple kP (zA (yS ["p"] ["places"] [1] (uZ (zL zM (pv 0) zE)) (λ_ _ _ _ nd=>yG 0 nd) (λ_ _ _ _=>yW) (λ_ _ _ _=>(YK (xT hr) (pv 1) (pv 0) (λ_ _=>rfl)))) zC)) zC)))))) zZ) (zG (zO (zN fg (jC YE (pv 0) qS (jQ zE)) (xO jU rfl bi.tuple kP (zA (yS ["p"] ["places"] [1] (uZ (jC YE (pv 0) (jQ zE) qS)) (λ_ _ _ _ nd=>yG 0 nd) (λ_ _ _ _=>yW) (λ_ _ _ _=>(YK (xT hr) (pv 1) (pv 0) (λ_ _=>rfl)))) zC)))))),?_⟩;refine zH λN hN=>?_
 dsimp![RN,RP];refine⟨_,dN.of ha,_,lS,rfl,?_⟩;rcases hg with⟨hw,ns,has,hn2⟩ |⟨hw,r,ps,has,hp100⟩
 ·rw[aH (λe=>hw (V.str.inj e))];refine hN _ _ ?_;rw[has]at hus;have e:=p7 hus;subst e;rw[has,d7 hw]at hin;rw[dk hw has]at q;dsimp![RN,RP];refine⟨_,ha,λp1 H1 s1 k1=>?_⟩;rw[cut_1]at k1;refine⟨_,s1 _ _ ha,λp2 H2 s2 k2=>?_⟩;rw[vP]at k2;refine⟨⟨_,dN.of k2⟩,?_⟩;refine UY (xs:=ns.map V.int) (λi ys σ H'=>bA H2 H'/\ys=((ns.take i).map λp=>(wA p ks:Int)).map V.int/\∃o,σ=[o,some (V.ref d)]) ⟨bA.refl _,rfl,_,rfl⟩ (ax (by rw[aE];lia)) (λi ys σ H' e=>?_) (λi ys σ H' e=>dN.of (e.1 _ _ k2)) (λi x ys σ H' C hx e hC=>?_) (λys σ H' e p3 hp3=>?_)
  ·obtain⟨_,rfl,_⟩:=e;rw[aE,aE,bU];lia
  ·obtain⟨es,rfl,o,rfl⟩:=e;rw[aK]at hx;cases hni:ns[i]? with
   |none=>rw[hni]at hx;cases hx
   |some n=>
    rw[hni]at hx;cases hx;dsimp![];refine⟨_,.inl ⟨_,.inl n,.inl (es _ _ (s2 _ _ (s1 _ _ hd))),rfl,(XI 0 (hin n (aV hni))).symm⟩,hC _ _ _ ⟨es,?_,_,rfl⟩⟩;obtain⟨hi,e⟩:=aC.mp hni;rw[aM hi,e,aU,aU,iE];rfl
  obtain⟨es,rfl,o,rfl⟩:=e;rw[aE,aQ (aG _)];refine⟨p3,rfl,_,.inl ⟨dL.of zB,λp4 hp4=>?_⟩⟩;have s3:=zF hp3 (.lst ((ns.map λp=>(wA p ks:Int)).map V.int));have s4:=zF hp4 (.tup ((ns.map λp=>(wA p ks:Int)).map V.int));have ss:=(s2.trans es).trans (s3.trans s4);refine⟨_,ss _ _ k1,_,zB,ax (by simp;lia),λp5 H5 s5 k5=>?_⟩;refine q _ _ ((s1.trans ss).trans s5) ⟨p5,_,rfl,k5,_,_,rfl,rfl,atNs _ _⟩
 ·rw[aL (dH V.str hw)];rw[has]at hus;obtain⟨v1,r1,e1,e2,v2,r2,e3,e4,e5⟩:=hus;have e5:r2=[]:=e5;have e2:v1=.int r:=e2;subst e5 e3 e1 e2;obtain⟨b,rfl,hb⟩:=ou e4;rw[hw,has,d6]at hin;rw[RH hw has]at q;refine⟨_,dN.of ha,_,pH,_,dN.of ha,_,at2,b,rfl,⟨_,dN.of hb⟩,?_⟩;refine UY (xs:=ps.map V.int) (λi ys σ H'=>bA H H'/\ys=((ps.take i).map λp=>(wA p ks:Int)).map V.int/\∃o,σ=[o,some (V.ref d)]) ⟨bA.refl _,rfl,_,rfl⟩ (ax (by rw[aE];lia)) (λi ys σ H' e=>?_) (λi ys σ H' e=>dN.of (e.1 _ _ hb)) (λi x ys σ H' C hx e hC=>?_) (λys σ H' e p3 hp3=>?_)
  ·obtain⟨_,rfl,_⟩:=e;rw[aE,aE,bU];lia
  ·obtain⟨es,rfl,o,rfl⟩:=e;rw[aK]at hx;cases hni:ps[i]? with
   |none=>rw[hni]at hx;cases hx
   |some n=>
    rw[hni]at hx;cases hx;dsimp![];refine⟨_,.inl ⟨_,.inl n,.inl (es _ _ hd),rfl,(XI 0 (hin n (aV hni))).symm⟩,hC _ _ _ ⟨es,?_,_,rfl⟩⟩;obtain⟨hi,e⟩:=aC.mp hni;rw[aM hi,e,aU,aU,iE];rfl
  obtain⟨es,rfl,o,rfl⟩:=e;rw[aE,aQ (aG _)];refine⟨p3,rfl,_,.inl ⟨dL.of zB,λp4 hp4=>⟨ax (by simp),λp5 hp5=>?_⟩⟩⟩;have s3:=zF hp3 (.lst ((ps.map λp=>(wA p ks:Int)).map V.int));have s4:=zF hp4 (.tup ((ps.map λp=>(wA p ks:Int)).map V.int));have s5:=zF hp5 (.tup [.str "rule",.int r,.ref p4]);refine q _ _ ((es.trans (s3.trans s4)).trans s5) ⟨p5,_,rfl,zB,_,_,rfl,rfl,_,_,rfl,rfl,_,_,rfl,sn (s5 _ _ zB),rfl⟩
theorem BE(bi:Bi mg)(be:mg "enumerate"=none)(F:gI K "line_for" "line_for" s_P f fd):dI P w K mg base fZ 1 f fd ["lines","i","j"] jz:=by
 refine F.okz ng λfD A outer s H vs Q E hr h=>?_
 obtain⟨la,ws,ls,i,j,rfl,hla,hls,q⟩:=h;have hwl:=uB hls;refine⟨_,(zD (yI bM rfl (jR rfl be (zA (pv 0) zC)) (vA rfl (zX (yG 3 ng.nd) (zX (yG 4 ng.nd) xG))) (zG (yK (zP (kZ hr.units) (zQ (zA (zL zM (pv 4) zE) (zA (zL zM (pv 4) zE) zC))) (zQ (zA (pv 1) (zA (pv 2) zC))) (zV _)) (zG (zO (pv 3))) zZ))) (zG (zO uI))),?_⟩;refine yA (λσ H'=>∃(o1 o2:Option V),bA H H'/\(∀l∈ls,¬(l.i=i/\l.j=j))/\σ=[some (V.ref la),some (V.int i),some (V.int j),o1,o2]) (λN hN=>?_) (λσ H' h=>?_)
 ·dsimp![vK];refine⟨_,hla,?_⟩;refine KO (xs:=ws) (λn σ H'=>∃(o1 o2:Option V),bA H H'/\(∀(m:Nat)(l':Ln),m<n->ls[m]?=some l'->¬(l'.i=i/\l'.j=j))/\σ=[some (V.ref la),some (V.int i),some (V.int j),o1,o2]) ⟨_,_,bA.refl _,(λm l z=>by cases z),rfl⟩ (λn σ H' h=>?_) (λn x σ H' p hx h hp=>?_) (λσ H' h=>?_)
  ·obtain⟨o1,o2,s1,_⟩:=h;exact s1 _ _ hla
  ·obtain⟨o1,o2,s1,hno,rfl⟩:=h;obtain⟨l,hl1,hl2⟩:=jE hls hx;obtain⟨b,u,rfl,hb,_⟩:=TR hl2;have s2:=zF hp (.tup [.int n,.ref b]);have k2:upd H' p (.tup [.int n,.ref b]) p=some (.tup [.int n,.ref b]):=zB;replace s1:=s1.trans s2;generalize upd H' p (.tup [.int n,.ref b])=H2 at s1 k2⊢;replace hb:=s1 _ _ hb;dsimp![vN,jY,wD];refine⟨[.int n,.ref b],dN.of k2,rfl,.int n,[.ref b],rfl,.ref b,[],rfl,rfl,?_⟩;refine⟨b,rfl,_,dN.of hb,_,lS,b,rfl,_,dN.of hb,_,pH,ax (by simp),λp3 h3=>⟨ax (by simp),λp4 h4=>?_⟩⟩;have s3:=zF h3 (.tup [.int l.i,.int l.j]);have s4:=zF h4 (.tup [.int i,.int j]);refine⟨0,GH (l.i,l.j),⟨p3,_,rfl,s4 _ _ zB,_,_,rfl,rfl,_,_,rfl,rfl,rfl⟩,GH (i,j),⟨p4,_,rfl,zB,_,_,rfl,rfl,_,_,rfl,rfl,rfl⟩,rm 0 _,(),_,rfl,?_⟩;rw[r6];by_cases e:l.i=i/\l.j=j
   ·rw[aL (by rw[e.1,e.2];simp)];exact q _ _ (s1.trans (s3.trans s4)) (.inr ⟨n,l,rfl,hl1,e,hno⟩)
   ·rw[aH (by simpa using e)];refine⟨s1.trans (s3.trans s4),λm l' hm fG=>?_,_,rfl⟩;by_cases em:m=n
    ·subst em;rw[hl1]at fG;cases fG;exact e
    ·exact hno m l' () fG
  ·obtain⟨o1,o2,s1,hno,rfl⟩:=h;refine hN _ _ ⟨o1,o2,s1,λl hl=>?_,rfl⟩;obtain⟨m,hm,e⟩:=dJ hl;exact hno m l () (by rw[aA hm,e])
 obtain⟨o1,o2,s1,hno,rfl⟩:=h;dsimp![];exact q _ _ s1 (.inl ⟨rfl,hno⟩)
inductive spHu (vs:List V) (H:Hp) (Q:VK) (E:XK):Prop
 |mk (la:Addr) (ws:List V) (ls:List Ln) (k:Nat) (_:vs=[.ref la,.int k]) (_:H la=some (.lst ws)) (_:jZ H ls ws) (_:wJ ls) (_:k<ls.length) (_:ls.length<=40000) (_:∀p ks H',bA H H'->H' p=some (.lst (ks.map V.int))->Kept ls k ks->Q (.ref p) H')
def PapAt(H:Hp)(ls:List Ln)(i j:Int)(r:V):Prop:=(r=.non/\∀l∈ls,¬(l.i=i/\l.j=j))\/
 ∃(k:Nat)(l:Ln)(ks:List Int),ls[k]?=some l/\(l.i=i/\l.j=j)/\(∀(m:Nat)(l':Ln),m<k->ls[m]?=some l'->¬(l'.i=i/\l'.j=j))/\Kept ls k ks/\eA H (.lst ((ER ls ks ks.length).map NM)) r
inductive spPa (vs:List V) (H:Hp) (Q:VK) (E:XK):Prop
 |mk (la:Addr) (ws:List V) (ls:List Ln) (i j:Int) (_:vs=[.ref la,.int i,.int j]) (_:H la=some (.lst ws)) (_:jZ H ls ws) (_:wJ ls) (_:ls.length<=40000) (_:∀r H',bA H H'->PapAt H' ls i j r->Q r H')
theorem VY{ls:List Ln}(h:wJ ls){k:Nat}(hk:k<ls.length)(h63:ls.length<=40000):(CC ls k).length<=40000:=by
 have :=VA (XY ls k) (VC h k);lia
theorem WV{ls:List Ln}(h:wJ ls){k:Nat}(hi:i<=k+1):(back (uK ls) k i).length<=k+1:=VA (qO _ _ _) (kS (λn h0 _=>vD h n h0) i hi)
theorem FC(bi:Bi mg)(h_C:gS P w K mg base 1 "lines_named" ["why"] spLN)(F:gI K "hung_on" "hung_on" s_Y f fd):dI P w K mg base fZ 2 f fd ["lines","k"] spHu:=by
 refine F.okz df λfD A outer s H vs Q E hr h=>?_
 obtain⟨la,ws,ls,k,rfl,hla,hls,hah,hk,h63,q⟩:=h;have hwl:=uB hls;have at2:∀{a b c:V},oV [a,b,c] 2=some c:=yD (j:=2) rfl;refine⟨_,(zD (yE 2 df.nd (ek (RU (pv 1) IN dy) rfl rfl (by simp) ())) (zD (yI bM rfl (d8 rfl bi.range (zA (pv 1) (zA (wF uT zE) (zA (wF uT zE) zC)))) (yG 3 df.nd) (zG (yK (kU (XJ (xT hr) (pv 3) (pv 2)) (by with_unfolding_all rfl)) (zG (yI bM rfl (uZ (zI h_C hr.m rfl (zA (zL zM (zL yH (pv 0) (pv 3)) zE) zC))) (yG 4 df.nd) (zG (UP (xT hr) (pv 2) (pv 4) IN rfl)))) zZ))) (zG (zO (yC JE rfl bi.sorted ZJ (zA (pv 2) zC)))))),?_⟩;refine zH λN hN=>?_
 dsimp![];refine λnd lG=>⟨zB,[(.inl (k:Int),.bl true)],rfl,by simp,hN _ _ ?_⟩
 clear hN;have s1:bA H (upd (upd H nd (.dK [])) nd (.dK (vF [] [(.inl (k:Int),V.bl true)]))):=((bA.refl H).upd lG).upd lG;have k1:upd (upd H nd (.dK [])) nd (.dK (vF [] [(.inl (k:Int),V.bl true)])) nd=some (.dK (DV (back (uK ls) k 0))):=zB;generalize upd (upd H nd (.dK [])) nd (.dK (vF [] [(.inl (k:Int),V.bl true)]))=H1 at s1 k1⊢;refine yA (λσ H'=>∃(o1 o2:Option V),bA H H'/\H' nd=some (.dK (DV (CC ls k)))/\σ=[some (V.ref la),some (V.int k),some (V.ref nd),o1,o2]) (λN hN=>?_) (λσ H' h=>?_)
 ·dsimp![kj];refine⟨k,rfl,(),?_⟩;refine io (n:=k+1) (hi:=(k:Int)) (λi σ H'=>∃(o1 o2:Option V),bA H H'/\H' nd=some (.dK (DV (back (uK ls) k i)))/\σ=[some (V.ref la),some (V.int k),some (V.ref nd),o1,o2]) ⟨_,_,s1,k1,rfl⟩ (λi σ H' hi h=>?_) (λσ H' h=>?_)
  ·obtain⟨o1,o2,s2,k2,rfl⟩:=h;have hbl:=WV hah (i:=i) (k:=k) ();dsimp![LY];refine⟨_,.inl ⟨_,.inl ((k:Int)-i),.inl k2,rfl,rfl⟩,?_⟩;rw[bt];by_cases hin:((k:Int)-i)∈back (uK ls) k i
   rotate_left
   ·rw[aH (by simpa using hin)];refine⟨s2,?_,_,rfl⟩;rw[vQ hin];exact k2
   rw[aL (by simpa using hin)];have hn0:((k:Int)-i).toNat<ls.length:=by lia
   obtain⟨v,hv1,hv2⟩:=bG.get (d:=NM ls[((k:Int)-i).toNat]) hls (by rw[aK,aA hn0];rfl);have hlx:=aA hn0;have hgl:=hah _ _ hlx;have hnm:=kf hlx;generalize ls[((k:Int)-i).toNat]=l at hv2 hgl hnm;obtain⟨b,u,rfl,hb,hu⟩:=TR hv2;refine⟨_,dL.of (s2 _ _ hla),_,DE () hv1,b,rfl,_,dN.of (s2 _ _ hb),_,at2,?_⟩;refine⟨u,l.w,l.as,rfl,eA.same s2 hu,hgl.1,λpt H3 s3 k3=>?_⟩;rw[←hnm]at k3;have k23:=s3 _ _ k2;have nn:pt≠nd:=λz=>by rw[z,k23]at k3;cases k3
   refine⟨pt,rfl,⟨_,dN.of k3⟩,?_⟩;rw[uF hin];have hps:∀p∈uK ls ((k:Int)-i),0<=p/\p<=(k:Int):=λp hp=>by
    have :=vD hah _ () p hp;lia
   refine FY (xs:=(uK ls ((k:Int)-i)).map V.int) (λm σ H'=>∃(o:Option V),bA H H'/\H' pt=some (.tup ((uK ls ((k:Int)-i)).map V.int))/\H' nd=some (.dK (DV (jH (back (uK ls) k i) ((uK ls ((k:Int)-i)).take m))))/\σ=[some (V.ref la),some (V.int k),some (V.ref nd),some (V.int ((k:Int)-i)),o]) ⟨_,s2.trans s3,k3,k23,rfl⟩ (λm σ H' _ h=>?_) (λm x σ H' hx h=>?_) (λσ H' h=>?_)
   ·obtain⟨o,_,h2,_⟩:=h;exact dN.of h2
   ·obtain⟨o,s4,k4,k5,rfl⟩:=h;rw[aK]at hx;cases hni:(uK ls ((k:Int)-i))[m]? with
    |none=>rw[hni]at hx;cases hx
    |some p=>
     rw[hni]at hx;cases hx;dsimp![HW];have hal:(jH (back (uK ls) k i) ((uK ls ((k:Int)-i)).take m)).length<=k+1:=by
      refine VA (qA _ _ (qO _ _ _)) λz hz=>?_
      rcases(jO z _ _).mp hz with hz |hz
      ·exact kS (λn h0 _=>vD hah n h0) i () z hz
      ·exact hps z (iU hz)
     obtain⟨hm,e⟩:=aC.mp hni;refine⟨_,.inl ⟨_,.inl p,k5,rfl,?_,rfl⟩,s4.upd lG,by rw[zJ nn];exact k4,?_,_,rfl⟩
     ·unfold DV;rw[aE];exact smB1 ()
     rw[zB,bu,aM hm,e,DH]
   ·obtain⟨o,s4,k4,k5,rfl⟩:=h;rw[aE,aQ (aG _)]at k5;exact⟨s4,k5,_,_,rfl⟩
  ·obtain⟨o1,o2,s2,k2,rfl⟩:=h;exact hN _ _ ⟨_,_,s2,k2,rfl⟩
 obtain⟨o1,o2,s2,k2,rfl⟩:=h;dsimp![];have hl:=VY hah hk h63;refine⟨_,k2,CC ls k,OY _,(),λp ks hp hpm hrs=>?_⟩;exact q _ ks _ (s2.trans (zF hp _)) zB ⟨hpm,hrs⟩
theorem SO(bi:Bi mg)(be:mg "enumerate"=none)(h_P:gS P w K mg base 1 "line_for" ["lines","i","j"] jz)(h_Y:gS P w K mg base 2 "hung_on" ["lines","k"] spHu)(h_ab:gS P w K mg base 1 "renamed" ["why","places"] spRn)(F:gI K "paper" "paper" n5 f fd):dI P w K mg base fZ 3 f fd ["lines","i","j"] spPa:=by
 refine F.okz HV λfD A outer s H vs Q E hr h=>?_
 obtain⟨la,ws,ls,i,j,rfl,hla,hls,hah,h63,q⟩:=h;have hwl:=uB hls;have at2:∀{a b c:V},oV [a,b,c] 2=some c:=yD (j:=2) rfl;refine⟨_,(zD (yE 3 HV.nd (zI h_P hr.m rfl (zA (pv 0) (zA (pv 1) (zA (pv 2) zC))))) (zD (yK (zP EV (pv 3) uI (zV _)) (zG (zO uI)) zZ) (zD (yE 4 HV.nd (zI h_Y hr.m rfl (zA (pv 0) (zA (pv 3) zC)))) (zD (qZ (i:=5) HV.nd rfl (Or.inr rfl) (xO JF rfl bi.dict YT (zA (yS ["place","n"] [] [] (jR rfl be (zA (pv 4) zC)) (λ_ _ _ _ nd=>qT (K:=K) (n:=2) rfl (zX (yG 0 nd) (zX (yG 1 nd) xG))) (λ_ _ _ _=>yW) (λ_ _ _ _=>(zQ (zA (pv 1) (zA (pv 0) zC))))) zC))) (zG (zO (yS ["n"] ["places","lines"] [5,0] (yF (pv 4)) (λ_ _ _ _ nd=>yG 0 nd) (λ_ _ _ _=>yW) (λ_ _ _ _=>(zQ (zA (zL (uL K) (zL (kI K) (pv 2) (pv 0)) zE) (zA (zL (uL K) (zL (kI K) (pv 2) (pv 0)) zE) (zA (zI h_ab hr.m rfl (zA (zL (uL K) (zL (kI K) (pv 2) (pv 0)) zE) (zA (pv 1) zC))) zC)))))))))))),?_⟩;refine zH λN hN=>?_
 dsimp![];refine⟨la,ws,ls,i,j,rfl,hla,hls,λr H1 s1 mV=>hN _ _ ?_⟩;replace hla:=s1 _ _ hla;replace hls:=bG.same s1 hls;clear hN;refine zH λN hN=>?_
 dsimp![];rcases mV with⟨rfl,hno⟩ |⟨k,l,rfl,hlk,hij,hno⟩
 ·rw[aL rfl];exact q _ _ s1 (.inl ⟨rfl,hno⟩)
 rw[aH (by intro z;cases z)];refine hN _ _ ?_;clear hN;have hk:=(aC.mp hlk).1;refine zH λN hN=>?_
 dsimp![];refine⟨la,ws,ls,k,rfl,hla,hls,hah,hk,h63,λpk ks H2 s2 k2 hks=>hN _ _ ?_⟩;replace hla:=s2 _ _ hla;replace hls:=bG.same s2 hls;replace s1:=s1.trans s2;clear hN;have hkn:=hks.nodup;have hki:=hks.inn hah;have hkl:=VA hkn hki;refine zH λN hN=>?_
 dsimp![vK];refine⟨_,k2,?_⟩;refine IY (xs:=ks.map V.int) (λi ys σ H'=>bA H2 H'/\(∃as:List Addr,ys=as.map V.ref/\as.length=i/\∀(m:Nat)(a:Addr),as[m]?=some a->∃n,ks[m]?=some n/\H' a=some (.tup [.int n,.int m]))/\∃o1 o2,σ=[o1,o2]) ⟨bA.refl _,⟨[],rfl,rfl,λm a z=>by cases z⟩,_,_,rfl⟩ (ax (by rw[aE];lia)) (λi ys σ H' e=>?_) (λi ys σ H' e=>e.1 _ _ k2) (λi x ys σ H' p C hx e hp hC=>?_) (λys σ H' e p3 hp3=>?_)
 ·obtain⟨_,⟨as,rfl,hl,_⟩,_⟩:=e;rw[aE];lia
 ·obtain⟨es,⟨as,rfl,hal,has⟩,o1,o2,rfl⟩:=e;rw[aK]at hx;cases hni:ks[i]? with
  |none=>rw[hni]at hx;cases hx
  |some n=>
   rw[hni]at hx;cases hx;have s3:=zF hp (.tup [.int i,.int n]);have k3:upd H' p (.tup [.int i,.int n]) p=some (.tup [.int i,.int n]):=zB;generalize upd H' p (.tup [.int i,.int n])=H3 at s3 k3⊢;dsimp![vN,jY,wD];refine⟨[.int i,.int n],dN.of k3,rfl,.int i,[.int n],rfl,.int n,[],rfl,rfl,ax (by simp),λp4 hp4=>hC _ _ _ ?_⟩;have s4:=zF hp4 (.tup [.int n,.int i]);refine⟨(es.trans s3).trans s4,⟨as++[p4],by rw[aU];rfl,by simp[hal],λm a hm=>?_⟩,_,_,rfl⟩;by_cases iY:m<as.length
   ·rw[bE iY]at hm;obtain⟨n',h1,h2⟩:=has m a hm;exact⟨n',h1,s4 _ _ (s3 _ _ h2)⟩
   ·have hm2:=(aC.mp hm).1;rw[aI,cJ]at hm2;have em:m=as.length:=by lia
    subst em;rw[bN (aG _),fJ]at hm;cases hm;refine⟨n,by rw[hal];exact hni,?_⟩;rw[hal];exact zB
 obtain⟨es,⟨as,rfl,hal,has⟩,o1,o2,rfl⟩:=e;rw[aE]at hal;have s3:=zF hp3 (.lst (as.map V.ref));have k3:upd H' p3 (.lst (as.map V.ref)) p3=some (.lst (as.map V.ref)):=zB;generalize upd H' p3 (.lst (as.map V.ref))=H3 at s3 k3⊢;refine⟨p3,rfl,as,dL.of k3,wK ks 0,by rw[AK];exact hal,?_,λm kk v hm=>?_,λd hd=>hN _ _ ?_⟩
 ·rw[QA];exact mK.mpr (List.Pairwise.imp (λlU e=>lU (rT e)) hkn)
 ·obtain⟨n,h1,rfl,rfl⟩:=AL hm;have hm':m<as.length:=by rw[hal];exact(aC.mp h1).1
  obtain⟨n',h2,h3⟩:=has m as[m] (aA hm');rw[h1]at h2;cases h2;exact⟨as[m],aA hm',dN.of (by rw[iE];exact s3 _ _ h3)⟩
 clear hN;have s4:=zF hd (.dK (wK ks 0));have k4:upd H3 d (.dK (wK ks 0)) d=some (.dK (wK ks 0)):=zB;have ss:=(es.trans s3).trans s4;generalize upd H3 d (.dK (wK ks 0))=H4 at ss k4⊢;replace s1:=s1.trans ss;replace hla:=ss _ _ hla;replace hls:=bG.same ss hls;replace k2:=ss _ _ k2;clear ss s4 s3 es k3 has hd hp3;dsimp![];refine⟨⟨_,dL.of k2⟩,?_⟩;refine jS (xs:=ks.map V.int) (λi ys σ H'=>bA H4 H'/\bG H' ((ER ls ks i).map NM) ys/\∃o,σ=[o,some (V.ref d),some (V.ref la)]) ⟨bA.refl _,rfl,_,rfl⟩ (ax (by rw[aE];lia)) (λi ys σ H' e=>?_) (λi ys σ H' e=>dL.of (e.1 _ _ k2)) (λi x ys σ H' C hx e hC=>?_) (λys σ H' e p5 hp5=>?_)
 ·have :=bG.length e.2.1;rw[aE]at this;have :=SG ls ks i;lia
 ·obtain⟨es,hys,o,rfl⟩:=e;rw[aK]at hx;cases hni:ks[i]? with
  |none=>rw[hni]at hx;cases hx
  |some n=>
   rw[hni]at hx;cases hx;have hnk:=aV hni;have hn:=hki n hnk;have hn0:n.toNat<ls.length:=by lia
   obtain⟨v,hv1,hv2⟩:=bG.get (d:=NM ls[n.toNat]) hls (by rw[aK,aA hn0];rfl);have hlx:=aA hn0;have hgl:=hah _ _ hlx;have hcl:=hks.closed hah n hnk;rw[kf hlx]at hcl;generalize ls[n.toNat]=l' at hv2 hgl hcl hlx;obtain⟨b,u,rfl,hb,hu⟩:=TR hv2;have hat:oV ws n=some (.ref b):=DE hn.1 hv1;dsimp![];refine⟨_,dL.of (es _ _ hla),_,hat,b,rfl,_,dN.of (es _ _ hb),_,lS,_,dL.of (es _ _ hla),_,hat,b,rfl,_,dN.of (es _ _ hb),_,pH,_,dL.of (es _ _ hla),_,hat,b,rfl,_,dN.of (es _ _ hb),_,at2,?_⟩;refine⟨u,d,l',ks,rfl,eA.same es hu,hgl.1,es _ _ k4,hcl,λv' H5 s5 hv'=>⟨ax (by simp),λp6 hp6=>hC _ _ _ ?_⟩⟩;have s6:=zF hp6 (.tup [.int l'.i,.int l'.j,v']);refine⟨(es.trans s5).trans s6,?_,_,rfl⟩;rw[MK hni hlx,aU];refine bG.append (bG.same (s5.trans s6) hys) (bG.one ?_);have er:NM (OC ks l')=NM ⟨l'.i,l'.j,(OC ks l').w,(OC ks l').as⟩:=by
    unfold OC;split<;>rfl
   rw[er];exact so zB (eA.same s6 hv')
 obtain⟨es,hys,o,rfl⟩:=e;have s5:=zF hp5 (.lst ys);rw[aE]at hys;exact q _ _ (s1.trans (es.trans s5)) (.inr ⟨k,l,ks,hlk,hij,hno,hks,⟨p5,_,rfl,zB,bG.same s5 hys⟩⟩)
structure Rl(M:Nat)(R:Nat->Nat->Bool):Prop where
 refl:∀x,x<M->R x x=true
 turn:∀i j,R i j=true->R (lQ j) (lQ i)=true
 trans:∀i j k,R i j=true->R j k=true->R i k=true
 all:∀i n,R i (lQ i)=true->n<M->R i n=true
 ev:∃h,M=2*h
theorem Rl.of{ls:List Ln}(hp:Pl aD (2*aD.length) aD.length ls)(hc:Cl aD aX ls.length ls):Rl (2*aD.length) (rl ls):=by
 have lt:∀{p:Nat}{l:Ln},ls[p]?=some l->p<ls.length:=λh=>(aC.mp h).1
 refine⟨λx hx=>hp.same x hx,λi j h=>?_,λi j k h1 h2=>?_,λi n h hn=>?_,_,rfl⟩
 ·obtain⟨p,l,g1,g2,g3⟩:=eZ.mp h;exact hc.turn p l i j (lt g1) g1 g2 g3
 ·obtain⟨p,l,g1,g2,g3⟩:=eZ.mp h1;obtain⟨p',l',g1',g2',g3'⟩:=eZ.mp h2;exact hc.chain p p' l l' i j k (lt g1) (lt g1') g1 g1' g2 g3 g2' g3'
 ·obtain⟨p,l,g1,g2,g3⟩:=eZ.mp h;exact hc.clash p l i (lQ i) (lt g1) g1 g2 g3 (qF i).symm n hn
section
variable {M:Nat} {R:Nat->Nat->Bool}
theorem Rl.sym(h:Rl M R)(g:R i (lQ j)=true):R j (lQ i)=true:=by
 have :=h.turn _ _ g;rwa[vT]at this
theorem Rl.lt(h:Rl M R)(hn:n<M):lQ n<M:=by
 obtain⟨k,hk⟩:=h.ev;rw[hk]at hn⊢;exact YX hn
theorem oX{x:Nat}:x∈yQ M R↔x<M/\R x (lQ x)=false:=by
 unfold yQ;rw[cY,bR];simp
theorem UF(ha:a<(yQ M R).length):(yQ M R).getD a 0∈yQ M R:=by
 rw[bZ,aA ha];exact cW ha
theorem lP:a∈jI sp R n↔a<sp.length/\R (sp.getD a 0) n=true:=by
 unfold jI;rw[cY,bR]
theorem sL{p:Nat×Nat}:p∈wR sp R↔p.1<sp.length/\p.2<sp.length/\p.1<p.2/\R (sp.getD p.1 0) (lQ (sp.getD p.2 0))=true:=by
 unfold wR;rw[fV];constructor
 ·rintro⟨a,ha,hp⟩;obtain⟨b,hb,rfl⟩:=bP.mp hp;rw[cY,bR]at hb;simp only[bY,bO]at hb;exact⟨bR.mp ha,hb.1,hb.2.1,hb.2.2⟩
 ·rintro⟨h1,h2,h3,h4⟩;refine⟨p.1,bR.mpr h1,bP.mpr ⟨p.2,?_,rfl⟩⟩;rw[cY,bR];simp only[bY,bO];exact⟨h2,h3,h4⟩
theorem WR{b:Nat}:uN ps a b=true↔(a,b)∈ps\/(b,a)∈ps:=by
 unfold uN;rw[eV];constructor
 ·rintro⟨p,hp,h⟩;simp only[nU,bY,cS]at h;rcases h with⟨h1,h2⟩ |⟨h1,h2⟩
  ·exact .inl (by rw[←h1,←h2];exact hp)
  ·exact .inr (by rw[←h1,←h2];exact hp)
 ·rintro(h |h)
  ·exact⟨_,h,by simp⟩
  ·exact⟨_,h,by simp⟩
theorem kz(h:Rl M R){b:Nat}(ha:a<(yQ M R).length)(hb:b<(yQ M R).length):uN (wR (yQ M R) R) a b=R ((yQ M R).getD a 0) (lQ ((yQ M R).getD b 0)):=by
 rw[cD,WR,sL,sL];constructor
 ·rintro(⟨_,_,_,g⟩ |⟨_,_,_,g⟩)
  ·exact g
  ·exact h.sym g
 ·intro g;rcases Nat.lt_trichotomy a b with l |e |l
  ·exact .inl ⟨ha,hb,l,g⟩
  ·subst e;have :=(oX.mp (UF ha)).2;rw[this]at g;cases g
  ·exact .inr ⟨hb,ha,l,h.sym g⟩
theorem VM(h:Rl M R)(hn:n<M):cnt (yQ M R).length (wR (yQ M R) R) (jI (yQ M R) R n)=jI (yQ M R) R (lQ n):=by
 unfold cnt;show _=(List.range (yQ M R).length).filter λa=>R ((yQ M R).getD a 0) (lQ n)
 refine List.filter_congr λi hi=>?_
 have hi:=bR.mp hi;have hsi:=oX.mp (UF hi);rw[cD,cX];constructor
 ·intro g;by_cases c:R n (lQ n)=true
  ·exact h.sym (h.all n _ c (h.lt hsi.1))
  ·have hm:n∈yQ M R:=oX.mpr ⟨hn,dS.mpr c⟩;obtain⟨a,ha⟩:=iV hm;have ea:(yQ M R).getD a 0=n:=by rw[bZ,ha];rfl
   have hal:=(aC.mp ha).1;have :=g a (lP.mpr ⟨hal,by rw[ea];exact h.refl n hn⟩);rw[kz h hal hi,ea]at this;exact h.sym this
 ·intro g a ha;obtain⟨hal,hr⟩:=lP.mp ha;rw[kz h hal hi];exact h.sym (h.trans _ _ _ g (h.turn _ _ hr))
theorem WO(h:Rl M R)(hn:n<M):cnt (yQ M R).length (wR (yQ M R) R) (cnt (yQ M R).length (wR (yQ M R) R) (jI (yQ M R) R n))=jI (yQ M R) R n:=by
 rw[VM h hn,VM h (h.lt hn),vT]
theorem GI(sp:List Nat):Ok2 sp.length (wR sp R):=λp hp=>let ⟨_,h2,h3,_⟩:=sL.mp hp;⟨h3,h2⟩
theorem ck:(yQ M R).length<=M:=cR (iN _ _) (by rw[eY];exact aG _)
end
theorem IS{x:Str}{k:Nat}(h:(x,k)∈IT aD):aD[k]?=some (.nm x)/\k<aD.length:=by
 unfold IT at h;obtain⟨q,hq,e⟩:=lW.mp h;unfold TD at e;split at e
 ·rename_i y hy
  cases e;exact⟨hy,bR.mp hq⟩
 ·cases e
section
variable {M:Nat} {R:Nat->Nat->Bool}
theorem OS(h:Rl M R)(low:∀x,x<M->R 0 x=true):jI (yQ M R) R 0=[]:=by
 unfold jI;refine List.filter_eq_nil_iff.mpr λa ha hr=>?_
 obtain⟨h1,h2⟩:=oX.mp (UF (bR.mp ha));have :=h.trans _ _ _ hr (low _ (h.lt h1));rw[h2]at this;cases this
theorem OU(h:Rl M R)(hi:R n i=true)(hj:R n j=true)(hb:∀x,R x i=true->R x j=true->R x n=true):(jI sp R i).filter (λa=>decide (a∈jI sp R j))=jI sp R n:=by
 unfold jI;rw[List.filter_filter];refine List.filter_congr λa ha=>?_
 have hal:=bR.mp ha;rw[cD,bY,bO];constructor
 ·rintro⟨h1,h2⟩;exact hb _ h2 (lP.mp h1).2
 ·intro g;exact⟨lP.mpr ⟨hal,h.trans _ _ _ g hj⟩,h.trans _ _ _ g hi⟩
theorem LP(h:Rl M R)(hi:i<M)(hj:j<M):((jI (yQ M R) R i).all λa=>decide (a∈jI (yQ M R) R j))=R i j:=by
 rw[cD,cX];constructor
 ·intro g;by_cases c:R i (lQ i)=true
  ·exact h.all i j c hj
  ·have hm:i∈yQ M R:=oX.mpr ⟨hi,dS.mpr c⟩;obtain⟨a,ha⟩:=iV hm;have ea:(yQ M R).getD a 0=i:=by rw[bZ,ha];rfl
   have hal:=(aC.mp ha).1;have :=g a (lP.mpr ⟨hal,by rw[ea];exact h.refl i hi⟩);have :=(lP.mp (of_decide_eq_true this)).2;rwa[ea]at this
 ·intro g a ha;obtain⟨h1,h2⟩:=lP.mp ha;exact dX (lP.mpr ⟨h1,h.trans _ _ _ h2 g⟩)
end
abbrev In2(n:Nat)(p:Pr):Prop:=(0<=p.1/\p.1<(n:Int))/\0<=p.2/\p.2<(n:Int)
structure Clo(aD:List Rw)(aX:List xM)(X:Int->Int->Prop):Prop where
 same:∀n:Nat,n<2*aD.length->X n n
 low:∀n:Nat,n<2*aD.length->X 0 n
 high:∀n:Nat,n<2*aD.length->X n 1
 part:∀(k:Nat)(x y:Int),aD[k]?=some (.bo x y)->X ((2*k:Nat):Int) x/\X ((2*k:Nat):Int) y
 clash:∀i j:Nat,i<2*aD.length->j<2*aD.length->X i (rM i)->X i j
 both:∀(i k:Nat)(x y:Int),i<2*aD.length->aD[k]?=some (.bo x y)->X i x->X i y->X i ((2*k:Nat):Int)
 chain:∀i m j:Nat,i<2*aD.length->m<2*aD.length->j<2*aD.length->X i m->X m j->X i j
 turn:∀i j:Nat,i<2*aD.length->j<2*aD.length->X i j->X (rM j) (rM i)
 rule:∀q∈aX,(∀p∈q.1,X p.1 p.2)->X q.2.1 q.2.2
theorem AS{x:Int}(h:x∈vC aD n):∃(k:Nat)(a b:Int),n=2*k/\aD[k]?=some (.bo a b)/\vC aD n=[a,b]:=by
 unfold vC at h⊢;by_cases h2:(n:Int) % 2=0
 ·rw[aL h2]at h⊢;have e:((n:Int)/2).toNat=n/2:=by lia
  rw[e]at h⊢;cases hr:aD[n/2]? with
  |none=>rw[hr]at h;cases h
  |some r=>
   rw[hr]at h;cases r with
   |no=>cases h
   |nm y=>cases h
   |bo a b=>exact⟨n/2,a,b,(),hr,rfl⟩
 ·rw[aH h2]at h;cases h
theorem TU{ls:List Ln}{X:Int->Int->Prop}(c:Clo aD aX X)(h:LM aD aX ls):∀(k:Nat)(l:Ln),ls[k]?=some l->X l.i l.j:=by
 intro k
 induction k using Nat.strongRecOn with
 |ind k ih=>
  intro l hl;have hs:=h.snd k l hl;have hr:=uC hs;have sd:∀(a:Wt)(p:Pr),xJ ls k a=some p->In2 (2*aD.length) p/\X p.1 p.2:=λa p hp=>by
   cases a with
   |ps _=>cases hp
   |n i=>
    by_cases hi:0<=i/\i<(k:Int)
    ·cases hq:ls[i.toNat]? with
     |none=>
      have :xJ ls k (.n i)=none:=by
       show(if 0<=i/\i<(k:Int)then(ls[i.toNat]?).map λl=>(l.i,l.j)else none)=_;rw[aL hi,hq];rfl
      rw[this]at hp;cases hp
     |some l'=>
      rw[RC hi hq]at hp;cases hp;have mB:=uC (h.snd _ l' hq);exact⟨⟨⟨mB.1.1,by have :=mB.1.2;show l'.i<_;lia⟩,mB.2.1,by have :=mB.2.2;show l'.j<_;lia⟩,ih _ () l' hq⟩
    ·rw[RD hi]at hp;cases hp
  obtain⟨⟨r1,r2⟩,r3,r4⟩:=hr;unfold xQ at hs;rw[aH (by rintro(z |z);exact z ⟨r1,r2⟩;exact z ⟨r3,r4⟩)]at hs;split at hs
  ·unfold jW at hs;split at hs
   ·rename_i r ps _
    split at hs
    ·rename_i hrr
     split at hs
     ·rename_i q hq
      rw[bY,cS,cS]at hs;have e1:l.i=q.2.1:=dH Prod.fst hs.1;have e2:l.j=q.2.2:=dH Prod.snd hs.1;rw[e1,e2];refine c.rule q (aV hq) λp hp=>?_
      have hm:some p∈ps.map λp=>xJ ls k (.n p):=by rw[hs.2];exact bP.mpr ⟨p,hp,rfl⟩
      obtain⟨x,_,hx⟩:=bP.mp hm;exact(sd _ p hx).2
     ·cases hs
    ·cases hs
   ·cases hs
  ·split at hs
   ·have hsd:∀p∈l.as.filterMap (xJ ls k),In2 (2*aD.length) p/\X p.1 p.2:=λp hp=>by
     obtain⟨a,_,ha⟩:=lW.mp hp;exact sd a p ha
    generalize l.as.filterMap (xJ ls k)=ps at hs hsd;obtain⟨i,hi⟩:∃i:Nat,l.i=(i:Int):=dU r1;obtain⟨j,hj⟩:∃j:Nat,l.j=(j:Int):=dU r3;rw[hi]at r2 hs⊢;rw[hj]at r4 hs⊢;have ri:i<2*aD.length:=by lia
    have rj:j<2*aD.length:=by lia
    unfold yZ at hs;split at hs
    ·rw[cS]at hs;rw[←hs];exact c.same i ri
    split at hs
    ·rw[nU,cS,cS]at hs;rcases hs with e |e
     ·rw[e];exact c.low j rj
     ·rw[e];exact c.high i ri
    split at hs
    ·rw[eV]at hs;obtain⟨x,hx,e⟩:=hs;rw[cS]at e;obtain⟨m,a,b,e1,e2,e3⟩:=AS hx;rw[e3]at hx;have :=c.part m a b e2;rw[e1,←e];simp only[bK,fU,or_false]at hx;rcases hx with rfl |rfl
     ·exact this.1
     ·exact this.2
    split at hs
    ·split at hs
     ·rename_i a b hp
      rw[cS]at hs;obtain⟨m,a',b',e1,e2,e3⟩:=AS (show a∈vC aD j by rw[hp];exact bB);rw[hp]at e3;cases e3;have x1:=(hsd (i,a) (by rw[hs];simp)).2;have x2:=(hsd (i,b) (by rw[hs];simp)).2;rw[e1];exact c.both i m a b ri e2 x1 x2
     ·cases hs
    split at hs
    ·rw[cS]at hs;have x1:=(hsd (rM j,rM i) (by rw[hs];simp)).2;rw[qF,qF]at x1;have :=c.turn (lQ j) (lQ i) (YX rj) (YX ri) x1;rw[qF,qF,vT,vT]at this;exact this
    split at hs
    ·split at hs
     ·rename_i p q
      rw[bY,bY,cS,cS,cS]at hs;obtain⟨p1,p2⟩:=hsd p (by simp);obtain⟨q1,q2⟩:=hsd q (by simp);obtain⟨m,hm⟩:∃m:Nat,p.2=(m:Int):=dU p1.2.1;have hmr:=p1.2.2;rw[hm]at hmr;rw[hs.1.1,hm]at p2;rw[←hs.1.2,hs.2,hm]at q2;exact c.chain i m j ri () rj p2 q2
     ·cases hs
    ·rw[cS]at hs;exact c.clash i j ri rj (hsd (i,rM i) (by rw[hs];simp)).2
   ·cases hs
def pp(m:Nat)(ps:List (Nat×Nat))(A:Nat->Prop)(a:Nat):Prop:=a<m/\∀b,A b->uN ps b a=true
structure Fw(m:Nat)(ps:List (Nat×Nat))(S:Str->List Nat):Prop where
 irr:∀a,uN ps a a=false
 full:∀x a,a∈S x↔a∈cnt m ps (cnt m ps (S x))
theorem VW{m:Nat}(h:Ok2 m ps)(a:Nat):uN ps a a=false:=by
 rw[dS];intro z;unfold uN at z;obtain⟨p,hp,e⟩:=eV.mp z;have :=(h p hp).1;simp only[nU,bY,cS]at e;lia
theorem fS{m:Nat}{v:List Nat}:a∈cnt m ps v↔pp m ps (· ∈v) a:=by
 rw[rB,cX];rfl
theorem jB{m:Nat}{A B:Nat->Prop}(h:∀a,A a↔B a)(a:Nat):pp m ps A a↔pp m ps B a:=by
 unfold pp;exact and_congr_right λ_=>forall_congr' λb=>by rw[h b]
def AA(S:Str->List Nat)(U:Nat->Nat->Prop):Rw->Nat->Prop
 | .no,_=>False
 | .nm x,a=>a∈S x
 | .bo i j,a=>U i.toNat a/\U j.toNat a
structure Vw(m:Nat)(ps:List (Nat×Nat))(S:Str->List Nat)(aD:List Rw)(U:Nat->Nat->Prop):Prop where
 row:∀(k:Nat)(r:Rw),aD[k]?=some r->∀a,U (2*k) a↔AA S U r a
 odd:∀k,k<aD.length->∀a,U (2*k+1) a↔pp m ps (U (2*k)) a
section
variable {m:Nat}
theorem EI{V:Nat->Nat->Prop}(hr:RowB r (2*(n:Int)))(h:∀k,k<2*n->∀a,U k a↔V k a)(a:Nat):AA S U r a↔AA S V r a:=by
 cases r with
 |no=>exact Iff.rfl
 |nm x=>exact Iff.rfl
 |bo i j=>
  obtain⟨⟨h1,h2⟩,h3,h4⟩:=hr i j rfl;exact and_congr (h _ () a) (h _ () a)
theorem vw_ex(hin:qP aD):∃U,Vw m ps S aD U:=by
 have go:∀k,k<=aD.length->∃U:Nat->Nat->Prop,(∀(j:Nat)(r:Rw),j<k->aD[j]?=some r->∀a,U (2*j) a↔AA S U r a)/\∀j,j<k->∀a,U (2*j+1) a↔pp m ps (U (2*j)) a:=by
  intro k
  induction k with
  |zero=>exact λ_=>⟨λ_ _=>False,λj r h=>absurd h (),λj h=>absurd h ()⟩
  |succ k ih=>
   intro hk;obtain⟨U,h1,h2⟩:=ih ();have hrk:aD[k]?=some aD[k]:=aA ();generalize aD[k]=r at hrk;have low:∀n,n<2*k->∀a,(if n<2*k then U n a else if n=2*k then AA S U r a else pp m ps (AA S U r) a)↔U n a:=λn hn a=>by rw[aL hn]
   have rb:∀(j:Nat)(q:Rw),aD[j]?=some q->RowB q (2*(j:Int)):=λj q hq i i' e=>by subst e;exact hin j i i' hq
   refine⟨λn a=>if n<2*k then U n a else if n=2*k then AA S U r a else pp m ps (AA S U r) a,λj q hj hq a=>?_,λj hj a=>?_⟩
   ·rw[EI (V:=U) (rb j q hq) (λn hn a=>low n () a)];by_cases c:j<k
    ·show(if 2*j<2*k then _ else _)↔_;rw[aL ()];exact h1 j q c hq a
    ·have e:j=k:=by lia
     subst e;rw[hrk]at hq;cases hq;show(if 2*j<2*j then _ else if 2*j=2*j then _ else _)↔_;rw[aH (),aL rfl]
   ·by_cases c:j<k
    ·show(if 2*j+1<2*k then _ else _)↔pp m ps (λa=>if 2*j<2*k then _ else _) a;rw[aL ()];refine(h2 j c a).trans (jB (λb=>?_) a);rw[aL ()]
    ·have e:j=k:=by lia
     subst e;show(if 2*j+1<2*j then _ else if 2*j+1=2*j then _ else _)↔pp m ps (λa=>if 2*j<2*j then _ else if 2*j=2*j then _ else _) a;rw[aH (),aH ()];refine jB (λb=>?_) a;rw[aH (),aL rfl]
 obtain⟨U,h1,h2⟩:=go aD.length (aG _);exact⟨U,λk r hr=>h1 k r (aC.mp hr).1 hr,h2⟩
theorem Vw.turn(f:Fw m ps S)(v:Vw m ps S aD U)(hin:qP aD):∀n,n<2*aD.length->∀a,U (oU n) a↔pp m ps (U n) a:=by
 intro n
 induction n using Nat.strongRecOn with
 |ind n ih=>
  intro hn a;have hk:n/2<aD.length:=by lia
  by_cases c:n % 2=0
  ·have e1:oU n=2*(n/2)+1:=by unfold oU;lia
   have e2:n=2*(n/2):=by lia
   rw[e1,v.odd _ hk];rw[←e2]
  ·have e1:oU n=2*(n/2):=by unfold oU;lia
   have e2:n=2*(n/2)+1:=by lia
   rw[e1];have hr:aD[n/2]?=some aD[n/2]:=aA hk;generalize aD[n/2]=r at hr;have o:∀b,U n b↔pp m ps (U (2*(n/2))) b:=λb=>by
    have :=v.odd _ hk b;rwa[←e2]at this
   rw[jB o];have rw':=v.row _ r hr;cases r with
   |no=>
    refine⟨λz=>((rw' a).mp z).elim,λz=>?_⟩;have :=z.2 a ⟨z.1,λb hb=>((rw' b).mp hb).elim⟩;rw[f.irr]at this;cases this
   |nm x=>
    rw[rw' a];refine(f.full x a).trans ?_;rw[fS];exact jB (λb=>fS.trans (jB (λc=>(rw' c).symm) b)) a
   |bo i j=>
    obtain⟨⟨b1,b2⟩,b3,b4⟩:=hin _ i j hr;have fi:∀q:Int,0<=q->q<2*((n/2:Nat):Int)->∀b,U q.toNat b↔pp m ps (pp m ps (U q.toNat)) b:=λq h0 h1 b=>by
     have l1:q.toNat<n:=by lia
     have l2:oU q.toNat<n:=by unfold oU;lia
     have g1:=ih _ l2 () b;rw[show oU (oU q.toNat)=q.toNat by unfold oU;lia]at g1;exact g1.trans (jB (λc=>ih _ l1 () c) b)
    rw[rw' a];constructor
    ·rintro⟨g1,g2⟩;refine⟨((fi i b1 b2 a).mp g1).1,λb hb=>?_⟩;rw[QN];exact hb.2 a ((rw' a).mpr ⟨g1,g2⟩)
    ·intro z;refine⟨(fi i b1 b2 a).mpr ⟨z.1,λb hb=>z.2 b ⟨hb.1,λc hc=>hb.2 c ((rw' c).mp hc).1⟩⟩,(fi j b3 b4 a).mpr ⟨z.1,λb hb=>z.2 b ⟨hb.1,λc hc=>hb.2 c ((rw' c).mp hc).2⟩⟩⟩
theorem Vw.lt(f:Fw m ps S)(v:Vw m ps S aD U)(hin:qP aD)(hn:n<2*aD.length)(h:U n a):a<m:=by
 have :=v.turn f hin (oU n) (by unfold oU;lia) a;rw[show oU (oU n)=n by unfold oU;lia]at this;exact(this.mp h).1
theorem EJ{k:Nat}(h:oP aD r=some k):aD[k]?=some r:=by
 unfold oP at h;obtain⟨hk,e,_⟩:=gC.mp h;rw[aA hk,(VJ _ _).mp e]
theorem oY:a∈cmn m vs↔a<m/\∀v∈vs,a∈v:=by
 unfold cmn;rw[cY,bR,cX];exact and_congr_right λ_=>forall_congr' λv=>forall_congr' λ_=>decide_eq_true_iff
def NV(m:Nat)(ps:List (Nat×Nat))(S:Str->List Nat)(aD:List Rw)(U:Nat->Nat->Prop)(t:Tm):Prop:=∀n,num aD t=some n->n<2*aD.length/\∀a,a∈val m ps S t↔U n a
def tv(m:Nat)(ps:List (Nat×Nat))(e:Bool)(v:List Nat)(a:Nat):Prop:=if e then a∈cnt m ps v else a∈v
theorem jw(f:Fw m ps S)(v:Vw m ps S aD U)(hin:qP aD){e:Bool}{w:List Nat}(hn:n<2*aD.length)(h:∀a,a∈w↔U n a)(a:Nat):U (lR e n) a↔tv m ps e w a:=by
 unfold tv lR;cases e with
 |false=>rw[aH (),aH ()];exact(h a).symm
 |true=>rw[aL rfl,aL rfl,v.turn f hin n hn,fS];exact jB (λb=>(h b).symm) a
theorem BI(f:Fw m ps S)(v:Vw m ps S aD U)(hin:qP aD)(e:Bool):∀(ts:List Tm)(m0 n:Nat)(A:Nat->Prop),(∀t∈ts,NV m ps S aD U t)->uR aD e m0 ts=some n->m0<2*aD.length->(∀a,U m0 a↔A a)->n<2*aD.length/\∀a,U n a↔A a/\∀t∈ts,tv m ps e (val m ps S t) a
 |[],m0,n,A,_,h,hm,hA=>by
  rw[uR]at h;cases h;exact⟨hm,λa=>(hA a).trans ⟨λz=>⟨z,λt ht=>by cases ht⟩,And.left⟩⟩
 |t::ts,m0,n,A,ih,h,hm,hA=>by
  rw[uR]at h;obtain⟨n1,g1,h⟩:=cZ.mp h;obtain⟨k,g2,h⟩:=cZ.mp h;obtain⟨l1,u1⟩:=ih t bB n1 g1;have hk:=EJ g2;have hkl:=(aC.mp hk).1;obtain⟨l2,u2⟩:=BI f v hin e ts (2*k) n (λa=>A a/\tv m ps e (val m ps S t) a) (λt ht=>ih t (bC _ ht)) h () (λa=>by
   rw[v.row k _ hk a];show U (m0:Int).toNat a/\U ((lR e n1:Nat):Int).toNat a↔_;rw[cE,cE,hA a,jw f v hin l1 u1])
  refine⟨l2,λa=>(u2 a).trans ?_⟩;rw[and_assoc];refine and_congr_right λ_=>⟨λz t' ht'=>?_,λz=>⟨z t bB,λt' ht'=>z t' (bC _ ht')⟩⟩
  rcases bK.mp ht' with rfl |ht'
  ·exact z.1
  ·exact z.2 t' ht'
theorem XS(f:Fw m ps S)(v:Vw m ps S aD U)(hin:qP aD)(e:Bool)(ih:∀t∈ts,NV m ps S aD U t)(h:uJ aD e ts=some n):n<2*aD.length/\∀a,U n a↔∀t∈ts,tv m ps e (val m ps S t) a:=by
 cases ts with
 |nil=>rw[uJ]at h;cases h
 |cons t ts=>
  rw[uJ]at h;obtain⟨n1,g1,h⟩:=cZ.mp h;obtain⟨l1,u1⟩:=ih t bB n1 g1;obtain⟨l2,u2⟩:=BI f v hin e ts _ n _ (λt ht=>ih t (bC _ ht)) h (QY l1) (jw f v hin l1 u1);refine⟨l2,λa=>(u2 a).trans ⟨λz t' ht'=>?_,λz=>⟨z t bB,λt' ht'=>z t' (bC _ ht')⟩⟩⟩;rcases bK.mp ht' with rfl |ht'
  ·exact z.1
  ·exact z.2 t' ht'
theorem f9(f:Fw m ps S)(v:Vw m ps S aD U)(hin:qP aD)(h0:aD[0]?=some .no):∀(d:Nat)(t:Tm),sM d t->NV m ps S aD U t:=by
 have hl:0<aD.length:=(aC.mp h0).1;have z0:∀a,¬U 0 a:=λa z=>((v.row 0 _ h0 a).mp z).elim
 intro d
 induction d with
 |zero=>exact λt h=>h.elim
 |succ d ih=>
  intro t ht n hn;cases t with
  |name x=>
   rw[num]at hn;obtain⟨k,hk,rfl⟩:=aO.mp hn;have hk':=EJ hk;have :=(aC.mp hk').1;refine⟨(),λa=>?_⟩;rw[v.row k _ hk' a,val];exact Iff.rfl
  |node w ts=>
   obtain⟨hs,hts⟩:=ht.node;have ih':∀t∈ts,NV m ps S aD U t:=λt h=>ih t (hts t h)
   have vm:∀{u:List Nat}{a:Nat},(∀t∈ts,val m ps S t=u->True)->True:=λ_=>trivial
   rw[num]at hn;have cases5:=hs;rcases hs with⟨e,hz⟩ |⟨e,hz⟩ |⟨e,hz⟩ |⟨e,hz⟩ |⟨e,hz⟩
   ·subst e;rw[aL rfl]at hn;cases hn;refine⟨(),λa=>?_⟩;rw[val,qE,aL rfl];exact⟨λz=>(nomatch z),λz=>(z0 a z).elim⟩
   ·subst e;rw[aH (),aL rfl]at hn;cases hn;refine⟨(),λa=>?_⟩;rw[val,qE,aH (),aL rfl,bR,v.odd 0 hl a];exact⟨λz=>⟨z,λb hb=>(z0 b hb).elim⟩,λz=>z.1⟩
   ·subst e;rw[aH (),aH (),aL rfl]at hn;obtain⟨n1,h1,rfl⟩:=aO.mp hn;obtain⟨l1,u1⟩:=XS f v hin false ih' h1;obtain⟨t,rfl⟩:∃t,ts=[t]:=by
     cases ts with
     |nil=>simp at hz
     |cons t r=>
      cases r with
      |nil=>exact⟨t,rfl⟩
      |cons _ _=>simp at hz
    refine⟨by unfold oU;lia,λa=>?_⟩;rw[val,qE,aH (),aH (),aL rfl,jV,v.turn f hin n1 l1];show a∈cnt m ps (val m ps S t)↔_;rw[fS];refine jB (λb=>?_) a;rw[u1 b];exact⟨λz t' ht'=>by cases aT.mp ht';exact z,λz=>z t bB⟩
   ·subst e;rw[aH (),aH (),aH (),show decide (("both":Str)="either")=false from dE ()]at hn;obtain⟨n1,h1,rfl⟩:=aO.mp hn;obtain⟨l1,u1⟩:=XS f v hin false ih' h1;refine⟨l1,λa=>?_⟩;rw[val,qE,aH (),aH (),aH (),aL rfl,jV,oY];show _↔U n1 a;constructor
    ·rintro⟨_,z⟩;exact(u1 a).mpr λt ht=>z _ (bP.mpr ⟨t,ht,rfl⟩)
    ·intro z;refine⟨v.lt f hin l1 z,λu hu=>?_⟩;obtain⟨t,ht,rfl⟩:=bP.mp hu;exact(u1 a).mp z t ht
   ·subst e;rw[aH (),aH (),aH (),show decide (("either":Str)="either")=true from dX rfl]at hn;obtain⟨n1,h1,rfl⟩:=aO.mp hn;obtain⟨l1,u1⟩:=XS f v hin true ih' h1;refine⟨by show oU n1<_;unfold oU;lia,λa=>?_⟩;rw[val,qE,aH (),aH (),aH (),aH (),jV,fS];show _↔U (oU n1) a;rw[v.turn f hin n1 l1];refine jB (λb=>?_) a;rw[oY,eC];constructor
    ·rintro⟨_,z⟩;exact(u1 b).mpr λt ht=>z _ (bP.mpr ⟨t,ht,rfl⟩)
    ·intro z;refine⟨v.lt f hin l1 z,λu hu=>?_⟩;obtain⟨t,ht,rfl⟩:=bP.mp hu;exact(u1 b).mp z t ht
end
theorem HZ(h:aD.Nodup):(xN aD r).1.Nodup:=by
 unfold xN;split
 ·exact h
 ·rename_i hn
  refine mL.mpr ⟨h,by simp,λa ha b hb e=>?_⟩;rw[aT.mp hb]at e;subst e;unfold oP at hn;have :=List.findIdx?_eq_none_iff.mp hn a ha;rw[xU]at this;cases this
mutual
theorem GJ:∀(t:Tm)(aD:List Rw),aD.Nodup->(eK t aD).1.Nodup
 | .name x,aD,h=>by rw[eK];exact HZ h
 | .node w ts,aD,h=>by
   rw[eK];split
   ·exact h
   ·split
    ·exact h
    ·split
     ·exact LF _ ts aD h
     ·exact LF _ ts aD h
theorem LF(e:Bool):∀(ts:List Tm)(aD:List Rw),aD.Nodup->(jJ e ts aD).1.Nodup
 |[],aD,h=>by rw[jJ];exact h
 |t::ts,aD,h=>by
  rw[jJ];exact LD e ts _ _ (GJ t aD h)
theorem LD(e:Bool):∀(ts:List Tm)(aD:List Rw)(m:Nat),aD.Nodup->(jA e ts aD m).1.Nodup
 |[],aD,m,h=>by rw[jA];exact h
 |t::ts,aD,m,h=>by
  rw[jA];exact LD e ts _ _ (HZ (GJ t aD h))
end
mutual
theorem UU:∀(t:Tm)(aD:List Rw)(n:Nat),num aD t=some n->eK t aD=(aD,n)
 | .name x,aD,n,h=>by
   rw[num]at h;obtain⟨k,hk,rfl⟩:=aO.mp h;rw[eK,xN,hk]
 | .node w ts,aD,n,h=>by
   rw[num]at h;rw[eK];split at h
   ·rename_i c;rw[aL c];cases h;rfl
   ·rename_i c
    rw[aH c];split at h
    ·rename_i c;rw[aL c];cases h;rfl
    ·rename_i c
     rw[aH c];split at h
     ·rename_i c
      rw[aL c];obtain⟨k,hk,rfl⟩:=aO.mp h;rw[BL _ ts aD k hk]
     ·rename_i c
      rw[aH c];obtain⟨k,hk,rfl⟩:=aO.mp h;rw[BL _ ts aD k hk]
theorem BL(e:Bool):∀(ts:List Tm)(aD:List Rw)(n:Nat),uJ aD e ts=some n->jJ e ts aD=(aD,n)
 |[],aD,n,h=>by rw[uJ]at h;cases h
 |t::ts,aD,n,h=>by
  rw[uJ]at h;obtain⟨k,hk,h⟩:=cZ.mp h;rw[jJ,UU t aD k hk];exact BJ e ts aD _ n h
theorem BJ(e:Bool):∀(ts:List Tm)(aD:List Rw)(m n:Nat),uR aD e m ts=some n->jA e ts aD m=(aD,n)
 |[],aD,m,n,h=>by rw[uR]at h;cases h;rw[jA]
 |t::ts,aD,m,n,h=>by
  rw[uR]at h;obtain⟨k,hk,h⟩:=cZ.mp h;obtain⟨q,hq,h⟩:=cZ.mp h;rw[jA,UU t aD k hk];show jA e ts (xN aD (.bo (m:Int) (lR e k:Nat))).1 (xN aD (.bo (m:Int) (lR e k:Nat))).2=_;rw[xN,hq];exact BJ e ts aD _ n h
end
theorem CU:∀(ts:List Tm)(aD:List Rw),(∀t∈ts,fM 20 t)->rC aD->aD.Nodup->rC (uS ts aD)/\(uS ts aD).Nodup
 |[],aD,_,h1,h2=>⟨h1,h2⟩
 |t::ts,aD,hf,h1,h2=>by
  rw[uS];exact CU ts _ (λt ht=>hf t (bC _ ht)) (VR t 20 aD (hf t bB) h1).1 (GJ t aD h2)
theorem CV:∀(ts:List Tm)(aD:List Rw),(∀t∈ts,fM 20 t)->∀t∈ts,∃n,num (uS ts aD) t=some n
 |[],_,_,t,h=>by cases h
 |t0::ts,aD,hf,t,h=>by
  rw[uS];rcases bK.mp h with rfl |h
  ·obtain⟨xs,hx⟩:=JG ts (eK t aD).1;rw[hx];exact⟨_,vW _ _ _ _ (kQ t 20 aD (hf t bB))⟩
  ·exact CV ts _ (λt ht=>hf t (bC _ ht)) t h
theorem re{t:Tm}(hf:fM 20 t)(h:∃n,num aD t=some n):jo aD t:=by
 obtain⟨n,hn⟩:=h;exact⟨hf,by rw[UU t aD n hn]⟩
theorem jo.num{t:Tm}(h:jo aD t):num aD t=some (eK t aD).2:=by
 have :=kQ t 20 aD h.1;rwa[h.2]at this
def Hs(m:Nat)(ps:List (Nat×Nat))(S:Str->List Nat)(s:Tm×Tm):Prop:=∀a,a∈val m ps S s.1->a∈val m ps S s.2
def Hr(m:Nat)(ps:List (Nat×Nat))(S:Str->List Nat)(r:mE):Prop:=(∀s∈r.1,Hs m ps S s)->Hs m ps S r.2
section
variable {m:Nat} {book:List mE} {ls:List Ln}
theorem jo.val(f:Fw m ps S)(v:Vw m ps S aD U)(hs:rC aD){t:Tm}(h:jo aD t):(eK t aD).2<2*aD.length/\∀a,a∈val m ps S t↔U (eK t aD).2 a:=f9 f v hs.in_ hs.hd 21 t h.1 _ h.num
theorem jp.hs(f:Fw m ps S)(v:Vw m ps S aD U)(hs:rC aD)(h:jp aD s):Hs m ps S s↔∀a,U (eK s.1 aD).2 a->U (eK s.2 aD).2 a:=by
 unfold Hs;exact forall_congr' λa=>by rw[(h.1.val f v hs).2 a,(h.2.val f v hs).2 a]
theorem HH(n:Nat):rM (n:Int)=((oU n:Nat):Int):=by unfold rM oU;lia
theorem sj(f:Fw m ps S)(v:Vw m ps S aD U)(hs:rC aD)(hg:∀r∈book,GdR aD r)(hr:∀r∈book,Hr m ps S r):Clo aD (book.map (nR aD)) (λi j=>∀a,U i.toNat a->U j.toNat a):=by
 have tn:=v.turn f hs.in_;have hl:=hs.pos;have z0:∀a,¬U 0 a:=λa z=>((v.row 0 _ hs.hd a).mp z).elim
 have bo:∀{k:Nat}{x y:Int},aD[k]?=some (.bo x y)->∀a,U (2*k) a↔U x.toNat a/\U y.toNat a:=λh a=>v.row _ _ h a
 refine⟨λn hn a h=>h,λn hn a h=>(z0 a h).elim,λn hn a h=>?_,λk x y h=>?_,λi j hi hj h a ha=>?_,λi k x y hi h h1 h2 a ha=>?_,λi n j _ _ _ h1 h2 a ha=>h2 a (h1 a ha),λi j hi hj h a ha=>?_,λq hq h=>?_⟩
 ·show U 1 a;exact(v.odd 0 hl a).mpr ⟨v.lt f hs.in_ hn (by simpa using h),λb hb=>(z0 b hb).elim⟩
 ·constructor<;>intro a ha
  all_goals
   rw[cE]at ha
  ·exact((bo h a).mp ha).1
  ·exact((bo h a).mp ha).2
 ·have :=h a ha;rw[HH,cE]at this;have ha':U i a:=by simpa using ha
  have :=((tn i hi a).mp this).2 a ha';rw[f.irr]at this;cases this
 ·rw[cE];exact(bo h a).mpr ⟨h1 a ha,h2 a ha⟩
 ·rw[HH,cE]at ha⊢;have :=(tn j hj a).mp ha;exact(tn i hi a).mpr ⟨this.1,λb hb=>this.2 b (by simpa using h b (by simpa using hb))⟩
 ·obtain⟨r,mV,rfl⟩:=bP.mp hq;obtain⟨_,g1,g2⟩:=hg r mV;have :=(g2.hs f v hs).mp (hr r mV λs hs1=>(g1 s hs1 |>.hs f v hs).mpr λa ha=>by
   have :=h (nS aD s) (bP.mpr ⟨s,hs1,rfl⟩) a (by show U ((eK s.1 aD).2:Int).toNat a;simpa using ha);have this:U ((eK s.2 aD).2:Int).toNat a:=this;simpa using this)
  intro a ha;have ha:U ((eK r.2.1 aD).2:Int).toNat a:=ha;show U ((eK r.2.2 aD).2:Int).toNat a;rw[cE]at ha⊢;exact this a ha
theorem sound(f:Fw m ps S)(hs:rC aD)(hg:∀r∈book,GdR aD r)(hr:∀r∈book,Hr m ps S r)(gk:LM aD (book.map (nR aD)) ls)(g:jp aD s)(h:zR ls (nS aD s).1 (nS aD s).2=true):Hs m ps S s:=by
 obtain⟨U,v⟩:=vw_ex (m:=m) (ps:=ps) (S:=S) hs.in_;obtain⟨p,l,h1,h2,h3⟩:=eZ.mp h;have :=TU (sj f v hs hg hr) gk p l h1;rw[h2,h3]at this;refine(g.hs f v hs).mpr λa ha=>?_
 have :=this a (by show U ((eK s.1 aD).2:Int).toNat a;simpa using ha);have this:U ((eK s.2 aD).2:Int).toNat a:=this;simpa using this
end
def ab(aD:List Rw)(R:Nat->Nat->Bool)(x:Str):List Nat:=match oP aD (.nm x)with
 |some k=>jI (yQ (2*aD.length) R) R (2*k)
 |none=>[]
section
variable {book:List mE} {ls:List Ln}
theorem JA(hs:rC aD)(hp:Pl aD (2*aD.length) aD.length ls)(hc:Cl aD aX ls.length ls):Fw (yQ (2*aD.length) (rl ls)).length (wR (yQ (2*aD.length) (rl ls)) (rl ls)) (ab aD (rl ls)):=by
 have h:=Rl.of hp hc;refine⟨VW (GI _),λx a=>?_⟩;unfold ab;cases c:oP aD (.nm x)with
 |some k=>
  have :=RI c;rw[WO h ()]
 |none=>
  refine⟨λz=>(nomatch z),λz=>?_⟩;rw[fS]at z;have :=z.2 a (fS.mpr ⟨z.1,λb hb=>(nomatch hb)⟩);rw[VW (GI _)]at this;cases this
theorem QV(hs:rC aD)(lG:aD.Nodup)(hp:Pl aD (2*aD.length) aD.length ls)(hc:Cl aD aX ls.length ls):Vw (yQ (2*aD.length) (rl ls)).length (wR (yQ (2*aD.length) (rl ls)) (rl ls)) (ab aD (rl ls)) aD (λn a=>a∈jI (yQ (2*aD.length) (rl ls)) (rl ls) n):=by
 have h:=Rl.of hp hc;refine⟨λk r hr a=>?_,λk hk a=>?_⟩
 ·have hkl:=(aC.mp hr).1;cases r with
  |no=>
   have e:=hs.few k hr;subst e;show a∈jI _ _ 0↔False;rw[OS h hp.low];exact⟨λz=>(nomatch z),False.elim⟩
  |nm x=>
   show _↔a∈ab aD (rl ls) x;have e:oP aD (.nm x)=some k:=by
    unfold oP;refine gC.mpr ⟨hkl,?_,λj hj=>?_⟩
    ·rw[(aC.mp hr).2];exact xU _
    ·intro z;have z:=(VJ _ _).mp z;have e2:=(aC.mp hr).2;rw[←e2]at z;exact absurd ((OA lG).mp z) ()
   unfold ab;rw[e]
  |bo i j=>
   obtain⟨⟨b1,b2⟩,b3,b4⟩:=hs.in_ k i j hr;obtain⟨p1,p2⟩:=hp.part k i j hkl hr;have hb:∀x,rl ls x i.toNat=true->rl ls x j.toNat=true->rl ls x (2*k)=true:=λx h1 h2=>by
    obtain⟨a,l,g1,g2,g3⟩:=eZ.mp h1;obtain⟨b,l',g4,g5,g6⟩:=eZ.mp h2;exact hc.both a b l l' x k i j (aC.mp g1).1 (aC.mp g4).1 g1 g4 g2 (by rw[g3];lia) g5 (by rw[g6];lia) hr
   have q1:rl ls (2*k) i.toNat=true:=by unfold rl;rw[Int.toNat_of_nonneg b1];exact p1
   have q2:rl ls (2*k) j.toNat=true:=by unfold rl;rw[Int.toNat_of_nonneg b3];exact p2
   have :=OU (sp:=yQ (2*aD.length) (rl ls)) h q1 q2 hb;show a∈jI _ _ (2*k)↔a∈jI _ _ i.toNat/\a∈jI _ _ j.toNat;rw[←this,cY,bO]
 ·show a∈jI _ _ (2*k+1)↔_;have :=VM h (n:=2*k) ();rw[show lQ (2*k)=2*k+1 by unfold lQ;lia]at this;rw[←this,fS]
theorem FU(hs:rC aD)(lG:aD.Nodup)(hp:Pl aD (2*aD.length) aD.length ls)(hc:Cl aD aX ls.length ls)(g:jp aD s):Hs (yQ (2*aD.length) (rl ls)).length (wR (yQ (2*aD.length) (rl ls)) (rl ls)) (ab aD (rl ls)) s↔zR ls (nS aD s).1 (nS aD s).2=true:=by
 have f:=JA hs hp hc;have v:=QV hs lG hp hc;rw[g.hs f v hs];have :=LP (Rl.of hp hc) (g.1.val f v hs).1 (g.2.val f v hs).1;show _↔rl ls (eK s.1 aD).2 (eK s.2 aD).2=true;rw[←this,cX];exact forall_congr' λa=>forall_congr' λ_=>decide_eq_true_iff.symm
theorem qt(hs:rC aD)(lG:aD.Nodup)(hp:Pl aD (2*aD.length) aD.length ls)(hc:Cl aD (book.map (nR aD)) ls.length ls)(hg:∀r∈book,GdR aD r):∀r∈book,Hr (yQ (2*aD.length) (rl ls)).length (wR (yQ (2*aD.length) (rl ls)) (rl ls)) (ab aD (rl ls)) r:=λr hr h=>by
 obtain⟨_,g1,g2⟩:=hg r hr;have f:=JA hs hp hc;have v:=QV hs lG hp hc;refine(FU hs lG hp hc g2).mpr ?_;obtain⟨k,hk⟩:=iV (bP.mpr ⟨r,hr,rfl⟩:nR aD r∈book.map (nR aD));have l1:=(g2.1.val f v hs).1;have l2:=(g2.2.val f v hs).1;refine hc.rule k (nR aD r) hk ⟨⟨Int.natCast_nonneg _,?_⟩,Int.natCast_nonneg _,?_⟩ λp hp'=>?_
 ·show((eK r.2.1 aD).2:Int)<_;lia
 ·show((eK r.2.2 aD).2:Int)<_;lia
 ·obtain⟨s,hs1,rfl⟩:=bP.mp hp';obtain⟨a,l,q1,q2,q3⟩:=eZ.mp ((FU hs lG hp hc (g1 s hs1)).mp (h s hs1));exact⟨a,l,(aC.mp q1).1,q1,q2,q3⟩
end
theorem TH{x:Str}{n:Int}(h:QH x=some n):n<=2:=by
 unfold QH at h
 repeat' split at h
 all_goals first |(cases h;done) |(cases h;lia)
theorem nq(ls:List Ln)(k:Nat)(p:Int):xJ ls k (.n p)=if 0<=p/\p<(k:Int)then(ls[p.toNat]?).map λl=>(l.i,l.j)else none:=rfl
theorem JZ{ls:List Ln}{k:Nat}{p:Int}(h:(xJ ls k (.n p)).isSome=true):0<=p/\p<(k:Int):=by
 by_cases c:0<=p/\p<(k:Int)
 ·exact c
 ·rw[nq,aH c]at h;cases h
theorem lc{ls:List Ln}{k:Nat}:∀{as:List Wt},(as.all λa=>(xJ ls k a).isSome)=true->∃ns:List Int,as=ns.map .n/\∀p∈ns,0<=p/\p<(k:Int)
 |[],_=>⟨[],rfl,λp z=>by cases z⟩
 |a::as,h=>by
  rw[tH,bY]at h;obtain⟨ns,e,hn⟩:=lc h.2;cases a with
  |n i=>exact⟨i::ns,by rw[e];rfl,λp hp=>by
     rcases bK.mp hp with rfl |hp
     ·exact JZ h.1
     ·exact hn p hp⟩
  |ps q=>exact absurd h.1 (by simp[xJ])
theorem b7{ls:List Ln}{k:Nat}(h:xQ aD aX ls k l=true)(hr:∀r∈aX,r.1.length<=100):GL k l.w l.as:=by
 unfold xQ at h;split at h
 ·cases h
 split at h
 ·next hw=>
  unfold jW at h;split at h
  ·next r ps e=>
   split at h
   ·split at h
    ·next q hq=>
     rw[bY]at h;have h2:(ps.map λp=>xJ ls k (.n p))=q.1.map some:=by simpa using h.2
     have eQ:ps.length=q.1.length:=by
      have :=dH List.length h2;simpa using this
     have hq100:=hr q (aV hq);rw[hw,e];refine glR k r ps () λp hp=>?_
     have hm:xJ ls k (.n p)∈q.1.map some:=by
      rw[←h2];exact bP.mpr ⟨p,hp,rfl⟩
     obtain⟨y,_,e2⟩:=bP.mp hm;exact JZ (by rw[←e2];rfl)
    ·cases h
   ·cases h
  ·cases h
 ·next hw=>
  split at h
  ·next hc=>
   obtain⟨ns,e,hn⟩:=lc hc.2;have :=TH hc.1;rw[e];rw[e,aE]at this;exact glN k l.w hw ns () hn
  ·cases h
theorem WX{ls:List Ln}(h:LM aD aX ls)(hr:∀r∈aX,r.1.length<=100):wJ ls:=λk l hl=>b7 (h.snd k l hl) hr
theorem FS{a:Addr}{ns:List Str}{js:List Nat}{g:TG}{tc:TT}{te:TE}{σ:St}{Q:VK}(Pv:Nat->List V->St->Hp->Prop)(h0:Pv 0 [] (JP ns js σ) H)(hz:xs.length<=sizeLine)(hl:∀i ys σ H,Pv i ys σ H->ys.length<=i)
 (hK:∀i ys σ H,Pv i ys σ H->dL K H a xs)
 (hs:∀(i:Nat) x ys σ H (C:V->St->Hp->Prop) (D:St->Hp->Prop),xs[i]?=some x->Pv i ys σ H->(∀y σ2 H3,Pv (i+1) (ys++[y]) σ2 H3->C y σ2 H3)->(∀σ2 H3,Pv (i+1) ys σ2 H3->D σ2 H3)->
  g x σ H λσ2 H2=>tc σ2 H2 λb H3=>if b=true then te σ2 H3 λy H4=>C y σ2 H4 else D σ2 H3)
 (hd:∀ys σ H,Pv xs.length ys σ H->∀p,H p=none->Q (.ref p) (upd H p (.lst ys))):
 bj (jk K a) ns js g (some tc) te σ H Q:=by
 refine⟨λi m ys σ H=>m=xs.length-i/\i<=xs.length/\Pv i ys σ H,⟨xs.length,(),cG _,h0⟩,λi m ys σ1 H1 ⟨hm,hi,hp⟩=>?_⟩;by_cases h:i<xs.length
 ·refine .inr ⟨⟨xs,xs[i],hK i ys σ1 H1 hp,aA h⟩,?_,λx H' ⟨e,hx⟩=>?_⟩
  ·have :=hl i ys σ1 H1 hp;lia
  ·subst e;exact hs i x ys σ1 _ _ _ (hx xs (hK i ys σ1 _ hp)) hp (λy σ2 H3 q=>⟨xs.length-(i+1),(),rfl,(),q⟩) λσ2 H3 q=>⟨xs.length-(i+1),(),rfl,(),q⟩
 ·have e:i=xs.length:=by lia
  subst e;exact .inl ⟨⟨xs,hK _ ys σ1 H1 hp,aG _⟩,hd ys σ1 H1 hp⟩
theorem p8(xs:List Nat)(a:Nat):((xs.map λ(x:Nat)=>Dt.int (x:Int)).any λe=>eR e (.int (a:Int)))=decide (a∈xs):=by
 rw[cD,eV,bO];constructor
 ·rintro⟨d,hd,h⟩;obtain⟨x,hx,rfl⟩:=bP.mp hd;have :(x:Int)=(a:Int):=by simpa[eR]using h
  rw[show a=x by lia];exact hx
 ·intro h;exact⟨.int (a:Int),bP.mpr ⟨a,h,rfl⟩,xU _⟩
theorem gh{a:Addr}{xs:List Nat}(h:H a=some (.lst (xs.map nV))):eA H (.lst (xs.map λ(x:Nat)=>Dt.int (x:Int))) (.ref a):=by
 refine⟨a,_,rfl,h,?_⟩;clear h
 induction xs with
 |nil=>rfl
 |cons x xs ih=>exact⟨_,_,rfl,rfl,ih⟩
theorem LM.keys{ls:List Ln}(h:LM aD aX ls):(ls.map λl=>xF l.i l.j).Nodup:=by
 rw[List.Nodup,mK,dM];intro a b ha hb hab e;unfold xF at e;simp only[List.cons.injEq,Sum.inl.injEq,and_true]at e;have :=h.dis a b ls[a] ls[b] (aA ha) (aA hb) e.1 e.2;lia
abbrev s_u:Stmt:=top 56
theorem sc_u:cC ["world","saying","beyond"] ["world","saying"] (zK s_u):=by rfl'
abbrev s_I:Stmt:=top 57
theorem RA:cC ["sheet","book","saying","lines","pair","found","world"] ["sheet","book","saying"] (zK s_I):=by rfl'
abbrev nv:Stmt:=top 58
theorem sc_ag:cC ["book","saying"] ["book","saying"] (zK nv):=by rfl'
structure Wx(H:Hp)(wa:Addr)(m:Nat)(ps:List (Nat×Nat))(zs:List Str)(S:Str->List Nat):Prop where
 ex:∃(ca:Addr)(us:List V)(la:Addr)(Ss:List (List Nat)),H wa=some (.tup [nV m,.ref ca,.ref la])/\H ca=some (.lst us)/\bG H (ps.map OD) us/\mY H la zs Ss m/\∀(i:Nat)(z:Str),zs[i]?=some z->Ss[i]?=some (S z)
 ok2:Ok2 m ps
 m90:m<=90
 nd:zs.Nodup
 zl:zs.length<=5
 sr:∀z,(∀i∈S z,i<m)/\(S z).Pairwise (· < ·)
theorem Wx.same{wa:Addr}{m:Nat}(e:bA H H')(h:Wx H wa m ps zs S):Wx H' wa m ps zs S:=by
 obtain⟨⟨ca,us,la,Ss,h1,h2,h3,h4,h5⟩,r1,r2,r3,r4,r5⟩:=h;exact⟨⟨ca,us,la,Ss,e _ _ h1,e _ _ h2,bG.same e h3,h4.same e,h5⟩,r1,r2,r3,r4,r5⟩
inductive spSg (vs:List V) (H:Hp) (Q:VK) (E:XK):Prop
 |mk (wa:Addr) (v:V) (s:Tm×Tm) (m:Nat) (ps:List (Nat×Nat)) (zs:List Str) (S:Str->List Nat) (_:vs=[.ref wa,v]) (_:Wx H wa m ps zs S) (_:oR H s v) (_:(fM 20 s.1/\wt s.1<=900)) (_:(fM 20 s.2/\wt s.2<=900)) (_:(∀x∈nms s.1++nms s.2,x∈zs)) (_:¬Hs m ps S s) (_:∀(n:Nat) H',bA H H'->Q (.int n) H')
theorem l8{m:Nat}{xs:List Nat}(h:xs.Pairwise (· < ·))(hm:∀x∈xs,x<m):xs.length<=m:=by
 have :=qI (h.imp λh=>bW h) (m:=List.range m) λx hx=>bR.mpr (hm x hx)
 rwa[eY]at this
theorem IR{aD:List Rw}{e:Bool}:∀{ts:List Tm}{m n:Nat},uR aD e m ts=some n->∀t∈ts,∃k,num aD t=some k
 |[],_,_,_,t,h=>by cases h
 |t0::ts,m,n,h,t,ht=>by
  rw[uR]at h;obtain⟨k,hk,h⟩:=cZ.mp h;obtain⟨q,_,h⟩:=cZ.mp h;rcases bK.mp ht with rfl |ht
  ·exact⟨k,hk⟩
  ·exact IR h t ht
theorem UV{e:Bool}(h:uJ aD e ts=some n):∀t∈ts,∃k,num aD t=some k:=by
 cases ts with
 |nil=>rw[uJ]at h;cases h
 |cons t0 ts=>
  rw[uJ]at h;obtain⟨k,hk,h⟩:=cZ.mp h;intro t ht;rcases bK.mp ht with rfl |ht
  ·exact⟨k,hk⟩
  ·exact IR h t ht
theorem gc:∀(d:Nat)(t:Tm),sM d t->∀n,num aD t=some n->∀x∈nms t,∃k,oP aD (.nm x)=some k:=by
 intro d
 induction d with
 |zero=>exact λt h=>h.elim
 |succ d ih=>
  intro t ht n hn x hx;cases t with
  |name y=>
   rw[nms,aT]at hx;subst hx;rw[num]at hn;obtain⟨k,hk,_⟩:=aO.mp hn;exact⟨k,hk⟩
  |node w ts=>
   obtain⟨hs,hts⟩:=ht.node;rw[nms]at hx;obtain⟨t,ht1,hx⟩:=rF.mp hx;have go:(∃k,num aD t=some k)->∃k,oP aD (.nm x)=some k:=λ⟨k,hk⟩=>ih t (hts t ht1) k hk x hx
   have ne:∀{p:Prop},ts.length=0->p:=λh=>by rw[lZ.mp h]at ht1;cases ht1
   rw[num]at hn;rcases hs with h |h |h |h |h
   ·exact ne h.2
   ·exact ne h.2
   ·obtain⟨e,_⟩:=h;subst e;rw[aH (),aH (),aL rfl]at hn;obtain⟨k,hk,_⟩:=aO.mp hn;exact go (UV hk t ht1)
   ·obtain⟨e,_⟩:=h;subst e;rw[aH (),aH (),aH ()]at hn;obtain⟨k,hk,_⟩:=aO.mp hn;exact go (UV hk t ht1)
   ·obtain⟨e,_⟩:=h;subst e;rw[aH (),aH (),aH ()]at hn;obtain⟨k,hk,_⟩:=aO.mp hn;exact go (UV hk t ht1)
theorem gg{x:Str}{k:Nat}(h:aD[k]?=some (.nm x)):(x,k)∈IT aD:=by
 unfold IT;refine lW.mpr ⟨k,bR.mpr (aC.mp h).1,?_⟩;unfold TD;rw[h];rfl
theorem FG(lG:aD.Nodup):((IT aD).map (·.1)).Nodup:=by
 refine mK.mpr ?_;unfold IT;refine List.pairwise_filterMap.mpr (dQ.imp λ{a b} hab p hp q hq e=>?_);have g:∀{k:Nat}{p:Str×Nat},(TD aD k).map (λx=>(x,k))=some p->aD[k]?=some (.nm p.1):=λ{k p} h=>by
  obtain⟨x,hx,rfl⟩:=aO.mp h;unfold TD at hx;split at hx
  ·rename_i y hy;cases hx;exact hy
  ·cases hx
 have h1:=g hp;have h2:=g hq;rw[←e,←h1]at h2;have hb:=(aC.mp h1).1;have :=(List.getElem?_inj hb lG).mp h2.symm;lia
def Ver(fl:Bool)(b:List mE)(s:Tm×Tm):Prop:=match fl with
 |true=>∀m ps S,Fw m ps S->(∀r∈b,Hr m ps S r)->Hs m ps S s
 |false=>∃m ps S,Fw m ps S/\(∀r∈b,Hr m ps S r)/\¬Hs m ps S s
inductive spJo (K:W.Frag) (vs:List V) (H:Hp) (Q:VK) (E:XK):Prop
 |mk (sa ba:Addr) (v:V) (us bs:List V) (aD:List Rw) (b:List mE) (s:Tm×Tm) (_:vs=[.ref sa,.ref ba,v]) (_:H sa=some (.lst us)) (_:gD K H aD us) (_:rC aD) (_:aD.Nodup) (_:aD.length<=30) (_:(IT aD).length<=3) (_:H ba=some (.lst bs)) (_:iD H b bs) (_:b.length<=100) (_:(∀r∈b,GdR aD r)) (_:oR H s v) (_:jp aD s) (_:wt s.1<=900) (_:wt s.2<=900) (_:∀(p:Addr)(fl:Bool)(iH:List V) H',bA H H'->H' p=some (.tup (.str (if fl then"follows" else"open")::iH))->Ver fl b s->Q (.ref p) H')
theorem oh(lG:aD.Nodup){k:Nat}(hr:aD[k]?=some r):oP aD r=some k:=by
 unfold oP;have e2:=(aC.mp hr).2;refine gC.mpr ⟨(aC.mp hr).1,?_,λj hj=>?_⟩
 ·rw[e2];exact xU _
 ·intro z;have z:=(VJ _ _).mp z;exact absurd ((OA lG).mp (z.trans e2.symm)) ()
theorem OT(sp:List Nat)(R:Nat->Nat->Bool)(n:Nat):(jI sp R n).Pairwise (· < ·):=gQ _ dQ
theorem wx_of{H0:Hp}{wa ca ra:Addr}{ls:List Ln}{T:List Ro}{vw:List V}(lG:aD.Nodup)(hrl:aD.length<=30)(hn3:(IT aD).length<=3)(wo:WoAt H0 H wa (yQ (2*aD.length) (rl ls)) aD ls T ca ra vw):Wx H wa (yQ (2*aD.length) (rl ls)).length (wR (yQ (2*aD.length) (rl ls)) (rl ls)) (T.map (·.2.1)) (ab aD (rl ls)):=by
 have hsl:(yQ (2*aD.length) (rl ls)).length<=2*aD.length:=ck;refine⟨⟨ca,vw,ra,T.map (·.2.2.2),wo.tup,wo.cl,wo.dat,⟨⟨T.map (·.1),T.map (·.2.2.1),wo.lst,by simp,by simp,λi z sp hz hs=>?_⟩,by simp,λsp hsp=>?_⟩,λi z hz=>?_⟩,GI _,(),wo.perm.nodup_iff.mpr (FG lG),?_,λz=>?_⟩
 ·rw[aK]at hz hs;obtain⟨e,he,rfl⟩:=aO.mp hz;rw[he]at hs;cases hs;obtain⟨k1,k2,_⟩:=wo.tr e (aV he);exact⟨e.1,e.2.2.1,by rw[aK,he];rfl,by rw[aK,he];rfl,k1,k2⟩
 ·obtain⟨e,he,rfl⟩:=bP.mp hsp;obtain⟨_,_,k3,k4⟩:=wo.tr e he;exact⟨k3,k4⟩
 ·rw[aK]at hz;obtain⟨e,he,rfl⟩:=aO.mp hz;obtain⟨k,k1,k2⟩:=wo.is e (aV he);rw[aK,he];show some e.2.2.2=some (ab aD (rl ls) e.2.1);unfold ab;rw[oh lG (IS k1).1,k2]
 ·rw[wo.perm.length_eq,aE];lia
 ·unfold ab;cases oP aD (.nm z)with
  |none=>exact⟨λi hi=>(nomatch hi),.nil⟩
  |some k=>exact⟨λi hi=>(lP.mp hi).1,OT _ _ _⟩
theorem ZW(bi:Bi mg)(h_af:gS P w K mg base 25 "value" ["world","t"] (ml K))(F:gI K "spot_against" "spot_against" s_u f fd):dI P w K mg base fZ 26 f fd ["world","saying"] spSg:=by
 refine F.okz sc_u λfD A outer s H vs Q E hr h=>?_
 obtain⟨wa,v,s,m,ps,zs,S,rfl,hw,hv,⟨f1,w1⟩,⟨f2,w2⟩,hsub,hno,q⟩:=h;obtain⟨a,v1,v2,rfl,ha,t1,t2⟩:=hv.out;refine⟨_,(zD (qZ (i:=2) sc_u.nd rfl (Or.inr rfl) (zI h_af hr.m rfl (zA (pv 0) (zA (zL zM (pv 1) zE) zC)))) (zG (zO (zL yH (yS ["spot"] ["beyond"] [2] (yF (zI h_af hr.m rfl (zA (pv 0) (zA (zL zM (pv 1) zE) zC)))) (λ_ _ _ _ nd=>yG 0 nd) (λ_ _ _ _=>kD (zP (MM hr.units) (pv 0) (pv 1) (by with_unfolding_all rfl))) (λ_ _ _ _=>(pv 0))) zE)))),?_⟩;refine zH λN hN=>?_
 dsimp![];have vl:∀{J:Hp}{u:V}{t:Tm}{Q':VK},bA H J->fO H t u->fM 20 t->wt t<=900->(∀x∈nms t,x∈zs)->(∀(p:Addr)(H':Hp),bA J H'->J p=none->H' p=some (.lst ((val m ps S t).map nV))->Q' (.ref p) H')->ml K [.ref wa,u] J Q' E0:=λ{J u t Q'} e g1 g2 g3 g4 g5=>by
  obtain⟨⟨ca,us,la,Ss,k1,k2,k3,k4,k5⟩,r1,r2,r3,r4,r5⟩:=hw.same e;exact⟨wa,u,t,m,ca,us,ps,la,zs,Ss,S,rfl,k1,k2,k3,r1,r2,k4,⟨r3,r4⟩,eA.same e g1,g2,g3,g4,k5,r5,g5⟩
 refine⟨_,dN.of ha,_,pH,vl (bA.refl _) t2 f2 w2 (λx hx=>hsub x (aZ _ hx)) λpb H1 s1 _ kb=>hN _ _ ?_⟩;clear hN;dsimp![];refine⟨_,dN.of (s1 _ _ ha),_,lS,vl s1 t1 f1 w1 (λx hx=>hsub x (cP _ hx)) λpv H2 s2 _ kv=>?_⟩;refine⟨pv,rfl,⟨_,dL.of kv⟩,?_⟩;have hln:∀t:Tm,(val m ps S t).length<=90:=λt=>cR (l8 (tK (λx=>(hw.sr x).2) t) (λx hx=>QX (λx=>(hw.sr x).1) t hx)) hw.m90
 refine FS (xs:=(val m ps S s.1).map nV) (λn ys σ Hx=>bA H2 Hx/\ys=(((val m ps S s.1).take n).filter λa=>!decide (a∈val m ps S s.2)).map nV/\∃o,σ=[o,some (V.ref pb)]) ⟨bA.refl _,rfl,_,rfl⟩ (small (by rw[aE];have :=hln s.1;lia)) (λn ys σ Hx e=>?_) (λn ys σ Hx e=>dL.of (e.1 _ _ kv)) (λn x ys σ Hx C D hx e hC hD=>?_) (λys σ Hx e p hp=>?_)
 ·rw[e.2.1,aE];exact cR (iN _ _) (by rw[bU];lia)
 ·obtain⟨ex,rfl,o,rfl⟩:=e;rw[aK]at hx;obtain⟨y,hy,rfl⟩:=aO.mp hx;obtain⟨hyl,hye⟩:=aC.mp hy;dsimp![dt];refine⟨1,.int y,rfl,_,.inl (gh ((s2.trans ex) _ _ kb)),(λe he=>by obtain⟨_,_,rfl⟩:=bP.mp he;trivial),(),?_⟩;rw[p8,Bool.true_xor];have ht:=aM hyl;by_cases hc:y∈val m ps S s.2
  ·rw[aH (by simp[hc])];refine hD _ _ ⟨ex,?_,_,rfl⟩;rw[ht,hye,fI,aU];simp[hc]
  ·rw[aL (by simp[hc])];refine hC _ _ _ ⟨ex,?_,_,rfl⟩;rw[ht,hye,fI,aU];simp[hc,nV]
 obtain⟨ex,rfl,o,rfl⟩:=e;rw[aE,aQ (aG _)];obtain⟨x,hx1,hx2⟩:∃x,x∈val m ps S s.1/\x∉val m ps S s.2:=oT λz=>hno λa h1=>oT λh2=>z ⟨a,h1,h2⟩
 have hm:x∈(val m ps S s.1).filter λa=>!decide (a∈val m ps S s.2):=cY.mpr ⟨hx1,by simp[hx2]⟩
 cases hf:(val m ps S s.1).filter λa=>!decide (a∈val m ps S s.2)with
 |nil=>rw[hf]at hm;cases hm
 |cons y ys=>
  exact⟨p,rfl,_,dL.of zB,_,lS,q y _ (s1.trans (s2.trans (ex.trans (zF hp _))))⟩
theorem BF(bi:Bi mg)(h_G:gS P w K mg base 4 "closing" ["sheet","rules"] (j4 K))(h_R:gS P w K mg base 47 "numbered" ["sheet","book"] (spNm K))(h_X:gS P w K mg base 45 "pair_of" ["places","saying"] (mv P w K))(h_H:gS P w K mg base 1 "places_of" ["sheet"] (mq P w K))(h_ad:gS P w K mg base 3 "paper" ["lines","i","j"] spPa)(h_M:gS P w K mg base 2 "world_of" ["sheet","lines"] (PN K))(h_u:gS P w K mg base 26 "spot_against" ["world","saying"] spSg)(F:gI K "judge_on" "judge_on" s_I f fd):dI P w K mg base fZ 48 f fd ["sheet","book","saying"] (spJo K):=by
 refine F.okz RA λfD A outer s H vs Q E hr h=>?_
 obtain⟨sa,ba,v,us,bs,aD,b,s,rfl,hsa,hrw,hs,lG,hrl,hn3,hba,hb,hbl,hg,hv,gs,w1,w2,q⟩:=h;refine⟨_,(zD (yE 3 RA.nd (zI h_G hr.m rfl (zA (pv 0) (zA (zI h_R hr.m rfl (zA (pv 0) (zA (pv 1) zC))) zC)))) (zD (yE 4 RA.nd (zI h_X hr.m rfl (zA (zI h_H hr.m rfl (zA (pv 0) zC)) (zA (pv 2) zC)))) (zD (yE 5 RA.nd (zI h_ad hr.m rfl (zA (pv 3) (zA (zL zM (pv 4) zE) (zA (zL zM (pv 4) zE) zC))))) (zD (yK (zP fc (pv 5) uI (zV _)) (zG (zO (zQ (zA zT (zA (pv 0) (zA (pv 5) zC)))))) zZ) (zD (yE 6 RA.nd (zI h_M hr.m rfl (zA (pv 0) (zA (pv 3) zC)))) (zG (zO (zQ (zA zT (zA (pv 6) (zA (zI h_u hr.m rfl (zA (pv 6) (zA (pv 2) zC))) zC))))))))))),?_⟩;refine zH λN hN=>?_
 dsimp![];refine⟨sa,ba,us,bs,aD,b,rfl,hsa,hrw,lG,(),hba,hb,hbl,hg,λpn ws H1 s1 kn hn=>?_⟩;have hprem:∀r∈b.map (nR aD),r.1.length<=100:=λr hr=>by
  obtain⟨r',mB,rfl⟩:=bP.mp hr;show(r'.1.map _).length<=100;rw[aE];have :=(hg r' mB).1;lia
 refine⟨sa,pn,us,ws,aD,b.map (nR aD),rfl,s1 _ _ hsa,hrw.same s1,kn,hn,(),hs.in_,by rw[aE];lia,hprem,λla wl ls H2 s2 kl hls gk hpl hcl=>hN _ _ ?_⟩;clear hN;replace s2:=s1.trans s2;clear s1 kn hn;refine zH λN hN=>?_
 dsimp![];refine⟨sa,us,aD,rfl,s2 _ _ hsa,hrw.same s2,lG,(),λpa as J H3 s3 px=>?_⟩;refine⟨pa,v,aD,as,s,J,rfl,px,eA.same (s2.trans s3) hv,gs,λpp J4 H4 as4 s4 px4 kp=>hN _ _ ?_⟩;clear hN;have e24:bA H2 H4:=s3.trans (s4.trans px4.sub);replace kp:=px4.sub _ _ kp;clear px px4 s3 s4;replace kl:=e24 _ _ kl;replace hls:jZ H4 ls wl:=bG.same e24 hls;replace s2:=s2.trans e24;clear e24;refine zH λN hN=>?_
 dsimp![];have hll:ls.length<=3600:=cR gk.len (by
  have :2*aD.length<=60:=by lia
  exact Nat.mul_le_mul this this)
 refine⟨_,dN.of kp,_,lS,_,dN.of kp,_,pH,la,wl,ls,_,_,rfl,kl,hls,WX gk hprem,(),λr H5 s5 hpap=>hN _ _ ?_⟩;clear hN;replace s2:=s2.trans s5;replace kl:=s5 _ _ kl;replace hls:jZ H5 ls wl:=bG.same s5 hls;clear kp;refine zH λN hN=>?_
 dsimp![];rcases hpap with⟨rfl,hno⟩ |⟨k,l,ks,hk,hij,_,_,hpap⟩
 ·rw[aH (λz=>z rfl)];refine hN _ _ ?_;clear hN;have hh:zR ls (nS aD s).1 (nS aD s).2=false:=by
   rw[dS];intro z;obtain⟨p,l,g1,g2,g3⟩:=eZ.mp z;exact hno l (aV g1) ⟨g2,g3⟩
  have R:=Rl.of hpl hcl;have l1:=(gs.1.val (JA hs hpl hcl) (QV hs lG hpl hcl) hs).1;have l2:=(gs.2.val (JA hs hpl hcl) (QV hs lG hpl hcl) hs).1;have h10:zR ls 1 0=false:=by
   rw[dS];intro z;have e1:rl ls 1 (eK s.2 aD).2=true:=R.all 1 _ z l2;have e2:rl ls (eK s.1 aD).2 1=true:=hpl.high _ l1;have :=R.trans _ _ _ e2 e1;have this:zR ls (nS aD s).1 (nS aD s).2=true:=this;rw[hh]at this;cases this
  refine zH λN hN=>?_
  dsimp![];refine⟨sa,la,us,wl,aD,ls,rfl,s2 _ _ hsa,hrw.same s2,hrl,hn3,FG lG,kl,hls,(),gk.keys,(λz=>by rw[h10]at z;cases z),λ_ wa T ca ra vw H6 s6 wo=>hN _ _ ?_⟩;clear hN;dsimp![];have hz:∀x∈nms s.1++nms s.2,x∈T.map (·.2.1):=λx hx=>by
   have go:∀{t:Tm},jo aD t->x∈nms t->x∈T.map (·.2.1):=λ{t} g hx=>by
    obtain⟨k,hk⟩:=gc 21 t g.1 _ g.num x hx;exact wo.perm.mem_iff.mpr (bP.mpr ⟨(x,k),gg (EJ hk),rfl⟩)
   rcases bS.mp hx with h |h
   ·exact go gs.1 h
   ·exact go gs.2 h
  have hns:¬Hs _ _ _ s:=λz=>by
   have :=(FU hs lG hpl hcl gs).mp z;rw[hh]at this;cases this
  refine⟨wa,v,s,_,_,_,_,rfl,wx_of lG hrl hn3 wo,eA.same (s2.trans s6) hv,⟨gs.1.1,w1⟩,⟨gs.2.1,w2⟩,hz,hns,λn H7 s7=>⟨small (),λp hp=>?_⟩⟩;exact q p false _ _ ((s2.trans s6).trans (s7.trans (zF hp _))) zB ⟨_,_,_,JA hs hpl hcl,qt hs lG hpl hcl hg,hns⟩
 ·obtain⟨a',_,rfl,_⟩:=hpap;rw[aL (λz=>by cases z)];exact⟨small (),λp hp=>q p true _ _ (s2.trans (zF hp _)) zB λm ps S f hr=>sound f hs hg hr gk gs (eZ.mpr ⟨k,l,hk,hij.1,hij.2⟩)⟩
def inG(zs:List Str)(G:List Tm):Nat->Tm->Prop
 |0,_=>False
 |_+1,.name x=>x∈zs
 |d+1,.node w ts=>(w="none"\/w="all")\/(w="not"/\∃t,ts=[t]/\inG zs G d t)\/((w="both"\/w="either")/\.node w ts∈G/\(∃n,fM n (.node w ts))/\∃a b,ts=[a,b]/\inG zs G d a/\inG zs G d b)
structure pC(zs:List Str)(G:List Tm)(aD:List Rw):Prop where
 r1:1<=aD.length
 of:∀k,1<=k->k<aD.length->∃u∈zs.map Tm.name++G,∃n,num aD u=some n/\n/2=k
 nm:∀(k:Nat)(x:Str),aD[k]?=some (.nm x)->x∈zs
theorem pC.put(h:pC zs G aD)(hn:∀x,r=.nm x->x∈zs)(hu:oP aD r=none->∃u∈zs.map Tm.name++G,∃n,num (aD++[r]) u=some n/\n/2=aD.length):pC zs G (xN aD r).1:=by
 unfold xN;split
 ·exact h
 ·rename_i hr
  refine⟨by show 1<=(aD++[r]).length;rw[aI];have :=h.r1;lia,λk h1 h2=>?_,λk x hk=>?_⟩
  ·have h2:k<(aD++[r]).length:=h2;rw[aI,cJ]at h2;by_cases c:k<aD.length
   ·obtain⟨u,g1,n,g2,g3⟩:=h.of k h1 c;exact⟨u,g1,n,vW _ _ _ _ g2,g3⟩
   ·rw[show k=aD.length by lia];exact hu hr
  ·have hk:(aD++[r])[k]?=some (.nm x):=hk;by_cases c:k<aD.length
   ·rw[bE c]at hk;exact h.nm k x hk
   ·have h2:=(aC.mp hk).1;rw[aI,cJ]at h2;rw[show k=aD.length by lia,bN (aG _),fJ]at hk;cases hk;exact hn x rfl
theorem ic:∀(d:Nat)(t:Tm)(aD:List Rw),inG zs G d t->pC zs G aD->pC zs G (eK t aD).1:=by
 intro d
 induction d with
 |zero=>exact λt aD h=>h.elim
 |succ d ih=>
  intro t aD ht h;cases t with
  |name x=>
   rw[eK];refine h.put (λy e=>by cases e;exact ht) λhr=>⟨.name x,cP _ (bP.mpr ⟨x,ht,rfl⟩),2*aD.length,?_,()⟩
   rw[num,XC hr];rfl
  |node w ts=>
   rcases ht with(e |e) |⟨e,t,rfl,ht⟩ |⟨e,hG,⟨nf,hfit⟩,a,b,rfl,ha,hb⟩
   ·rw[eK,aL e];exact h
   ·subst e;rw[eK,aH (),aL rfl];exact h
   ·subst e;rw[eK,aH (),aH (),aL rfl,jJ,jA];exact ih t aD ht h
   ·have hw:w≠"none"/\w≠"all"/\w≠"not":=by rcases e with rfl |rfl<;>decide
    have hbn:=kQ _ nf aD hfit;have e1:eK (.node w [a,b]) aD=((xN (eK b (eK a aD).1).1 (.bo ((lR (decide (w="either")) (eK a aD).2:Nat):Int) (lR (decide (w="either")) (eK b (eK a aD).1).2:Nat))).1,lR (decide (w="either")) (xN (eK b (eK a aD).1).1 (.bo ((lR (decide (w="either")) (eK a aD).2:Nat):Int) (lR (decide (w="either")) (eK b (eK a aD).1).2:Nat))).2):=by
     rw[eK,aH hw.1,aH hw.2.1,aH hw.2.2,jJ,jA,jA]
    rw[e1]at hbn⊢;have h2:=ih b _ hb (ih a aD ha h);generalize (eK b (eK a aD).1).1=rows2 at hbn h2⊢;have hnx:∀x,(Rw.bo ((lR (decide (w="either")) (eK a aD).2:Nat):Int) (lR (decide (w="either")) (eK b (eK a aD).1).2:Nat))=.nm x->x∈zs:=λx e=>by cases e
    generalize (Rw.bo ((lR (decide (w="either")) (eK a aD).2:Nat):Int) (lR (decide (w="either")) (eK b (eK a aD).1).2:Nat))=r at hbn hnx⊢;refine h2.put (r:=r) hnx λhr=>⟨.node w [a,b],aZ _ hG,lR (decide (w="either")) (2*rows2.length),?_,?_⟩
    ·unfold xN at hbn;rw[hr]at hbn;exact hbn
    ·cases decide (w="either")with
     |false=>show 2*rows2.length/2=_;lia
     |true=>show oU (2*rows2.length)/2=_;unfold oU;lia
theorem BZ{d:Nat}:∀(ts:List Tm)(aD:List Rw),(∀t∈ts,inG zs G d t)->pC zs G aD->pC zs G (uS ts aD)
 |[],aD,_,h=>h
 |t::ts,aD,ht,h=>BZ ts _ (λt h=>ht t (bC _ h)) (ic d t aD (ht t bB) h)
theorem pC.one:pC zs G [.no]:=⟨aG _,λk h1 h2=>by simp at h2;lia,λk x h=>by
 cases k with
 |zero=>cases h
 |succ k=>simp at h⟩
theorem pC.len(h:pC zs G aD):aD.length<=1+(zs.length+G.length):=by
 have hr:=h.r1;have hex:∀k:Nat,∃u:Tm,k+1<aD.length->u∈zs.map Tm.name++G/\∃n,num aD u=some n/\n/2=k+1:=λk=>by
  by_cases c:k+1<aD.length
  ·obtain⟨u,g1,g2⟩:=h.of (k+1) () c;exact⟨u,λ_=>⟨g1,g2⟩⟩
  ·exact⟨.name "",λz=>(c z).elim⟩
 let g:Nat->Tm:=λk=>(hex k).choose
 have hg:∀k,k+1<aD.length->g k∈zs.map Tm.name++G/\∃n,num aD (g k)=some n/\n/2=k+1:=λk=>(hex k).choose_spec
 have lG:((List.range (aD.length-1)).map g).Nodup:=by
  refine mK.mpr (List.Pairwise.imp_of_mem (R:=(· < ·)) (λ{a b} ha hb hab e=>?_) dQ);rw[bR]at ha hb;obtain⟨_,n1,p1,p2⟩:=hg a ();obtain⟨_,n2,p3,p4⟩:=hg b ();rw[e,p3]at p1;cases p1;lia
 letI:DecidableEq Tm:=λa b=>Classical.propDecidable (a=b)
 have :=qI lG (m:=zs.map Tm.name++G) λu hu=>by
  obtain⟨k,hk,rfl⟩:=bP.mp hu;rw[bR]at hk;exact(hg k ()).1
 rw[aE,eY,aI,aE]at this;lia
theorem pC.nms(h:pC zs G aD)(lG:aD.Nodup):(IT aD).length<=zs.length:=by
 have :=qI (FG lG) (m:=zs) λx hx=>by
  obtain⟨p,hp,rfl⟩:=bP.mp hx;exact h.nm p.2 p.1 (IS hp).1
 rwa[aE]at this
structure Jb(zs:List Str)(G:List Tm)(b:List mE)(s:Tm×Tm):Prop where
 bl:b.length<=20
 pl:∀r∈b,r.1.length<=5
 fit:∀t∈oW b++nO s,fM 20 t/\wt t<=900
 inn:∀t∈oW b++nO s,inG zs G 21 t
 zl:zs.length<=3
 gl:G.length<=20
inductive spJu (vs:List V) (H:Hp) (Q:VK) (E:XK):Prop
 |mk (ba:Addr) (v:V) (bs:List V) (zs:List Str) (G:List Tm) (b:List mE) (s:Tm×Tm) (_:vs=[.ref ba,v]) (_:H ba=some (.lst bs)) (_:iD H b bs) (_:oR H s v) (_:Jb zs G b s) (_:∀(p:Addr)(fl:Bool)(iH:List V) H',bA H H'->H' p=some (.tup (.str (if fl then"follows" else"open")::iH))->Ver fl b s->Q (.ref p) H')
theorem bx{r:mE}(h:r.1.length<=5):(PB r).length<=12:=by
 have :∀ps:List (Tm×Tm),(uQ ps).length=2*ps.length:=λps=>by
  induction ps with
  |nil=>rfl
  |cons p ps ih=>
   show(nO p++uQ ps).length=_;rw[aI,ih,bF];show 2+_=_;lia
 unfold PB;rw[aI,this];show _+2<=12;lia
theorem HJ:∀{b:List mE},(∀r∈b,r.1.length<=5)->(oW b).length<=12*b.length
 |[],_=>aG _
 |r::b,h=>by
  show(PB r++oW b).length<=_;rw[aI,bF];have :=bx (h r bB);have :=HJ (b:=b) λq hq=>h q (bC _ hq)
  lia
theorem SQ(bi:Bi mg)(h_I:gS P w K mg base 48 "judge_on" ["sheet","book","saying"] (spJo K))(h_O:gS P w K mg base 45 "sheet_of" ["terms"] (spSo K))(h_L:gS P w K mg base 1 "terms_in" ["book","saying"] spTI)(F:gI K "judge" "judge" nv f fd):dI P w K mg base fZ 49 f fd ["book","saying"] spJu:=by
 refine F.okz sc_ag λfD A outer s H vs Q E hr h=>?_
 obtain⟨ba,v,bs,zs,G,b,s,rfl,hba,hb,hv,jb,q⟩:=h;refine⟨_,(zG (zO (zI h_I hr.m rfl (zA (zI h_O hr.m rfl (zA (zI h_L hr.m rfl (zA (pv 0) (zA (pv 1) zC))) zC)) (zA (pv 0) (zA (pv 1) zC)))))),?_⟩;dsimp![];have hbl:=jb.bl;have htl:=HJ jb.pl;have f20:∀t∈oW b++nO s,fM 20 t:=λt ht=>(jb.fit t ht).1
 have hinv:=BZ (zs:=zs) (G:=G) (d:=21) (oW b++nO s) [.no] jb.inn pC.one;obtain⟨hsh,lG⟩:=CU (oW b++nO s) [.no] f20 rC.one (by simp);have hnum:=CV (oW b++nO s) [.no] f20;have hl:=hinv.len;have hz:=jb.zl;have hG:=jb.gl;have gd:∀t∈oW b++nO s,jo (uS (oW b++nO s) [.no]) t:=λt ht=>re (f20 t ht) (hnum t ht)
 have gs:∀{p:Tm×Tm},(∀t∈nO p,t∈oW b++nO s)->jp (uS (oW b++nO s) [.no]) p:=λ{p} h=>⟨gd _ (h _ (by simp[nO])),gd _ (h _ (by simp[nO]))⟩
 refine⟨ba,v,bs,b,s,rfl,hba,hb,hv,(),λpt ut H1 s1 kt ht=>?_⟩;refine⟨pt,ut,oW b++nO s,rfl,kt,ht,f20,(),λp ws H2 s2 kp hrw=>?_⟩;replace s2:=s1.trans s2;refine⟨p,ba,v,ws,bs,_,b,s,rfl,kp,hrw,hsh,lG,(),cR (hinv.nms lG) hz,s2 _ _ hba,bG.same s2 hb,(),λr hr=>⟨jb.pl r hr,λp hp=>gs λt ht=>?_,gs λt ht=>?_⟩,eA.same s2 hv,gs λt ht=>aZ _ ht,(jb.fit _ (aZ _ (by simp[nO]))).2,(jb.fit _ (aZ _ (by simp[nO]))).2,λp' fl iH H' s'=>q p' fl iH H' (s2.trans s')⟩
 ·exact cP _ (fV.mpr ⟨r,hr,cP _ (fV.mpr ⟨p,hp,ht⟩)⟩)
 ·exact cP _ (fV.mpr ⟨r,hr,aZ _ ht⟩)
abbrev s_g:Stmt:=top 60
theorem sc_g:cC ["script","k"] ["script","k"] (zK s_g):=by rfl'
abbrev s_f:Stmt:=top 61
theorem tX:cC ["cell","size","letters","made","rest","k"] ["cell","size"] (zK s_f):=by rfl'
abbrev s_J:Stmt:=top 62
theorem PZ:cC ["script","one","two","three","pool"] ["script"] (zK s_J):=by rfl'
def uV(K:W.Frag):Sp:=λvs H Q _=>∃(a:Addr)(ns:List Int)(k:Nat),vs=[.ref a,.int k]/\dL K H a (ns.map V.int)/\Q (.int (ns.getD k 0)) H
def UG:Sp:=λvs H Q _=>∃c n:Int,vs=[.int c,.int n]/\∀x:Str,Nm x->Q (.str x) H
def ah(K:W.Frag)(H:Hp)(p:Addr):Prop:=∃x y z:Str,Nm x/\Nm y/\Nm z/\H p=some (.lst [.str x,.str y,.str z])
inductive PR (K:W.Frag) (vs:List V) (H:Hp) (Q:VK) (E:XK):Prop
 |mk (a:Addr) (ns:List Int) (_:vs=[.ref a]) (_:dL K H a (ns.map V.int)) (_:∀p H',bA H H'->ah K H' p->Q (.ref p) H')
inductive spLeaf (K:W.Frag) (vs:List V) (H:Hp) (Q:VK) (E:XK):Prop
 |mk (c:Int) (p:Addr) (_:vs=[.int c,.ref p]) (_:ah K H p) (_:∀v t H',bA H H'->fO H' t v->fM 0 t->wt t=1->Q v H')
inductive spStack (K:W.Frag) (vs:List V) (H:Hp) (Q:VK) (E:XK):Prop
 |mk (c p:Addr) (ns:List Int) (_:vs=[.ref c,.ref p]) (_:dL K H c (ns.map V.int)) (_:ns.length<=63) (_:ah K H p) (_:∀a vs ts H',bA H H'->H' a=some (.lst vs)->TAts H' ts vs->ts≠[]->(∀t∈ts,fM 17 t)->mD ts<=ns.length+1->Q (.ref a) H')
def whole:List Tm->Tm
 |[t]=>t
 |ts=>.node "both" ts
inductive spWhole (vs:List V) (H:Hp) (Q:VK) (E:XK):Prop
 |mk (a:Addr) (iH:List V) (ts:List Tm) (m:Nat) (_:vs=[.ref a]) (_:H a=some (.lst iH)) (_:TAts H ts iH) (_:ts≠[]) (_:(∀t∈ts,fM 17 t)) (_:mD ts<=m) (_:m<=100) (_:∀v H',bA H H'->fO H' (whole ts) v->fM 18 (whole ts)->wt (whole ts)<=m+1->Q v H')
theorem fw(bi:Bi mg)(F:gI K "_law_cell_at" "_law_cell_at" s_g f fd):dI P w K mg base fZ 1 f fd ["script","k"] (uV K):=by
 refine F.okz sc_g λfD A outer s H vs Q E hr h=>?_
 obtain⟨a,ns,k,rfl,hS,q⟩:=h;refine⟨_,(zD (yK (zP ZM (pv 1) (yC yL rfl bi.len xE (zA (pv 0) zC)) (zV _)) (zG (zO (zL yH (pv 0) (pv 1)))) zZ) (zG (zO zE))),?_⟩;dsimp![];refine⟨_,.inl ⟨_,hS,rfl⟩,?_⟩;split
 ·rename_i hk
  rw[aE]at hk;exact⟨_,hS,_,qo hk,q⟩
 ·rename_i hk
  rw[aE]at hk;rw[bZ,List.getElem?_eq_none ()]at q;exact q
theorem MZ(c:Int):∃d:Nat,oV ("abcdefghijklmnopqrstuvwxyz":Str).cps.toList (c % 26)=some d/\97<=d/\d<=122:=by
 have h:∀k:Fin 26,∃d:Nat,("abcdefghijklmnopqrstuvwxyz":Str).cps.toList[k.val]?=some d/\97<=d/\d<=122:=by decide+kernel
 have h1:0<=c % 26:=Int.emod_nonneg _ ();have h2:c % 26<26:=Int.emod_lt_of_pos _ ();have e:c % 26=((c % 26).toNat:Nat):=by lia
 obtain⟨d,h3,h4⟩:=h ⟨(c % 26).toNat,()⟩;refine⟨d,?_,h4⟩;rw[e];exact yD h3
theorem ft(bi:Bi mg)(F:gI K "_law_name_by" "_law_name_by" s_f f fd):dI P w K mg base fZ 1 f fd ["cell","size"] UG:=by
 refine F.okz tX λfD A outer s H vs Q E hr h=>?_
 obtain⟨c,n,rfl,q⟩:=h;refine⟨_,(zD (yE 2 tX.nd zT) (zD (yE 3 tX.nd zT) (zD (yE 4 tX.nd (zN yO (pv 0) (zN XM zE zE))) (zD (yI bM rfl (xX rfl bi.range (zA (zN XO zE (zN yO (pv 1) zE)) zC)) (yG 5 tX.nd) (zD (yE 3 tX.nd (zN XN (pv 3) (zL qm (pv 2) (zN yO (pv 4) zE)))) (zG (yE 4 tX.nd (zN yT (pv 4) zE))))) (zD (yK (PW.pt (pw_or (zP xK (pv 3) zT (zV _)) (om (zP xK (pv 3) zT (zV _))))) (zG (yE 3 tX.nd (zN XN (pv 3) zT))) zZ) (zG (zO (pv 3)))))))),?_⟩;refine zH λN hN=>?_
 dsimp![];refine hN _ _ ?_;refine zH λN hN=>?_
 dsimp![];refine hN _ _ ?_;refine zH λN hN=>?_
 dsimp![];refine⟨⟨(),(),()⟩,(),hN _ _ ?_⟩;generalize c % 26^Int.toNat 8=r0;have hm:0<=n % 8/\n % 8<8:=by lia
 have e0:("":Str).cps.toList=[]:=by decide+kernel
 refine yA (λσ H'=>H'=H/\∃(z:Str)(a b:Option V),z.length=1+(n % 8).toNat/\(∀d∈z.cps.toList,97<=d/\d<=122)/\σ=[some (V.int c),some (V.int n),some (V.str "abcdefghijklmnopqrstuvwxyz"),some (V.str z),a,b]) (λN hN=>?_) (λσ H' h=>?_)
 ·dsimp![];refine⟨(),(),(),WE (n:=(1+n % 8).toNat) (λi σ H'=>H'=H/\∃(z:Str)(r:Int)(o:Option V),z.length=i/\(∀d∈z.cps.toList,97<=d/\d<=122)/\σ=[some (V.int c),some (V.int n),some (V.str "abcdefghijklmnopqrstuvwxyz"),some (V.str z),some (V.int r),o])
   ⟨rfl,_,_,_,rfl,(λd hd=>by rw[e0]at hd;cases hd),rfl⟩ (λi σ H' hi e=>?_) (λσ H' e=>?_)⟩
  ·obtain⟨rfl,z,r,o,hz,hl,rfl⟩:=e;obtain⟨d,hd,hd2⟩:=MZ r;dsimp![];have e1:(⟨#[d]⟩:Str).length=1:=rfl;refine⟨(),small (),d,hd,small (),⟨(),()⟩,_,?_,?_,rfl,_,rfl⟩
   ·rw[gx,hz,e1]
   ·intro d' hd';rw[i4]at hd';rcases bS.mp hd' with h |h
    ·exact hl d' h
    ·have h:d'∈[d]:=h;rw[aT.mp h];exact hd2
  ·obtain⟨rfl,z,r,o,hz,hl,rfl⟩:=e;exact hN _ _ ⟨rfl,z,_,_,(),hl,rfl⟩
 ·obtain⟨rfl,z,a,b,hz,hl,rfl⟩:=h;refine yA (λσ H''=>H''=H'/\∃(z:Str)(a b:Option V),Nm z/\σ=[some (V.int c),some (V.int n),some (V.str "abcdefghijklmnopqrstuvwxyz"),some (V.str z),a,b]) (λN hN=>?_) (λσ H'' h=>?_)
  ·dsimp![];refine⟨rfl,?_⟩;have fin:∀z:Str,Nm z->N [some (V.int c),some (V.int n),some (V.str "abcdefghijklmnopqrstuvwxyz"),some (V.str z),a,b] H':=λz h=>hN _ _ ⟨rfl,z,_,_,h,rfl⟩
   split
   ·rename_i e
    subst e;refine⟨small (),fin _ ?_⟩;exact⟨(),(),(),(),()⟩
   ·rename_i e
    refine⟨rfl,?_⟩;split
    ·rename_i e
     subst e;refine⟨small (),fin _ ?_⟩;exact⟨(),(),(),(),()⟩
    ·rename_i e2
     exact fin z ⟨(),(),hl,e,e2⟩
  ·obtain⟨rfl,z,a,b,hz,rfl⟩:=h;dsimp![];exact q z hz
theorem fq(bi:Bi mg)(h_g:gS P w K mg base 1 "_law_cell_at" ["script","k"] (uV K))(h_f:gS P w K mg base 1 "_law_name_by" ["cell","size"] UG)
 (F:gI K "_law_pool" "_law_pool" s_J f fd):dI P w K mg base fZ 2 f fd ["script"] (PR K):=by
 refine F.okz PZ λfD A outer s H vs Q E hr h=>?_
 obtain⟨a,ns,rfl,hS,q⟩:=h;refine⟨_,(zD (yE 1 PZ.nd (zI h_g hr.m rfl (zA (pv 0) (zA zE zC)))) (zD (yE 2 PZ.nd (zI h_g hr.m rfl (zA (pv 0) (zA zE zC)))) (zD (yE 3 PZ.nd (zI h_g hr.m rfl (zA (pv 0) (zA zE zC)))) (zD (yE 4 PZ.nd (xH (zA (zI h_f hr.m rfl (zA (pv 1) (zA (zN yO (zN yT (pv 1) zE) zE) zC))) (zA (zI h_f hr.m rfl (zA (pv 2) (zA (zN yO (zN yT (pv 2) zE) zE) zC))) zC)))) (zD (yK (zP xK (zN yO (pv 3) zE) zE (zV _)) (zG (zU (jD bT cL cK yU (pv 4) (zA (zI h_f hr.m rfl (zA (pv 1) (zA (zN XO (zN yO (zN yT (pv 1) zE) zE) zE) zC))) zC)))) (zG (zU (jD bT cL cK yU (pv 4) (zA (zI h_f hr.m rfl (zA (zN yT (pv 3) zE) (zA (zN yO (zN yT (pv 3) zE) zE) zC))) zC))))) (zG (zO (pv 4)))))))),?_⟩;refine zH λN hN=>?_
 dsimp![uV];refine⟨ns,0,rfl,hS,hN _ _ ?_⟩;refine zH λN hN=>?_
 dsimp![uV];refine⟨ns,1,rfl,hS,hN _ _ ?_⟩;refine zH λN hN=>?_
 dsimp![uV];refine⟨ns,2,rfl,hS,hN _ _ ?_⟩;generalize ns.getD 0 0=x0;generalize ns.getD 1 0=x1;generalize ns.getD 2 0=x2;refine zH λN hN=>?_
 dsimp![UG];refine⟨⟨(),()⟩,(),λn1 g1=>⟨⟨(),()⟩,(),λn2 g2=>⟨small (),λp hp=>hN _ _ ?_⟩⟩⟩;refine yA (λσ H'=>bA H H'/\ah K H' p/\∃a b c d:Option V,σ=[a,b,c,d,some (V.ref p)]) (λN hN=>?_) (λσ H' h=>?_)
 ·dsimp![UG];have fin:∀n3:Str,Nm n3->bA H (upd (upd H p (HO.lst [V.str n1,V.str n2])) p (HO.lst ([V.str n1,V.str n2]++[V.str n3])))/\ah K (upd (upd H p (HO.lst [V.str n1,V.str n2])) p (HO.lst ([V.str n1,V.str n2]++[V.str n3]))) p:=λn3 g3=>by
   rw[YD];exact⟨zF hp _,n1,n2,n3,g1,g2,g3,zB⟩
  have ty:tyV K "list" (V.ref p) (upd H p (HO.lst [V.str n1,V.str n2])):=.inl ⟨rfl,_,dL.of zB⟩;refine⟨(),rfl,?_⟩;split
  ·refine⟨ty,⟨(),()⟩,(),λn3 g3=>?_⟩;exact⟨_,zB,(by show 2<sizeLine;decide),hN _ _ ⟨(fin n3 g3).1,(fin n3 g3).2,_,_,_,_,rfl⟩⟩
  ·refine⟨ty,⟨(),()⟩,⟨(),()⟩,(),λn3 g3=>?_⟩;exact⟨_,zB,(by show 2<sizeLine;decide),hN _ _ ⟨(fin n3 g3).1,(fin n3 g3).2,_,_,_,_,rfl⟩⟩
 ·obtain⟨e,lX,a',b,c,d,rfl⟩:=h;dsimp![];exact q p H' e lX
structure Ov(H J:Hp)(lg:Addr)(us:List V):Prop where
 eq:H=upd J lg (.lst us)
 no:J lg=none
theorem Ov.at(h:Ov H J lg us):H lg=some (.lst us):=by rw[h.eq];exact zB
theorem Ov.sub(h:Ov H J lg us):bA J H:=by rw[h.eq];exact zF h.no _
theorem Ov.ne(h:Ov H J lg us)(hp:H p=none):p≠lg:=λz=>by
 rw[z,h.at]at hp;cases hp
theorem Ov.free(h:Ov H J lg us)(hp:H p=none):J p=none:=h.sub.free hp
theorem Ov.new(h:Ov H J lg us)(hp:H p=none)(o:HO):Ov (upd H p o) (upd J p o) lg us:=by
 have lU:=h.ne hp;refine⟨?_,by rw[zJ (cH lU)];exact h.no⟩;rw[h.eq]
 funext b
 by_cases h1:b=p
 ·subst h1;rw[zB,zJ lU,zB]
 ·rw[zJ h1];by_cases h2:b=lg
  ·subst h2;rw[zB,zB]
  ·rw[zJ h2,zJ h2,zJ h1]
theorem Ov.set(h:Ov H J lg us)(vs:List V):Ov (upd H lg (.lst vs)) J lg vs:=⟨by rw[h.eq,YD],h.no⟩
theorem Ov.mk0(h:H lg=none):Ov (upd H lg (.lst [])) H lg []:=⟨rfl,h⟩
theorem Ov.put{q:Addr}(h:Ov H J lg us)(hq:q≠lg)(o:HO):Ov (upd H q o) (upd J q o) lg us:=by
 refine⟨?_,by rw[zJ (cH hq)];exact h.no⟩;rw[h.eq]
 funext b
 by_cases h1:b=q
 ·subst h1;rw[zB,zJ hq,zB]
 ·rw[zJ h1];by_cases h2:b=lg
  ·subst h2;rw[zB,zB]
  ·rw[zJ h2,zJ h2,zJ h1]
theorem Ov.ext(h:Ov H J lg us)(e:bA H H'):∃J',Ov H' J' lg us/\bA J J':=by
 refine⟨λb=>if b=lg then none else H' b,⟨?_,aL rfl⟩,λb o hb=>?_⟩
 ·funext b
  by_cases hb:b=lg
  ·subst hb;rw[zB];exact e _ _ h.at
  ·rw[zJ hb];exact(aH hb).symm
 ·have lU:b≠lg:=λz=>by rw[z,h.no]at hb;cases hb
  show(if b=lg then none else H' b)=some o;rw[aH lU];exact e _ _ (h.sub _ _ hb)
abbrev s_w:Stmt:=top 63
theorem sc_w:cC ["cell","terms","one"] ["cell","terms"] (zK s_w):=by rfl'
abbrev s_z:Stmt:=top 64
theorem MC:cC ["script","pool","many","terms","name","k","cell","low"] ["script","pool","many"] (zK s_z):=by rfl'
def Sd(ts:List Tm)(t:Tm):Prop:=t∈ts\/∃u∈ts,t=.node "not" [u]
structure sw(zs:List Str)(g n d m:Nat)(ts:List Tm):Prop where
 len:ts.length=n
 fit:∀t∈ts,fM d t/\wt t<=m
 ex:∃G:List Tm,G.length<=g/\∀t∈ts,inG zs G (d+1) t
theorem jF{zs:List Str}{G G':List Tm}(hG:∀t∈G,t∈G'):∀{d d':Nat}{t:Tm},inG zs G d t->d<=d'->inG zs G' d' t
 |0,_,_,h,_=>h.elim
 |d+1,0,_,_,h=>absurd h ()
 |d+1,d'+1,.name x,h,_=>h
 |d+1,d'+1,.node w ts,h,hd=>by
  rcases h with h |⟨e,t,e2,h⟩ |⟨e,h1,h2,a,b,e2,h3,h4⟩
  ·exact .inl h
  ·exact .inr (.inl ⟨e,t,e2,jF hG h ()⟩)
  ·exact .inr (.inr ⟨e,hG _ h1,h2,a,b,e2,jF hG h3 (),jF hG h4 ()⟩)
theorem Sd.fit{t:Tm}{m:Nat}(h:Sd ts t)(hf:∀t∈ts,fM d t/\wt t<=m):fM (d+1) t/\wt t<=m+1:=by
 rcases h with h |⟨u,h,rfl⟩
 ·exact⟨(hf t h).1.up,Nat.le_succ_of_le (hf t h).2⟩
 ·refine⟨?_,?_⟩
  ·unfold fM;exact⟨.inr (.inr (.inl ⟨rfl,rfl⟩)),λt ht=>by rw[aT.mp ht];exact(hf u h).1⟩
  ·have :=(hf u h).2;simp only[wt,mD];lia
theorem Sd.inG{t:Tm}(h:Sd ts t)(hf:∀t∈ts,inG zs G (d+1) t):inG zs G (d+2) t:=by
 rcases h with h |⟨u,h,rfl⟩
 ·exact jF (λ_ z=>z) (hf t h) ()
 ·exact .inr (.inl ⟨rfl,u,rfl,hf u h⟩)
theorem fit2{w:Str}{a b:Tm}(hw:w="both"\/w="either")(ha:fM d a)(hb:fM d b):fM (d+1) (.node w [a,b]):=by
 unfold fM;refine⟨m7 hw (aG _),λt ht=>?_⟩;rcases bK.mp ht with rfl |ht
 ·exact ha
 ·rw[aT.mp ht];exact hb
theorem sw.step{g m:Nat}{w:Str}{a b:Tm}(h:sw zs g n d m ts)(hw:w="both"\/w="either")(ha:Sd ts a)(hb:Sd ts b):sw zs (g+1) (n+1) (d+2) (2*m+3) (ts++[.node w [a,b]]):=by
 obtain⟨G,g1,g2⟩:=h.ex;have fa:=ha.fit h.fit;have fb:=hb.fit h.fit;have hft:=fit2 hw fa.1 fb.1;refine⟨by rw[aI,h.len];rfl,λt ht=>?_,G++[.node w [a,b]],by rw[aI,cJ];lia,λt ht=>?_⟩
 ·rcases bS.mp ht with ht |ht
  ·exact⟨(h.fit t ht).1.up.up,by have :=(h.fit t ht).2;lia⟩
  ·rw[aT.mp ht];refine⟨hft,?_⟩;simp only[wt,mD];lia
 ·have up:∀{t:Tm}{k:Nat},inG zs G k t->k<=d+2->inG zs (G++[.node w [a,b]]) (d+2) t:=λh hk=>jF (λ_ z=>cP _ z) h hk
  rcases bS.mp ht with ht |ht
  ·exact jF (λ_ z=>z) (up (g2 t ht) ()) ()
  ·rw[aT.mp ht];exact .inr (.inr ⟨hw,aZ _ (aT.mpr rfl),⟨_,hft⟩,a,b,rfl,up (ha.inG g2) (aG _),up (hb.inG g2) (aG _)⟩)
theorem TAts.len(h:TAts H ts us):us.length=ts.length:=by have :=bG.length h;rwa[aE]at this
theorem TAts.snoc{t:Tm}(h:TAts H ts us)(e:bA H H')(ht:fO H' t v):TAts H' (ts++[t]) (us++[v]):=by
 unfold TAts;rw[aU];exact bG.append (bG.same e h) (bG.one ht)
theorem Ov.tups(h:Ov H J lg us):cT H J:=λb xs hb=>by
 have lU:b≠lg:=λz=>by rw[z,h.at]at hb;cases hb
 rw[h.eq,zJ lU]at hb;exact hb
inductive PQ (vs:List V) (H:Hp) (Q:VK) (E:XK):Prop
 |mk (c:Int) (ta:Addr) (us:List V) (ts:List Tm) (_:vs=[.int c,.ref ta]) (_:H ta=some (.lst us)) (_:TAts H ts us) (_:ts≠[]) (_:ts.length<=20) (_:∀v t H',bA H H'->fO H' t v->Sd ts t->Q v H')
inductive spTs (K:W.Frag) (vs:List V) (H:Hp) (Q:VK) (E:XK):Prop
 |mk (a pa:Addr) (ns:List Int) (zs:List Str) (_:vs=[.ref a,.ref pa,.int 2]) (_:dL K H a (ns.map V.int)) (_:ns.length<=63) (_:H pa=some (.lst (zs.map V.str))) (_:zs.length=3) (_:(∀z∈zs,Nm z)) (_:∀p us ts H',bA H H'->H' p=some (.lst us)->TAts H' ts us->sw zs 2 7 4 13 ts->Q (.ref p) H')
theorem SH:(0:Int)<10^Int.toNat 12:=by show(0:Int)<10^12;simp
theorem p1015:(0:Int)<10^Int.toNat 15:=by show(0:Int)<10^15;simp
theorem fk(bi:Bi mg)(F:gI K "_law_side" "_law_side" s_w f fd):dI P w K mg base fZ 1 f fd ["cell","terms"] PQ:=by
 refine F.okz sc_w λfD A outer s H vs Q E hr h=>?_
 obtain⟨c,ta,us,ts,rfl,hta,hts,lU,hl,q⟩:=h;refine⟨_,(zD (yE 2 sc_w.nd (zL yH (pv 1) (zN yO (zN yT (pv 0) zE) (yC yL rfl bi.len xE (zA (pv 1) zC))))) (zD (yK (zP xK (zN yO (pv 0) zE) zE (zV _)) (zG (zO (zQ (zA zT (zA (pv 2) zC))))) zZ) (zG (zO (pv 2))))),?_⟩;have hul:us.length=ts.length:=by have :=bG.length hts;rwa[aE]at this
 have hpos:0<us.length:=by rw[hul];exact List.length_pos_iff.mpr lU
 refine zH λN hN=>?_
 dsimp![];obtain⟨m,hm⟩:∃m:Nat,c/2 % (us.length:Int)=(m:Int):=⟨(c/2 % (us.length:Int)).toNat,by have :=Int.emod_nonneg (c/2) (show(us.length:Int)≠0 by lia);lia⟩
 have hml:m<us.length:=by have :=Int.emod_lt_of_pos (c/2) (show(0:Int)<us.length by lia);lia
 obtain⟨t,ht,htt⟩:=jE (f:=HG) hts (aA hml);have hmem:=aV ht;refine⟨⟨(),()⟩,us.length,.inl ⟨_,dL.of hta,rfl⟩,(),_,dL.of hta,us[m],by rw[hm];exact yD (aA hml),hN _ _ ?_⟩;clear hN;dsimp![];refine⟨(),rfl,?_⟩;by_cases c1:c % 2=1
 ·rw[aL c1];refine⟨small (),λp hp=>?_⟩;have e:=zF hp (.tup [V.str "not",us[m]]);exact q _ (.node "not" [t]) _ e ⟨p,_,rfl,zB,_,_,rfl,rfl,_,_,rfl,eA.same e htt,rfl⟩ (.inr ⟨t,hmem,rfl⟩)
 ·rw[aH c1];exact q _ _ _ (bA.refl _) htt (.inl hmem)
theorem SN(bi:Bi mg)(h_g:gS P w K mg base 1 "_law_cell_at" ["script","k"] (uV K))(h_w:gS P w K mg base 1 "_law_side" ["cell","terms"] PQ)(F:gI K "_law_terms" "_law_terms" s_z f fd):dI P w K mg base fZ 2 f fd ["script","pool","many"] (spTs K):=by
 refine F.okz MC λfD A outer s H vs Q E hr h=>?_
 obtain⟨a,pa,ns,zs,rfl,hS,hl,hpa,hz,hnm,q⟩:=h;refine⟨_,(zD (yE 3 MC.nd (xH (zA (zQ (zA zT zC)) (zA (zQ (zA zT zC)) zC)))) (zD (yI bM rfl (yF (pv 1)) (yG 4 MC.nd) (zG (zU (jD bT cL cK yU (pv 3) (zA (zQ (zA zT (zA (pv 4) zC))) zC))))) (zD (yI bM rfl (xX rfl bi.range (zA (pv 2) zC)) (yG 5 MC.nd) (zD (yE 6 MC.nd (zN yO (zI h_g hr.m rfl (zA (pv 0) (zA (zN XO zE (pv 5)) zC))) (zN XM zE zE))) (zD (yE 7 MC.nd (zN yT (zN yO (zN xR (zN yT (pv 6) zE) zE) zE) zE)) (zG (zU (jD bT cL cK yU (pv 3) (zA (zQ (zA (zL yH (xH (zA zT (zA zT zC))) (zN yO (pv 6) zE)) (zA (zI h_w hr.m rfl (zA (pv 7) (zA (pv 3) zC))) (zA (zI h_w hr.m rfl (zA (zN yT (pv 7) zE) (zA (pv 3) zC))) zC)))) zC))))))) (zG (zO (pv 3)))))),?_⟩;refine zH λN hN=>?_
 dsimp![];refine⟨small (),λp0 h0=>⟨small (),λp1 h1=>⟨small (),λpt hpt=>hN _ _ ?_⟩⟩⟩;clear hN;have e0:=zF h0 (.tup [V.str "none"]);have e1:=zF h1 (.tup [V.str "all"]);have t0:TAts (upd (upd H p0 (.tup [V.str "none"])) p1 (.tup [V.str "all"])) [.node "none" [],.node "all" []] [V.ref p0,V.ref p1]:=⟨_,_,rfl,⟨p0,_,rfl,e1 _ _ zB,_,_,rfl,rfl,rfl⟩,_,_,rfl,⟨p1,_,rfl,zB,_,_,rfl,rfl,rfl⟩,rfl⟩
 have ov:Ov (upd (upd (upd H p0 (.tup [V.str "none"])) p1 (.tup [V.str "all"])) pt (.lst [V.ref p0,V.ref p1])) (upd (upd H p0 (.tup [V.str "none"])) p1 (.tup [V.str "all"])) pt [V.ref p0,V.ref p1]:=⟨rfl,hpt⟩
 have sJ:=e0.trans e1;generalize upd (upd H p0 (.tup [V.str "none"])) p1 (.tup [V.str "all"])=J0 at t0 ov sJ;generalize upd J0 pt (.lst [V.ref p0,V.ref p1])=H1 at ov⊢;clear e0 e1 h0 h1 hpt;refine yA (λσ G=>∃(J:Hp)(us:List V)(o4:Option V),Ov G J pt us/\bA H J/\TAts J (.node "none" []::.node "all" []::zs.map Tm.name) us/\σ=[some (V.ref a),some (V.ref pa),some (V.int 2),some (V.ref pt),o4,none,none,none]) (λN hN=>?_) (λσ G h=>?_)
 ·dsimp![];refine⟨⟨_,dL.of (ov.sub _ _ (sJ _ _ hpa))⟩,?_⟩;refine xV (xs:=zs.map V.str) (λi σ G=>∃(J:Hp)(us:List V)(o4:Option V),Ov G J pt us/\bA H J/\TAts J (.node "none" []::.node "all" []::(zs.take i).map Tm.name) us/\σ=[some (V.ref a),some (V.ref pa),some (V.int 2),some (V.ref pt),o4,none,none,none]) ⟨J0,_,_,ov,sJ,t0,rfl⟩ (λi σ G _ h=>by obtain⟨J,us,o4,ov,sJ,_⟩:=h;exact dL.of (ov.sub _ _ (sJ _ _ hpa))) (λi x σ G hx h M hM=>?_) (λσ G h=>?_)
  ·obtain⟨J,us,o4,ov,sJ,ht,rfl⟩:=h;rw[aK]at hx;obtain⟨z,hz1,rfl⟩:=aO.mp hx;obtain⟨hil,hie⟩:=aC.mp hz1;dsimp![];have hul:=TAts.len ht;simp only[bF,aE,bU]at hul;refine⟨.inl ⟨rfl,_,dL.of ov.at⟩,small (),λp hp=>?_⟩;have ov2:=ov.new hp (.tup [V.str "name",V.str z]);have e2:=zF (ov.free hp) (.tup [V.str "name",V.str z]);refine⟨us,ov2.at,small (),hM _ _ ⟨_,_,_,ov2.set (us++[.ref p]),sJ.trans e2,?_,rfl⟩⟩;rw[aM hil,hie,aU];exact TAts.snoc ht e2 ⟨p,_,rfl,zB,_,_,rfl,rfl,_,_,rfl,rfl,rfl⟩
  ·obtain⟨J,us,o4,ov,sJ,ht,rfl⟩:=h;rw[aE,aQ (aG _)]at ht;exact hN _ _ ⟨J,us,o4,ov,sJ,ht,rfl⟩
 obtain⟨J,us,o4,ov,sJ,ht,rfl⟩:=h;have base0:sw zs 0 5 0 1 (.node "none" []::.node "all" []::zs.map Tm.name):=by
  refine⟨by simp[hz],λt ht=>?_,[],aG _,λt ht=>?_⟩
  all_goals
   simp only[bK,bP]at ht;rcases ht with rfl |rfl |⟨z,hz1,rfl⟩
  ·exact⟨⟨.inl ⟨rfl,rfl⟩,rfl⟩,()⟩
  ·exact⟨⟨.inr (.inl ⟨rfl,rfl⟩),rfl⟩,()⟩
  ·exact⟨hnm z hz1,by simp[wt]⟩
  ·exact .inl (.inl rfl)
  ·exact .inl (.inr rfl)
  ·exact hz1
 refine yA (λσ G=>∃(J:Hp)(us:List V)(ts:List Tm)(o4 o5 o6 o7:Option V),Ov G J pt us/\bA H J/\TAts J ts us/\sw zs 2 7 4 13 ts/\σ=[some (V.ref a),some (V.ref pa),some (V.int 2),some (V.ref pt),o4,o5,o6,o7]) (λN hN=>?_) (λσ G h=>?_)
 ·dsimp![];refine⟨(),(),?_⟩;refine kL (n:=2) (λi σ G=>∃(J:Hp)(us:List V)(ts:List Tm)(o4 o5 o6 o7:Option V),Ov G J pt us/\bA H J/\TAts J ts us/\sw zs i (5+i) (2*i) (4*2^i-3) ts/\σ=[some (V.ref a),some (V.ref pa),some (V.int 2),some (V.ref pt),o4,o5,o6,o7]) ⟨J,us,_,_,_,_,_,ov,sJ,ht,base0,rfl⟩ (λi σ G hi h M hM=>?_) (λσ G h=>?_)
  ·obtain⟨J,us,ts,o4,o5,o6,o7,ov,sJ,ht,tg,rfl⟩:=h;refine zH λN hN=>?_
   dsimp![];refine⟨a,ns,3+i,by simp,bA.seq (sJ.trans ov.sub) hS,⟨⟨(),(),()⟩,_,rfl,SH,hN _ _ ?_⟩⟩;clear hN;generalize ns.getD (3+i) 0 % 10^Int.toNat 12=cell;refine zH λN hN=>?_
   dsimp![];refine⟨⟨(),()⟩,.inr ⟨(),()⟩,(),⟨(),()⟩,hN _ _ ?_⟩;clear hN;generalize cell/2*48271 % 2147483647/16=low;dsimp![];have hul:=TAts.len ht;rw[tg.len]at hul;have lU:ts≠[]:=λz=>by have :=tg.len;rw[z]at this;simp at this;lia
   obtain⟨wd,hwd,hat⟩:=LQ (cell % 2) ();refine⟨.inl ⟨rfl,_,dL.of ov.at⟩,small (),λp hp=>⟨(),_,dL.of zB,_,hat,?_⟩⟩;have ov1:=ov.new hp (.lst [V.str "both",V.str "either"]);have s1:=zF (ov.free hp) (.lst [V.str "both",V.str "either"]);refine⟨low,pt,us,ts,rfl,ov1.at,bG.same (s1.trans ov1.sub) ht,lU,by rw[tg.len];lia,λv1 t1 H2 s2 ht1 sd1=>⟨⟨(),()⟩,?_⟩⟩;obtain⟨J2,ov2,s2'⟩:=ov1.ext s2;refine⟨low/64,pt,us,ts,rfl,ov2.at,bG.same (s1.trans (ov1.sub.trans s2)) ht,lU,by rw[tg.len];lia,λv2 t2 H3 s3 ht2 sd2=>⟨small (),λp3 hp3=>?_⟩⟩;have ht1':=eA.same s3 ht1;obtain⟨J3,ov3,s3'⟩:=ov2.ext s3;have ov4:=ov3.new hp3 (.tup [V.str wd,v1,v2]);have s4:=zF (ov3.free hp3) (.tup [V.str wd,v1,v2]);have sA:=s1.trans (s2'.trans (s3'.trans s4));have q1:fO J3 t1 v1:=fO.tups ov3.tups ht1';have q2:fO J3 t2 v2:=fO.tups ov3.tups ht2;refine⟨us,ov4.at,small (),hM _ _ ⟨_,_,ts++[.node wd [t1,t2]],_,_,_,_,ov4.set (us++[.ref p3]),sJ.trans sA,TAts.snoc (t:=.node wd [t1,t2]) (v:=.ref p3) (bG.same (s1.trans (s2'.trans s3')) ht) s4 ⟨p3,_,rfl,zB,_,_,rfl,rfl,_,_,rfl,eA.same s4 q1,_,_,rfl,eA.same s4 q2,rfl⟩,?_,rfl⟩⟩;have :=tg.step hwd sd1 sd2;have hi2:i=0\/i=1:=by lia
   rcases hi2 with rfl |rfl<;>exact this
  ·obtain⟨J,us,ts,o4,o5,o6,o7,ov,sJ,ht,tg,rfl⟩:=h;exact hN _ _ ⟨J,us,ts,_,_,_,_,ov,sJ,ht,tg,rfl⟩
 obtain⟨J,us,ts,o4,o5,o6,o7,ov,sJ,ht,tg,rfl⟩:=h;dsimp![];exact q pt us ts _ (sJ.trans ov.sub) ov.at (bG.same ov.sub ht) tg
abbrev s_y:Stmt:=top 65
theorem rQ:cC ["cells","terms","most","book","last","raw","cell","low","one","other"] ["cells","terms","most"] (zK s_y):=by rfl'
def ud(H0 G:Hp)(pb:Addr)(b0:List mE)(r:mE)(J J1:Hp)(us vs:List V)(a la:Addr)(c:V):Prop:=Ov G J pb (us++[.ref a])/\Ov J J1 la vs/\bA H0 J1/\iD J1 b0 us/\J1 a=some (.tup [.ref la,c])/\mP J1 r.1 vs/\oR J1 r.2 c
def Bk(H0 G:Hp)(pb:Addr)(b:List mE):Prop:=(b=[]/\∃J,Ov G J pb []/\bA H0 J)\/∃b0 r J J1 us vs a la c,b=b0++[r]/\ud H0 G pb b0 r J J1 us vs a la c
section
variable {H0 G G':Hp} {pb:Addr} {b:List mE}
theorem Bk.sub(h:Bk H0 G pb b):bA H0 G:=by
 rcases h with⟨_,J,ov,s⟩ |⟨b0,r,J,J1,us,vs,a,la,c,_,o1,o2,s,_⟩
 ·exact s.trans ov.sub
 ·exact s.trans (o2.sub.trans o1.sub)
theorem iD.one{b0:List mE}{r:mE}(h:iD H b0 us)(hr:bh H r v):iD H (b0++[r]) (us++[v]):=by
 unfold iD;rw[aU];exact bG.append h (bG.one hr)
theorem ud.whole{b0:List mE}{r:mE}{J1:Hp}{vs:List V}{a la:Addr}{c:V}(h:ud H0 G pb b0 r J J1 us vs a la c):iD J (b0++[r]) (us++[.ref a]):=by
 obtain⟨o1,o2,s,h1,h2,h3,h4⟩:=h;exact iD.one (bG.same o2.sub h1) ⟨a,_,rfl,o2.sub _ _ h2,_,_,rfl,⟨la,vs,rfl,o2.at,bG.same o2.sub h3⟩,_,_,rfl,eA.same o2.sub h4,rfl⟩
theorem Bk.at(h:Bk H0 G pb b):∃J us,Ov G J pb us/\us.length=b.length/\iD J b us/\bA H0 J:=by
 rcases h with⟨rfl,J,ov,s⟩ |⟨b0,r,J,J1,us,vs,a,la,c,rfl,h⟩
 ·exact⟨J,[],ov,rfl,rfl,s⟩
 ·exact⟨J,_,h.1,by have :=iD.length h.whole;exact this,h.whole,h.2.2.1.trans h.2.1.sub⟩
theorem Bk.ext(h:Bk H0 G pb b)(e:bA G G'):Bk H0 G' pb b:=by
 rcases h with⟨rfl,J,ov,s⟩ |⟨b0,r,J,J1,us,vs,a,la,c,rfl,o1,o2,s,h1,h2,h3,h4⟩
 ·obtain⟨J',ov',s'⟩:=ov.ext e;exact .inl ⟨rfl,J',ov',s.trans s'⟩
 ·obtain⟨J',o1',s1⟩:=o1.ext e;obtain⟨J1',o2',s2⟩:=o2.ext s1;exact .inr ⟨b0,r,J',J1',us,vs,a,la,c,rfl,o1',o2',s.trans s2,bG.same s2 h1,s2 _ _ h2,bG.same s2 h3,eA.same s2 h4⟩
theorem oR.mk2{t1 t2:Tm}{v1 v2:V}(h1:fO H t1 v1)(h2:fO H t2 v2)(hp:H p=some (.tup [v1,v2])):oR H (t1,t2) (.ref p):=⟨p,_,rfl,hp,_,_,rfl,h1,_,_,rfl,h2,rfl⟩
theorem ud.prem{b0:List mE}{r:mE}{J1:Hp}{vs:List V}{a la:Addr}{c v1 v2:V}{t1 t2:Tm}(h:ud H0 G pb b0 r J J1 us vs a la c)(hp:G p=none)(h1:fO G t1 v1)(h2:fO G t2 v2):
 Bk H0 (upd (upd G p (.tup [v1,v2])) la (.lst (vs++[.ref p]))) pb (b0++[(r.1++[(t1,t2)],r.2)]):=by
 obtain⟨o1,o2,s,g1,g2,g3,g4⟩:=h;have hpJ:=o1.free hp;have hpJ1:=o2.free hpJ;have lU:la≠pb:=λz=>by have :=o2.at;rw[z,o1.no]at this;cases this
 have k1:=(o1.new hp (.tup [v1,v2])).put (q:=la) lU (.lst (vs++[.ref p]));have k2:=(o2.new hpJ (.tup [v1,v2])).set (vs++[.ref p]);have e:=zF hpJ1 (.tup [v1,v2]);have T:cT G J1:=o1.tups.trans o2.tups;refine .inr ⟨b0,(r.1++[(t1,t2)],r.2),_,_,us,vs++[.ref p],a,la,c,rfl,k1,k2,s.trans e,bG.same e g1,e _ _ g2,?_,eA.same e g4⟩;show bG _ ((r.1++[(t1,t2)]).map NL) _;rw[aU];exact bG.append (bG.same e g3) (bG.one (oR.mk2 (eA.same e (fO.tups T h1)) (eA.same e (fO.tups T h2)) zB))
theorem ud.copy{b0:List mE}{r:mE}{J1:Hp}{vs:List V}{a la l2 p2:Addr}{c:V}(h:ud H0 G pb b0 r J J1 us vs a la c)(hl:G l2=none)(hp:upd G l2 (.lst vs) p2=none):
 Bk H0 (upd (upd (upd G l2 (.lst vs)) p2 (.tup [.ref l2,c])) pb (.lst (us++[.ref a]++[.ref p2]))) pb (b0++[r]++[r]):=by
 have hw:=h.whole;obtain⟨o1,o2,s,g1,g2,g3,g4⟩:=h;have hlJ:=o1.free hl;have k1:=o1.new hl (.lst vs);have k2:Ov (upd J l2 (.lst vs)) J l2 vs:=⟨rfl,hlJ⟩
 have hpJ:=k1.free hp;have k3:=(k1.new hp (.tup [.ref l2,c])).set (us++[.ref a]++[.ref p2]);have k4:=k2.new hpJ (.tup [.ref l2,c]);have e:=zF (k2.free hpJ) (.tup [.ref l2,c]);exact .inr ⟨b0++[r],r,_,_,us++[.ref a],vs,p2,l2,c,rfl,k3,k4,s.trans (o2.sub.trans e),bG.same e hw,zB,bG.same (o2.sub.trans e) g3,eA.same (o2.sub.trans e) g4⟩
theorem Bk.new{l2 pc p2:Addr}{v1 v2:V}{t1 t2:Tm}(o1:Ov G J pb us)(hr:iD J b us)(s:bA H0 J)(h1:fO G t1 v1)(h2:fO G t2 v2)(hl:G l2=none)(hc:upd G l2 (.lst []) pc=none)(hp:upd (upd G l2 (.lst [])) pc (.tup [v1,v2]) p2=none):
 Bk H0 (upd (upd (upd (upd G l2 (.lst [])) pc (.tup [v1,v2])) p2 (.tup [.ref l2,.ref pc])) pb (.lst (us++[.ref p2]))) pb (b++[([],(t1,t2))]):=by
 have k1:=o1.new hl (.lst []);have k2:Ov (upd J l2 (.lst [])) J l2 []:=⟨rfl,o1.free hl⟩
 have k3:=k1.new hc (.tup [v1,v2]);have k4:=k2.new (k1.free hc) (.tup [v1,v2]);have k5:=(k3.new hp (.tup [.ref l2,.ref pc])).set (us++[.ref p2]);have k6:=k4.new (k3.free hp) (.tup [.ref l2,.ref pc]);have e1:=zF (k2.free (k1.free hc)) (.tup [v1,v2]);have e2:=zF (k4.free (k3.free hp)) (.tup [.ref l2,.ref pc]);have e:=e1.trans e2;exact .inr ⟨b,([],(t1,t2)),_,_,us,[],p2,l2,.ref pc,rfl,k5,k6,s.trans e,bG.same e hr,zB,rfl,oR.mk2 (eA.same e (fO.tups o1.tups h1)) (eA.same e (fO.tups o1.tups h2)) (e2 _ _ zB)⟩
end
def bf(Pt:Tm->Prop)(r:mE):Prop:=r.1.length<=2/\∀t∈PB r,Pt t
theorem LG{k:Nat}(h1:1<=k)(h:k<=xs.length):oV xs (-(k:Int))=xs[xs.length-k]?:=by
 have e:NC xs.length (-(k:Int))=some (xs.length-k):=by
  unfold NC;rw[aH (),aL ()]
  congr 1
  lia
 unfold oV;rw[e];rfl
theorem KG{tt:TT}{tb te:TS}{D:sO}{σ:St}(h:∀N:St->Hp->Prop,(∀σ H,te D σ H->N σ H)->me tt tb (λ_ σ H=>N σ H) D σ H):me tt tb te D σ H:=h (te D) λ_ _ z=>z
theorem XB{b:List mE}{r:mE}(h:∀r∈b,bf (Sd ts) r)(hr:bf (Sd ts) r):∀q∈b++[r],bf (Sd ts) q:=λq hq=>by
 rcases bS.mp hq with h1 |h1
 ·exact h q h1
 ·rw[aT.mp h1];exact hr
theorem vS(us:List V)(v:V):oV (us++[v]) (-1)=some v:=by
 have :=LG (xs:=us++[v]) (k:=1) (aG _) (by simp);rw[show(-((1:Nat):Int))= -1 from rfl]at this;rw[this];simp
inductive spBk (K:W.Frag) (vs:List V) (H:Hp) (Q:VK) (E:XK):Prop
 |mk (ca ta:Addr) (cs:List Int) (m:Nat) (us:List V) (ts:List Tm) (_:vs=[.ref ca,.ref ta,.int m]) (_:dL K H ca (cs.map V.int)) (_:cs.length<=63) (_:m<=10) (_:H ta=some (.lst us)) (_:TAts H ts us) (_:ts.length=7) (_:∀p bs b H',bA H H'->H' p=some (.lst bs)->iD H' b bs->b.length<=m->(∀r∈b,bf (Sd ts) r)->Q (.ref p) H')
theorem f7(bi:Bi mg)(h_w:gS P w K mg base 1 "_law_side" ["cell","terms"] PQ)(F:gI K "_law_book" "_law_book" s_y f fd):dI P w K mg base fZ 2 f fd ["cells","terms","most"] (spBk K):=by
 refine F.okz rQ λfD A outer s H vs Q E hr h=>?_
 obtain⟨ca,ta,cs,m,us,ts,rfl,hS,hl,hm,hta,hts,h7,q⟩:=h;have hul:=TAts.len hts;rw[h7]at hul;have lU:ts≠[]:=λz=>by rw[z]at h7;cases h7
 refine⟨_,(zD (yE 3 rQ.nd (xH zC)) (zD (yE 4 rQ.nd (zL yH (pv 1) zE)) (zD (yI bM rfl (yF (pv 0)) (yG 5 rQ.nd) (zD (yE 6 rQ.nd (zN yO (pv 5) (zN XM zE zE))) (zD (yE 7 rQ.nd (zN yT (zN yO (zN xR (zN yT (pv 6) zE) zE) zE) zE)) (zD (yE 8 rQ.nd (zI h_w hr.m rfl (zA (pv 7) (zA (pv 1) zC)))) (zD (yE 9 rQ.nd (zI h_w hr.m rfl (zA (zN yT (pv 7) zE) (zA (pv 1) zC)))) (zD (yK (zP ZM (zN yO (pv 6) zE) zE (zV _)) (zG (yE 8 rQ.nd (pv 4))) zZ) (zG (yK (PW.pt (uY (zP xK (zN yO (pv 6) zE) zE (zV _)) (uY (zP QE (yC yL rfl bi.len xE (zA (pv 3) zC)) zE (zV _)) (vV (zP ZM (yC yL rfl bi.len xE (zA (zL zM (zL yH (pv 3) (wF uT zE)) zE) zC)) zE (zV _)))))) (zG (zU (jD bT cL cK yU (zL zM (zL yH (pv 3) (wF uT zE)) zE) (zA (zQ (zA (pv 9) (zA (pv 8) zC))) zC)))) (zG (yK (PW.pt (uY (zP xK (zN yO (pv 6) zE) zE (zV _)) (uY (zP QE (yC yL rfl bi.len xE (zA (pv 3) zC)) zE (zV _)) (vV (zP ZM (yC yL rfl bi.len xE (zA (pv 3) zC)) (pv 2) (zV _)))))) (zG (zU (jD bT cL cK yU (pv 3) (zA (zQ (zA (xO VQ rfl bi.list LC (zA (zL zM (zL yH (pv 3) (wF uT zE)) zE) zC)) (zA (zL zM (zL yH (pv 3) (wF uT zE)) zE) zC))) zC)))) (zG (yK (zP ZM (yC yL rfl bi.len xE (zA (pv 3) zC)) (pv 2) (zV _)) (zD (zU (jD bT cL cK yU (pv 3) (zA (zQ (zA (xH zC) (zA (zQ (zA (pv 8) (zA (pv 9) zC))) zC))) zC))) (zG (yE 4 rQ.nd (pv 9)))) zZ)))))))))))) (zG (zO (pv 3)))))),?_⟩;refine zH λN hN=>?_
 dsimp![];refine⟨small (),λpb hpb=>hN _ _ ?_⟩;clear hN;have bk0:Bk H (upd H pb (.lst [])) pb []:=.inl ⟨rfl,H,Ov.mk0 hpb,bA.refl _⟩;generalize upd H pb (.lst [])=G0 at bk0⊢;clear hpb;refine zH λN hN=>?_
 dsimp![];obtain⟨u2,hu2⟩:∃u,us[2]?=some u:=⟨us[2]'(),aA ()⟩
 obtain⟨t2,ht2,htt2⟩:=jE (f:=HG) hts hu2;refine⟨_,dL.of (bk0.sub _ _ hta),u2,yD (j:=2) hu2,hN _ _ ?_⟩;clear hN;refine yA (λσ G=>∃(b:List mE)(o4 o5 o6 o7 o8 o9:Option V),Bk H G pb b/\b.length<=m/\(∀r∈b,bf (Sd ts) r)/\σ=[some (V.ref ca),some (V.ref ta),some (V.int m),some (V.ref pb),o4,o5,o6,o7,o8,o9]) (λN hN=>?_) (λσ G h=>?_)
 ·dsimp![];refine⟨⟨_,bA.seq bk0.sub hS⟩,?_⟩;refine xV (xs:=cs.map V.int) (λi σ G=>∃(b:List mE)(tl:Tm)(vl:V)(o5 o6 o7 o8 o9:Option V),Bk H G pb b/\b.length<=m/\(∀r∈b,bf (Sd ts) r)/\fO G tl vl/\Sd ts tl/\σ=[some (V.ref ca),some (V.ref ta),some (V.int m),some (V.ref pb),some vl,o5,o6,o7,o8,o9]) ⟨[],t2,u2,_,_,_,_,_,bk0,cG _,(λr hr=>by cases hr),eA.same bk0.sub htt2,.inl (aV ht2),rfl⟩ (λi σ G _ h=>by obtain⟨_,_,_,_,_,_,_,_,bk,_⟩:=h;exact bA.seq bk.sub hS) (λi x σ G hx h M hM=>?_) (λσ G h=>?_)
  ·obtain⟨b,tl,vl,o5,o6,o7,o8,o9,bk,hbm,hbr,htl,hsl,rfl⟩:=h;rw[aK]at hx;obtain⟨raw,_,rfl⟩:=aO.mp hx;refine zH λN hN=>?_
   dsimp![];refine⟨⟨(),(),()⟩,p1015,hN _ _ ?_⟩;clear hN;generalize raw % 10^Int.toNat 15=cell;refine zH λN hN=>?_
   dsimp![];refine⟨⟨(),()⟩,.inr ⟨(),()⟩,(),⟨(),()⟩,hN _ _ ?_⟩;clear hN;generalize cell/8*39373 % 2147483629/16=low;refine zH λN hN=>?_
   dsimp![];refine⟨low,ta,us,ts,rfl,bk.sub _ _ hta,bG.same bk.sub hts,lU,(),λv1 t1 G1 s1 ht1 sd1=>hN _ _ ?_⟩;clear hN;replace bk:=bk.ext s1;replace htl:=eA.same s1 htl;refine zH λN hN=>?_
   dsimp![];refine⟨⟨(),()⟩,low/64,ta,us,ts,rfl,bk.sub _ _ hta,bG.same bk.sub hts,lU,(),λv2 t2 G2 s2 ht2 sd2=>hN _ _ ?_⟩;clear hN;replace bk:=bk.ext s2;replace htl:=eA.same s2 htl;replace ht1:=eA.same s2 ht1;clear s1 s2;refine yA (λσ G'=>G'=G2/\∃(v1:V)(t1:Tm),fO G2 t1 v1/\Sd ts t1/\σ=[some (V.ref ca),some (V.ref ta),some (V.int m),some (V.ref pb),some vl,some (V.int raw),some (V.int cell),some (V.int low),some v1,some v2]) (λN hN=>?_) (λσ G' h=>?_)
   ·dsimp![];refine⟨(),?_⟩;by_cases c1:cell % 8<4
    ·rw[aL c1];exact hN _ _ ⟨rfl,vl,tl,htl,hsl,rfl⟩
    ·rw[aH c1];exact hN _ _ ⟨rfl,v1,t1,ht1,sd1,rfl⟩
   obtain⟨rfl,v1,t1,ht1,sd1,rfl⟩:=h;obtain⟨J,U,ov,hUl,hrs,sJ⟩:=bk.at;have stay:M [some (V.ref ca),some (V.ref ta),some (V.int m),some (V.ref pb),some vl,some (V.int raw),some (V.int cell),some (V.int low),some v1,some v2] G':=hM _ _ ⟨b,tl,vl,_,_,_,_,_,bk,hbm,hbr,htl,hsl,rfl⟩;have lb:jj K (V.ref pb) G' U.length:=.inl ⟨_,dL.of ov.at,rfl⟩;refine KG λE1 hE1=>?_
   have e1:=hE1 [some (V.ref ca),some (V.ref ta),some (V.int m),some (V.ref pb),some vl,some (V.int raw),some (V.int cell),some (V.int low),some v1,some v2] G' (by
    clear hE1;refine KG λE2 hE2=>?_
    have e2:=hE2 [some (V.ref ca),some (V.ref ta),some (V.int m),some (V.ref pb),some vl,some (V.int raw),some (V.int cell),some (V.int low),some v1,some v2] G' (by
     clear hE2;dsimp![];refine⟨U.length,lb,?_⟩;by_cases hm2:((U.length:Nat):Int)<m
     ·rw[aL hm2];refine⟨.inl ⟨rfl,_,dL.of ov.at⟩,small (),λl2 hl=>⟨small (),λpc hc=>⟨small (),λp2 hp=>?_⟩⟩⟩;have ov3:=((ov.new hl (.lst [])).new hc (.tup [v1,v2])).new hp (.tup [V.ref l2,V.ref pc]);have nb:=Bk.new ov hrs sJ ht1 ht2 hl hc hp;have e:=(zF hl (.lst [])).trans ((zF hc (.tup [v1,v2])).trans (zF hp (.tup [V.ref l2,V.ref pc])));refine⟨U,ov3.at,small (),hM _ _ ⟨_,t2,v2,_,_,_,_,_,nb,by rw[aI,cJ];lia,XB hbr ⟨cG _,λt ht=>?_⟩,?_,sd2,rfl⟩⟩
      ·have ht:t∈[t1,t2]:=ht;rcases bK.mp ht with rfl |ht
       ·exact sd1
       ·rw[aT.mp ht];exact sd2
      ·exact fO.tups ((cT.refl _).upd_lst ov3.at) (eA.same e ht2)
     ·rw[aH hm2];exact stay)
    clear hE2;dsimp![];refine⟨(),rfl,?_⟩;by_cases c6:cell % 8=6
    ·rw[aL c6];refine⟨U.length,lb,?_⟩;rcases bk with⟨rfl,_⟩ |⟨b0,r,J0,J1,us0,vs0,a0,la,cc,rfl,hbl⟩
     ·have hU0:U.length=0:=hUl;rw[aH ()];exact e2
     ·have hU:U.length=b0.length+1:=by rw[hUl,aI];rfl
      rw[aL ()];refine⟨U.length,lb,?_⟩;by_cases cm:((U.length:Nat):Int)<(m:Int)
      ·rw[aL cm];have o1:=hbl.1;have o2:=hbl.2.1;have ka:G' a0=some (.tup [.ref la,cc]):=(o2.sub.trans o1.sub) _ _ hbl.2.2.2.2.1;have kl:G' la=some (.lst vs0):=o1.sub _ _ o2.at;refine⟨.inl ⟨rfl,_,dL.of ov.at⟩,_,dL.of o1.at,_,vS _ _,a0,rfl,_,dN.of ka,_,lS,la,rfl,vs0,.inl (dL.of kl),λl2 hl=>?_⟩;have e1:=zF hl (.lst vs0);refine⟨_,dL.of (e1 _ _ o1.at),_,vS _ _,a0,rfl,_,dN.of (e1 _ _ ka),_,pH,small (),λp2 hp=>?_⟩;have e2:=zF hp (.tup [V.ref l2,cc]);refine⟨_,e2 _ _ (e1 _ _ o1.at),small (by rw[iD.length hbl.whole];lia),hM _ _ ⟨_,tl,vl,_,_,_,_,_,hbl.copy hl hp,by rw[aI,aI,cJ];lia,XB hbr (hbr r (by simp)),fO.tups ((cT.refl _).upd_lst (e2 _ _ (e1 _ _ o1.at))) (eA.same (e1.trans e2) htl),hsl,rfl⟩⟩
      ·rw[aH cm];exact e2
    ·rw[aH c6];exact e2)
   clear hE1;dsimp![];refine⟨(),rfl,?_⟩;by_cases c7:cell % 8=7
   ·rw[aL c7];refine⟨U.length,lb,?_⟩;rcases bk with⟨rfl,_⟩ |⟨b0,r,J0,J1,us0,vs0,a0,la,cc,rfl,hbl⟩
    ·have hU0:U.length=0:=hUl;rw[aH ()];exact e1
    ·have hU:U.length=b0.length+1:=by rw[hUl,aI];rfl
     rw[aL ()];have o1:=hbl.1;have o2:=hbl.2.1;have ka:G' a0=some (.tup [.ref la,cc]):=(o2.sub.trans o1.sub) _ _ hbl.2.2.2.2.1;have kl:G' la=some (.lst vs0):=o1.sub _ _ o2.at;refine⟨_,dL.of o1.at,_,vS _ _,a0,rfl,_,dN.of ka,_,lS,vs0.length,.inl ⟨_,dL.of kl,rfl⟩,?_⟩;have hpl:vs0.length=r.1.length:=by have :=bG.length hbl.2.2.2.2.2.1;rwa[aE]at this
     by_cases c2:((vs0.length:Nat):Int)<2
     ·rw[aL c2];refine⟨_,dL.of o1.at,_,vS _ _,a0,rfl,_,dN.of ka,_,lS,.inl ⟨rfl,_,dL.of kl⟩,small (),λp hp=>?_⟩;have hrr:=hbr r (by simp);refine⟨la,rfl,vs0,zF hp _ _ _ kl,small (),hM _ _ ⟨_,tl,vl,_,_,_,_,_,hbl.prem hp ht2 ht1,by rw[aI]at hbm⊢;exact hbm,XB (λq hq=>hbr q (cP _ hq)) ⟨?_,λt ht=>?_⟩,fO.tups ((cT.refl _).upd_lst (zF hp _ _ _ kl)) (eA.same (zF hp _) htl),hsl,rfl⟩⟩
      ·show(r.1++[(t2,t1)]).length<=2;rw[aI,cJ];lia
      ·have ht:t∈uQ (r.1++[(t2,t1)])++nO r.2:=ht;rcases bS.mp ht with ht |ht
       ·have ht:t∈(r.1++[(t2,t1)]).flatMap nO:=ht;rw[hV]at ht;rcases bS.mp ht with ht |ht
        ·exact hrr.2 t (cP _ ht)
        ·have ht:t∈[t2,t1]:=by simpa[nO]using ht
         rcases bK.mp ht with rfl |ht
         ·exact sd2
         ·rw[aT.mp ht];exact sd1
       ·exact hrr.2 t (aZ _ ht)
     ·rw[aH c2];exact e1
   ·rw[aH c7];exact e1
  ·obtain⟨b,tl,vl,o5,o6,o7,o8,o9,bk,hbm,hbr,htl,hsl,rfl⟩:=h;exact hN _ _ ⟨b,_,_,_,_,_,_,bk,hbm,hbr,rfl⟩
 obtain⟨b,o4,o5,o6,o7,o8,o9,bk,hbm,hbr,rfl⟩:=h;dsimp![];obtain⟨J,bs,ov,_,hb,sJ⟩:=bk.at;exact q pb bs b _ bk.sub ov.at (bG.same ov.sub hb) hbm hbr
abbrev s_t:Stmt:=top 66
theorem EF:cC ["script","terms","book","cell","low","one","other"] ["script","terms","book"] (zK s_t):=by rfl'
def Sa(ts:List Tm)(t:Tm):Prop:=Sd ts t\/∃u,Sd ts u/\t=.node "not" [u]
inductive spSy (K:W.Frag) (vs:List V) (H:Hp) (Q:VK) (E:XK):Prop
 |mk (a ta ba:Addr) (ns:List Int) (us bs:List V) (ts:List Tm) (b:List mE) (_:vs=[.ref a,.ref ta,.ref ba]) (_:dL K H a (ns.map V.int)) (_:H ta=some (.lst us)) (_:TAts H ts us) (_:ts.length=7) (_:H ba=some (.lst bs)) (_:iD H b bs) (_:b.length<=10) (_:(∀r∈b,bf (Sd ts) r)) (_:∀v s H',bA H H'->oR H' s v->Sa ts s.1->Sa ts s.2->Q v H')
theorem fO.not1{t:Tm}(h:fO H t v)(hp:H p=some (.tup [.str "not",v])):fO H (.node "not" [t]) (.ref p):=⟨p,_,rfl,hp,_,_,rfl,rfl,_,_,rfl,h,rfl⟩
theorem bh.mk2{ps:List (Tm×Tm)}{l:Addr}(hl:H l=some (.lst us))(h:mP H ps us)(hs:oR H s v)(hp:H p=some (.tup [.ref l,v])):bh H (ps,s) (.ref p):=⟨p,_,rfl,hp,_,_,rfl,⟨l,us,rfl,hl,h⟩,_,_,rfl,hs,rfl⟩
theorem MP(bi:Bi mg)(h_g:gS P w K mg base 1 "_law_cell_at" ["script","k"] (uV K))(h_w:gS P w K mg base 1 "_law_side" ["cell","terms"] PQ)(F:gI K "_law_saying" "_law_saying" s_t f fd):dI P w K mg base fZ 2 f fd ["script","terms","book"] (spSy K):=by
 refine F.okz EF λfD A outer s H vs Q E hr h=>?_
 obtain⟨a,ta,ba,ns,us,bs,ts,b,rfl,hS,hta,hts,h7,hba,hb,hbl,hbr,q⟩:=h;have lU:ts≠[]:=λz=>by rw[z]at h7;cases h7
 have hbs:=iD.length hb;refine⟨_,(zD (yE 3 EF.nd (zN yO (zI h_g hr.m rfl (zA (pv 0) (zA zE zC))) (zN XM zE zE))) (zD (yE 4 EF.nd (zN yT (zN yO (zN xR (zN yT (pv 3) zE) zE) zE) zE)) (zD (yE 5 EF.nd (zI h_w hr.m rfl (zA (pv 4) (zA (pv 1) zC)))) (zD (yE 6 EF.nd (zI h_w hr.m rfl (zA (zN yT (pv 4) zE) (zA (pv 1) zC)))) (zD (yK (PW.pt (uY (zP QE (yC yL rfl bi.len xE (zA (pv 2) zC)) zE (zV _)) (vV (zP QE (zN yO (pv 3) zE) zE (zV _))))) (zG (yE 5 EF.nd (zL zM (zL zM (zL yH (pv 2) zE) zE) zE))) zZ) (zD (yK (PW.pt (uY (zP QE (yC yL rfl bi.len xE (zA (pv 2) zC)) zE (zV _)) (vV (zP QE (zN yO (pv 3) zE) zE (zV _))))) (zG (yE 6 EF.nd (zL zM (zL zM (zL yH (pv 2) (wF uT zE)) zE) zE))) zZ) (zD (yK (zP xK (zN yO (zN yT (pv 4) zE) zE) zE (zV _)) (zG (zO (zQ (zA (zQ (zA zT (zA (pv 6) zC))) (zA (zQ (zA zT (zA (pv 5) zC))) zC))))) zZ) (zG (zO (zQ (zA (pv 5) (zA (pv 6) zC)))))))))))),?_⟩;refine zH λN hN=>?_
 dsimp![];refine⟨a,ns,1,rfl,hS,⟨⟨(),(),()⟩,_,rfl,SH,hN _ _ ?_⟩⟩;clear hN;generalize ns.getD 1 0 % 10^Int.toNat 12=cell;refine zH λN hN=>?_
 dsimp![];refine⟨⟨(),()⟩,.inr ⟨(),()⟩,(),⟨(),()⟩,hN _ _ ?_⟩;clear hN;generalize cell/4*45991 % 2147483587/16=low;refine zH λN hN=>?_
 dsimp![];refine⟨low,ta,us,ts,rfl,hta,hts,lU,(),λv1 t1 H1 s1 ht1 sd1=>hN _ _ ?_⟩;clear hN;refine zH λN hN=>?_
 dsimp![];refine⟨⟨(),()⟩,low/64,ta,us,ts,rfl,s1 _ _ hta,bG.same s1 hts,lU,(),λv2 t2 H2 s2 ht2 sd2=>hN _ _ ?_⟩;clear hN;replace ht1:=eA.same s2 ht1;replace s1:=s1.trans s2;clear s2;have rule:∀(k:Nat)(u:V),bs[k]?=some u->∃(x c:Addr)(lv w1 w2:V)(r:mE),u=.ref x/\H2 x=some (.tup [lv,.ref c])/\H2 c=some (.tup [w1,w2])/\fO H2 r.2.1 w1/\fO H2 r.2.2 w2/\bf (Sd ts) r:=λk u hu=>by
  obtain⟨r,mV,hr2⟩:=iD.getV hb hu;obtain⟨x,l,c',iH,e1,k1,_,_,k4⟩:=hr2.out;obtain⟨c,w1,w2,e2,k5,k6,k7⟩:=k4.out;subst e1 e2;exact⟨x,c,.ref l,w1,w2,r,rfl,s1 _ _ k1,s1 _ _ k5,eA.same s1 k6,eA.same s1 k7,hbr r (aV mV)⟩
 refine yA (λσ G=>G=H2/\∃(v1:V)(t1:Tm),fO H2 t1 v1/\Sd ts t1/\σ=[some (V.ref a),some (V.ref ta),some (V.ref ba),some (V.int cell),some (V.int low),some v1,some v2]) (λN hN=>?_) (λσ G h=>?_)
 ·dsimp![];have keep:=hN _ _ ⟨rfl,v1,t1,ht1,sd1,rfl⟩;refine⟨bs.length,.inl ⟨_,dL.of (s1 _ _ hba),rfl⟩,?_⟩;by_cases c0:(0:Int)<(bs.length:Int)
  ·rw[aL c0];refine⟨(),?_⟩;by_cases c1:0<cell % 4
   ·rw[aL c1];have h0:bs[0]?=some (bs[0]'()):=aA ();obtain⟨x,c,lv,w1,w2,r,e1,k1,k2,k3,k4,k5⟩:=rule 0 _ h0;exact⟨_,dL.of (s1 _ _ hba),_,yD (j:=0) h0,x,e1,_,dN.of k1,_,pH,c,rfl,_,dN.of k2,_,lS,hN _ _ ⟨rfl,w1,r.2.1,k3,k5.2 _ (aZ _ (by simp[nO])),rfl⟩⟩
   ·rw[aH c1];exact keep
  ·rw[aH c0];exact keep
 obtain⟨rfl,v1,t1,ht1,sd1,rfl⟩:=h;refine yA (λσ G'=>G'=G/\∃(v2:V)(t2:Tm),fO G t2 v2/\Sd ts t2/\σ=[some (V.ref a),some (V.ref ta),some (V.ref ba),some (V.int cell),some (V.int low),some v1,some v2]) (λN hN=>?_) (λσ G' h=>?_)
 ·dsimp![];have keep:=hN _ _ ⟨rfl,v2,t2,ht2,sd2,rfl⟩;refine⟨bs.length,.inl ⟨_,dL.of (s1 _ _ hba),rfl⟩,?_⟩;by_cases c0:(0:Int)<(bs.length:Int)
  ·rw[aL c0];refine⟨(),?_⟩;by_cases c1:1<cell % 4
   ·rw[aL c1];have h0:bs[bs.length-1]?=some (bs[bs.length-1]'()):=aA ();have h1:=LG (xs:=bs) (k:=1) (aG _) ();rw[h0]at h1;obtain⟨x,c,lv,w1,w2,r,e1,k1,k2,k3,k4,k5⟩:=rule _ _ h0;exact⟨_,dL.of (s1 _ _ hba),_,h1,x,e1,_,dN.of k1,_,pH,c,rfl,_,dN.of k2,_,pH,hN _ _ ⟨rfl,w2,r.2.2,k4,k5.2 _ (aZ _ (by simp[nO])),rfl⟩⟩
   ·rw[aH c1];exact keep
  ·rw[aH c0];exact keep
 obtain⟨rfl,v2,t2,ht2,sd2,rfl⟩:=h;refine zH λN hN=>?_
 dsimp![];refine⟨⟨(),()⟩,(),rfl,?_⟩;by_cases c1:low/4096 % 2=1
 ·rw[aL c1];refine⟨small (),λp hp=>⟨small (),λp1 hp1=>⟨small (),λp2 lX=>?_⟩⟩⟩;have e1:=zF hp (.tup [V.str "not",v2]);have e2:=zF hp1 (.tup [V.str "not",v1]);have e3:=zF lX (.tup [V.ref p,V.ref p1]);have n1:=fO.not1 (eA.same (e1.trans (e2.trans e3)) ht2) ((e2.trans e3) _ _ (zB (H:=G') (a:=p)));have n2:=fO.not1 (eA.same (e1.trans (e2.trans e3)) ht1) (e3 _ _ (zB (a:=p1)));exact q _ (_,_) _ (s1.trans (e1.trans (e2.trans e3))) (oR.mk2 n1 n2 zB) (.inr ⟨t2,sd2,rfl⟩) (.inr ⟨t1,sd1,rfl⟩)
 ·rw[aH c1];refine hN _ _ ?_;clear hN;dsimp![];refine⟨small (),λp hp=>?_⟩;have e:=zF hp (.tup [v1,v2]);exact q _ (t1,t2) _ (s1.trans e) (oR.mk2 (eA.same e ht1) (eA.same e ht2) zB) (.inl sd1) (.inl sd2)
abbrev s_q:Stmt:=top 67
theorem m9:cC ["t","names","terms","made","part"] ["t","names","terms"] (zK s_q):=by rfl'
abbrev n9:Stmt:=top 68
theorem sc_aa:cC ["saying","names","some"] ["saying","names","some"] (zK n9):=by rfl'
mutual
def fil(L:Str->Option Tm):Tm->Tm
 | .name x=>(L x).getD (.name x)
 | .node w ts=>.node w (GB L ts)
def GB(L:Str->Option Tm):List Tm->List Tm
 |[]=>[]
 |t::ts=>fil L t::GB L ts
end
theorem CG(L:Str->Option Tm):∀ts:List Tm,GB L ts=ts.map (fil L)
 |[]=>rfl
 |t::ts=>by rw[GB,CG L ts,cF]
theorem qL(L:Str->Option Tm)(w:Str)(ts:List Tm):fil L (.node w ts)=.node w (ts.map (fil L)):=by rw[fil,CG]
def ua(H:Hp)(zs:List Str)(us:List V)(L:Str->Option Tm):Prop:=∀x,(L x=none/\x∉zs)\/∃(j:Nat)(t:Tm)(u:V),L x=some t/\zs[j]?=some x/\(∀m:Nat,m<j->zs[m]?≠some x)/\us[j]?=some u/\fO H t u
theorem ua.tups(e:cT H H')(h:ua H zs us L):ua H' zs us L:=λx=>by
 rcases h x with h |⟨j,t,u,h1,h2,h3,h4,h5⟩
 ·exact .inl h
 ·exact .inr ⟨j,t,u,h1,h2,h3,h4,fO.tups e h5⟩
def mz:Nat->Sp
 |0=>λ_ _ _ _=>False
 |n+1=>λvs H Q _=>∃(v:V)(a b:Addr)(t:Tm)(zs:List Str)(us:List V)(L:Str->Option Tm),vs=[v,.ref a,.ref b]/\fO H t v/\fM n t/\wt t<=900/\H a=some (.lst (zs.map V.str))/\H b=some (.lst us)/\zs.length<=1000/\ua H zs us L/\∀v' H',bA H H'->fO H' (fil L t) v'->Q v' H'
theorem WG{H:Hp}:∀(zs:List Str)(ts:List Tm)(us:List V),TAts H ts us->zs.length<=ts.length->ua H zs us (λx=>(zs.zip ts).lookup x)
 |[],ts,us,_,_=>λx=>.inl ⟨rfl,by simp⟩
 |z::zs,[],us,_,hl=>by simp at hl
 |z::zs,t::ts,us,hu,hl=>by
  obtain⟨u,r,rfl,h1,h2⟩:=hu;have b:=WG zs ts r h2 (by simpa using hl);have el:∀x,x≠z->((z::zs).zip (t::ts)).lookup x=(zs.zip ts).lookup x:=λx hx=>by rw[DM,bH,show(x==z)=false by simpa using hx]
  have eq:((z::zs).zip (t::ts)).lookup z=some t:=by rw[DM,bH];simp
  intro x;by_cases hx:x=z
  ·subst hx;exact .inr ⟨0,t,u,eq,rfl,λm hm=>(),rfl,h1⟩
  ·rcases b x with⟨b1,b2⟩ |⟨j,t',u',b1,b2,b3,b4,b5⟩
   ·exact .inl ⟨(el x hx).trans b1,by simp[hx,b2]⟩
   ·refine .inr ⟨j+1,t',u',(el x hx).trans b1,by simpa using b2,λm hm=>?_,by simpa using b4,b5⟩;cases m with
    |zero=>simpa using λe=>hx e.symm
    |succ m=>simpa using b3 m ()
theorem qf{x:Str}{t:Tm}(h:(zs.zip ts).lookup x=some t):t∈ts:=by
 induction zs generalizing ts with
 |nil=>simp at h
 |cons z zs ih=>
  cases ts with
  |nil=>simp at h
  |cons u ts=>
   rw[DM,bH]at h;cases e:x==z with
   |true=>rw[e]at h;cases h;exact bB
   |false=>rw[e]at h;exact bC _ (ih h)
def ZF(L:Str->Option Tm)(s:Tm×Tm):Tm×Tm:=(fil L s.1,fil L s.2)
inductive jy (vs:List V) (H:Hp) (Q:VK) (E:XK):Prop
 |mk (v:V) (a b:Addr) (s:Tm×Tm) (zs:List Str) (us:List V) (L:Str->Option Tm) (_:vs=[v,.ref a,.ref b]) (_:oR H s v) (_:(∀t∈nO s,fM 20 t/\wt t<=900)) (_:H a=some (.lst (zs.map V.str))) (_:H b=some (.lst us)) (_:zs.length<=20) (_:ua H zs us L) (_:∀p H',bA H H'->oR H' (ZF L s) (.ref p)->Q (.ref p) H')
theorem JL(bi:Bi mg)(F:gI K "_law_filled" "_law_filled" s_q f fd)(b:Binds K fd ["t","names","terms"] [])(m:mg "_law_filled"=some (.ref f)):∀n,dI P w K mg base fZ n f fd ["t","names","terms"] (mz n):=by
 refine EK F b m (λvs H Q E h=>h) (λn h_q=>?_);refine F.okz m9 λfD A outer s H vs Q E hr h=>?_
 obtain⟨v,na,tb,t,zs,us0,L,rfl,ht,hf,hw,hna,htb,hz,hL,q⟩:=h;refine⟨_,(zD (yK (zP xK (zL zM (pv 0) zE) zT (zV _)) (zD (yK (zP MN (zL zM (pv 0) zE) (pv 1) (by with_unfolding_all rfl)) (zG (zO (zL yH (pv 2) (jD bT PySem.F.slot_list_index PySem.F.type_list_index TJ (pv 1) (zA (zL zM (pv 0) zE) zC))))) zZ) (zG (zO (pv 0)))) zZ) (zD (yE 3 m9.nd (xH (zA (zL zM (pv 0) zE) zC))) (zD (yI bM rfl (uZ (jC UJ (pv 0) (jQ zE) qS)) (yG 4 m9.nd) (zG (zU (jD bT cL cK yU (pv 3) (zA (zI h_q hr rfl (zA (pv 4) (zA (pv 1) (zA (pv 2) zC)))) zC))))) (zG (zO (xO jU rfl bi.tuple kP (zA (pv 3) zC))))))),?_⟩;cases t with
 |name x=>
  obtain⟨a,rfl,ha⟩:=fO.name ht;refine zH λN hN=>?_
  dsimp![rIn,RO];refine⟨_,dN.of ha,.str "name",lS,rfl,?_⟩;rw[aL rfl];have fl:(zs.map V.str).all kM=true:=by rw[oE,cX];exact λ_ _=>rfl
  have ein:inV (V.str x) (zs.map V.str)=decide (x∈zs):=by
   rw[cD,bO];unfold inV;rw[List.any_map,eV];constructor
   ·rintro⟨y,hy,e⟩;have e:x=y:=by simpa[KW]using e
    rw[e];exact hy
   ·intro h;exact⟨x,h,by simp[KW]⟩
  refine⟨_,dN.of ha,.str x,pH,_,.inl (dL.of hna),rfl,fl,?_⟩;rw[ein];have hfil:fil L (.name x)=(L x).getD (.name x):=by rw[fil]
  rcases hL x with⟨h1,h2⟩ |⟨j,t,u,h1,h2,h3,h4,h5⟩
  ·rw[aH (by simpa using h2)];refine q _ _ (bA.refl _) ?_;rw[hfil,h1];exact ht
  ·rw[aL (by simpa using aV h2)];refine⟨.inl ⟨rfl,_,dL.of hna⟩,_,dN.of ha,.str x,pH,zs,x,rfl,hna,(),j,h2,h3,_,dL.of htb,u,yD h4,?_⟩;refine q _ _ (bA.refl _) ?_;rw[hfil,h1];exact h5
 |node wd ts=>
  obtain⟨a,us,rfl,ha,hu⟩:=fO.node ht;have hwd:=hf.wrd;have hl:=hu.length;have hll:=YC ts;rw[wt]at hw;refine zH λN hN=>?_
  dsimp![];refine⟨_,dN.of ha,.str wd,lS,rfl,?_⟩;rw[aH (λe=>hwd.ne (V.str.inj e))];refine hN _ _ ?_;refine zH λN hN=>?_
  dsimp![];refine⟨_,dN.of ha,.str wd,lS,small (),λpm npm=>hN _ _ ?_⟩;have e2:bA H (upd H pm (.lst [.str wd])):=zF npm _;have h2:upd H pm (.lst [.str wd]) pm=some (.lst [.str wd]):=zB;generalize upd H pm (.lst [.str wd])=H2 at e2 h2⊢;refine yA (λσ H'=>bA H H'/\∃ys o1 o2 o3 o4,H' pm=some (.lst (.str wd::ys))/\TAts H' (ts.map (fil L)) ys/\σ=[o1,o2,o3,some (V.ref pm),o4]) (λN hN=>?_) (λσ H' h=>?_)
  ·dsimp![];refine⟨_,dN.of (e2 _ _ ha),qG _ _,λp3 hp3=>?_⟩;rw[vP];have n23:pm≠p3:=xD h2 hp3;have e3:bA H2 (upd H2 p3 (.tup us)):=zF hp3 _;have h3:upd H2 p3 (.tup us) p3=some (.tup us):=zB;generalize upd H2 p3 (.tup us)=H3 at e3 h3⊢;refine⟨⟨_,dN.of h3⟩,?_⟩;refine FY (xs:=us) (λi σ H'=>bA H H'/\H' p3=some (.tup us)/\∃ys o1 o4,H' pm=some (.lst (.str wd::ys))/\TAts H' ((ts.map (fil L)).take i) ys/\σ=[o1,some (V.ref na),some (V.ref tb),some (V.ref pm),o4]) ?_ (λi σ H' _ h=>dN.of h.2.1) (λi x σ H' hx h=>?_) (λσ H' h=>?_)
   ·exact⟨e2.trans e3,h3,[],_,_,e3 _ _ h2,rfl,rfl⟩
   ·obtain⟨es,hp3',ys,o1,o4,hm,hys,rfl⟩:=h;obtain⟨t,ht',hx'⟩:=hu.getV hx;cases n with
    |zero=>have :=hf.2;subst this;simp at ht'
    |succ n=>
     have hmem:=aV ht';have hmt:=wU hmem;have hyl:=hys.length;rw[bU,aE]at hyl;dsimp![mz];refine⟨.inl ⟨rfl,_,dL.of hm⟩,t,fO.tups es.tups hx',hf.part hmem,(),zs,es _ _ hna,us0,es _ _ htb,hz,L,hL.tups es.tups,λv' H4 e4 hv'=>⟨_,e4 _ _ hm,uD (by rw[bF];lia),?_⟩⟩;have hm4:=e4 _ _ hm;have tu:cT H4 (upd H4 pm (.lst (.str wd::ys++[v']))):=(cT.refl _).upd_lst hm4;refine⟨(es.trans e4).upd npm,?_,ys++[v'],zB,?_,_,rfl⟩
     ·rw[zJ (cH n23)];exact e4 _ _ hp3'
     ·exact L2.TAts.snoc (by rw[aK,ht'];rfl) (TAts.tups (e4.tups.trans tu) hys) (fO.tups tu hv')
   ·obtain⟨es,hp3',ys,o1,o4,hm,hys,rfl⟩:=h;rw[aQ (by rw[aE];lia)]at hys;exact hN _ _ ⟨es,ys,_,_,_,_,hm,hys,rfl⟩
  ·obtain⟨es,ys,o1,o2,o3,o4,hm,hys,rfl⟩:=h;dsimp![];refine⟨_,.inl ⟨dL.of hm,λp4 hp4=>?_⟩⟩;refine q _ _ (es.trans (zF hp4 _)) ?_;rw[qL];exact fO.mkNode (vs:=ys) zB (TAts.tups (zF hp4 _).tups hys)
theorem pq(h_q:gS P w K mg base 21 "_law_filled" ["t","names","terms"] (mz 21))(F:gI K "_law_put" "_law_put" n9 f fd):dI P w K mg base fZ 22 f fd ["saying","names","some"] jy:=by
 refine F.okz sc_aa λfD A outer s H vs Q E hr h=>?_
 obtain⟨v,a,b,s',zs,us,L,rfl,hv,hf,ha,hb,hz,hL,q⟩:=h;obtain⟨x,v1,v2,rfl,hx,h1,h2⟩:=hv.out;obtain⟨f1,w1⟩:=hf s'.1 (by simp[nO]);obtain⟨f2,w2⟩:=hf s'.2 (by simp[nO]);refine⟨_,(zG (zO (zQ (zA (zI h_q hr.m rfl (zA (zL zM (pv 0) zE) (zA (pv 1) (zA (pv 2) zC)))) (zA (zI h_q hr.m rfl (zA (zL zM (pv 0) zE) (zA (pv 1) (zA (pv 2) zC)))) zC))))),?_⟩;dsimp![];refine⟨_,dN.of hx,_,lS,v1,a,b,s'.1,zs,us,L,rfl,h1,f1,w1,ha,hb,(),hL,λu1 H1 e1 k1=>?_⟩;refine⟨_,dN.of (e1 _ _ hx),_,pH,v2,a,b,s'.2,zs,us,L,rfl,eA.same e1 h2,f2,w2,e1 _ _ ha,e1 _ _ hb,(),hL.tups e1.tups,λu2 H2 e2 k2=>⟨small (),λp hp=>?_⟩⟩;have e3:=zF hp (.tup [u1,u2]);exact q p _ (e1.trans (e2.trans e3)) (oR.mk2 (eA.same (e2.trans e3) k1) (eA.same e3 k2) zB)
abbrev di:Stmt:=top 69
theorem pR:cC ["script","pool","terms","book","saying","draw","names","some","filled_book","rule","first","second"] ["script"] (zK di):=by rfl'
section
variable {m:Nat}
theorem Fw.vlt(f:Fw m ps S){t:Tm}(h:a∈val m ps S t):a<m:=QX (λx i hi=>(rB.mp ((f.full x i).mp hi)).1) t h
theorem k8{v:List Nat}(hv:∀b∈v,b<m)(h:a∈v):a∈cnt m ps (cnt m ps v):=fS.mpr ⟨hv a h,λb hb=>by rw[QN];exact(fS.mp hb).2 a h⟩
theorem i5{v u:List Nat}(hu:∀b∈v,b∈u)(h:a∈cnt m ps (cnt m ps v)):a∈cnt m ps (cnt m ps u):=by
 have h:=fS.mp h;exact fS.mpr ⟨h.1,λb hb=>h.2 b (fS.mpr ⟨(fS.mp hb).1,λc hc=>(fS.mp hb).2 c (hu c hc)⟩)⟩
theorem ccc{v:List Nat}(hv:∀b∈v,b<m)(h:a∈cnt m ps (cnt m ps (cnt m ps v))):a∈cnt m ps v:=by
 have h:=fS.mp h;exact fS.mpr ⟨h.1,λb hb=>h.2 b (k8 hv hb)⟩
theorem LO(irr:∀a,uN ps a a=false){w:Str}(hl:∀v∈vs,∀b∈v,b<m)(hf:∀v∈vs,∀a,a∈cnt m ps (cnt m ps v)->a∈v)(h:a∈cnt m ps (cnt m ps (qE m ps w vs))):a∈qE m ps w vs:=by
 have iY:=(fS.mp h).1;unfold qE at h⊢;split
 ·rename_i c
  rw[aL c]at h;have :=(fS.mp h).2 a (fS.mpr ⟨iY,λb hb=>by cases hb⟩);rw[irr]at this;cases this
 rename_i c1
 rw[aH c1]at h;split
 ·exact bR.mpr iY
 rename_i c2
 rw[aH c2]at h;split
 ·rename_i c
  rw[aL c]at h;refine ccc (λb hb=>?_) h;cases vs with
  |nil=>cases hb
  |cons v vs=>exact hl v bB b hb
 rename_i c3
 rw[aH c3]at h;split
 ·rename_i c
  rw[aL c]at h;exact oY.mpr ⟨iY,λv hv=>hf v hv a (i5 (λb hb=>(oY.mp hb).2 v hv) h)⟩
 ·rename_i c
  rw[aH c]at h;exact ccc (λb hb=>(oY.mp hb).1) h
theorem tL(f:Fw m ps S):∀(t:Tm)(a:Nat),a∈cnt m ps (cnt m ps (val m ps S t))->a∈val m ps S t
 | .name x,a,h=>by rw[val]at h⊢;exact(f.full x a).mpr h
 | .node w ts,a,h=>by
   rw[val]at h⊢;refine LO f.irr (λv hv b hb=>?_) (λv hv b hb=>?_) h
   all_goals
    rw[jV]at hv;obtain⟨u,hu,rfl⟩:=bP.mp hv
   ·exact f.vlt hb
   ·exact tL f u b hb
def Sfl(m:Nat)(ps:List (Nat×Nat))(S:Str->List Nat)(L:Str->Option Tm)(x:Str):List Nat:=val m ps S (fil L (.name x))
theorem Fw.fill(f:Fw m ps S)(L:Str->Option Tm):Fw m ps (Sfl m ps S L):=⟨f.irr,λx a=>⟨k8 λb hb=>f.vlt hb,tL f _ a⟩⟩
theorem YV(L:Str->Option Tm):∀t:Tm,val m ps (Sfl m ps S L) t=val m ps S (fil L t)
 | .name x=>by rw[val];rfl
 | .node w ts=>by
   rw[qL,val,val,jV,jV,eC]
   congr 1
   exact nX λu _=>YV L u
def CH(L:Str->Option Tm)(r:mE):mE:=(r.1.map (ZF L),ZF L r.2)
theorem YQ(L:Str->Option Tm)(s:Tm×Tm):Hs m ps (Sfl m ps S L) s↔Hs m ps S (ZF L s):=by
 unfold Hs ZF;rw[YV,YV]
theorem ig(L:Str->Option Tm)(r:mE):Hr m ps (Sfl m ps S L) r↔Hr m ps S (CH L r):=by
 unfold Hr CH;rw[YQ];refine imp_congr ⟨λh s hs=>?_,λh s hs=>(YQ L s).mpr (h _ (bP.mpr ⟨s,hs,rfl⟩))⟩ Iff.rfl;obtain⟨u,hu,rfl⟩:=bP.mp hs;exact(YQ L u).mp (h u hu)
end
theorem Ver.fill{y:Bool}{b:List mE}(h1:Ver true b s)(h2:Ver y (b.map (CH L)) (ZF L s)):y=true:=by
 cases y with
 |true=>rfl
 |false=>
  obtain⟨m,ps,S,f,g1,g2⟩:=h2;refine(g2 ((YQ L s).mp (h1 m ps _ (f.fill L) λr hr=>(ig L r).mpr (g1 _ (bP.mpr ⟨r,hr,rfl⟩))))).elim
def tm(zs:List Str)(G:List Tm)(t:Tm):Prop:=(fM 20 t/\wt t<=900)/\inG zs G 21 t
def OkR(zs:List Str)(G:List Tm)(r:mE):Prop:=r.1.length<=5/\∀t∈PB r,tm zs G t
section
variable {G':List Tm}
def Lv(zs:List Str)(G:List Tm)(d m:Nat)(t:Tm):Prop:=fM d t/\wt t<=m/\inG zs G (d+1) t
theorem Lv.ok{t:Tm}{m:Nat}(h:Lv zs G d m t)(hd:d<=20)(hm:m<=900):tm zs G t:=⟨⟨fM.mono h.1 hd,by have :=h.2.1;lia⟩,jF (λ_ z=>z) h.2.2 ()⟩
theorem Lv.not{t:Tm}{m:Nat}(h:Lv zs G d m t):Lv zs G (d+1) (m+1) (.node "not" [t]):=by
 refine⟨?_,?_,.inr (.inl ⟨rfl,t,rfl,h.2.2⟩)⟩
 ·unfold fM;exact⟨.inr (.inr (.inl ⟨rfl,rfl⟩)),λu hu=>by rw[aT.mp hu];exact h.1⟩
 ·have :=h.2.1;simp only[wt,mD];lia
theorem Sd.lv{t:Tm}(h:Sd ts t)(hf:∀t∈ts,fM 4 t/\wt t<=13)(hG:∀t∈ts,C.inG zs G 5 t):Lv zs G 5 14 t:=⟨(h.fit hf).1,(h.fit hf).2,h.inG hG⟩
theorem og{r:mE}(h:bf (Sd ts) r)(hf:∀t∈ts,fM 4 t/\wt t<=13)(hG:∀t∈ts,inG zs G 5 t):OkR zs G r:=⟨by have :=h.1;lia,λt ht=>((h.2 t ht).lv hf hG).ok () ()⟩
theorem Sa.ok{t:Tm}(h:Sa ts t)(hf:∀t∈ts,fM 4 t/\wt t<=13)(hG:∀t∈ts,inG zs G 5 t):tm zs G t:=by
 rcases h with h |⟨u,h,rfl⟩
 ·exact(h.lv hf hG).ok () ()
 ·exact((h.lv hf hG).not).ok () ()
end
theorem VG{k:Nat}(hL:∀x u,L x=some u->fM k u):∀{n:Nat}{t:Tm},fM n t->fM (n+k) (fil L t)
 |n,.name x,h=>by
  rw[fil];cases e:L x with
  |none=>exact fM.mono h (by unfold fM at h;lia)
  |some u=>exact fM.mono (hL x u e) ()
 |0,.node w ts,h=>by
  obtain⟨h1,rfl⟩:=h;rw[qL];exact fM.mono (n:=0) ⟨h1,rfl⟩ (cG _)
 |n+1,.node w ts,h=>by
  rw[qL,show n+1+k=(n+k)+1 by lia];refine⟨by rw[aE];exact h.1,λt ht=>?_⟩;obtain⟨u,hu,rfl⟩:=bP.mp ht;exact VG hL (h.2 u hu)
mutual
theorem ON{k:Nat}(hk:1<=k)(hL:∀x u,L x=some u->wt u<=k):∀t:Tm,wt (fil L t)<=k*wt t
 | .name x=>by
   rw[fil,wt,OL];cases e:L x with
   |none=>exact hk
   |some u=>exact hL x u e
 | .node w ts=>by
   have :=HE hk hL ts;rw[fil,wt,wt,OM,OL];lia
theorem HE{k:Nat}(hk:1<=k)(hL:∀x u,L x=some u->wt u<=k):∀ts:List Tm,mD (GB L ts)<=k*mD ts
 |[]=>by rw[GB,mD];lia
 |t::ts=>by
  have h1:=ON hk hL t;have h2:=HE hk hL ts;rw[GB,mD,mD,OM];lia
end
theorem YO{k j:Nat}(hF:∀x u,L x=some u->fM j u)(hL:∀x u,L x=some u->inG zs G k u):∀{d:Nat}{t:Tm},inG zs G d t->inG zs (G++G.map (fil L)) (d+k) (fil L t)
 |0,_,h=>h.elim
 |d+1,.name x,h=>by
  rw[fil];cases e:L x with
  |none=>rw[show d+1+k=(d+k)+1 by lia];exact h
  |some u=>exact jF (λ_ z=>cP _ z) (hL x u e) ()
 |d+1,.node w ts,h=>by
  rw[show d+1+k=(d+k)+1 by lia,qL];rcases h with h |⟨h,t,rfl,ht⟩ |⟨h,hg,⟨n,hn⟩,a,b,rfl,ha,hb⟩
  ·exact .inl h
  ·exact .inr (.inl ⟨h,_,rfl,YO hF hL ht⟩)
  ·refine .inr (.inr ⟨h,?_,?_,_,_,rfl,YO hF hL ha,YO hF hL hb⟩)
   ·exact aZ _ (bP.mpr ⟨_,hg,qL _ _ _⟩)
   ·have z:=VG hF hn;rw[qL]at z;exact⟨_,z⟩
theorem Lv.fil{t:Tm}(h:Lv zs G d n t)(hL:∀x u,L x=some u->Lv zs G 5 14 u):Lv zs (G++G.map (C.fil L)) (d+6) (14*n) (C.fil L t):=
 ⟨fM.mono (VG (λx u e=>(hL x u e).1) h.1) (),cR (ON () (λx u e=>(hL x u e).2.1) t) (Nat.mul_le_mul_left _ h.2.1),jF (λ_ z=>z) (YO (λx u e=>(hL x u e).1) (λx u e=>(hL x u e).2.2) h.2.2) ()⟩
theorem Sa.fil{t:Tm}(h:Sa ts t)(hf:∀t∈ts,fM 4 t/\wt t<=13)(hG:∀t∈ts,inG zs G 5 t)(hL:∀x u,L x=some u->Lv zs G 5 14 u):tm zs (G++G.map (C.fil L)) (C.fil L t):=by
 rcases h with h |⟨u,h,rfl⟩
 ·exact((h.lv hf hG).fil hL).ok () ()
 ·exact(((h.lv hf hG).not).fil hL).ok () ()
theorem HI{t:Tm}(h:t∈nO (ZF L s)):∃u∈nO s,t=fil L u:=by
 rcases bK.mp h with rfl |h
 ·exact⟨s.1,bB,rfl⟩
 ·exact⟨s.2,bC _ bB,aT.mp h⟩
theorem dj{r:mE}(h:bf (Sd ts) r)(hf:∀t∈ts,fM 4 t/\wt t<=13)(hG:∀t∈ts,inG zs G 5 t)(hL:∀x u,L x=some u->Lv zs G 5 14 u):OkR zs (G++G.map (fil L)) (CH L r):=by
 refine⟨by show(r.1.map (ZF L)).length<=5;rw[aE];have :=h.1;lia,λt ht=>?_⟩;have ex:∃u∈PB r,t=fil L u:=by
  rcases bS.mp (show t∈uQ (r.1.map (ZF L))++nO (ZF L r.2)from ht)with ht |ht
  ·obtain⟨p,hp,ht⟩:=fV.mp (show t∈(r.1.map (ZF L)).flatMap nO from ht);obtain⟨s,hs,rfl⟩:=bP.mp hp;obtain⟨u,hu,e⟩:=HI ht;exact⟨u,cP _ (fV.mpr ⟨s,hs,hu⟩),e⟩
  ·obtain⟨u,hu,e⟩:=HI ht;exact⟨u,aZ _ hu,e⟩
 obtain⟨u,hu,rfl⟩:=ex;exact(((h.2 u hu).lv hf hG).fil hL).ok () ()
theorem ki{b:List mE}(hb:b.length<=20)(hr:∀r∈b,OkR zs G r)(h1:tm zs G s.1)(h2:tm zs G s.2)(hz:zs.length<=3)(hG:G.length<=20):Jb zs G b s:=by
 have all:∀t∈oW b++nO s,tm zs G t:=λt ht=>by
  rcases bS.mp ht with ht |ht
  ·obtain⟨r,mV,ht⟩:=fV.mp ht;exact(hr r mV).2 t ht
  ·have ht:t∈[s.1,s.2]:=ht;rcases bK.mp ht with rfl |ht
   ·exact h1
   ·rw[aT.mp ht];exact h2
 exact⟨hb,λr h=>(hr r h).1,λt ht=>(all t ht).1,λt ht=>(all t ht).2,hz,hG⟩
theorem CK(ns:List Int)(lo hi:Option Int):∃cs:List Int,qM (ns.map V.int) lo hi=cs.map V.int/\cs.length<=ns.length:=by
 have hl:=qX (ns.map V.int) lo hi;rw[aE]at hl;refine⟨(ns.drop (HT.sIx (ns.map V.int).length 0 lo)).take (HT.sIx (ns.map V.int).length (ns.map V.int).length hi-HT.sIx (ns.map V.int).length 0 lo),?_,?_⟩
 ·unfold qM;rw[tE,tF]
 ·rw[bU,fW];lia
theorem tY(e:cT H H')(h:oR H s v):oR H' s v:=by
 obtain⟨a,v1,v2,rfl,h1,h2,h3⟩:=h.out;exact oR.mk2 (fO.tups e h2) (fO.tups e h3) (e _ _ h1)
theorem JY{H H':Hp}(e:cT H H'):∀{ps:List (Tm×Tm)}{vs:List V},mP H ps vs->mP H' ps vs
 |[],_,h=>h
 |p::ps,_,⟨v,r,e1,h1,h2⟩=>⟨v,r,e1,tY e h1,JY e h2⟩
theorem WL(ns:List Str)(lo hi:Option Int):∃cs:List Str,qM (ns.map V.str) lo hi=cs.map V.str/\cs.length<=ns.length:=by
 have hl:=qX (ns.map V.str) lo hi;rw[aE]at hl;refine⟨(ns.drop (HT.sIx (ns.map V.str).length 0 lo)).take (HT.sIx (ns.map V.str).length (ns.map V.str).length hi-HT.sIx (ns.map V.str).length 0 lo),?_,?_⟩
 ·unfold qM;rw[tE,tF]
 ·rw[bU,fW];lia
inductive HR (K:W.Frag) (vs:List V) (H:Hp) (Q:VK) (E:XK):Prop
 |mk (a:Addr) (ns:List Int) (_:vs=[.ref a]) (_:dL K H a (ns.map V.int)) (_:ns.length<=63) (_:∀H',Q (.bl true) H')
theorem py(bi:Bi mg)(h_g:gS P w K mg base 1 "_law_cell_at" ["script","k"] (uV K))(h_J:gS P w K mg base 2 "_law_pool" ["script"] (PR K))(h_z:gS P w K mg base 2 "_law_terms" ["script","pool","many"] (spTs K))(h_w:gS P w K mg base 1 "_law_side" ["cell","terms"] PQ)(h_y:gS P w K mg base 2 "_law_book" ["cells","terms","most"] (spBk K))(h_t:gS P w K mg base 2 "_law_saying" ["script","terms","book"] (spSy K))(h_aa:gS P w K mg base 22 "_law_put" ["saying","names","some"] jy)(h_ag:gS P w K mg base 49 "judge" ["book","saying"] spJu)(F:gI K "law" "law" di f fd):dI P w K mg base fZ 65 f fd ["script"] (HR K):=by
 refine F.okz pR λfD A outer s H vs Q E hr h=>?_
 obtain⟨a,ns,rfl,hS,hl,q⟩:=h;refine⟨_,(zD (yE 1 pR.nd (zI h_J hr.m rfl (zA (pv 0) zC))) (zD (qZ (i:=2) pR.nd rfl (Or.inr rfl) (zI h_z hr.m rfl (zA (pv 0) (zA (pv 1) (zA zE zC))))) (zD (yE 3 pR.nd (zI h_y hr.m rfl (zA (jC HS (pv 0) (jQ zE) (jQ zE)) (zA (pv 2) (zA (zN yO (zN yT (zI h_g hr.m rfl (zA (pv 0) (zA zE zC))) zE) zE) zC))))) (zD (yE 4 pR.nd (zI h_t hr.m rfl (zA (pv 0) (zA (pv 2) (zA (pv 3) zC))))) (zD (qZ (i:=5) pR.nd rfl (Or.inr rfl) (zN yO (zN xR (zN yO (zI h_g hr.m rfl (zA (pv 0) (zA zE zC))) (zN XM zE zE)) zE) zE)) (zD (qZ (i:=6) pR.nd rfl (Or.inr rfl) (jC HS (pv 1) qS (jQ (zN XO zE (zN yO (zN yT (pv 5) zE) zE))))) (zD (qZ (i:=7) pR.nd rfl (Or.inr rfl) (yS ["k"] ["terms","draw"] [2,5] (xX rfl bi.range (zA zE zC)) (λ_ _ _ _ nd=>yG 0 nd) (λ_ _ _ _=>yW) (λ_ _ _ _=>(zI h_w hr.m rfl (zA (zN yT (pv 2) (zN XO zE (zN xR zE (pv 0)))) (zA (pv 1) zC)))))) (zD (yE 8 pR.nd (xH zC)) (zD (yI bM rfl (yF (pv 3)) (yG 9 pR.nd) (zG (zU (jD bT cL cK yU (pv 8) (zA (zQ (zA (yS ["one"] ["names","some"] [6,7] (yF (zL zM (pv 9) zE)) (λ_ _ _ _ nd=>yG 0 nd) (λ_ _ _ _=>yW) (λ_ _ _ _=>(zI h_aa hr.m rfl (zA (pv 0) (zA (pv 1) (zA (pv 2) zC)))))) (zA (zI h_aa hr.m rfl (zA (zL zM (pv 9) zE) (zA (pv 6) (zA (pv 7) zC)))) zC))) zC))))) (zD (yE 10 pR.nd (zL zM (zI h_ag hr.m rfl (zA (pv 3) (zA (pv 4) zC))) zE)) (zD (yE 11 pR.nd (zL zM (zI h_ag hr.m rfl (zA (pv 8) (zA (zI h_aa hr.m rfl (zA (pv 4) (zA (pv 6) (zA (pv 7) zC)))) zC))) zE)) (zD (yK (zP xK (pv 10) zT (zV _)) (zG (zO (UT xK (pv 11) zT (zV _)))) zZ) (zG (zO (EQ (UT xK (pv 10) zT (zV _)) (EN (UT (ph hr.units) (pv 11) (xH (zA zT (zA zT zC))) (by with_unfolding_all rfl)))))))))))))))))),?_⟩;refine zH λN hN=>?_
 dsimp![];refine⟨a,ns,rfl,hS,λpp H1 s1 hpool=>hN _ _ ?_⟩;clear hN;obtain⟨x,y,z,nx,ny,nz,kp⟩:=hpool;refine zH λN hN=>?_
 dsimp![];refine⟨a,pp,ns,[x,y,z],rfl,bA.seq s1 hS,hl,kp,rfl,by simp[nx,ny,nz],λpt us ts H2 s2 kt ht tg=>hN _ _ ?_⟩;clear hN;replace kp:=s2 _ _ kp;replace s2:=s1.trans s2;clear s1;refine zH λN hN=>?_
 dsimp![];obtain⟨cs,hcs,hcl⟩:=CK ns (some 5) (some 63);obtain⟨G0,hG0,hGt⟩:=tg.ex;refine⟨_,bA.seq s2 hS,λpc hpc=>?_⟩;rw[hcs];have e3:=zF hpc (.lst (cs.map V.int));refine⟨a,ns,2,rfl,bA.seq (s2.trans e3) hS,_,rfl,⟨(),()⟩,(),?_⟩;generalize hmost:ns.getD 2 0/3 % 4=most;obtain⟨mo,rfl⟩:∃k:Nat,most=(k:Int):=⟨most.toNat,()⟩
 have hmo:mo<=3:=by lia
 refine⟨pc,pt,cs,mo,us,ts,rfl,dL.of zB,(),(),e3 _ _ kt,bG.same e3 ht,tg.len,λpb bs b H3 s3 kb hb hbm hbr=>hN _ _ ?_⟩;clear hN hmost;replace s2:=s2.trans (e3.trans s3);replace kt:=s3 _ _ (e3 _ _ kt);replace kp:=s3 _ _ (e3 _ _ kp);replace ht:TAts H3 ts us:=bG.same (e3.trans s3) ht;clear e3 s3 hpc hcs hcl;refine zH λN hN=>?_
 dsimp![];refine⟨a,pt,pb,ns,us,bs,ts,b,rfl,bA.seq s2 hS,kt,ht,tg.len,kb,hb,(),hbr,λsv s H4 s4 hsv sa1 sa2=>hN _ _ ?_⟩;clear hN;replace s2:=s2.trans s4;replace kt:=s4 _ _ kt;replace kp:=s4 _ _ kp;replace ht:TAts H4 ts us:=bG.same s4 ht;replace kb:=s4 _ _ kb;replace hb:iD H4 b bs:=bG.same s4 hb;clear s4;refine zH λN hN=>?_
 dsimp![];refine⟨a,ns,0,rfl,bA.seq s2 hS,⟨⟨(),(),()⟩,_,rfl,SH,.inr ⟨(),()⟩,(),hN _ _ ?_⟩⟩;clear hN;generalize hdr:ns.getD 0 0 % 10^Int.toNat 12*48271 % 2147483647=draw;have hd0:0<=draw:=by lia
 clear hdr;refine zH λN hN=>?_
 dsimp![];refine⟨⟨(),()⟩,(),_,dL.of kp,λpn hpn=>hN _ _ ?_⟩;clear hN;obtain⟨nz',hnz,hnl⟩:∃cs:List Str,qM [V.str x,V.str y,V.str z] none (some (1+draw/64 % 3))=cs.map V.str/\cs.length<=3:=WL [x,y,z] none (some (1+draw/64 % 3));rw[hnz];have e5:=zF hpn (.lst (nz'.map V.str));have kn:upd H4 pn (.lst (nz'.map V.str)) pn=some (.lst (nz'.map V.str)):=zB;replace s2:=s2.trans e5;replace kt:=e5 _ _ kt;replace ht:TAts _ ts us:=bG.same e5 ht;replace kb:=e5 _ _ kb;replace hb:iD _ b bs:=bG.same e5 hb;replace hsv:=eA.same e5 hsv;generalize upd H4 pn (.lst (nz'.map V.str))=H5 at s2 kt ht kb hb hsv kn⊢;clear e5 hpn hnz kp;refine zH λN hN=>?_
 dsimp![];refine⟨(),(),?_⟩;have lU:ts≠[]:=λz=>by have :=tg.len;rw[z]at this;cases this
 refine BW (n:=3) (λi ys σ H'=>bA H5 H'/\(∃gs:List Tm,gs.length=i/\TAts H' gs ys/\∀g∈gs,Sd ts g)/\∃o,σ=[o,some (V.ref pt),some (V.int draw)]) ⟨bA.refl _,⟨[],rfl,rfl,λg z=>by cases z⟩,_,rfl⟩ (small ()) (λi ys σ H' e=>?_) (λi ys σ H' C' hi e hC=>?_) (λys σ H' e ps hps=>hN _ _ ?_)
 ·obtain⟨_,⟨gs,g1,g2,_⟩,_⟩:=e;rw[TAts.len g2,g1];exact aG _
 ·obtain⟨es,⟨gs,g1,g2,g3⟩,o,rfl⟩:=e;dsimp![];refine⟨.inl ⟨(),()⟩,⟨(),()⟩,_,pt,us,ts,rfl,es _ _ kt,bG.same es ht,lU,by rw[tg.len];decide,λv t H'' e' hv hsd=>hC _ _ _ ⟨es.trans e',⟨gs++[t],by rw[aI,g1];rfl,TAts.snoc g2 e' hv,λg hg=>?_⟩,_,rfl⟩⟩;rcases bS.mp hg with hg |hg
  ·exact g3 g hg
  ·rw[aT.mp hg];exact hsd
 clear hN;obtain⟨es,⟨gs,g1,g2,g3⟩,o,rfl⟩:=e;have e6:=es.trans (zF hps (.lst ys));have ks:upd H' ps (.lst ys) ps=some (.lst ys):=zB;replace g2:TAts _ gs ys:=bG.same (zF hps (.lst ys)) g2;replace s2:=s2.trans e6;replace kt:=e6 _ _ kt;replace kb:=e6 _ _ kb;replace hb:iD _ b bs:=bG.same e6 hb;replace hsv:=eA.same e6 hsv;replace kn:=e6 _ _ kn;clear ht;generalize upd H' ps (.lst ys)=H6 at s2 kt kb hb hsv kn ks g2⊢;clear e6 es hps;obtain⟨L,hFL,hLv⟩:∃L:Str->Option Tm,ua H6 nz' ys L/\∀u v,L u=some v->Lv [x,y,z] G0 5 14 v:=⟨λx=>(nz'.zip gs).lookup x,WG nz' gs ys g2 (),λu v e=>(g3 v (qf e)).lv tg.fit hGt⟩
 have okS:∀s:Tm×Tm,(∀t∈nO s,Sd ts t)->∀t∈nO s,fM 20 t/\wt t<=900:=λs h t ht=>(((h t ht).lv tg.fit hGt).ok () ()).1
 refine zH λN hN=>?_
 dsimp![];refine⟨small (),λpf hpf=>hN _ _ ?_⟩;clear hN;have ov0:=Ov.mk0 hpf;generalize upd H6 pf (.lst [])=G6 at ov0⊢;refine yA (λσ G=>∃(J:Hp)(us':List V)(o9:Option V),Ov G J pf us'/\bA H6 J/\iD J (b.map (CH L)) us'/\σ=[some (V.ref a),some (V.ref pp),some (V.ref pt),some (V.ref pb),some sv,some (V.int draw),some (V.ref pn),some (V.ref ps),some (V.ref pf),o9,none,none]) (λN hN=>?_) (λσ G h=>?_)
 ·dsimp![];refine⟨⟨_,dL.of (ov0.sub _ _ kb)⟩,?_⟩;refine xV (xs:=bs) (λi σ G=>∃(J:Hp)(us':List V)(o9:Option V),Ov G J pf us'/\bA H6 J/\iD J ((b.take i).map (CH L)) us'/\σ=[some (V.ref a),some (V.ref pp),some (V.ref pt),some (V.ref pb),some sv,some (V.int draw),some (V.ref pn),some (V.ref ps),some (V.ref pf),o9,none,none]) ⟨H6,[],_,ov0,bA.refl _,rfl,rfl⟩ (λi σ G _ h=>by obtain⟨J,us',o9,ov,sJ,_⟩:=h;exact dL.of (ov.sub _ _ (sJ _ _ kb))) (λi v σ G hx h M hM=>?_) (λσ G h=>?_)
  ·obtain⟨J,us',o9,ov,sJ,hc,rfl⟩:=h;obtain⟨r,mV,hr2⟩:=iD.getV hb hx;have hrr:=hbr r (aV mV);obtain⟨ra,rl,sv2,pvs,rfl,k1,k2,k3,k4⟩:=hr2.out;have sG:=sJ.trans ov.sub;have hpl:pvs.length=r.1.length:=mP.length k3;have h2:=hrr.1;dsimp![];refine⟨.inl ⟨rfl,_,dL.of ov.at⟩,_,dN.of (sG _ _ k1),_,lS,rl,rfl,⟨_,dL.of (sG _ _ k2)⟩,?_⟩;refine jS (xs:=pvs) (λj ys2 σ G'=>bA G G'/\mP G' ((r.1.map (ZF L)).take j) ys2/\∃o,σ=[o,some (V.ref pn),some (V.ref ps)]) ⟨bA.refl _,rfl,_,rfl⟩ (small ()) (λj ys2 σ G' e=>?_) (λj ys2 σ G' e=>dL.of ((sG.trans e.1) _ _ k2)) (λj u ys2 σ G' C' hu e hC=>?_) (λys2 σ G' e p2 lX=>?_)
   ·have :=mP.length e.2.1;rw[this,bU];lia
   ·obtain⟨e1,hys,o,rfl⟩:=e;obtain⟨pr,hp1,lX⟩:=mP.getV k3 hu;dsimp![];refine⟨u,pn,ps,pr,nz',ys,L,rfl,eA.same (sG.trans e1) lX,okS pr λt ht=>hrr.2 t (cP _ (fV.mpr ⟨pr,aV hp1,ht⟩)),(sG.trans e1) _ _ kn,(sG.trans e1) _ _ ks,(),hFL.tups (sG.trans e1).tups,λp3 G3 e3 h3=>hC _ _ _ ⟨e1.trans e3,mP.snoc (by rw[aK,hp1];rfl) (bG.same e3 hys) h3,_,rfl⟩⟩
   obtain⟨e1,hys,o,rfl⟩:=e;rw[aQ (by rw[aE];lia)]at hys;have npf:p2≠pf:=λz=>by rw[z,e1 _ _ ov.at]at lX;cases lX
   have e2:=e1.trans (zF lX (.lst ys2));have kl2:upd G' p2 (.lst ys2) p2=some (.lst ys2):=zB;replace hys:mP _ _ ys2:=bG.same (zF lX (.lst ys2)) hys;generalize upd G' p2 (.lst ys2)=G2 at e2 kl2 hys⊢;refine⟨_,dN.of ((sG.trans e2) _ _ k1),_,pH,sv2,pn,ps,r.2,nz',ys,L,rfl,eA.same (sG.trans e2) k4,okS r.2 λt ht=>hrr.2 t (aZ _ ht),(sG.trans e2) _ _ kn,(sG.trans e2) _ _ ks,(),hFL.tups (sG.trans e2).tups,λp3 G3 e3 h3=>⟨small (),λp4 hp4=>?_⟩⟩;have e4:=zF hp4 (.tup [.ref p2,.ref p3]);obtain⟨J',ov',sJ'⟩:=ov.ext (e2.trans (e3.trans e4));have hul:=iD.length hc;rw[aE,bU]at hul;refine⟨us',ov'.at,small (),hM _ _ ⟨J',_,_,ov'.set _,sJ.trans sJ',?_,rfl⟩⟩;have kl':J' p2=some (.lst ys2):=by
    have :=(e3.trans e4) _ _ kl2;rw[ov'.eq,zJ npf]at this;exact this
   have T:=ov'.tups;have hrat:bh J' (CH L r) (.ref p4):=bh.mk2 kl' (JY T (bG.same (e3.trans e4) hys)) (tY T (eA.same e4 h3)) (T _ _ zB);obtain⟨hil,hie⟩:=aC.mp mV;rw[aM hil,hie,aU];exact iD.one (bG.same sJ' hc) hrat
  ·obtain⟨J,us',o9,ov,sJ,hc,rfl⟩:=h;rw[iD.length hb,List.take_length]at hc;exact hN _ _ ⟨J,us',o9,ov,sJ,hc,rfl⟩
 obtain⟨J,us',o9,ov,sJ,hc,rfl⟩:=h;have sG:=sJ.trans ov.sub;refine zH λN hN=>?_
 dsimp![];refine⟨pb,sv,bs,[x,y,z],G0,b,s,rfl,sG _ _ kb,bG.same sG hb,eA.same sG hsv,ki () (λr hr=>og (hbr r hr) tg.fit hGt) (sa1.ok tg.fit hGt) (sa2.ok tg.fit hGt) (aG 3) (),λp1 fl1 vs1 H7 s7 k7 ver1=>⟨p1,rfl,_,dN.of k7,_,lS,hN _ _ ?_⟩⟩;clear hN;refine zH λN hN=>?_
 dsimp![];refine⟨sv,pn,ps,s,nz',ys,L,rfl,eA.same (sG.trans s7) hsv,?_,(sG.trans s7) _ _ kn,(sG.trans s7) _ _ ks,(),hFL.tups (sG.trans s7).tups,λp2 H8 s8 h8=>?_⟩
 ·intro t ht;rcases bK.mp ht with rfl |ht
  ·exact(sa1.ok tg.fit hGt).1
  ·rw[aT.mp ht];exact(sa2.ok tg.fit hGt).1
 refine⟨pf,.ref p2,us',[x,y,z],G0++G0.map (fil L),b.map (CH L),ZF L s,rfl,(s7.trans s8) _ _ ov.at,bG.same (ov.sub.trans (s7.trans s8)) hc,h8,ki (by rw[aE];lia) (λr hr=>?_) (sa1.fil tg.fit hGt hLv) (sa2.fil tg.fit hGt hLv) (aG 3) (by rw[aI,aE];lia),λp3 fl2 vs2 H9 s9 k9 ver2=>⟨p3,rfl,_,dN.of k9,_,lS,hN _ _ ?_⟩⟩
 ·obtain⟨q,hq,rfl⟩:=bP.mp hr;exact dj (hbr q hq) tg.fit hGt hLv
 clear hN;refine zH λN hN=>?_
 dsimp![];cases fl1 with
 |true=>
  have :=Ver.fill ver1 ver2;subst this;refine⟨rfl,?_⟩;rw[aL rfl];refine⟨rfl,?_⟩;rw[dX rfl];exact q _
 |false=>
  refine⟨rfl,?_⟩;rw[aH ()];refine hN _ _ ?_;clear hN;dsimp![dt];refine⟨rfl,small (),λpl hpl=>?_⟩;have kpl:upd H9 pl (.lst [V.str "follows",V.str "open"]) pl=some (.lst [V.str "follows",V.str "open"]):=zB;generalize upd H9 pl (.lst [V.str "follows",V.str "open"])=H10 at kpl⊢;refine⟨1,.str (if fl2=true then"follows" else"open"),rfl,[.str "follows",.str "open"],.inl ⟨pl,_,rfl,kpl,_,_,rfl,rfl,_,_,rfl,rfl,rfl⟩,(λe he=>by simp at he;rcases he with rfl |rfl<;>trivial),(),?_⟩;have hin:(false^^([Dt.str "follows",Dt.str "open"].any λe=>eR e (.str (if fl2=true then"follows" else"open"))))=true:=by
   cases fl2<;>simp[eR]
  rw[hin];exact q _
theorem ln0{us:List Value}(h:us.length=0):us=[]:=lZ.mp h
theorem lnS{us:List Value}(h:us.length=n+1):∃(u:Value)(r:List Value),us=u::r/\r.length=n:=by
 cases us with
 |nil=>cases h
 |cons u r=>exact⟨u,r,rfl,mI h⟩
theorem ln1{us:List Value}(h:us.length=1):∃a,us=[a]:=by
 obtain⟨a,r,rfl,g⟩:=lnS h;cases ln0 g;exact⟨a,rfl⟩
theorem ln2{us:List Value}(h:us.length=2):∃a b,us=[a,b]:=by
 obtain⟨a,r,rfl,g⟩:=lnS h;obtain⟨b,rfl⟩:=ln1 g;exact⟨a,b,rfl⟩
theorem ln3{us:List Value}(h:us.length=3):∃a b c,us=[a,b,c]:=by
 obtain⟨a,r,rfl,g⟩:=lnS h;obtain⟨b,c,rfl⟩:=ln2 g;exact⟨a,b,c,rfl⟩
theorem ln4{us:List Value}(h:us.length=4):∃a b c d,us=[a,b,c,d]:=by
 obtain⟨a,r,rfl,g⟩:=lnS h;obtain⟨b,c,d,rfl⟩:=ln3 g;exact⟨a,b,c,d,rfl⟩
theorem bz{x qual:Str}{st:Stmt}(F:gI K x qual st f fd)(ps:List Str)
 (h:∀(kV doc pm:Value)(an:Option Addr)(fD ct:Value)(us:List Value),us.length=ps.length->bindArgs (W.fnOf x qual (jG st) (xP st) (zK st) .none kV doc pm an fD ct) ⟨us,[]⟩=pure (ps.zip us):=by intro _ _ _ _ _ _ us hl;first |(obtain⟨_,rfl⟩:=ln1 hl;rfl) |(obtain⟨_,_,rfl⟩:=ln2 hl;rfl) |(obtain⟨_,_,_,rfl⟩:=ln3 hl;rfl) |(obtain⟨_,_,_,_,rfl⟩:=ln4 hl;rfl)):Binds K fd ps []:=F.binds h
structure lF(K:W.Frag)(x:Str)(st:Stmt)(f:Addr)(fd:FuncData):Prop where
 a:W.nsIn K mainGlobals x=some (some (.ref f))
 F:gI K x x st f fd
theorem fQq{x:Str}{st:Stmt}{oc:Value}{od an:Option Addr}{osl:Array (Option Value)}{kV doc pm fD ct:Value}(a:W.nsIn K mainGlobals x=some (some (.ref f)))(l:K.lookup f=some ⟨oc,od,.func (W.fnOf x x (jG st) (xP st) (zK st) .none kV doc pm an fD ct),osl⟩)
 (c:W.codeIn K fD x=true) (k:W.keepIn K (.ref f)=true):lF K x st f (W.fnOf x x (jG st) (xP st) (zK st) .none kV doc pm an fD ct):=⟨a,FZ l c k⟩
structure jh(K:W.Frag)(C:Addr)(m q:Str)(st:Stmt)(f:Addr)(fd:FuncData):Prop where
 a:W.findIn K (.ref C) m=some (some (.ref f))
 i:W.isFn K (.ref f)=true
 k:W.keepIn K (.ref f)=true
 F:gI K m q st f fd
theorem mQq{C:Addr}{m q:Str}{st:Stmt}{oc:Value}{od an:Option Addr}{osl:Array (Option Value)}{kV doc pm fD ct:Value}(a:W.findIn K (.ref C) m=some (some (.ref f)))(i:W.isFn K (.ref f)=true)(l:K.lookup f=some ⟨oc,od,.func (W.fnOf m q (jG st) (xP st) (zK st) .none kV doc pm an fD ct),osl⟩)
 (c:W.codeIn K fD q=true) (k:W.keepIn K (.ref f)=true):jh K C m q st f (W.fnOf m q (jG st) (xP st) (zK st) .none kV doc pm an fD ct):=⟨a,i,k,FZ l c k⟩
local macro_rules | `(tactic| ac_rfl) => `(tactic| (intro _ _ _ _ _ _ us hl; first | (obtain ⟨u0, e⟩ := ln1 hl; subst e; rfl) | (obtain ⟨u0, u1, e⟩ := ln2 hl; subst e; rfl) | (obtain ⟨u0, u1, u2, e⟩ := ln3 hl; subst e; rfl) | (obtain ⟨u0, u1, u2, u3, e⟩ := ln4 hl; subst e; rfl)))
theorem all_mk{l:W.OpenLaw}{h:Heap}{fa:Addr}(X:K.In h)(G:h.Ns mainGlobals mg)(hfa:mg "law"=some (.ref fa))
 {C_Growth:Addr} (aC_Growth:W.nsIn K mainGlobals "Growth"=some (some (.ref C_Growth)))
 {f_A:Addr} {d_Growth_init:FuncData} (gE:jh K C_Growth "__init__" "Growth.__init__" s_A f_A d_Growth_init)
 {f_a:Addr} {d_Growth_line_of:FuncData} (gX:jh K C_Growth "line_of" "Growth.line_of" s_a f_a d_Growth_line_of)
 {f_D:Addr} {d_Growth_has:FuncData} (lM:jh K C_Growth "has" "Growth.has" s_D f_D d_Growth_has)
 {f_d:Addr} {d_Growth_grow:FuncData} (iX:jh K C_Growth "grow" "Growth.grow" s_d f_d d_Growth_grow)
 (pg_Growth:W.plainGet K C_Growth Str.empty=true) (hd_Growth:W.hasDictIn K C_Growth=true) (po_Growth:W.plainOver K C_Growth=true) (sa_Growth:W.findIn K (.ref C_Growth) "__setattr__"=some (some (.builtin "object.__setattr__"))) (mk_Growth:W.makesIn K C_Growth=true) (kc_Growth:W.keepIn K (.ref C_Growth)=true) (n_Growth_lines:W.findIn K (.ref C_Growth) "lines"=some none) (n_Growth_places:W.findIn K (.ref C_Growth) "places"=some none) (n_Growth_above:W.findIn K (.ref C_Growth) "above"=some none) (n_Growth_below:W.findIn K (.ref C_Growth) "below"=some none)
 {C_Floor:Addr} (aC_Floor:W.nsIn K mainGlobals "Floor"=some (some (.ref C_Floor)))
 {f_E:Addr} {d_Floor_init:FuncData} (gZ:jh K C_Floor "__init__" "Floor.__init__" s_E f_E d_Floor_init)
 {f_e:Addr} {d_Floor_common_of:FuncData} (gJ:jh K C_Floor "common_of" "Floor.common_of" s_e f_e d_Floor_common_of)
 {f_i:Addr} {d_Floor_counter_of:FuncData} (fY:jh K C_Floor "counter_of" "Floor.counter_of" s_i f_i d_Floor_counter_of)
 {f_h:Addr} {d_Floor_value_of:FuncData} (gY:jh K C_Floor "value_of" "Floor.value_of" s_h f_h d_Floor_value_of)
 (pg_Floor:W.plainGet K C_Floor Str.empty=true) (hd_Floor:W.hasDictIn K C_Floor=true) (po_Floor:W.plainOver K C_Floor=true) (sa_Floor:W.findIn K (.ref C_Floor) "__setattr__"=some (some (.builtin "object.__setattr__"))) (mk_Floor:W.makesIn K C_Floor=true) (kc_Floor:W.keepIn K (.ref C_Floor)=true) (n_Floor_everywhere:W.findIn K (.ref C_Floor) "everywhere"=some none) (n_Floor_clashing:W.findIn K (.ref C_Floor) "clashing"=some none)
 {f_Z:Addr} {d_mask_of:FuncData} (i_Z:lF K "mask_of" s_Z f_Z d_mask_of)
 {f_F:Addr} {d_bits_of:FuncData} (i_F:lF K "bits_of" s_F f_F d_bits_of)
 {f_T:Addr} {d_parts_of:FuncData} (i_T:lF K "parts_of" s_T f_T d_parts_of)
 {f_l:Addr} {d_gather_names:FuncData} (i_l:lF K "gather_names" s_l f_l d_gather_names)
 {f_r:Addr} {d_names_of_all:FuncData} (i_r:lF K "names_of_all" s_r f_r d_names_of_all)
 {f_S:Addr} {d_names_of:FuncData} (i_S:lF K "names_of" s_S f_S d_names_of)
 {f_L:Addr} {d_terms_in:FuncData} (i_L:lF K "terms_in" s_L f_L d_terms_in)
 {f_W:Addr} {d_is_whole:FuncData} (i_W:lF K "is_whole" s_W f_W d_is_whole)
 {f_U:Addr} {d_is_below:FuncData} (i_U:lF K "is_below" s_U f_U d_is_below)
 {f_H:Addr} {d_places_of:FuncData} (i_H:lF K "places_of" s_H f_H d_places_of)
 {f_ah:Addr} {d_found:FuncData} (i_ah:lF K "found" nu f_ah d_found)
 {f_ac:Addr} {d_put_in:FuncData} (i_ac:lF K "put_in" n6 f_ac d_put_in)
 {f_N:Addr} {d_turned:FuncData} (i_N:lF K "turned" s_N f_N d_turned)
 {f_m:Addr} {d_number_by:FuncData} (i_m:lF K "number_by" s_m f_m d_number_by)
 {f_c:Addr} {d_joined_number:FuncData} (i_c:lF K "joined_number" s_c f_c d_joined_number)
 {f_O:Addr} {d_sheet_of:FuncData} (i_O:lF K "sheet_of" s_O f_O d_sheet_of)
 {f_X:Addr} {d_pair_of:FuncData} (i_X:lF K "pair_of" s_X f_X d_pair_of)
 {f_s:Addr} {d_numbered_rule:FuncData} (i_s:lF K "numbered_rule" s_s f_s d_numbered_rule)
 {f_R:Addr} {d_numbered:FuncData} (i_R:lF K "numbered" s_R f_R d_numbered)
 {f_ae:Addr} {d_begin:FuncData} (i_ae:lF K "begin" n0 f_ae d_begin)
 {f_k:Addr} {d_boths_by_part:FuncData} (i_k:lF K "boths_by_part" s_k f_k d_boths_by_part)
 {f_b:Addr} {d_rules_by_premise:FuncData} (i_b:lF K "rules_by_premise" s_b f_b d_rules_by_premise)
 {f_v:Addr} {d_grow_by_turn:FuncData} (i_v:lF K "grow_by_turn" s_v f_v d_grow_by_turn)
 {f_j:Addr} {d_grow_by_chain:FuncData} (i_j:lF K "grow_by_chain" s_j f_j d_grow_by_chain)
 {f_o:Addr} {d_grow_by_both:FuncData} (i_o:lF K "grow_by_both" s_o f_o d_grow_by_both)
 {f_p:Addr} {d_grow_by_clash:FuncData} (i_p:lF K "grow_by_clash" s_p f_p d_grow_by_clash)
 {f_n:Addr} {d_grow_by_rule:FuncData} (i_n:lF K "grow_by_rule" s_n f_n d_grow_by_rule)
 {f_G:Addr} {d_closing:FuncData} (i_G:lF K "closing" s_G f_G d_closing)
 {f_Q:Addr} {d_sets_for:FuncData} (i_Q:lF K "sets_for" s_Q f_Q d_sets_for)
 {f_af:Addr} {d_value:FuncData} (i_af:lF K "value" nw f_af d_value)
 {f_C:Addr} {d_lines_named:FuncData} (i_C:lF K "lines_named" s_C f_C d_lines_named)
 {f_ab:Addr} {d_renamed:FuncData} (i_ab:lF K "renamed" n8 f_ab d_renamed)
 {f_P:Addr} {d_line_for:FuncData} (i_P:lF K "line_for" s_P f_P d_line_for)
 {f_Y:Addr} {d_hung_on:FuncData} (i_Y:lF K "hung_on" s_Y f_Y d_hung_on)
 {f_ad:Addr} {d_paper:FuncData} (i_ad:lF K "paper" n5 f_ad d_paper)
 {f_V:Addr} {d_spots_by:FuncData} (i_V:lF K "spots_by" s_V f_V d_spots_by)
 {f_x:Addr} {d_clashes_by:FuncData} (i_x:lF K "clashes_by" s_x f_x d_clashes_by)
 {f_B:Addr} {d_spots_under:FuncData} (i_B:lF K "spots_under" s_B f_B d_spots_under)
 {f_M:Addr} {d_world_of:FuncData} (i_M:lF K "world_of" s_M f_M d_world_of)
 {f_u:Addr} {d_spot_against:FuncData} (i_u:lF K "spot_against" s_u f_u d_spot_against)
 {f_I:Addr} {d_judge_on:FuncData} (i_I:lF K "judge_on" s_I f_I d_judge_on)
 {f_ag:Addr} {d_judge:FuncData} (i_ag:lF K "judge" nv f_ag d_judge)
 {f_g:Addr} {d_law_cell_at:FuncData} (i_g:lF K "_law_cell_at" s_g f_g d_law_cell_at)
 {f_f:Addr} {d_law_name_by:FuncData} (i_f:lF K "_law_name_by" s_f f_f d_law_name_by)
 {f_J:Addr} {d_law_pool:FuncData} (i_J:lF K "_law_pool" s_J f_J d_law_pool)
 {f_w:Addr} {d_law_side:FuncData} (i_w:lF K "_law_side" s_w f_w d_law_side)
 {f_z:Addr} {d_law_terms:FuncData} (i_z:lF K "_law_terms" s_z f_z d_law_terms)
 {f_y:Addr} {d_law_book:FuncData} (i_y:lF K "_law_book" s_y f_y d_law_book)
 {f_t:Addr} {d_law_saying:FuncData} (i_t:lF K "_law_saying" s_t f_t d_law_saying)
 {f_q:Addr} {d_law_filled:FuncData} (i_q:lF K "_law_filled" s_q f_q d_law_filled)
 {f_aa:Addr} {d_law_put:FuncData} (i_aa:lF K "_law_put" n9 f_aa d_law_put)
 {f_K:Addr} {od_K an_K:Option Addr} {sl_K:Array (Option Value)} {oc_K kV_K dc_K pm_K cd_K ct_K:Value} (a_K:W.nsIn K mainGlobals "law"=some (some (.ref f_K))) (l_K:K.lookup f_K=some ⟨oc_K,od_K,.func (W.fnOf "law" "law" (jG di) (xP di) (zK di) .none kV_K dc_K pm_K an_K cd_K ct_K),sl_K⟩) (c_K:W.codeIn K cd_K "law"=true) (k_K:W.keepIn K (.ref f_K)=true)
  (z_enumerate:W.nsIn K mainGlobals "enumerate"=some none)
 {mW:Addr} {d_NONE_ROW:Option Addr} {n_NONE_ROW:Nat} {sl_NONE_ROW:Array (Option Value)} {t_N1:Tok} (g_NONE_ROW:W.nsIn K mainGlobals "NONE_ROW"=some (some (.ref mW))) (o_NONE_ROW:K.lookup mW=some ⟨.type "tuple",d_NONE_ROW,.seq #[.str "none" t_N1] n_NONE_ROW,sl_NONE_ROW⟩)
 {t_MOST_ROWS:Tok} (g_MOST_ROWS:W.nsIn K mainGlobals "MOST_ROWS"=some (some (.int 40 t_MOST_ROWS)))
 (z_all:W.nsIn K mainGlobals "all"=some none)
 (z_bool:W.nsIn K mainGlobals "bool"=some none)
 (z_dict:W.nsIn K mainGlobals "dict"=some none)
 (z_int:W.nsIn K mainGlobals "int"=some none)
 (z_isinstance:W.nsIn K mainGlobals "isinstance"=some none)
 (z_len:W.nsIn K mainGlobals "len"=some none)
 (z_list:W.nsIn K mainGlobals "list"=some none)
 (z_max:W.nsIn K mainGlobals "max"=some none)
 (z_range:W.nsIn K mainGlobals "range"=some none)
 (z_set:W.nsIn K mainGlobals "set"=some none)
 (z_sorted:W.nsIn K mainGlobals "sorted"=some none)
 (z_str:W.nsIn K mainGlobals "str"=some none)
 (z_sum:W.nsIn K mainGlobals "sum"=some none)
 (z_tuple:W.nsIn K mainGlobals "tuple"=some none):
 ∃fd:FuncData,(∀(s:Shared)(v:Value),BindsTo s fd ⟨[v],[]⟩ [("script",v)])/\∀base:Heap,K.In base->base.Ns mainGlobals mg->dI l.prog w K mg base fZ 65 fa fd ["script"] (HR K):=by
 have e:=hfa.symm.trans (aW X G a_K);cases e;have cU:LN K C_Growth:=⟨pg_Growth,hd_Growth,po_Growth,sa_Growth⟩
 have mC_Growth:=aW X G aC_Growth;have F_A:=gE.F;have b_A:=bz F_A ["self","many"];have t_A:pK K C_Growth "__init__" f_A:=⟨gE.a,gE.i,gE.k⟩
 have a_A:=gE.a;have i_A:=gE.i;have F_a:=gX.F;have b_a:=bz F_a ["self","i","j"];have t_a:pK K C_Growth "line_of" f_a:=⟨gX.a,gX.i,gX.k⟩
 have F_D:=lM.F;have b_D:=bz F_D ["self","i","j"];have t_D:pK K C_Growth "has" f_D:=⟨lM.a,lM.i,lM.k⟩
 have F_d:=iX.F;have b_d:=bz F_d ["self","i","j","why"];have t_d:pK K C_Growth "grow" f_d:=⟨iX.a,iX.i,iX.k⟩
 have gA:LN K C_Floor:=⟨pg_Floor,hd_Floor,po_Floor,sa_Floor⟩
 have mC_Floor:=aW X G aC_Floor;have F_E:=gZ.F;have b_E:=bz F_E ["self","many","clashes"];have t_E:pK K C_Floor "__init__" f_E:=⟨gZ.a,gZ.i,gZ.k⟩
 have a_E:=gZ.a;have i_E:=gZ.i;have F_e:=gJ.F;have b_e:=bz F_e ["self","sets"];have t_e:pK K C_Floor "common_of" f_e:=⟨gJ.a,gJ.i,gJ.k⟩
 have F_i:=fY.F;have b_i:=bz F_i ["self","spots"];have t_i:pK K C_Floor "counter_of" f_i:=⟨fY.a,fY.i,fY.k⟩
 have F_h:=gY.F;have b_h:=bz F_h ["self","sets","t"];have t_h:pK K C_Floor "value_of" f_h:=⟨gY.a,gY.i,gY.k⟩
 have F_Z:=i_Z.F;have b_Z:=bz F_Z ["numbers"];have m_Z:=aW X G i_Z.a;have F_F:=i_F.F;have b_F:=bz F_F ["mask"];have m_F:=aW X G i_F.a;have F_T:=i_T.F;have b_T:=bz F_T ["t"];have m_T:=aW X G i_T.a;have F_l:=i_l.F;have b_l:=bz F_l ["t","found"];have m_l:=aW X G i_l.a;have F_r:=i_r.F;have b_r:=bz F_r ["terms"];have m_r:=aW X G i_r.a;have F_S:=i_S.F;have b_S:=bz F_S ["t"];have m_S:=aW X G i_S.a;have F_L:=i_L.F;have b_L:=bz F_L ["book","saying"];have m_L:=aW X G i_L.a;have F_W:=i_W.F;have b_W:=bz F_W ["n"];have m_W:=aW X G i_W.a;have F_U:=i_U.F;have b_U:=bz F_U ["n","bound"];have m_U:=aW X G i_U.a;have F_H:=i_H.F;have b_H:=bz F_H ["sheet"];have m_H:=aW X G i_H.a;have F_ah:=i_ah.F;have b_ah:=bz F_ah ["places","row"];have m_ah:=aW X G i_ah.a;have F_ac:=i_ac.F;have b_ac:=bz F_ac ["places","row"];have m_ac:=aW X G i_ac.a;have F_N:=i_N.F;have b_N:=bz F_N ["n","turn"];have m_N:=aW X G i_N.a;have F_m:=i_m.F;have b_m:=bz F_m ["row_number","places","t"];have m_m:=aW X G i_m.a;have F_c:=i_c.F;have b_c:=bz F_c ["row_number","places","t"];have m_c:=aW X G i_c.a;have F_O:=i_O.F;have b_O:=bz F_O ["terms"];have m_O:=aW X G i_O.a;have F_X:=i_X.F;have b_X:=bz F_X ["places","saying"];have m_X:=aW X G i_X.a;have F_s:=i_s.F;have b_s:=bz F_s ["places","rule"];have m_s:=aW X G i_s.a;have F_R:=i_R.F;have b_R:=bz F_R ["sheet","book"];have m_R:=aW X G i_R.a;have F_ae:=i_ae.F;have b_ae:=bz F_ae ["growth","sheet"];have m_ae:=aW X G i_ae.a;have F_k:=i_k.F;have b_k:=bz F_k ["sheet"];have m_k:=aW X G i_k.a;have F_b:=i_b.F;have b_b:=bz F_b ["rules"];have m_b:=aW X G i_b.a;have F_v:=i_v.F;have b_v:=bz F_v ["growth","i","j"];have m_v:=aW X G i_v.a;have F_j:=i_j.F;have b_j:=bz F_j ["growth","i","j"];have m_j:=aW X G i_j.a;have F_o:=i_o.F;have b_o:=bz F_o ["growth","i","boths"];have m_o:=aW X G i_o.a;have F_p:=i_p.F;have b_p:=bz F_p ["growth","i","j"];have m_p:=aW X G i_p.a;have F_n:=i_n.F;have b_n:=bz F_n ["growth","rules","r"];have m_n:=aW X G i_n.a;have F_G:=i_G.F;have b_G:=bz F_G ["sheet","rules"];have m_G:=aW X G i_G.a;have F_Q:=i_Q.F;have b_Q:=bz F_Q ["world","names"];have m_Q:=aW X G i_Q.a;have F_af:=i_af.F;have b_af:=bz F_af ["world","t"];have m_af:=aW X G i_af.a;have F_C:=i_C.F;have b_C:=bz F_C ["why"];have m_C:=aW X G i_C.a;have F_ab:=i_ab.F;have b_ab:=bz F_ab ["why","places"];have m_ab:=aW X G i_ab.a;have F_P:=i_P.F;have b_P:=bz F_P ["lines","i","j"];have m_P:=aW X G i_P.a;have F_Y:=i_Y.F;have b_Y:=bz F_Y ["lines","k"];have m_Y:=aW X G i_Y.a;have F_ad:=i_ad.F;have b_ad:=bz F_ad ["lines","i","j"];have m_ad:=aW X G i_ad.a;have F_V:=i_V.F;have b_V:=bz F_V ["many","pairs"];have m_V:=aW X G i_V.a;have F_x:=i_x.F;have b_x:=bz F_x ["spots","pairs"];have m_x:=aW X G i_x.a;have F_B:=i_B.F;have b_B:=bz F_B ["spots","pairs","n"];have m_B:=aW X G i_B.a;have F_M:=i_M.F;have b_M:=bz F_M ["sheet","lines"];have m_M:=aW X G i_M.a;have F_u:=i_u.F;have b_u:=bz F_u ["world","saying"];have m_u:=aW X G i_u.a;have F_I:=i_I.F;have b_I:=bz F_I ["sheet","book","saying"];have m_I:=aW X G i_I.a;have F_ag:=i_ag.F;have b_ag:=bz F_ag ["book","saying"];have m_ag:=aW X G i_ag.a;have F_g:=i_g.F;have b_g:=bz F_g ["script","k"];have m_g:=aW X G i_g.a;have F_f:=i_f.F;have b_f:=bz F_f ["cell","size"];have m_f:=aW X G i_f.a;have F_J:=i_J.F;have b_J:=bz F_J ["script"];have m_J:=aW X G i_J.a;have F_w:=i_w.F;have b_w:=bz F_w ["cell","terms"];have m_w:=aW X G i_w.a;have F_z:=i_z.F;have b_z:=bz F_z ["script","pool","many"];have m_z:=aW X G i_z.a;have F_y:=i_y.F;have b_y:=bz F_y ["cells","terms","most"];have m_y:=aW X G i_y.a;have F_t:=i_t.F;have b_t:=bz F_t ["script","terms","book"];have m_t:=aW X G i_t.a;have F_q:=i_q.F;have b_q:=bz F_q ["t","names","terms"];have m_q:=aW X G i_q.a;have F_aa:=i_aa.F;have b_aa:=bz F_aa ["saying","names","some"];have m_aa:=aW X G i_aa.a;have F_K:=FZ (st:=di) l_K c_K k_K;have b_K:=F_K.binds (ps:=["script"]) (by ac_rfl);have m_K:=aW X G a_K;have bi:Bi mg:=⟨dB X G z_len,dB X G z_range,dB X G z_isinstance,dB X G z_max,dB X G z_sum,dB X G z_all,dB X G z_tuple,dB X G z_list,dB X G z_sorted,dB X G z_set,dB X G z_int,dB X G z_bool,dB X G z_str,dB X G z_dict⟩
 refine⟨W.fnOf "law" "law" (jG di) (xP di) (zK di) .none kV_K dc_K pm_K an_K cd_K ct_K,λs v=>.of_eq rfl,λbase _ _=>?_⟩;have be:mg "enumerate"=none:=dB X G z_enumerate;have T:OF K C_Growth:=⟨cU,n_Growth_lines,n_Growth_places,n_Growth_above,n_Growth_below⟩
 have h0:=zS F_W (BG (P:=l.prog) (w:=w) (base:=base) bi F_W) b_W m_W;have h1:=zS F_U (BH bi h0 F_U) b_U m_U;have h2:=zS F_F (FE (P:=l.prog) (w:=w) (base:=base) bi F_F) b_F m_F;have g0:am l.prog w K mg base 1 C_Growth "Growth" ["self","many"] (m3 C_Growth):=⟨_,_,SR T F_A,b_A,⟨mk_Growth,a_A,i_A,kc_Growth⟩,mC_Growth⟩
 have g1:lC l.prog w K mg base 1 C_Growth "line_of" ["self","i","j"] (EB C_Growth):=⟨_,_,FB T F_a,b_a,t_a⟩
 have g2:lC l.prog w K mg base 1 C_Growth "has" ["self","i","j"] (PU C_Growth):=⟨_,_,pz T F_D,b_D,t_D⟩
 have g3:lC l.prog w K mg base 2 C_Growth "grow" ["self","i","j","why"] (rP C_Growth):=⟨_,_,fu T bi g2 F_d,b_d,t_d⟩
 have c1:=zS F_ae (SZ T bi be g3 F_ae) b_ae m_ae;have c2:=zS F_k (SY (P:=l.prog) (w:=w) (base:=base) bi be F_k) b_k m_k;have c3:=zS F_b (wC (P:=l.prog) (w:=w) (base:=base) bi be F_b) b_b m_b;have c4:=zS F_v (fj T g1 g3 F_v) b_v m_v;have c5:=zS F_j (SX T bi h2 g1 g3 F_j) b_j m_j;have c6:=zS F_o (fz T g1 g2 g3 F_o) b_o m_o;have c7:=zS F_p (SW T bi g1 g3 F_p) b_p m_p;have c8:=zS F_n (fm T bi h1 g1 g2 g3 F_n) b_n m_n;have c9:=zS F_G (FD T bi g0 c2 c3 c1 c4 c5 c6 c7 c8 F_G) b_G m_G;have v1:=zS F_V (AY (P:=l.prog) (w:=w) (base:=base) bi F_V) b_V m_V;have v2:=zS F_B (XQ (P:=l.prog) (w:=w) (base:=base) bi be F_B) b_B m_B;have v3:=zS F_x (JN (P:=l.prog) (w:=w) (base:=base) bi be F_x) b_x m_x;have v4:=zS F_M (AV bi be v1 v2 v3 F_M) b_M m_M;have p1:=zS F_C (XR (P:=l.prog) (w:=w) (base:=base) bi F_C) b_C m_C;have p2:=zS F_ab (EX (P:=l.prog) (w:=w) (base:=base) bi F_ab) b_ab m_ab;have p3:=zS F_P (BE (P:=l.prog) (w:=w) (base:=base) bi be F_P) b_P m_P;have p4:=zS F_Y (FC bi p1 F_Y) b_Y m_Y;have p5:=zS F_ad (SO bi be p3 p4 p2 F_ad) b_ad m_ad;have TF:FlC K C_Floor:=⟨gA,n_Floor_everywhere,n_Floor_clashing⟩
 have f1:=zS F_Z (FA (P:=l.prog) (w:=w) (base:=base) bi F_Z) b_Z m_Z;have f3:am l.prog w K mg base 1 C_Floor "Floor" ["self","many","clashes"] (m5 C_Floor):=⟨_,_,SV TF F_E,b_E,⟨mk_Floor,a_E,i_E,kc_Floor⟩,mC_Floor⟩
 have f4:lC l.prog w K mg base 1 C_Floor "common_of" ["self","sets"] (cr K C_Floor):=⟨_,_,MU TF F_e,b_e,t_e⟩
 have f5:lC l.prog w K mg base 2 C_Floor "counter_of" ["self","spots"] (m6 C_Floor):=⟨_,_,JM TF bi h2 f4 F_i,b_i,t_i⟩
 have f6:lC l.prog w K mg base 23 C_Floor "value_of" ["self","sets","t"] (cn C_Floor 23):=⟨_,_,AW TF bi f4 f5 F_h b_h t_h 23,b_h,t_h⟩
 have f17:=zS F_T (BB (P:=l.prog) (w:=w) (base:=base) bi F_T) b_T m_T;have f18:=zS F_l (ZY bi f17 F_l b_l m_l 22) b_l m_l;have f19:=zS F_r (ZX bi f18 F_r) b_r m_r;have f20:=zS F_S (BD bi f19 F_S) b_S m_S;have f21:=zS F_Q (BA bi f1 F_Q) b_Q m_Q;have f22:=zS F_af (SL TF bi f21 f20 h2 f3 f6 F_af) b_af m_af;have gM:Gc mg "MOST_ROWS" (.int 40):=⟨_,aW X G g_MOST_ROWS,⟨_,rfl⟩⟩
 have gN:Gc mg "NONE_ROW" (.ref mW):=⟨_,aW X G g_NONE_ROW,rfl⟩
 have sN:∀H,Tw K H mW [.str "none"]:=λH=>.inr ⟨_,_,_,o_NONE_ROW,rfl,rfl,(by show 1<=sizeLine;decide),.cons ⟨_,rfl⟩ .nil⟩
 have s1:=zS F_ac (MQ (P:=l.prog) (w:=w) (base:=base) gM bi F_ac) b_ac m_ac;have s2:=zS F_ah (SU (P:=l.prog) (w:=w) (base:=base) bi F_ah) b_ah m_ah;have s3:=zS F_N (MO (P:=l.prog) (w:=w) (base:=base) bi F_N) b_N m_N;have s4:=wP (s1.at m_ac) s3 F_m b_m m_m F_c b_c m_c 21;have s5:=wP (s2.at m_ah) s3 F_m b_m m_m F_c b_c m_c 21;have s6:=zS F_O (AZ gN sN m_ac bi s4 F_O) b_O m_O;have s7:=zS F_H (MR (P:=l.prog) (w:=w) (base:=base) bi be F_H) b_H m_H;have s8:=zS F_X (EY m_ah s5 F_X) b_X m_X;have s9:=zS F_s (ZA s8 F_s) b_s m_s;have s10:=zS F_R (BC bi s7 s9 F_R) b_R m_R;have s11:=zS F_L (AX (P:=l.prog) (w:=w) (base:=base) bi F_L) b_L m_L;have j1:=zS F_u (ZW bi f22 F_u) b_u m_u;have j2:=zS F_I (BF bi c9 s10 s8 s7 p5 v4 j1 F_I) b_I m_I;have j3:=zS F_ag (SQ bi j2 s6 s11 F_ag) b_ag m_ag;have w1:=zS F_g (fw (P:=l.prog) (w:=w) (base:=base) bi F_g) b_g m_g;have w2:=zS F_f (ft (P:=l.prog) (w:=w) (base:=base) bi F_f) b_f m_f;have w3:=zS F_J (fq bi w1 w2 F_J) b_J m_J;have w4:=zS F_w (fk (P:=l.prog) (w:=w) (base:=base) bi F_w) b_w m_w;have w5:=zS F_z (SN bi w1 w4 F_z) b_z m_z;have w6:=zS F_y (f7 bi w4 F_y) b_y m_y;have w7:=zS F_t (MP bi w1 w4 F_t) b_t m_t;have w8:=zS F_q (JL (P:=l.prog) (w:=w) (base:=base) bi F_q b_q m_q 21) b_q m_q;have w9:=zS F_aa (pq w8 F_aa) b_aa m_aa;exact py bi w1 w3 w5 w4 w6 w7 w9 j3 F_K
theorem walk{l:W.OpenLaw}{q:Program}{loose:List Str}{XP:(Str->Option Value)->Heap->Prop}{YP:World->Heap->Prop}{d:DefRec}{K:Params->W.Frag}(hn:l.most=some 63)(hdf:d.params.defaults=[])
 (hY:∀(w:World)(h:Heap),YP w h->(K w.params).In h)
 (F:∀(w:World)(mg:Str->Option Value)(fa:Addr)(h:Heap),(K w.params).In h->h.Ns mainGlobals mg->mg d.name=some (.ref fa)->
  ∃fd:FuncData,(∀(s:Shared)(u:Value),BindsTo s fd ⟨[u],[]⟩ [("script",u)])/\∀base:Heap,(K w.params).In base->base.Ns mainGlobals mg->dI l.prog w (K w.params) mg base fZ 65 fa fd ["script"] (HR (K w.params))):
 W.WalkO q loose XP YP l.row.toRowW d [] (λf vs=>PySem.call f vs):=
 L2.walk_of (n:=63) (k:=65) (x:="script") (CX:=λ_=>fZ) (sp:=λw=>HR (K w.params)) hn () hdf ⟨rfl,(),()⟩ hY F (λ_ _ a ns hl _ hS=>⟨a,ns,rfl,hS,hl,λ_=>rfl⟩) λ_ _ _ _ _ z=>z
end C
open PySem PySem.W PyProof.Rows
set_option maxRecDepth 100000 in
set_option maxHeartbeats 0 in
theorem PySem.Challenge.cw_clashbook_k62_whole_terms_put_for_names_holds : PySem.Challenge.rw_clashbook_k62_whole_terms_put_for_names.Holds := by
 w_on;o_law;k_head;(case hw=>w_witness2)
 k_fill
 refine C.walk (l:=PySem.Challenge.rw_clashbook_k62_whole_terms_put_for_names) rfl rfl (fun w h Y=>PySem.W.kIn_of Y) ?F
 case F=>
  intro w mg fa h KX G hmg;refine' C.all_mk KX G hmg ?_ (C.mQq ?_ ?_ ?_ ?_ ?_) (C.mQq ?_ ?_ ?_ ?_ ?_) (C.mQq ?_ ?_ ?_ ?_ ?_) (C.mQq ?_ ?_ ?_ ?_ ?_) ?_ ?_ ?_ ?_ ?_ ?_ ?_ ?_ ?_ ?_ ?_ (C.mQq ?_ ?_ ?_ ?_ ?_) (C.mQq ?_ ?_ ?_ ?_ ?_) (C.mQq ?_ ?_ ?_ ?_ ?_) (C.mQq ?_ ?_ ?_ ?_ ?_) ?_ ?_ ?_ ?_ ?_ ?_ ?_ ?_ (C.fQq ?_ ?_ ?_ ?_) (C.fQq ?_ ?_ ?_ ?_) (C.fQq ?_ ?_ ?_ ?_) (C.fQq ?_ ?_ ?_ ?_) (C.fQq ?_ ?_ ?_ ?_) (C.fQq ?_ ?_ ?_ ?_) (C.fQq ?_ ?_ ?_ ?_) (C.fQq ?_ ?_ ?_ ?_) (C.fQq ?_ ?_ ?_ ?_) (C.fQq ?_ ?_ ?_ ?_) (C.fQq ?_ ?_ ?_ ?_) (C.fQq ?_ ?_ ?_ ?_) (C.fQq ?_ ?_ ?_ ?_) (C.fQq ?_ ?_ ?_ ?_) (C.fQq ?_ ?_ ?_ ?_) (C.fQq ?_ ?_ ?_ ?_) (C.fQq ?_ ?_ ?_ ?_) (C.fQq ?_ ?_ ?_ ?_) (C.fQq ?_ ?_ ?_ ?_) (C.fQq ?_ ?_ ?_ ?_) (C.fQq ?_ ?_ ?_ ?_) (C.fQq ?_ ?_ ?_ ?_) (C.fQq ?_ ?_ ?_ ?_) (C.fQq ?_ ?_ ?_ ?_) (C.fQq ?_ ?_ ?_ ?_) (C.fQq ?_ ?_ ?_ ?_) (C.fQq ?_ ?_ ?_ ?_) (C.fQq ?_ ?_ ?_ ?_) (C.fQq ?_ ?_ ?_ ?_) (C.fQq ?_ ?_ ?_ ?_) (C.fQq ?_ ?_ ?_ ?_) (C.fQq ?_ ?_ ?_ ?_) (C.fQq ?_ ?_ ?_ ?_) (C.fQq ?_ ?_ ?_ ?_) (C.fQq ?_ ?_ ?_ ?_) (C.fQq ?_ ?_ ?_ ?_) (C.fQq ?_ ?_ ?_ ?_) (C.fQq ?_ ?_ ?_ ?_) (C.fQq ?_ ?_ ?_ ?_) (C.fQq ?_ ?_ ?_ ?_) (C.fQq ?_ ?_ ?_ ?_) (C.fQq ?_ ?_ ?_ ?_) (C.fQq ?_ ?_ ?_ ?_) (C.fQq ?_ ?_ ?_ ?_) (C.fQq ?_ ?_ ?_ ?_) (C.fQq ?_ ?_ ?_ ?_) (C.fQq ?_ ?_ ?_ ?_) (C.fQq ?_ ?_ ?_ ?_) (C.fQq ?_ ?_ ?_ ?_) (C.fQq ?_ ?_ ?_ ?_) (C.fQq ?_ ?_ ?_ ?_) ?_ ?_ ?_ ?_ ?_ ?_ ?_ ?_ ?_ ?_ ?_ ?_ ?_ ?_ ?_ ?_ ?_ ?_ ?_ ?_ ?_ ?_
  all_goals try k_is
